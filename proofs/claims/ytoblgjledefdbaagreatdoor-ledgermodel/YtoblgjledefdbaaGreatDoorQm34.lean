/- Own work. -/
import Derived.Lib.AppendZeros
import Derived.Test.YtoblgjledefdbaaGreatDoorQm33
set_option maxRecDepth 100000
set_option maxHeartbeats 4000000
namespace Go.Proofs.YtoblgjledefdbaaGreatDoor
open Go.RowKit
attribute [local go_sem ↓] Go.wp_at_zero Go.wp_at_succ
open Go.Proofs.Tryz
def gtD(D:St.DV)(S:St.SV)(L:LB)(i:Nat):BA×Int :=
 if (St.YS D S i).2≠0 then (⟨#[]⟩,(St.YS D S i).2) else if sm (St.tx (St.YS D S i).1)=(smL L).getD i ByteArray.empty then (St.tx (St.YS D S i).1,0) else (⟨#[]⟩,190)
theorem Qj3{D:St.DV}{S:St.SV}{i:Nat} : (St.YS D S i).1.length<=1048576:=by
 unfold St.YS
 split
 ·exact Ll _
 ·split
  ·exact Ll _
  ·split
   ·cases h:St.Rc.rpay (St.OK D S i).1 with
    | none=>exact Ll _
    | some x=>exact(St.Rc.rpay_len h).1
   ·exact Ll _
theorem Qn9{D:St.DV}{S:St.SV}{i:Nat}(h:(St.YS D S i).2=0):i<S.ends.length:=by
 unfold St.YS at h
 by_cases e:S.ends.length<=i
 ·rw[Lk e] at h;cases h
 ·omega
section
variable {w W w1:World} {a p:Nat} {U:Nat->Prop} {D D':St.DV} {S S':St.SV} {L L':LB} {g:Int}
theorem Lkd.cell{b i:Nat}{v:Value}(h:Lkd a w W)(hc:w.cell? ⟨b,i,none⟩=some v)(hb:b≠a):W.cell? ⟨b,i,none⟩=some v :=
 (LD (a:=⟨b,i,none⟩) (h.oth b (Ln _ _ hc) hb)).trans hc
theorem Tb.lkd(ht:Tb w)(h:Lg w 0 a p U D S L)(hL:Lkd a w W):Tb W:=by
 refine ht.upo (U:=U) ⟨hL.os,hL.tape,hL.output,hL.size,fun b hb hn=>hL.oth b hb (fun e=>hn (e ▸ h.own))⟩ ?_
 obtain⟨_,_,_,_,_,_,_,_,hn⟩:=h;exact hn
theorem QiM(w:World)(h:Lg w 1 a p U D S L)(bl:Nat)(cl:w.cell? ⟨bl,0,none⟩=some (.pointer (some ⟨a,0,none⟩)))(n:Nat)(hn:S.ends.length=n) :
  Calls prog 73 #[.pointer (some ⟨bl,0,none⟩)] w fun e w'=>e = .returned (.tuple #[.int .u64 (n:Int),.int .i64 0])∧Below w.heap.size w w':=by
 obtain⟨q,T,c2,hs⟩:=h.sk;subst hn;have HS:Hid (Calls prog 74 #[.pointer (some ⟨q,0,none⟩)] w fun e w'=>e = .returned (.int .u64 (S.ends.length:Int))∧w=w'):=(St.Yo w hs).mono fun e w' z=>⟨z.1,z.2.symm⟩
 clear h hs
 go_enter func73,ntmps73
 go_wp2_with (go_at_call 74;(with_reducible refine HS.out.mono ?_);rintro e w1 ⟨rfl,rfl⟩)
 go_ret2
 exact⟨rfl,Lb _ _⟩
theorem Qih(w:World)(h:Lg w 0 a p U D S L)(n:Nat)(hn:S.ends.length=n) :
  Calls prog 33 #[.pointer (some ⟨a,0,none⟩)] w fun e w'=>e = .returned (.tuple #[.int .u64 (n:Int),.int .i64 0])∧Below w.heap.size w w':=by
 obtain⟨w1,xB⟩:=Ze (w.alloc (.cells #[.pointer (some ⟨a,0,none⟩)] 27));have u1:Below w.heap.size w w1:=by rw[<-xB];exact bal (Lb _ _) _
 have k0:w1.heap[w.heap.size]? = some (.cells #[.pointer (some ⟨a,0,none⟩)] 27 (0,0)):=by rw[<-xB];exact LH w _
 have b0:w1.cell? ⟨w.heap.size,0,none⟩=some (.pointer (some ⟨a,0,none⟩)):=by rw[cell_of_row _ _ 0 _ _ (0,0) k0];rfl
 have h1:=h.next u1;obtain⟨q,m,r,vs,xA,_⟩:=h1.row;have xC:w.heap.size≠a:=fun e=>by have:=h.lt h.own;omega
 have HW:Hid (Calls prog 72 #[.pointer (some ⟨a,0,none⟩),.func (.func 73) #[] #[.pointer (some ⟨w.heap.size,0,none⟩)]] w1 fun e w'=>e = .returned (.tuple #[.int .u64 (n:Int),.int .i64 0])∧Below w.heap.size w w') :=
  (QgE w1 a _ _ _ rfl xA _ _ fun W hW=>QiM W (h1.lkd hW) w.heap.size (hW.cell b0 xC) n hn).mono fun e w' z=>⟨z.1,Qa u1 z.2⟩
 clear h h1 xA u1 k0 xC hn;have xD:=Qd xB;clear xB
 go_enter func33,ntmps33
 go_upto_region 1 with (fail)
 rw[xD.out]
 go_wp2_with (go_at_call 72;(with_reducible refine HW.out.mono ?_);rintro e w2 ⟨rfl,t2⟩)
 go_ret2
 exact⟨rfl,t2⟩
theorem QjV(w:World)(ht:Tb w)(h:Lg w 1 a p U D S L)(he:S.ends.length=L.length)(bl bi:Nat)(cl:w.cell? ⟨bl,0,none⟩=some (.pointer (some ⟨a,0,none⟩)))(i:Nat)(hi:i<18446744073709551616)(ci:w.cell? ⟨bi,0,none⟩=some (.int .u64 (i:Int)))(t:BA)(e0:Int)(hg:gtD D S L i=(t,e0)) :
  Calls prog 83 #[.pointer (some ⟨bl,0,none⟩),.pointer (some ⟨bi,0,none⟩)] w fun e w'=>e = .returned (.tuple #[.string t,.int .i64 e0])∧Below w.heap.size w w':=by
 obtain⟨q,T,c2,hs⟩:=h.sk;obtain⟨_,_,_,vs,xB,_,xA⟩:=h.row;obtain⟨_,_,_,_,c5,_⟩:=Yc xB;obtain⟨x,hx⟩:=Ze (St.tx (St.YS D S i).1);obtain⟨y,hy⟩:=Ze ((St.YS D S i).2);have xK:x.size<=1048576:=by rw[<-hx,St.Yp];exact Qj3
 have xG:=Qn9 (D:=D) (S:=S) (i:=i);unfold gtD at hg;rw[hx,hy] at hg;rw[hy] at xG;obtain⟨s,xI⟩:=Ze (sm x);rw[xI] at hg;have HI:Hid (∀W,Below w.heap.size w W->Calls prog 84 #[.pointer (some ⟨q,0,none⟩),.int .u64 (i:Int)] W fun e w'=>e = .returned (.tuple #[.string x,.int .i64 y])∧Below w.heap.size w w'):=fun W hW=>(St.Qex W (hs.next hW) i hi x y hx hy).mono fun e w' z=>⟨z.1,Qa hW z.2⟩
 have xC:Hid (∀W,Below w.heap.size w W->Calls prog 85 #[.string x] W fun e w'=>e = .returned (.string s)∧Below w.heap.size w w'):=fun W hW=>(QcX W (ht.next hW) x xK s xI).mono fun e w' z=>⟨z.1,Qa hW z.2⟩
 have xF:=Ln _ _ c2;have hl:=Ln _ _ cl;have hb:=Ln _ _ ci;have HC:Hid (∀W,Below w.heap.size w W->W.cell? ⟨bl,0,none⟩=some (.pointer (some ⟨a,0,none⟩))∧W.cell? ⟨a,2,none⟩=some (.pointer (some ⟨q,0,none⟩))∧W.cell? ⟨bi,0,none⟩=some (.int .u64 (i:Int))):=fun W hW=>⟨(hW.cell (p:=⟨bl,0,none⟩) hl).trans cl,(hW.cell (p:=⟨a,2,none⟩) xF).trans c2,(hW.cell (p:=⟨bi,0,none⟩) hb).trans ci⟩
 obtain⟨ao,bs,xE,rfl,xH,_,_⟩:=QR xA (fun z hz=>by
  obtain⟨y,_,rfl⟩:=List.mem_map.1 hz;rw[Qhq];decide)
 have xM:(smL L).length=L.length:=by simp[smL]
 have HV:Hid (∀W,Below w.heap.size w W->W.cell? ⟨bl,0,none⟩=some (.pointer (some ⟨a,0,none⟩))∧W.cell? ⟨a,5,none⟩=some (.slice ao (smL L).length xE)∧W.cell? ⟨bi,0,none⟩=some (.int .u64 (i:Int))∧(y=0->ao=some ⟨bs,0,none⟩∧i<(smL L).length∧W.cell? ⟨bs,i,none⟩=some (.string ((smL L).getD i ByteArray.empty)))):=fun W hW =>
  ⟨(HC.out W hW).1,(hW.cell (p:=⟨a,5,none⟩) xF).trans c5,(HC.out W hW).2.2,fun h0=>by
   have xJ:i<(smL L).length:=by have:=xG h0;omega
   have:=(xH.next hW (La _)).at xJ;rw[Lm] at this;exact⟨xH.ptr (by omega),xJ,this⟩⟩
 obtain⟨c6,c7,c8⟩:=HC.out w (Lb _ _);have u:Below w.heap.size w w.drew:=(Lb _ _).drew;clear h hs xB xA c5 c2 hx hy xK ht cl ci xF hl hb xH xG he xI
 go_enter func83,ntmps83
 go_upto_region 1 with (fail)
 go_region_held3 (fun Z=>Z.cell? ⟨bl,0,none⟩=some (.pointer (some ⟨a,0,none⟩))∧Z.cell? ⟨a,2,none⟩=some (.pointer (some ⟨q,0,none⟩))∧Z.cell? ⟨bi,0,none⟩=some (.int .u64 (i:Int))) (first|assumption|(with_reducible exact HC.out _ u)) (first
  | (go_at_call 84;(with_reducible refine(HI.out _ u).mono ?_);rintro e w1 ⟨rfl,u⟩))
 all_goals
  by_cases h0:y=0
  ·subst h0;obtain⟨v1,v2,v3,v4⟩:=HV.out _ u;obtain⟨rfl,v5,v6⟩:=v4 rfl;obtain⟨z,hz⟩:=Ze ((smL L).getD i ByteArray.empty);rw[hz] at v6 hg HV;have hg:=Qd hg;have xD:Hid (∀W,Below w.heap.size w W->W.cell? ⟨bl,0,none⟩=some (.pointer (some ⟨a,0,none⟩))∧W.cell? ⟨a,5,none⟩=some (.slice (some ⟨bs,0,none⟩) (smL L).length xE)∧W.cell? ⟨bi,0,none⟩=some (.int .u64 (i:Int))∧W.cell? ⟨bs,i,none⟩=some (.string z)):=fun W hW=>by
    obtain⟨a1,a2,a3,a4⟩:=HV.out W hW;exact⟨a1,a2,a3,(a4 rfl).2.2⟩
   have xL:(i:Int)<((smL L).length:Int):=by omega
   obtain⟨n,hn⟩:=Ze ((smL L).length);rw[hn] at v2 xD xL;clear HV hz HI HC c6 c7 c8 v4 hn xM;replace u:Below w.heap.size w w1.drew:=u.drew
   go_upto_region 4 with (fail)
   go_region_held3 (fun Z=>Z.cell? ⟨bl,0,none⟩=some (.pointer (some ⟨a,0,none⟩))∧Z.cell? ⟨a,5,none⟩=some (.slice (some ⟨bs,0,none⟩) n xE)∧Z.cell? ⟨bi,0,none⟩=some (.int .u64 (i:Int))∧Z.cell? ⟨bs,i,none⟩=some (.string z)) (first|assumption|(with_reducible exact xD.out _ u)) (first
    | (go_at_call 85;(with_reducible refine(xC.out _ u).mono ?_);rintro e w2 ⟨rfl,u⟩))
   all_goals
    have hg:=hg.out;rw[Le (fun q=>q rfl)] at hg
    by_cases h1:s=z
    ·subst h1;rw[Lk rfl] at hg;injection hg with e1 e2
     subst e1 e2;rw[show(!(s.toList == s.toList))=false by simp]
     clear xD xC v1 v2 v3 v6;go_wp2
     go_ret2
     exact⟨rfl,u⟩
    ·rw[Le h1] at hg;injection hg with e1 e2
     subst e1 e2;rw[show(!(s.toList == z.toList))=true by rw[Qec h1];rfl]
     clear xD xC v1 v2 v3 v6 h1;go_wp2
     go_ret2
     exact⟨rfl,u⟩
  ·rw[Lk h0] at hg;injection hg with e1 e2
   subst e1 e2;have xN:(y == 0)=false:=by simpa using h0
   clear HV HC xC HI;go_wp2
   go_ret2
   exact⟨rfl,u⟩
theorem QbD(w:World)(ht:Tb w)(h:Lg w 0 a p U D S L)(he:S.ends.length=L.length)(i:Nat)(hi:i<18446744073709551616)(t:BA)(e0:Int)(hg:gtD D S L i=(t,e0)) :
  Calls prog 39 #[.pointer (some ⟨a,0,none⟩),.int .u64 (i:Int)] w fun e w'=>e = .returned (.tuple #[.string t,.int .i64 e0])∧Below w.heap.size w w':=by
 obtain⟨w1,xB⟩:=Ze ((w.alloc (.cells #[.pointer (some ⟨a,0,none⟩)] 27)).alloc (.cells #[.int .u64 (i:Int)] 48));have u1:Below w.heap.size w w1:=by rw[<-xB];exact bal (bal (Lb _ _) _) _
 have k0:w1.heap[w.heap.size]? = some (.cells #[.pointer (some ⟨a,0,none⟩)] 27 (0,0)):=by rw[<-xB];exact St.new0 _ _ _
 have k1:w1.heap[w.heap.size+1]? = some (.cells #[.int .u64 (i:Int)] 48 (0,0)):=by rw[<-xB];exact St.new2 _ _ _
 have b0:w1.cell? ⟨w.heap.size,0,none⟩=some (.pointer (some ⟨a,0,none⟩)):=by rw[cell_of_row _ _ 0 _ _ (0,0) k0];rfl
 have b1:w1.cell? ⟨w.heap.size+1,0,none⟩=some (.int .u64 (i:Int)):=by rw[cell_of_row _ _ 0 _ _ (0,0) k1];rfl
 have h1:=h.next u1;obtain⟨q,m,r,vs,xA,_⟩:=h1.row;have xD:=h.lt h.own;have HW:Hid (Calls prog 75 #[.pointer (some ⟨a,0,none⟩),.func (.func 83) #[] #[.pointer (some ⟨w.heap.size,0,none⟩),.pointer (some ⟨w.heap.size+1,0,none⟩)]] w1 fun e w'=>e = .returned (.tuple #[.string t,.int .i64 e0])∧Below w.heap.size w w') :=
  (Qcb w1 a _ _ _ (.inl rfl) xA _ _ fun W hW=>QjV W ((ht.next u1).lkd h1 hW) (h1.lkd hW) he w.heap.size (w.heap.size+1) (hW.cell b0 (by omega)) i hi (hW.cell b1 (by omega)) t e0 hg).mono fun e w' z=>⟨z.1,Qa u1 z.2⟩
 clear ht h h1 xA u1 k0 k1 hg b1 xD;have xC:=Qd xB;clear xB
 go_enter func39,ntmps39
 go_upto_region 1 with (fail)
 rw[xC.out]
 go_wp2_with (go_at_call 75;(with_reducible refine HW.out.mono ?_);rintro e w2 ⟨rfl,t2⟩)
 go_ret2
 exact⟨rfl,t2⟩
end
def tkL(D:St.DV)(S:St.SV):Nat->LB×Int
 | 0=>([],0)
 | i+1=>if (tkL D S i).2≠0 then tkL D S i else if (St.YS D S i).2≠0 then ((tkL D S i).1,(St.YS D S i).2) else
  if stE D S (St.nn i) (mdL S.k (tkL D S i).1 (St.tx (St.YS D S i).1))≠0 then ((tkL D S i).1,stE D S (St.nn i) (mdL S.k (tkL D S i).1 (St.tx (St.YS D S i).1))) else ((tkL D S i).1++[St.tx (St.YS D S i).1],0)
theorem Qd3{D:St.DV}{S:St.SV} : ∀i,(tkL D S i).2=0->(tkL D S i).1.length=i
 | 0,_=>rfl
 | i+1,h=>by
  unfold tkL at h ⊢
  by_cases h0:(tkL D S i).2=0
  ·rw[Le (fun q=>q h0)] at h ⊢
   have ih:=Qd3 i h0
   by_cases h1:(St.YS D S i).2=0
   ·rw[Le (fun q=>q h1)] at h ⊢
    by_cases h2:stE D S (St.nn i) (mdL S.k (tkL D S i).1 (St.tx (St.YS D S i).1))=0
    ·rw[Le (fun q=>q h2),Lc,ih];rfl
    ·rw[Lk h2] at h;exact absurd h h2
   ·rw[Lk h1] at h;exact absurd h h1
  ·rw[Lk h0] at h;exact absurd h h0
theorem Qfk{D:St.DV}{S:St.SV}{i:Nat}(h:(tkL D S i).2≠0) : ∀j,tkL D S (i+j)=tkL D S i
 | 0=>rfl
 | j+1=>by
  have ih:=Qfk h j;rw[<-Ni,tkL,ih,Lk h]
theorem Qor{w:World}{B:Nat}{va:OA}{vn vc:Nat}{l:LB}(h:Qi w B (.slice va vn vc) l):l.length=vn:=by
 obtain⟨_,h2⟩:=h
 rcases h2 with ⟨h2,h3⟩|⟨g,cap,cur,h2,_⟩
 ·injection h2 with _ h2
  rw[h2];exact h3
 ·injection h2 with _ h2
  exact h2.symm
theorem wr3{vn pl i:Nat}(h1:vn<=41)(h2:pl<=200000)(h3:i<65536):IntKind.u64.wrap (vn:Int)=(vn:Int)∧IntKind.u64.wrap ((pl:Int)+(vn:Int))=((pl+vn:Nat):Int)∧IntKind.u64.wrap ((i:Int)+1)=((i+1:Nat):Int) :=
 ⟨by rw[IntKind.wrap_u64];omega,by rw[IntKind.wrap_u64];omega,by rw[IntKind.wrap_u64];omega⟩
section
variable {w W:World} {a q p m:Nat} {T:Nat->Prop} {D:St.DV} {S:St.SV} {B:Nat}
def LdA(w W:World)(a q p m:Nat)(T:Nat->Prop)(D:St.DV)(S:St.SV)(B:Nat)(L:LB):Prop :=
 ∃r vr vs,Led W 0 a q p m r vr vs T D S L∧(∀b,Lef a m r vr vs b->B<=b)∧Below B w W
theorem JE(w:World)(ht:Tb w)(h:LdA w w a q p m T D S B [])(hB:B<=w.heap.size)(htB:3<B)(hf:S.ends.length<=65536) :
  Calls prog 45 #[.pointer (some ⟨a,0,none⟩)] w fun e w'=>e = .returned (.int .i64 (tkL D S S.ends.length).2)∧LdA w w' a q p m T D S B (tkL D S S.ends.length).1:=by
 obtain⟨n,hn⟩:=Ze S.ends.length;rw[hn] at hf ⊢;have yL:S.k<=32:=by obtain⟨_,_,_,h1,_⟩:=h;exact h1.k1.2
 have xW:Hid (∀W L,LdA w W a q p m T D S B L->Tb W):=fun W L hW=>by
  obtain⟨_,_,_,_,_,hb⟩:=hW;exact⟨fun j u hu=>by
   rw[<-ht.rs j u hu];have:=hb.block _ htB;simp only[World.cell?,this]⟩
 have xV:Hid (Calls prog 74 #[.pointer (some ⟨q,0,none⟩)] w fun e w'=>e = .returned (.int .u64 (n:Int))∧w=w'):=by
  obtain⟨_,_,_,h1,_⟩:=h;rw[<-hn];exact(St.Yo w h1.sk).mono fun e w' z=>⟨z.1,z.2.symm⟩
 have yK:w.cell? ⟨a,2,none⟩=some (.pointer (some ⟨q,0,none⟩)):=by
  obtain⟨_,_,_,h1,_⟩:=h;exact h1.cells.2.1
 have H0:=Qd h;have HN:=Qd hn;clear h ht hn
 go_enter func45,ntmps45
 go_wp2_with (go_at_call 74;(with_reducible refine xV.out.mono ?_);rintro e w1 ⟨rfl,rfl⟩)
 go_loopg [3,14] n (fun g v3 v14 wr => ∃(i pl:Nat),i<=n∧g=n - i∧v14 = .int .u64 (i:Int)∧v3 = .int .u64 (pl:Int)∧Hid (St.nn i=pl)∧Hid ((tkL D S i).2=0)∧Hid (LdA w wr a q p m T D S B (tkL D S i).1))
 case atStart=>go_light;exact⟨0,0,Ll _,rfl,rfl,rfl,rfl,rfl,H0⟩
 case round =>
  clear xV yK;obtain⟨i,pl,hi,rfl,rfl,rfl,xD,HE,HL⟩:=hrel
  by_cases hlt:i<n
  ·have yM:(i:Int)<(n:Int):=by omega
   obtain⟨L,hL⟩:=Ze ((tkL D S i).1);have xC:L.length=i:=by rw[<-hL];exact Qd3 i HE.out
   rw[hL] at HL;obtain⟨r,vr,vs,hl,xB,hb⟩:=HL.out;have ht:=xW.out wr L HL.out;obtain⟨x,hx⟩:=Ze (St.tx (St.YS D S i).1);obtain⟨y,hy⟩:=Ze ((St.YS D S i).2);have xI:x.size<=1048576:=by rw[<-hx,St.Yp];exact Qj3
   obtain⟨e1,xG⟩:=Ze (stE D S pl (mdL S.k L x));have xA:tkL D S (i+1)=if y≠0 then (L,y) else if e1≠0 then (L,e1) else (L++[x],0):=by
    rw[tkL,Le (fun q=>q HE.out),hL,hx,hy,xD.out,xG]
   have xQ:=hl.cells.2.1;have xN:=Ln _ _ xQ;have HC:Hid (∀W,Below wr.heap.size wr W->W.cell? ⟨a,2,none⟩=some (.pointer (some ⟨q,0,none⟩))):=fun W hW=>(hW.cell (p:=⟨a,2,none⟩) xN).trans xQ
   have HI:Hid (Calls prog 84 #[.pointer (some ⟨q,0,none⟩),.int .u64 (i:Int)] wr fun e w'=>e = .returned (.tuple #[.string x,.int .i64 y])∧Below wr.heap.size wr w'):=St.Qex wr hl.sk i (by omega) x y hx hy
   have HZ:Hid (∀W e2,Below wr.heap.size wr W->e2≠0->tkL D S (i+1)=(L,e2)->(tkL D S n).2=e2∧LdA w W a q p m T D S B (tkL D S n).1):=fun W e2 hW h2 h3=>by
    have h4:=Qfk (D:=D) (S:=S) (i:=i+1) (by rw[h3];exact h2) (n - (i+1))
    rw[show i+1+(n - (i+1))=n by omega,h3] at h4
    rw[h4];exact⟨rfl,r,vr,vs,hl.next hW,xB,hb.trans (hW.mono (Lu hB hb.size))⟩
   by_cases h0:y=0
   ·subst h0;rw[Le (fun q=>q rfl)] at xA
    obtain⟨s,hs⟩:=Ze (sm x);have xS:Hid (∀W,Below wr.heap.size wr W->Calls prog 95 #[.pointer (some ⟨a,0,none⟩),.string x] W (NxQ W S.k L x)):=fun W hW=>by
     have h1:=hl.next hW;exact Js W (ht.next hW) a m r vr S.k L h1.fr h1.rg h1.clk h1.cells.2.2.1 h1.cells.2.2.2.1 x xI (by omega)
    have xU:Hid (∀W va vn vc,Below wr.heap.size wr W->Qi W wr.heap.size (.slice va vn vc) (mdL S.k L x)->Calls prog 96 #[.pointer (some ⟨a,0,none⟩),.int .u64 (pl:Int),.slice va vn vc] W fun e w'=>e = .returned (.int .i64 e1)∧Below W.heap.size W w'):=fun W va vn vc hW ho=>by
     obtain⟨ao,b,yO,hv,hr,_,_⟩:=QR ho (fun y hy=>by rw[QfY yL L x y hy];omega)
     injection hv with e1 e2 e3
     subst e1 e2 e3;exact QiV W (hl.next hW) pl va b _ vc (mdL S.k L x) hr (by rw[OP];have:=Qd5 40 L.length;omega) (by have:=St.Od i;rw[<-xD.out];omega) e1 xG
    have xX:Hid (∀W va vn vc r' vr',Below wr.heap.size wr W->Kp.Rg W r' vr' (S.k:Int) (L.length+1) (pkL S.k (L++[x]))->wr.heap.size<=r'->(∀g,vr'.ownBlock=some g->wr.heap.size<=g)->Calls prog 97 #[.pointer (some ⟨a,0,none⟩),.agg #[.string x,.string s,.slice va vn vc,.pointer (some ⟨r',0,none⟩)]] W fun e w'=>e = .returned (.tuple #[])∧LdA w w' a q p m T D S B (L++[x])):=fun W va vn vc r' vr' hW hr hr1 hr2=>by
     have h1:=hl.next hW;rw[<-hs];refine(QcC W (ht.next hW) h1 (by omega) xI ⟨hr,fun e=>by have:=hl.sk.lt e;omega,fun b hb=>⟨fun e=>by have:=hl.sk.lt e;have:=hr2 b hb;omega,fun e=>by have:=UE hl.own e;have:=hr2 b hb;omega⟩⟩ va vn vc).mono fun e w' z=>⟨z.1,?_⟩
     obtain⟨yN,z1,z2,z3⟩:=z.2;have yR:=hb.size;have yS:=hW.size;refine⟨r',vr',yN,z1,fun b hb => ?_,(hb.trans (hW.mono (Lu hB hb.size))).trans (z2.below (by omega) xB)⟩
     rcases hb with e|e|e|e|e|e
     ·exact xB b (.inl e)
     ·exact xB b (.inr (.inl e))
     ·exact xB b (.inr (.inr (.inl e)))
     ·omega
     ·have:=hr2 b e;omega
     ·rcases z3 b e with e|e
      ·exact xB b (.inr (.inr (.inr (.inr (.inr e)))))
      ·omega
    have xP:=QnF i (by omega)
    rw[xD.out] at xP;have xT:Hid (St.nn (i+1)=pl+(mdL S.k L x).length):=by rw[OP,xC];exact xP
    have yD:pl<=200000:=by have:=St.Od i;rw[xD.out] at this;omega
    have yB:(mdL S.k L x).length<=41:=by rw[OP];have:=Qd5 40 L.length;omega
    have yG:=Qd hs;have yC:=Qd hlt;have xF:=Qd xA;have xJ:=Qd (L6 yD yB);clear yD yB xA hl xB hb ht hx hy xI xG hL HL xC hs xP xN
    go_upto_region 9 with (first
     | (go_at_call 84;(with_reducible refine HI.out.mono ?_);rintro e w1 ⟨rfl,u1⟩)
     | (go_at_call 95;(with_reducible refine(xS.out _ u1).mono ?_);rintro e w2 ⟨vm,r',vr',rfl,om,yE,lr,lv,u2⟩;obtain⟨va,vn,vc,rfl⟩:=YC om;rw[yG.out]))
    obtain⟨b0,xO⟩:=Ze w2.heap.size;obtain⟨w3,xH⟩:=Ze (w2.alloc (.cells #[.string x,.string s,.slice va vn vc,.pointer (some ⟨r',0,none⟩)] 175));have k3:w3.heap[b0]? = some (.cells #[.string x,.string s,.slice va vn vc,.pointer (some ⟨r',0,none⟩)] 175 (0,0)):=by rw[<-xH,<-xO];exact LH w2 _
    have u3:Below w2.heap.size w2 w3:=by rw[<-xH];exact bal (Lb _ _) _
    have z3:=(Array.getElem?_eq_some_iff.1 k3).1
    have v3:Below wr.heap.size wr w3:=Qa (Qa u1 u2) u3;have o3:Qi w3 wr.heap.size (.slice va vn vc) (mdL S.k L x):=QN (Qv om u3 (La _)) u1.size;have yF:(mdL S.k L x).length=vn:=Qor o3;rw[yF] at xJ xT;have g3:Kp.Rg w3 r' vr' (S.k:Int) (L.length+1) (pkL S.k (L++[x])):=yE.next u3 (La _);have xK:Hid (∀W,Below w3.heap.size w3 W->Calls prog 96 #[.pointer (some ⟨a,0,none⟩),.int .u64 (pl:Int),.slice va vn vc] W fun e w'=>e = .returned (.int .i64 e1)∧Below w3.heap.size w3 w'):=fun W hW=>(xU.out W va vn vc (Qa v3 hW) (QN (Qv o3 hW (La _)) (La _))).mono fun e w' z=>⟨z.1,Qa hW z.2⟩
    have xL:Hid (∀W,Below w3.heap.size w3 W->Calls prog 97 #[.pointer (some ⟨a,0,none⟩),.agg #[.string x,.string s,.slice va vn vc,.pointer (some ⟨r',0,none⟩)]] W fun e w'=>e = .returned (.tuple #[])∧LdA w w' a q p m T D S B (L++[x])):=fun W hW=>xX.out W va vn vc r' vr' (Qa v3 hW) (g3.next hW (La _)) (by have:=u1.size;omega) (fun g hg=>by have:=lv g hg;have:=u1.size;omega)
    have xE:Hid (∀W,Below w3.heap.size w3 W->W.cell? ⟨b0,0,none⟩=some (.string x)∧W.cell? ⟨b0,1,none⟩=some (.string s)∧W.cell? ⟨b0,2,none⟩=some (.slice va vn vc)∧W.cell? ⟨b0,3,none⟩=some (.pointer (some ⟨r',0,none⟩))):=fun W hW=>by
     have k:=(hW.block _ z3).trans k3;exact⟨by rw[cell_of_row W b0 0 _ _ (0,0) k];rfl,by rw[cell_of_row W b0 1 _ _ (0,0) k];rfl,by rw[cell_of_row W b0 2 _ _ (0,0) k];rfl,by rw[cell_of_row W b0 3 _ _ (0,0) k];rfl⟩
    obtain⟨y0,y1,y2,y3⟩:=xE.out w3 (Lb _ _);have yI:=Qd v3;rw[xH,xO];have u0:=Lb w3.heap.size w3;clear k3 u3 z3 v3 o3 yF g3 om yE lr lv u1 u2 xO xH xX xU xS HI HC xQ;have yJ:=Qd (wr3 xJ.out.2 xJ.out.1 (show i<65536 by omega))
    by_cases h1:e1=0
    ·subst h1;obtain⟨xY,xZ,yA⟩:=yJ.out;have xR:Hid (tkL D S (i+1)=(L++[x],0)):=by rw[xF.out,Le (fun q=>q rfl)];rfl
     clear HZ xF
     go_upto_region 12 with (go_at_call 96;(with_reducible refine(xK.out _ u0).mono ?_);rintro e w4 ⟨rfl,u4⟩)
     obtain⟨y0,y1,y2,y3⟩:=xE.out w4 u4;have yH:=Qd (xL.out w4 u4);clear xL xE xK
     go_wp2_with (go_at_call 97;(with_reducible refine yH.out.mono ?_);rintro e w5 ⟨rfl,t5⟩)
     go_roundg (n - (i+1))
     case rel=>go_light;clear xY xZ yA;exact⟨i+1,pl+vn,by have:=yC.out;omega,rfl,rfl,rfl,xT.out,by rw[xR.out];rfl,by rw[xR.out];exact t5⟩
     case measure=>go_light;clear xY xZ yA;have:=yC.out;omega
    ·have xM:Hid (∀W,Below w3.heap.size w3 W->(tkL D S n).2=e1∧LdA w W a q p m T D S B (tkL D S n).1):=fun W hW=>HZ.out W e1 (Qa yI.out hW) h1 (by rw[xF.out,Lk h1])
     have yQ:(e1 != (0:Int))=true:=by simpa using h1
     clear HZ xF xL xE
     go_wp2_with (go_at_call 96;(with_reducible refine(xK.out _ u0).mono ?_);rintro e w4 ⟨rfl,u4⟩)
     go_ret
     obtain⟨q1,q2⟩:=xM.out _ u4;exact⟨by rw[q1];rfl,q2⟩
   ·rw[Lk h0] at xA;have yP:(y != (0:Int))=true:=by simpa using h0
    have xM:Hid (∀W,Below wr.heap.size wr W->(tkL D S n).2=y∧LdA w W a q p m T D S B (tkL D S n).1):=fun W hW=>HZ.out W y hW h0 xA
    clear HZ hl xB hb ht hx hy xI xG hL HL xC xA xW xD HE xN
    go_wp2_with (go_at_call 84;(with_reducible refine HI.out.mono ?_);rintro e w1 ⟨rfl,u1⟩)
    go_ret
    obtain⟨z1,z2⟩:=xM.out _ u1;exact⟨by rw[z1];rfl,z2⟩
  ·have yM : ¬(i:Int)<(n:Int):=by omega
   obtain rfl:i=n:=by omega
   go_wp2
   go_ret
   exact⟨by rw[HE.out];rfl,HL.out⟩
end
def loD(D:St.DV)(k:Int):St.DV×Option (St.SV×LB)×Int :=
 match (St.YX D k).2.1 with
 | none=>((St.YX D k).1,none,(St.YX D k).2.2)
 | some S=>if (tkL (St.YX D k).1 S S.ends.length).2=0 then ((St.YX D k).1,some (S,(tkL (St.YX D k).1 S S.ends.length).1),0) else ((St.YX D k).1,none,(tkL (St.YX D k).1 S S.ends.length).2)
def LoQ(w:World)(p:Nat)(S0:Nat->Prop)(x:St.DV×Option (St.SV×LB)×Int)(e:Ending)(w':World):Prop :=
 match x.2.1 with
 | none=>e = .returned (.tuple #[.pointer none,.int .i64 x.2.2])∧St.Mvd w w' p S0 x.1
 | some y => ∃a U,e = .returned (.tuple #[.pointer (some ⟨a,0,none⟩),.int .i64 x.2.2])∧Lg w' 0 a p U x.1 y.1 y.2∧(∀b,U b->S0 b∨w.heap.size<=b)∧w.heap.size<=a∧St.Upo S0 w w'∧y.1.ends.length=y.2.length
theorem Qkr(D:St.DV)(k:Int):((St.YX D k).2.1=none∧(St.YX D k).2.2≠0)∨(∃S,(St.YX D k).2.1=some S∧(St.YX D k).2.2=0∧S.k=k.toNat∧1<=k∧k<=32):=by
 unfold St.YX
 by_cases h1:1<=k∧k<=32
 ·rw[Le (fun q=>q h1)]
  by_cases h2:D.down=true
  ·rw[Lk h2];exact .inl ⟨rfl,fun q=>by cases q⟩
  ·rw[Le h2]
   cases St.Oe k.toNat (St.now D St.nmI) (St.now D St.nmN) (St.now D St.nmM) with
   | none=>exact .inl ⟨rfl,fun(q:(190:Int)=0)=>by cases q⟩
   | some st =>
    simp only
    split
    ·exact .inr ⟨_,rfl,rfl,rfl,h1⟩
    ·exact .inl ⟨rfl,by assumption⟩
 ·rw[Lk h1];exact .inl ⟨rfl,fun q=>by cases q⟩
section
variable {w W:World} {a q p m:Nat} {S0 T:Nat->Prop} {D:St.DV} {S:St.SV} {B:Nat} {L:LB}
theorem LdA.lg(h:LdA w W a q p m T D S B L)(hT : ¬T 3)(htB:3<B) : ∃U,Lg W 0 a p U D S L∧(∀x,U x->T x∨B<=x)∧B<=a:=by
 obtain⟨r,vr,vs,h1,h2,h3⟩:=h;refine⟨fun x=>T x∨Lef a m r vr vs x,⟨q,m,r,vr,vs,T,h1,fun _=>Iff.rfl,fun e=>e.elim hT (fun e => ?_)⟩,fun x hx=>hx.imp id (h2 x),h2 a (.inl rfl)⟩
 have:=h2 _ e;omega
theorem Qb0{w1:World}(h:St.Sk W q p T D S)(hT : ∀y,T y->S0 y∨w.heap.size<=y)(hu:St.Upo S0 w w1)(hb:Below w1.heap.size w1 W):St.Mvd w W p S0 D:=by
 obtain⟨S1,v,d1,d2,d3,d4,d5⟩:=h;exact⟨S1,d1,fun x hx=>hT x ((d5 x).2 (.inl hx)),hu.next hb⟩
theorem QmF(k:Nat):pkL k []=[]:=Qdw _ 41 0 (by decide)
theorem Qas(w:World)(ht:Tb w)(h:St.Dsk w p S0 D)(hrm:St.Rm 7 D)(hn : ¬S0 3)(k:Int) :
  Calls prog 11 #[.pointer (some ⟨p,0,none⟩),.int .i64 k] w (LoQ w p S0 (loD D k)):=by
 have HO:=Qd (St.Qh7 w h hrm k _ rfl)
 rcases Qkr D k with ⟨o1,o2⟩|⟨S,o1,o2,o3,k1,k2⟩
 ·have hz:loD D k=((St.YX D k).1,none,(St.YX D k).2.2):=by unfold loD;rw[o1]
  have xA:Hid (Calls prog 42 #[.pointer (some ⟨p,0,none⟩),.int .i64 k] w fun e w'=>e = .returned (.tuple #[.pointer none,.int .i64 (St.YX D k).2.2])∧St.Mvd w w' p S0 (St.YX D k).1):=HO.out.mono fun e w' z=>by
   unfold St.OpQ at z;rw[o1] at z;exact z
  rw[hz];obtain⟨y,hy⟩:=Ze ((St.YX D k).2.2);obtain⟨D',hD⟩ : ∃y,(St.YX D k).1=y:=⟨_,rfl⟩;rw[hy,hD] at xA ⊢;rw[hy] at o2;have xR:(y != (0:Int))=true:=by simpa using o2
  clear HO o1 h ht hrm hn hz hy hD
  go_enter func11,ntmps11
  go_wp2_with (go_at_call 42;(with_reducible refine xA.out.mono ?_);rintro e w1 ⟨rfl,t1⟩)
  go_ret2
  exact⟨rfl,t1⟩
 ·obtain⟨D',hD⟩ : ∃y,(St.YX D k).1=y:=⟨_,rfl⟩;obtain⟨y,hy⟩:=Ze ((tkL D' S S.ends.length).2);obtain⟨L',xC⟩ : ∃y,(tkL D' S S.ends.length).1=y:=⟨_,rfl⟩;have xI:loD D k=if y=0 then (D',some (S,L'),0) else (D',none,y):=by
   unfold loD;rw[o1];simp only;rw[hD,hy,xC]
  have xD:(S.k:Int)=k:=by rw[o3];omega
  have xA:Hid (Calls prog 42 #[.pointer (some ⟨p,0,none⟩),.int .i64 k] w fun e w' => ∃q T,e = .returned (.tuple #[.pointer (some ⟨q,0,none⟩),.int .i64 0])∧St.Sk w' q p T D' S∧(∀y,T y->S0 y∨w.heap.size<=y)∧St.Upo S0 w w'):=HO.out.mono fun e w' z=>by
   unfold St.OpQ at z;rw[o1,o2,hD] at z;obtain⟨q,T,z1,z2,z3,z4,z5⟩:=z;exact⟨q,T,z1,z2,z3,z5⟩
  have HF:Hid (∀W:World,Tb W->Calls prog 43 #[.int .i64 k] W fun e w' => ∃m,e = .returned (.tuple #[.pointer (some ⟨m+1,0,none⟩),.int .i64 0])∧Frs w' m k []∧W.heap.size<=m∧Below W.heap.size W w'):=fun W _=>(Ql5 W k k1 k2).mono fun e w' z=>⟨_,z.1,z.2.1,La _,z.2.2⟩
  have HP:Hid (∀W:World,Calls prog 44 #[.int .i64 k] W fun e w' => ∃r vr,e = .returned (.tuple #[.pointer (some ⟨r,0,none⟩),.int .i64 0])∧Kp.Rg w' r vr k 0 []∧W.heap.size<=r∧(∀g,vr.ownBlock=some g->W.heap.size<=g)∧Below W.heap.size W w'):=fun W=>(Kp.Qj7 W k 0 (by unfold Kp.fe;rw[Le (by omega),Le (by omega),Le];refine fun q=>q.elim (fun q=>q rfl) (fun q=>q fun s hs=>by cases hs))).mono fun e w' z=>by
   obtain⟨r,vr,z1,z2,z3,z4,z5⟩:=z.ok;exact⟨r,vr,z1,z2,z3,z4,z5⟩
  have HT:Hid (∀(w1 w2 w3:World) q T m r vr,St.Sk w1 q p T D' S->(∀y,T y->S0 y∨w.heap.size<=y)->St.Upo S0 w w1->Frs w2 m k []->w1.heap.size<=m->Below w1.heap.size w1 w2->Kp.Rg w3 r vr k 0 []->w2.heap.size<=r->(∀g,vr.ownBlock=some g->w2.heap.size<=g)->Below w2.heap.size w2 w3 ->
    Calls prog 45 #[.pointer (some ⟨w3.heap.size,0,none⟩)] (w3.alloc (.cells #[.int .i32 0,.int .u32 0,.pointer (some ⟨q,0,none⟩),.pointer (some ⟨m+1,0,none⟩),.pointer (some ⟨r,0,none⟩),.slice none 0 0] 116)) fun e w'=>e = .returned (.int .i64 y)∧LoQ w p S0 (loD D k) (.returned (if y=0 then .tuple #[.pointer (some ⟨w3.heap.size,0,none⟩),.int .i64 0] else .tuple #[.pointer none,.int .i64 y])) w'):=fun w1 w2 w3 q T m r vr h1 h2 h3 h4 h5 h6 h7 h8 h9 h10=>by
   obtain⟨w4,xE⟩:=Ze (w3.alloc (.cells #[.int .i32 0,.int .u32 0,.pointer (some ⟨q,0,none⟩),.pointer (some ⟨m+1,0,none⟩),.pointer (some ⟨r,0,none⟩),.slice none 0 0] 116));have u4:Below w3.heap.size w3 w4:=by rw[<-xE];exact bal (Lb _ _) _
   have k4:w4.heap[w3.heap.size]? = some (rwL 0 (.int .u32 0) (some ⟨q,0,none⟩) (.pointer (some ⟨m+1,0,none⟩)) (.pointer (some ⟨r,0,none⟩)) (.slice none 0 0)):=by rw[<-xE];exact LH w3 _
   rw[xE];have u13:Below w1.heap.size w1 w3:=Qa h6 h10;have u14:Below w1.heap.size w1 w4:=Qa u13 u4;have s1:=h3.size;have s2:=h6.size;have s3:=h10.size;have xP:=h7.lt;have xQ:=ht.lt;have t1:Tb w1:=ht.upo h3 hn;have xK : ¬T 3:=fun e=>(h2 _ e).elim hn (fun e=>by omega)
   have xO:=h4.lt;have xM:Led w4 0 w3.heap.size q p m r vr (.slice none 0 0) T D' S []:=by
    refine⟨k4,h1.next u14,?_,?_,⟨rfl,.inl ⟨rfl,rfl⟩⟩,(by intro s hs;cases hs),fun x hx hl => ?_,fun x _ e=>by cases e⟩
    ·rw[xD];exact h4.next (Qa h10 u4) (La _)
    ·rw[xD,QmF];exact h7.next u4 (La _)
    ·have:=h1.lt hx
     rcases hl with e|e|e|e|e|e
     ·omega
     ·omega
     ·omega
     ·omega
     ·have:=h9 x e;omega
     ·cases e
   have xJ:LdA w4 w4 w3.heap.size q p m T D' S w1.heap.size []:=⟨r,vr,.slice none 0 0,xM,(fun b hb=>by
    rcases hb with e|e|e|e|e|e
    ·omega
    ·omega
    ·omega
    ·omega
    ·have:=h9 b e;omega
    ·cases e),Lb _ _⟩
   have xL:S.ends.length<=65536:=h1.small.2.2.1;refine(JE w4 (t1.next u14) xJ u14.size (by omega) xL).mono fun e w' z => ?_
   rw[hy,xC] at z;refine⟨z.1,?_⟩
   have xH:Below w1.heap.size w1 w':=by
    obtain⟨_,_,_,_,_,hb⟩:=z.2;exact u14.trans hb
   rw[xI]
   by_cases h0:y=0
   ·rw[Lk h0,Lk h0];obtain⟨U,y1,y2,y3⟩:=z.2.lg xK (by omega)
    exact⟨_,U,rfl,y1,fun b hb=>(y2 b hb).elim (h2 b) (fun e => .inr (by omega)),by omega,h3.next xH,by rw[<-xC];exact(Qd3 _ (by rw[hy];exact h0)).symm⟩
   ·rw[Le h0,Le h0];obtain⟨_,_,_,y1,_⟩:=z.2;exact⟨rfl,Qb0 y1.sk h2 h3 xH⟩
  have xF:Hid (∀W,St.Upo S0 w W->Tb W):=fun W hW=>ht.upo hW hn
  clear HO h ht hrm hn hD hy xC xI xD o1 o2 o3 k1 k2
  go_enter func11,ntmps11
  go_upto_region 7 with (first
   | (go_at_call 42;(with_reducible refine xA.out.mono ?_);rintro e w1 ⟨q,T,rfl,h1,h2,h3⟩)
   | (go_at_call 43;(with_reducible refine(HF.out _ (xF.out _ h3)).mono ?_);rintro e w2 ⟨m,rfl,h4,h5,h6⟩)
   | (go_at_call 44;(with_reducible refine(HP.out _).mono ?_);rintro e w3 ⟨r,vr,rfl,h7,h8,h9,h10⟩))
  have xB:=Qd (HT.out w1 w2 w3 q T m r vr h1 h2 h3 h4 h5 h6 h7 h8 h9 h10);obtain⟨b0,xG⟩:=Ze w3.heap.size;rw[xG] at xB ⊢;clear HT xF HP HF xA h1 h2 h3 h4 h5 h6 h7 h8 h9 h10 xG
  by_cases h0:y=0
  ·subst h0;rw[Lk rfl] at xB
   go_wp2_with (go_at_call 45;(with_reducible refine xB.out.mono ?_);rintro e w5 ⟨rfl,t5⟩)
   go_ret2
   exact t5
  ·rw[Le h0] at xB;have xN:(y != (0:Int))=true:=by simpa using h0
   go_wp2_with (go_at_call 45;(with_reducible refine xB.out.mono ?_);rintro e w5 ⟨rfl,t5⟩)
   go_ret2
   exact t5
end
section
open Cv (RdC zl)
theorem Qo0{b:Nat×Nat}{n:Nat}(h:(b.2+1)*2^b.1<=n)(hn:n<=2^40):Fitb (b.1:Int) b.2∧b.1<=40∧b.2<2^40:=by
 have hp:=LJ b.1;have h1:2^b.1<=(b.2+1)*2^b.1:=IG _ (by omega)
 have h2:b.2+1<=(b.2+1)*2^b.1:=NI _ hp;have h3:b.1<2^b.1:=Nat.lt_two_pow_self;have h4:b.1<=40:=Cv.pw40 (h:=b.1) (by show 2^b.1<=_;omega)
 exact⟨⟨⟨by omega,by omega⟩,by omega⟩,h4,by omega⟩
end
end Go.Proofs.YtoblgjledefdbaaGreatDoor
