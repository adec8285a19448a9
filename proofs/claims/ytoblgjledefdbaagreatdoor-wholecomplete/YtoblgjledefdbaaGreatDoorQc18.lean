/- Own work. -/
import Derived.Deep.DeepMakePanics
import Derived.Test.YtoblgjledefdbaaGreatDoorQc17
set_option maxRecDepth 100000
set_option maxHeartbeats 4000000
namespace Go.Proofs.YtoblgjledefdbaaGreatDoor
open Go.RowKit
attribute [local go_sem ↓] Go.wp_at_zero Go.wp_at_succ
open Go.Proofs.Tryz
def gtD(D:St.DV)(S:St.SV)(L:LB)(i:Nat):BA×Int :=
 if (St.JY D S i).2≠0 then (⟨#[]⟩,(St.JY D S i).2) else if sm (St.tx (St.JY D S i).1)=(smL L).getD i ByteArray.empty then (St.tx (St.JY D S i).1,0) else (⟨#[]⟩,190)
theorem QoF{D:St.DV}{S:St.SV}{i:Nat} : (St.JY D S i).1.length<=1048576:=by
 unfold St.JY
 split
 ·exact Ln _
 ·split
  ·exact Ln _
  ·split
   ·cases h:St.Rc.rpay (St.OE D S i).1 with
    | none=>exact Ln _
    | some x=>exact(St.Rc.rpay_len h).1
   ·exact Ln _
theorem QoE{D:St.DV}{S:St.SV}{i:Nat}(h:(St.JY D S i).2=0):i<S.ends.length:=by
 unfold St.JY at h
 by_cases e:S.ends.length<=i
 ·rw[Lm e] at h;cases h
 ·omega
section
variable {w W w1:World} {a p:Nat} {U:Nat->Prop} {D D':St.DV} {S S':St.SV} {L L':LB} {g:Int}
theorem Lkd.cell{b i:Nat}{v:Value}(h:Lkd a w W)(hc:w.cell? ⟨b,i,none⟩=some v)(hb:b≠a):W.cell? ⟨b,i,none⟩=some v :=
 (LI (a:=⟨b,i,none⟩) (h.oth b (Lf _ _ hc) hb)).trans hc
theorem Tb.lkd(ht:Tb w)(h:Lg w 0 a p U D S L)(hL:Lkd a w W):Tb W:=by
 refine ht.upo (U:=U) ⟨hL.os,hL.tape,hL.output,hL.size,fun b hb hn=>hL.oth b hb (fun e=>hn (e ▸ h.own))⟩ ?_
 obtain⟨_,_,_,_,_,_,_,_,hn⟩:=h;exact hn
theorem QjE(w:World)(ht:Tb w)(h:Lg w 1 a p U D S L)(he:S.ends.length=L.length)(bl bi:Nat)(cl:w.cell? ⟨bl,0,none⟩=some (Pq a))(i:Nat)(hi:i<18446744073709551616)(ci:w.cell? ⟨bi,0,none⟩=some (.int .u64 i))(t:BA)(e0:Int)(hg:gtD D S L i=(t,e0)) :
  Calls prog 83 #[Pq bl,Pq bi] w fun e w'=>e= .returned (.tuple #[.string t,.int .i64 e0])∧Below w.heap.size w w':=by
 obtain⟨q,T,c2,hs⟩:=h.sk;obtain⟨_,_,_,vs,hrow,_,hown⟩:=h.row;obtain⟨_,_,_,_,c5,_⟩:=Yo hrow;obtain⟨x,hx⟩:∃x,St.tx (St.JY D S i).1=x:=⟨_,rfl⟩;obtain⟨y,hy⟩:∃y,(St.JY D S i).2=y:=⟨_,rfl⟩;have hxs:x.size<=1048576:=by rw[<-hx,St.Ji];exact QoF
 have hin:=QoE (D:=D) (S:=S) (i:=i);unfold gtD at hg;rw[hx,hy] at hg;rw[hy] at hin;obtain⟨s,hsx⟩:∃s,sm x=s:=⟨_,rfl⟩;rw[hsx] at hg;have HI:Hid (∀W,Below w.heap.size w W->Calls prog 84 #[Pq q,.int .u64 i] W fun e w'=>e= .returned (.tuple #[.string x,.int .i64 y])∧Below w.heap.size w w'):=fun W hW=>(St.QjR W (hs.next hW) i hi x y hx hy).mono fun e w' z=>⟨z.1,Qa hW z.2⟩
 have HSm:Hid (∀W,Below w.heap.size w W->Calls prog 85 #[.string x] W fun e w'=>e= .returned (.string s)∧Below w.heap.size w w'):=fun W hW=>(Qcs W (ht.next hW) x hxs s hsx).mono fun e w' z=>⟨z.1,Qa hW z.2⟩
 have hax:=Lf _ _ c2;have hl:=Lf _ _ cl;have hb:=Lf _ _ ci;have HC:Hid (∀W,Below w.heap.size w W->W.cell? ⟨bl,0,none⟩=some (Pq a)∧W.cell? ⟨a,2,none⟩=some (Pq q)∧W.cell? ⟨bi,0,none⟩=some (.int .u64 i)):=fun W hW=>⟨(hW.cell (p:=⟨bl,0,none⟩) hl).trans cl,(hW.cell (p:=⟨a,2,none⟩) hax).trans c2,(hW.cell (p:=⟨bi,0,none⟩) hb).trans ci⟩
 obtain⟨ao,bs,cap,rfl,hrs,_,_⟩:=QH hown (fun z hz=>by
  obtain⟨y,_,rfl⟩:=List.mem_map.1 hz;rw[Qg0];decide)
 have hsl:(smL L).length=L.length:=by simp[smL]
 have HV:Hid (∀W,Below w.heap.size w W->W.cell? ⟨bl,0,none⟩=some (Pq a)∧W.cell? ⟨a,5,none⟩=some (.slice ao (smL L).length cap)∧W.cell? ⟨bi,0,none⟩=some (.int .u64 i)∧(y=0->ao=Zp bs∧i<(smL L).length∧W.cell? ⟨bs,i,none⟩=some (.string ((smL L).getD i ByteArray.empty)))):=fun W hW=>
  ⟨(HC.out W hW).1,(hW.cell (p:=⟨a,5,none⟩) hax).trans c5,(HC.out W hW).2.2,fun h0=>by
   have hlt:i<(smL L).length:=by have:=hin h0;omega
   have:=(hrs.next hW (La _)).at hlt;rw[Lo] at this;exact⟨hrs.ptr (by omega),hlt,this⟩⟩
 obtain⟨c6,c7,c8⟩:=HC.out w (Lb _ _);have u:Below w.heap.size w w.drew:=(Lb _ _).drew;clear h hs hrow hown c5 c2 hx hy hxs ht cl ci hax hl hb hrs hin he hsx
 go_enter func83,ntmps83
 go_upto_region 1 with (fail)
 go_region_held3 (fun Z=>Z.cell? ⟨bl,0,none⟩=some (Pq a)∧Z.cell? ⟨a,2,none⟩=some (Pq q)∧Z.cell? ⟨bi,0,none⟩=some (.int .u64 i)) (first|assumption|(with_reducible exact HC.out _ u)) (first
  | (go_at_call 84;(with_reducible refine(HI.out _ u).mono ?_);rintro e w1 ⟨rfl,u⟩))
 all_goals
  by_cases h0:y=0
  ·subst h0;obtain⟨v1,v2,v3,v4⟩:=HV.out _ u;obtain⟨rfl,v5,v6⟩:=v4 rfl;obtain⟨z,hz⟩:∃z,(smL L).getD i ByteArray.empty=z:=⟨_,rfl⟩;rw[hz] at v6 hg HV;have hg:=Qd hg;have HV2:Hid (∀W,Below w.heap.size w W->W.cell? ⟨bl,0,none⟩=some (Pq a)∧W.cell? ⟨a,5,none⟩=some (.slice (Zp bs) (smL L).length cap)∧W.cell? ⟨bi,0,none⟩=some (.int .u64 i)∧W.cell? ⟨bs,i,none⟩=some (.string z)):=fun W hW=>by
    obtain⟨a1,a2,a3,a4⟩:=HV.out W hW;exact⟨a1,a2,a3,(a4 rfl).2.2⟩
   have hii:(i:Int)<((smL L).length:Int):=by omega
   obtain⟨n,hn⟩:∃n,(smL L).length=n:=⟨_,rfl⟩;rw[hn] at v2 HV2 hii;clear HV hz HI HC c6 c7 c8 v4 hn hsl;replace u:Below w.heap.size w w1.drew:=u.drew
   go_upto_region 4 with (fail)
   go_region_held3 (fun Z=>Z.cell? ⟨bl,0,none⟩=some (Pq a)∧Z.cell? ⟨a,5,none⟩=some (.slice (Zp bs) n cap)∧Z.cell? ⟨bi,0,none⟩=some (.int .u64 i)∧Z.cell? ⟨bs,i,none⟩=some (.string z)) (first|assumption|(with_reducible exact HV2.out _ u)) (first
    | (go_at_call 85;(with_reducible refine(HSm.out _ u).mono ?_);rintro e w2 ⟨rfl,u⟩))
   all_goals
    have hg:=hg.out;rw[Ld (fun q=>q rfl)] at hg
    by_cases h1:s=z
    ·subst h1;rw[Lm rfl] at hg;injection hg with e1 e2
     subst e1 e2;rw[show(!(s.toList == s.toList))=false by simp]
     clear HV2 HSm v1 v2 v3 v6;go_wp2
     go_ret2
     exact⟨rfl,u⟩
    ·rw[Ld h1] at hg;injection hg with e1 e2
     subst e1 e2;rw[show(!(s.toList == z.toList))=true by rw[QiO h1];rfl]
     clear HV2 HSm v1 v2 v3 v6 h1;go_wp2
     go_ret2
     exact⟨rfl,u⟩
  ·rw[Lm h0] at hg;injection hg with e1 e2
   subst e1 e2;have h0b:(y == 0)=false:=by simpa using h0
   clear HV HC HSm HI;go_wp2
   go_ret2
   exact⟨rfl,u⟩
theorem Qj1(w:World)(ht:Tb w)(h:Lg w 0 a p U D S L)(he:S.ends.length=L.length)(i:Nat)(hi:i<18446744073709551616)(t:BA)(e0:Int)(hg:gtD D S L i=(t,e0)) :
  Calls prog 39 #[Pq a,.int .u64 i] w fun e w'=>e= .returned (.tuple #[.string t,.int .i64 e0])∧Below w.heap.size w w':=by
 obtain⟨w1,hw1⟩:∃W,(w.alloc (.cells #[Pq a] 27)).alloc (.cells #[.int .u64 i] 48)=W:=⟨_,rfl⟩;have u1:Below w.heap.size w w1:=by rw[<-hw1];exact bal (bal (Lb _ _) _) _
 have k0:w1.heap[w.heap.size]? = some (.cells #[Pq a] 27 (0,0)):=by rw[<-hw1];exact St.new0 _ _ _
 have k1:w1.heap[w.heap.size+1]? = some (.cells #[.int .u64 i] 48 (0,0)):=by rw[<-hw1];exact St.new2 _ _ _
 have b0:w1.cell? ⟨w.heap.size,0,none⟩=some (Pq a):=by rw[cell_of_row _ _ 0 _ _ (0,0) k0];rfl
 have b1:w1.cell? ⟨w.heap.size+1,0,none⟩=some (.int .u64 i):=by rw[cell_of_row _ _ 0 _ _ (0,0) k1];rfl
 have h1:=h.next u1;obtain⟨q,m,r,vs,hrow,_⟩:=h1.row;have hax:=h.lt h.own;have HW:Hid (Calls prog 75 #[Pq a,.func (.func 83) #[] #[Pq w.heap.size,.pointer (some ⟨w.heap.size+1,0,none⟩)]] w1 fun e w'=>e= .returned (.tuple #[.string t,.int .i64 e0])∧Below w.heap.size w w') :=
  (Jj w1 a _ _ _ (.inl rfl) hrow _ _ fun W hW=>QjE W ((ht.next u1).lkd h1 hW) (h1.lkd hW) he w.heap.size (w.heap.size+1) (hW.cell b0 (by omega)) i hi (hW.cell b1 (by omega)) t e0 hg).mono fun e w' z=>⟨z.1,Qa u1 z.2⟩
 clear ht h h1 hrow u1 k0 k1 hg b1 hax;have HW1:=Qd hw1;clear hw1
 go_enter func39,ntmps39
 go_upto_region 1 with (fail)
 rw[HW1.out]
 go_wp2_with (go_at_call 75;(with_reducible refine HW.out.mono ?_);rintro e w2 ⟨rfl,t2⟩)
 go_ret2
 exact⟨rfl,t2⟩
end
section
variable {a q p m r:Nat} {vr vs:Value} {T:Nat->Prop} {D:St.DV} {S:St.SV} {L:LB}
theorem JB(w:World)(h:Led w 0 a q p m r vr vs T D S L)(hS:S.ends=[]) :
  Calls prog 45 #[Pq a] w fun e w'=>e= .returned (.int .i64 0)∧w=w':=by
 have HSz:Hid (Calls prog 74 #[Pq q] w fun e w'=>e= .returned (.int .u64 0)∧w=w'):=by
  have:=St.QW w h.sk;rw[hS] at this;exact this.mono fun e w' z=>⟨z.1,z.2.symm⟩
 have hc2:=h.cells.2.1;clear h hS
 go_enter func45,ntmps45
 go_wp2_with (go_at_call 74;(with_reducible refine HSz.out.mono ?_);rintro e w1 ⟨rfl,rfl⟩)
 go_loopg [3,14] 0 (fun g v3 v14 wr=>g=0∧v14= .int .u64 0∧v3= .int .u64 0∧Hid (w=wr))
 case atStart=>go_light;exact⟨rfl,rfl,rfl,rfl⟩
 case round=>
  obtain⟨rfl,rfl,rfl,HE⟩:=hrel;clear HSz;go_wp2
  go_ret
  exact⟨rfl,HE.out⟩
end
section
variable {w W:World} {a q p m:Nat} {S0 T:Nat->Prop} {D:St.DV} {S:St.SV} {B:Nat} {L:LB}
theorem Qm1(k:Nat):pkL k []=[]:=Qc7 _ 41 0 (by decide)
theorem QhR(w:World)(ht:Tb w)(R:Nat)(hR:R<=268435456)(h:St.Dsk w p S0 (St.Jb R))(hn:¬S0 3)(k:Nat)(k1:1<=k)(k2:k<=32) :
  Calls prog 11 #[Pq p,.int .i64 k] w fun e w'=> ∃a U,e= .returned (.tuple #[Pq a,.int .i64 0])∧Lg w' 0 a p U (St.nD R 3) ⟨k,[],0#32,false⟩ []∧(∀b,U b->S0 b∨w.heap.size<=b)∧St.Upo S0 w w':=by
 have HO:=Qd (St.QhA w R hR h k k1 k2);have HF:Hid (∀W:World,Calls prog 43 #[.int .i64 k] W fun e w'=> ∃m,e= .returned (.tuple #[.pointer (some ⟨m+1,0,none⟩),.int .i64 0])∧Frs w' m k []∧W.heap.size<=m∧Below W.heap.size W w'):=fun W=>(Qmh W k (by omega) (by omega)).mono fun e w' z=>⟨_,z.1,z.2.1,La _,z.2.2⟩
 have HP:Hid (∀W:World,Calls prog 44 #[.int .i64 k] W fun e w'=> ∃r vr,e= .returned (.tuple #[Pq r,.int .i64 0])∧Kp.Rg w' r vr k 0 []∧W.heap.size<=r∧(∀g,vr.ownBlock=some g->W.heap.size<=g)∧Below W.heap.size W w'):=fun W=>(Kp.QjY W k 0 (by unfold Kp.fe;rw[Ld (by omega),Ld (by omega),Ld];refine fun q=>q.elim (fun q=>q rfl) (fun q=>q fun s hs=>by cases hs))).mono fun e w' z=>by
  obtain⟨r,vr,z1,z2,z3,z4,z5⟩:=z.ok;exact⟨r,vr,z1,z2,z3,z4,z5⟩
 have HT:Hid (∀(w1 w2 w3:World) q T m r vr,St.Sk w1 q p T (St.nD R 3) ⟨k,[],0#32,false⟩->(∀y,T y->S0 y∨w.heap.size<=y)->St.Upo S0 w w1->Frs w2 m k []->w1.heap.size<=m->Below w1.heap.size w1 w2->Kp.Rg w3 r vr k 0 []->w2.heap.size<=r->(∀g,vr.ownBlock=some g->w2.heap.size<=g)->Below w2.heap.size w2 w3 ->
   Calls prog 45 #[Pq w3.heap.size] (w3.alloc (.cells #[.int .i32 0,.int .u32 0,Pq q,.pointer (some ⟨m+1,0,none⟩),Pq r,.slice none 0 0] 116)) fun e w'=>e= .returned (.int .i64 0) ∧ ∃U,Lg w' 0 w3.heap.size p U (St.nD R 3) ⟨k,[],0#32,false⟩ []∧(∀b,U b->S0 b∨w.heap.size<=b)∧St.Upo S0 w w'):=fun w1 w2 w3 q T m r vr h1 h2 h3 h4 h5 h6 h7 h8 h9 h10=>by
  obtain⟨w4,hw4⟩:∃W,w3.alloc (.cells #[.int .i32 0,.int .u32 0,Pq q,.pointer (some ⟨m+1,0,none⟩),Pq r,.slice none 0 0] 116)=W:=⟨_,rfl⟩;have u4:Below w3.heap.size w3 w4:=by rw[<-hw4];exact bal (Lb _ _) _
  have k4:w4.heap[w3.heap.size]? = some (rwL 0 (.int .u32 0) (Zp q) (.pointer (some ⟨m+1,0,none⟩)) (Pq r) (.slice none 0 0)):=by rw[<-hw4];exact Lt w3 _
  rw[hw4];have u13:Below w1.heap.size w1 w3:=Qa h6 h10;have u14:Below w1.heap.size w1 w4:=Qa u13 u4;have s1:=h3.size;have s2:=h6.size;have s3:=h10.size;have hr3:=h7.lt;have htb:=ht.lt;have hm2:=h4.lt;have hlo:∀b,Lef w3.heap.size m r vr (.slice none 0 0) b->w1.heap.size<=b:=fun b hl=>by
   rcases hl with e|e|e|e|e|e
   ·omega
   ·omega
   ·omega
   ·omega
   ·have:=h9 b e;omega
   ·cases e
  have hld:Led w4 0 w3.heap.size q p m r vr (.slice none 0 0) T (St.nD R 3) ⟨k,[],0#32,false⟩ []:=by
   refine⟨k4,h1.next u14,?_,?_,⟨rfl,.inl ⟨rfl,rfl⟩⟩,(by intro s hs;cases hs),fun x hx hl=> ?_,fun x _ e=>by cases e⟩
   ·exact h4.next (Qa h10 u4) (La _)
   ·rw[Qm1];exact h7.next u4 (La _)
   ·have:=h1.lt hx;have:=hlo x hl;omega
  refine(JB w4 hld rfl).mono fun e w' z=> ?_
  obtain⟨z1,rfl⟩:=z;refine⟨z1,fun x=>T x∨Lef w3.heap.size m r vr (.slice none 0 0) x,⟨q,m,r,vr,_,T,hld,fun _=>Iff.rfl,fun e=> ?_⟩,fun b hb=> ?_,h3.next u14⟩
  ·rcases e with e|e
   ·exact(h2 _ e).elim hn (fun e=>by omega)
   ·have:=hlo _ e;omega
  ·rcases hb with e|e
   ·exact h2 b e
   ·have:=hlo b e;exact .inr (by omega)
 clear h ht hn k1 k2 hR
 go_enter func11,ntmps11
 go_upto_region 7 with (first
  | (go_at_call 42;(with_reducible refine HO.out.mono ?_);rintro e w1 ⟨q,T,rfl,h1,h2,h3⟩)
  | (go_at_call 43;(with_reducible refine(HF.out _).mono ?_);rintro e w2 ⟨m,rfl,h4,h5,h6⟩)
  | (go_at_call 44;(with_reducible refine(HP.out _).mono ?_);rintro e w3 ⟨r,vr,rfl,h7,h8,h9,h10⟩))
 have HT1:=Qd (HT.out w1 w2 w3 q T m r vr h1 h2 h3 h4 h5 h6 h7 h8 h9 h10);obtain⟨b0,hb0⟩:∃b,w3.heap.size=b:=⟨_,rfl⟩;rw[hb0] at HT1 ⊢;clear HT HP HF HO h1 h2 h3 h4 h5 h6 h7 h8 h9 h10 hb0
 go_wp2_with (go_at_call 45;(with_reducible refine HT1.out.mono ?_);rintro e w5 ⟨rfl,t5⟩)
 go_ret2
 obtain⟨U,t5⟩:=t5;exact⟨_,U,rfl,t5⟩
end
section
open Cv (rst cov QQ dnL tno inb)
open Pl (pw)
theorem QnN(m:Nat):(2*m+1) ^^^ (2*m)=1:=by
 have h1:((2*m+1) ^^^ (2*m))/2=0:=by
  have e:((2*m+1) ^^^ (2*m)) >>> 1=((2*m+1) >>> 1) ^^^ ((2*m) >>> 1):=Wh;rw[Nv,Nv,Nv,show(2*m+1)/2^1=m by omega,show 2*m/2^1=m by omega,Nat.xor_self] at e
  simpa using e
 have h2:((2*m+1) ^^^ (2*m))%2=1:=by
  have e:((2*m+1) ^^^ (2*m))%2^1=((2*m+1)%2^1) ^^^ ((2*m)%2^1):=Nat.xor_mod_two_pow;rw[show(2*m+1)%2^1=1 by omega,show 2*m%2^1=0 by omega] at e
  exact e
 omega
theorem QlA{n i H q:Nat}(hq:q%2=0)(h1:n/2^H=q+1)(h2:i/2^H=q):2^H<=n ^^^ i∧n ^^^ i<2^(H+1):=by
 have e:(n ^^^ i)/2^H=1:=by
  have e:(n ^^^ i) >>> H=(n >>> H) ^^^ (i >>> H):=Wh;rw[Nv,Nv,Nv,h1,h2] at e;obtain⟨m,rfl⟩:∃m,q=2*m:=⟨q/2,by omega⟩
  rw[e,QnN]
 have hp:0<2^H:=LP H
 constructor
 ·have:=Ii (n ^^^ i) (2^H);rw[e] at this;omega
 ·have:=Nat.lt_mul_of_div_lt (show(n ^^^ i)/2^H<2 by omega) hp
  rw[LJ];omega
theorem Qlm(i:Nat):∀H K,K*pw H<=i->i<(K+1)*pw H->(tno H K [i]).length=H:=by
 intro H
 induction H with
 | zero=>
  intro K h1 h2;have hb:inb 0 K i=true:=Cv.QB.2 ⟨h1,h2⟩;rw[tno,NU hb];simp
 | succ H ih=>
  intro K h1 h2;have hb:inb (H+1) K i=true:=Cv.QB.2 ⟨h1,h2⟩;have e1:=Cv.U8 H K;have e2:=Cv.Qbl H K;have e3:=Cv.Ux H K;have e4:=Cv.Qgl H K;rw[tno,NU hb,List.filter_nil,Ld (by simp),Le]
  have out:∀K',¬(K' * pw H<=i∧i<(K'+1)*pw H)->(tno H K' [i]).length=1:=fun K' h=>by
   have hb:¬inb H K' i=true:=fun e=>h (Cv.QB.1 e)
   exact(Cv.Qct H K' [i]).1 (by rw[NB hb];rfl)
  by_cases hm:i<K*pw (H+1)+pw H
  ·rw[ih (2*K) (by omega) (by rw[e2];exact hm),out (2*K+1) (by omega)]
  ·rw[out (2*K) (by omega),ih (2*K+1) (by omega) (by omega)]
   omega
theorem QdB{i H K:Nat}(h:¬(K*pw H<=i∧i<(K+1)*pw H)):(tno H K [i]).length=1:=by
 have hb:¬inb H K i=true:=fun e=>h (Cv.QB.1 e)
 exact(Cv.Qct H K [i]).1 (by rw[NB hb];rfl)
theorem Qjg(n i:Nat):∀h lo,(∃c,lo=c*pw h)->i<lo->((dnL h lo n).flatMap fun b=>tno b.1 b.2 [i]).length=(dnL h lo n).length:=by
 intro h
 induction h with
 | zero=>intro lo _ _;rfl
 | succ h ih=>
  intro lo hc hi;obtain⟨c,rfl⟩:=hc;have e:=Cv.QG c h;rw[dnL]
  split
  ·rw[Ie,Le,LD,ih _ ⟨2*c+1,by rw[LT,Na,e]⟩ (by omega),QdB (by
    intro hx
    dsimp only at hx
    rw[e,NJ _ (Pl.Qw h)] at hx;omega)]
   omega
  ·exact ih _ ⟨2*c,e⟩ hi
theorem QkG(n i:Nat)(hin:i<n):∀h lo,(∃c,lo=c*pw h)->lo<=i->n-lo<pw h ->
  ∃H,((dnL h lo n).flatMap fun b=>tno b.1 b.2 [i]).length+1=H+(dnL h lo n).length∧2^H<=n ^^^ i∧n ^^^ i<2^(H+1)∧H<h:=by
 intro h
 induction h with
 | zero=>intro lo _ h1 h2;have:pw 0=1:=rfl;omega
 | succ h ih=>
  intro lo hc h1 h2;obtain⟨c,rfl⟩:=hc;have e:=Cv.QG c h;have hp:=Pl.Qw h;have hs:=Pl.QF h;rw[dnL]
  split
  ·rename_i hfit
   have hq:c*pw (h+1)/pw h=2*c:=by rw[e,NJ _ hp]
   rw[Ie,Le,LD,hq]
   by_cases hm:i<c*pw (h+1)+pw h
   ·refine⟨h,?_,?_⟩
    ·rw[Qlm i h (2*c) (by omega) (by rw[LT,Na];omega),Qjg n i h _ ⟨2*c+1,by rw[LT,Na,e]⟩ hm]
     omega
    ·have a1:n/2^h=2*c+1:=by
      have:n/pw h=2*c+1:=by
       apply I3
       ·rw[LT,Na];omega
       ·rw[LT,LT,Na];omega
      exact this
     have a2:i/2^h=2*c:=by
      have:i/pw h=2*c:=by
       apply I3
       ·omega
       ·rw[LT,Na];omega
      exact this
     obtain⟨b1,b2⟩:=QlA (q:=2*c) (by omega) a1 a2
     exact⟨b1,b2,by omega⟩
   ·obtain⟨H,g1,g2,g3,g4⟩:=ih (c*pw (h+1)+pw h) ⟨2*c+1,by rw[LT,Na,e]⟩ (by omega) (by omega)
    refine⟨H,?_,g2,g3,by omega⟩
    rw[QdB (by intro hx;dsimp only at hx;rw[LT,Na,<-e] at hx;omega)]
    omega
  ·rename_i hfit
   obtain⟨H,g1,g2,g3,g4⟩:=ih (c*pw (h+1)) ⟨2*c,e⟩ h1 (by omega)
   exact⟨H,g1,g2,g3,by omega⟩
theorem QkF{n i:Nat}(hn:n<=2^40)(hin:i<n):∃H,(rst 0 n [i]).length+1=H+Pl.Qv 64 n∧2^H<=n ^^^ i∧n ^^^ i<2^(H+1)∧H<=40:=by
 have hp:n<pw 41:=by
  have:pw 41=2*2^40:=rfl;omega
 obtain⟨H,g1,g2,g3,g4⟩:=QkG n i hin 41 0 ⟨0,by simp⟩ (Ln _) (by simpa using hp)
 have hc:QQ 0 [i] n:=⟨Ln _,hin⟩;refine⟨H,?_,g2,g3,by omega⟩
 rw[Cv.OV n [i] hn hc,g1,<-Cv.Q0 n hn,Cv.Ot n hn]
end
section
open Pl (YQ pw)
theorem Qkf(n k:Nat):n%2^(k+1)=n%2^k+2^k*(n/2^k%2):=by rw[LJ,Il]
theorem Qmy(n:Nat)(w:World)(hn:n<2^64) :
  Calls prog 408 #[.int .u64 n] w fun e w'=> ∃c:Nat,e= .returned (.int .i64 ((c:Int)-1))∧n<2^c∧c<=64∧(0<c->2^(c-1)<=n)∧w=w':=by
 go_enter func408,ntmps408;go_wp2
 go_loopg [3,4,5] 64 (fun g r i4 i wr=> ∃k c:Nat,k<=64∧g=64-k∧i= .int .i64 k∧r= .int .i64 ((c:Int)-1)∧c<=k∧n%2^k<2^c∧(0<c->2^(c-1)<=n%2^k)∧w=wr)
 case atStart=>go_light;exact⟨0,0,Ln _,rfl,rfl,rfl,Ln _,by simp[Nat.mod_one],fun h=>absurd h (Ns 0),rfl⟩
 case round=>
  obtain⟨k,c,hk,rfl,rfl,rfl,hc,hs,hs2,rfl⟩:=hrel;have hk0:(0:Int)<=(k:Int):=Lh _
  by_cases hlt:k<64
  ·have hk8:(k:Int)<64:=by omega
   have HM:=Qkf n k;have HC:=YQ n k w hn hlt;have hlt2:n%2^k<2^k:=Iu _ (LP k)
   by_cases hb:n/2^k%2=1
   ·rw[LV hb] at HC;rw[hb,Nj] at HM;have HX:Hid (n%2^(k+1)<2^(k+1)∧2^k<=n%2^(k+1)):=⟨Iu _ (LP _),by omega⟩
    clear hs hs2 hc HM hlt2
    go_wp2_with (go_at_call 224;refine HC.mono ?_;rintro e w' ⟨rfl,rfl⟩)
    go_roundg (64-(k+1))
    case rel=>go_light;exact⟨k+1,k+1,by omega,rfl,by go_num,by congr 1;omega,La _,HX.out.1,fun _=>HX.out.2,rfl⟩
    case measure=>go_light;omega
   ·rw[Lx hb] at HC;have hb0:n/2^k%2=0:=by omega
    rw[hb0,Nat.mul_zero,Iq] at HM;have HX:Hid (n%2^(k+1)<2^c∧c<=k+1∧(0<c->2^(c-1)<=n%2^(k+1))):=⟨by rw[HM];exact hs,by omega,by rw[HM];exact hs2⟩
    clear hs hs2 hc HM hlt2
    go_wp2_with (go_at_call 224;refine HC.mono ?_;rintro e w' ⟨rfl,rfl⟩)
    go_roundg (64-(k+1))
    case rel=>go_light;exact⟨k+1,c,by omega,rfl,by go_num,rfl,HX.out.2.1,HX.out.1,HX.out.2.2,rfl⟩
    case measure=>go_light;omega
  ·obtain rfl:k=64:=by omega
   have HX:Hid (n<2^c∧c<=64∧(0<c->2^(c-1)<=n)):=by
    rw[Nz hn] at hs hs2;exact⟨hs,hc,hs2⟩
   clear hs hs2 hc hlt;go_wp2
   go_ret
   exact⟨c,rfl,HX.out.1,HX.out.2.1,HX.out.2.2,rfl⟩
theorem QoI(n H:Nat)(w:World)(hn:n<2^64)(h1:2^H<=n)(h2:n<2^(H+1)) :
  Calls prog 408 #[.int .u64 n] w fun e w'=>e= .returned (.int .i64 H)∧w'=w:=by
 refine(Qmy n w hn).mono ?_
 rintro e w' ⟨c,rfl,g1,g2,g3,rfl⟩;have hc:c=H+1:=by
  have a1:H<c:=by
   apply Classical.byContradiction
   intro h;have:=Nc (n:=2) (by decide) (show c<=H by omega)
   omega
  have a2:c-1<H+1:=by
   apply Classical.byContradiction
   intro h;have:=Nc (n:=2) (by decide) (show H+1<=c-1 by omega)
   have:=g3 (by omega)
   omega
  omega
 subst hc;exact⟨by congr 2;omega,rfl⟩
theorem Qgg(a b:Nat)(w:World)(h:a+b<18446744073709551616) :
  Calls prog 388 #[.int .u64 a,.int .u64 b] w fun e w'=>e= .returned (.tuple #[.int .u64 ((a+b:Nat):Int),.bool true])∧w'=w:=by
 have e1:IntKind.u64.wrap ((a:Int)+(b:Int))=((a+b:Nat):Int):=by rw[IntKind.wrap_u64];omega
 have e2:¬((a+b:Nat):Int)<(a:Int):=by omega
 generalize a+b=c at *
 go_enter func388,ntmps388;go_wp2
 go_ret2
 exact⟨rfl,rfl⟩
theorem Qn6(a b:Nat)(w:World)(ha:a<18446744073709551616)(hb:b<18446744073709551616)(h:¬a+b<18446744073709551616) :
  Calls prog 388 #[.int .u64 a,.int .u64 b] w fun e w'=>e= .returned (.tuple #[.int .u64 0,.bool false])∧w'=w:=by
 obtain⟨c,hc⟩:∃c,a+b-18446744073709551616=c:=⟨_,rfl⟩;have e1:IntKind.u64.wrap ((a:Int)+(b:Int))=(c:Int):=by rw[IntKind.wrap_u64];omega
 have e2:(c:Int)<(a:Int):=by omega
 clear hc ha hb h
 go_enter func388,ntmps388;go_wp2
 go_ret2
 exact⟨rfl,rfl⟩
end
section
open Cv (cU RdC)
theorem UR{w:World}{p:Nat}{s:BA}(hr:Rdr w p s 0)(hs:s.size<=9223372036854775807)(h:nmb s.data.toList=none) :
  Calls prog 315 #[Pq p] w fun e w'=>e=pnc∧Ch p w w':=by
 refine(Jc w p s hr hs).mono ?_
 rintro e w' (⟨n,s',g1,_⟩|⟨_,g2,g3⟩)
 ·rw[h] at g1;cases g1
 ·exact⟨g2,g3⟩
theorem US{w:World}{p n:Nat}{s:BA}{r:List UInt8}(hr:Rdr w p s 0)(hs:s.size<=9223372036854775807)(h:nmb s.data.toList=some (n,r)) :
  Calls prog 315 #[Pq p] w fun e w'=> ∃s',s'.data.toList=r∧e= .returned (.int .u64 n)∧Rdr w' p s' 0∧Ch p w w'∧s'.size<=s.size:=by
 refine(Jc w p s hr hs).mono ?_
 rintro e w' (⟨n',s',g1,g2⟩|⟨g1,_⟩)
 ·rw[h] at g1;cases g1;exact⟨s',rfl,g2⟩
 ·rw[h] at g1;cases g1
theorem Ch.trans{p:Nat}{w w1 w2:World}(h:Ch p w w1)(h2:Ch p w1 w2):Ch p w w2 :=
 ⟨h.below.trans h2.below,fun q hq hne=>(h2.block q (Lv hq h.below.size) hne).trans (h.block q hq hne)⟩
theorem Ch.low{p:Nat}{w w1 w2:World}(h:Ch p w w1)(hb:Below w.heap.size w1 w2)(hp:p<w.heap.size):Ch p w w2 :=
 ⟨h.below.trans (hb.mono (by omega)),fun q hq hne=>(hb.block q hq).trans (h.block q hq hne)⟩
def pan(e:Ending):Prop := ∃u v,e= .panicked [{ v := .iface u v,recovered:=false }]
theorem Q5:pan pnc:=⟨_,_,rfl⟩
theorem QhW(w:World)(x:Nat):∀(j:Nat) u,(cU [x])[j]? = some u->(w.alloc (.cells #[.int .u64 x] 48)).cell? ((⟨w.heap.size,0,none⟩:Addr).add j)=some u:=fun j u hu=>by
 rw[Addr.add_mid];exact Qp w [.int .u64 x] 48 j u hu
theorem Qc0{l r:List UInt8}{n:Nat}(h:nmb l=some (n,r)):n<18446744073709551616:=(Ul h).2
theorem Qin{c x size d:Nat}{l r:List UInt8}(h:nmb l=some (d,r))(hd:¬x+d<size):YM (c+1) x size l=none:=by
 rw[YM,h];simp only;rw[Ld hd]
theorem Qk9{c x size:Nat}{l:List UInt8}(h:nmb l=none):YM (c+1) x size l=none:=by rw[YM,h]
theorem Qio{c x size d:Nat}{l r:List UInt8}(h:nmb l=some (d,r))(hd:x+d<size):YM (c+1) x size l=(YM c (x+d+1) size r).map fun a=>((x+d)::a.1,a.2):=by
 rw[YM,h];simp only;rw[Lm hd]
 cases YM c (x+d+1) size r <;> rfl
structure SetS(w:World)(p g c size:Nat)(l0:List UInt8)(wr:World)(j x:Nat)(acc:List Nat)(s:BA):Prop where
 rd:Rdr wr p s 0
 ch:Ch p w wr
 own:wr.ownsRow g 48 1 (.slice (Zp g) j c) j (cU acc)
 jc:j<=c
 hg:w.heap.size<=g
 xs:x<=size
 go:YM c 0 size l0=(YM (c-j) x size s.data.toList).map fun a=>(acc++a.1,a.2)
 sz:s.size<=9223372036854775807
theorem SetS.read{w wr w1:World}{p g c size j x:Nat}{l0:List UInt8}{acc:List Nat}{s s':BA}{d:Nat}(h:SetS w p g c size l0 wr j x acc s)(hc:Ch p wr w1)(hp:p<w.heap.size)(hn:nmb s.data.toList=some (d,s'.data.toList))(hd:x+d<size)(hj:j<c) :
  w1.ownsRow g 48 1 (.slice (Zp g) j c) j (cU acc)∧Ch p w w1∧YM c 0 size l0=(YM (c-(j+1)) (x+d+1) size s'.data.toList).map fun a=>((acc++[x+d])++a.1,a.2):=by
 have hg:=h.hg;refine⟨Qj h.own fun b hb _=> ?_,h.ch.trans hc,?_⟩
 ·cases hb;exact hc.block g (h.own.lt g rfl).2 (by omega)
 ·rw[h.go,show c-j=(c-(j+1))+1 by omega,Qio hn hd]
  cases YM (c-(j+1)) (x+d+1) size s'.data.toList <;> simp
theorem QjL:∃i,prog.info? 48=some i∧i.zero=some (.int .u64 0)∧i.size=1∧i.bytes=8:=by
 obtain⟨i0,h1,h2,h3,h4⟩:=info_parts Cv.Tryz.infoU;exact⟨i0,h1,h2,h3,h4⟩
theorem UQ(size:Nat)(l:List UInt8):UE 2 size l=match nmb l with|none=>none|some (c,r)=>if c<=r.length then (match YM c 0 size r with|none=>none|some (S,r')=>some (0,S,r')) else none:=rfl
theorem szno{c:Nat}{s:BA}(h:¬c<=s.data.toList.length):¬(c:Int)<=(s.size:Int):=by rw[Qe] at h;omega
theorem Qn3{c:Nat}{s:BA}(h:c<=s.data.toList.length):(c:Int)<=(s.size:Int):=by rw[Qe] at h;omega
theorem szw{s:BA}(h:s.size<=281474976710656):IntKind.u64.wrap (s.size:Int)=(s.size:Int):=by rw[IntKind.wrap_u64];omega
def SetQ(w:World)(p size:Nat)(s:BA)(e:Ending)(w':World):Prop :=
 (∃S s' g c,UE 2 size s.data.toList=some (0,S,s'.data.toList)∧e= .returned (.slice (Zp g) S.length c)∧Cv.Own w' w.heap.size (.slice (Zp g) S.length c) S∧Rdr w' p s' 0∧Ch p w w'∧s'.size<=s.size) ∨
   ((∀o S r,UE 2 size s.data.toList=some (o,S,r)->2^40<size)∧pan e∧Ch p w w')
theorem Qnl(w:World)(p size:Nat)(s:BA)(hr:Rdr w p s 0)(hs:s.size<=281474976710656)(hsz:size<18446744073709551616) :
  Calls prog 316 #[Pq p,.int .u64 size] w (SetQ w p size s):=by
 have hp:=hr.lt
 cases hn:nmb s.data.toList with
 | none=>
  have HN:=UR hr (by omega) hn
  have HQ:Hid (∀w',Ch p w w'->SetQ w p size s pnc w'):=fun w' hc=> .inr ⟨fun o S r h=>(by rw[UQ,hn] at h;cases h),Q5,hc⟩
  go_enter func316,ntmps316
  go_wp2_with (go_at_call 315;with_reducible refine HN.mono ?_;rintro x w1 ⟨rfl,hc⟩)
  exact⟨rfl,HQ.out _ hc⟩
 | some a=>
  obtain⟨c,r⟩:=a;have HN:=US hr (by omega) hn
  have hc64:=Qc0 hn
  by_cases hcr:c<=r.length
  ·by_cases hbig:c<=35184372088832
   ·obtain⟨i0,i1,i2,i3,i4⟩:=QjL;have HI:Hid (prog.info? 48=some i0∧i0.zero=some (.int .u64 0)∧i0.size=1∧i0.bytes=8):=⟨i1,i2,i3,i4⟩;have HQ:Hid ((∀w',Ch p w w'->YM c 0 size r=none -> ∀e,pan e->SetQ w p size s e w') ∧ ∀S s' g w',YM c 0 size r=some (S,s'.data.toList)->Cv.Own w' w.heap.size (.slice (Zp g) S.length c) S->Rdr w' p s' 0->Ch p w w'->s'.size<=s.size->SetQ w p size s (.returned (.slice (Zp g) S.length c)) w'):=by
     constructor
     ·intro w' hc hz e he;refine .inr ⟨fun o S r h=> ?_,he,hc⟩
      rw[UQ,hn] at h;simp only at h;rw[Lm hcr,hz] at h
      cases h
     ·intro S s' g w' h1 h2 h3 h4 h5;refine .inl ⟨S,s',g,c,?_,rfl,h2,h3,h4,h5⟩
      rw[UQ,hn];simp only;rw[Lm hcr,h1]
    have HK:Hid (c<=r.length∧s.size<=281474976710656∧c<=35184372088832∧size<18446744073709551616∧p<w.heap.size):=⟨hcr,hs,hbig,hsz,hp⟩;have hbig':(c:Int)<=35184372088832:=by omega
    clear hr hs hn hcr hsz hbig hc64 i1 i2 i3 i4 hp
    go_enter func316,ntmps316
    go_wp2_with (first
     | (go_at_call 315;(with_reducible refine HN.mono ?_;rintro x w1 ⟨s1,rfl,rfl,h1,h2,h3⟩;have HL:=Jx w1 p 0 s1 h1;have hf:=Qn3 HK.out.1;have hf2:=szw (Lu h3 HK.out.2.1)))
     | (go_at_call 387;with_reducible refine HL.mono ?_;rintro x w2 ⟨rfl,rfl⟩)
     | (go_at_call 317;refine(Yz _ _ rfl).mono ?_;rintro x w3 ⟨rfl,rfl⟩)
     | (at_make;refine wpList_make_own _ rfl _ _ _ rfl w3.heap.size 48 i0 (.int .u64 0) 1 underlying66 HI.out.1 HI.out.2.1 HI.out.2.2.1 .i64 .u64 _ c rfl rfl rfl ?c1 ?c2 (La _) ?_))
    case c1=>rw[HI.out.2.2.2];have:=HK.out;omega
    case c2=>have:=HK.out;unfold maxLen;omega
    intro w4 o4 g4;obtain⟨g,hg⟩:∃g,w3.heap.size=g:=⟨_,rfl⟩;rw[hg] at o4;have HS:Hid (SetS w p g c size s1.data.toList w4 0 0 [] s1):=by
     obtain⟨k1,k2,k3,k4,k5⟩:=HK.out;have hb:Below w3.heap.size w3 w4:=(Lb _ _).grown g4 (La _) (fun k hk=>by cases hk)
     have hz:=h2.below.size;exact⟨h1.next hb h1.lt,h2.low (hb.mono hz) k5,o4,Ln _,by omega,Ln _,by rw[Wt];cases YM c 0 size s1.data.toList <;> rfl,by omega⟩
    have HZ:Hid (s1.size<=s.size):=h3;rw[hg];clear h1 h2 h3 hf hf2 o4 g4 HN HL hg;go_wp2
    go_loopg [6,7,8,9,21] c (fun m l x i8 o9 ix wr=> ∃(j y:Nat) (acc:List Nat) (t:BA),m=c-j∧ix= .int .u64 j∧x= .int .u64 y∧l= .slice (Zp g) j c∧SetS w p g c size s1.data.toList wr j y acc t∧t.size<=s.size)
    case atStart=>go_light;exact⟨0,0,[],s1,rfl,rfl,rfl,rfl,HS.out,HZ.out⟩
    case round=>
     obtain⟨j,y,acc,t,rfl,rfl,rfl,rfl,hS,ht⟩:=hrel;obtain⟨k1,k2,k3,k4,k5⟩:=HK.out;have HT:Hid (SetS w p g c size s1.data.toList wr j y acc t∧t.size<=s.size):=⟨hS,ht⟩;have hj0:(0:Int)<=(j:Int):=Lh _
     by_cases hlt:j<c
     ·have hlt':(j:Int)<(c:Int):=by omega
      cases hn:nmb t.data.toList with
      | none=>
       have HN:=UR hS.rd hS.sz hn;have HE:Hid (∀w',Ch p wr w'->SetQ w p size s pnc w'):=fun w' hc=>HQ.out.1 w' (hS.ch.trans hc) (by rw[hS.go,show c-j=(c-(j+1))+1 by omega,Qk9 hn];rfl) _ Q5
       clear hS ht k1 k2 k3 k4 k5 hn
       go_wp2_with (go_at_call 315;with_reducible refine HN.mono ?_;rintro x w1 ⟨rfl,hc⟩)
       exact⟨rfl,HE.out _ hc⟩
      | some a=>
       obtain⟨d,r⟩:=a;have HN:=US hS.rd hS.sz hn;have hd64:=Qc0 hn;have hy:=hS.xs
       by_cases hd:y+d<size
       ·have HA:=fun W=>Qgg y d W (by omega)
        have hd':((y+d:Nat):Int)<(size:Int):=by omega
        have HO:Hid (∀w1 s2,Rdr w1 p s2 0->Ch p wr w1->s2.data.toList=r->w1.ownsRow g 48 1 (.slice (Zp g) j c) j (cU acc)∧Ch p w w1∧YM c 0 size s1.data.toList=(YM (c-(j+1)) (y+d+1) size s2.data.toList).map fun a=>((acc++[y+d])++a.1,a.2)):=fun w1 s2 hr1 hc1 he=>by
         subst he;exact hS.read hc1 k5 hn hd hlt
        have HX:Hid (y+d+1<=size∧y+d<18446744073709551615∧j+1<=c∧t.size<=s.size∧t.size<=9223372036854775807∧w.heap.size<=g∧p<w.heap.size):=⟨by omega,by omega,hlt,ht,hS.sz,hS.hg,k5⟩
        have e1:IntKind.u64.wrap (((y+d:Nat):Int)+1)=((y+d+1:Nat):Int):=by rw[IntKind.wrap_u64];omega
        have e2:IntKind.u64.wrap ((j:Int)+1)=((j+1:Nat):Int):=by rw[IntKind.wrap_u64];omega
        generalize y+d=z at *;clear hS ht k1 k2 k3 k4 k5 hn hd64 hy hd HS HZ HT
        go_wp2_with (first
         | (go_at_call 315;with_reducible refine HN.mono ?_;rintro x w1 ⟨s2,hs2,rfl,q1,q2,q3⟩;replace HO:=Q2 (HO.out _ _ q1 q2 hs2))
         | (go_at_call 388;with_reducible refine(HA _).mono ?_;rintro x w2 ⟨rfl,rfl⟩)
         | (go_at_call 317;refine(Yz _ _ rfl).mono ?_;rintro x w3 ⟨rfl,rfl⟩)
         | (at_builtin;refine wpList_append_fits _ rfl _ _ _ rfl g 48 i0 1 underlying66 HI.out.1 HI.out.2.2.1 g j c (cU acc) rfl (HO.out.1.alloc _) ⟨w3.heap.size,0,none⟩ 1 1 (cU [z]) rfl rfl (QhW w3 z) (Cv.QiS [z]) HX.out.2.2.1 ?_;intro w4 o4 g4))
        go_roundg (c-(j+1))
        case rel=>
         go_light;obtain⟨x1,x2,x3,x4,x5,x6,x7⟩:=HX.out;obtain⟨y1,y2,y3⟩:=HO.out;have hlt:=y1.lt g rfl;have hb:Below w.heap.size w3 w4:=(((Lb _ w3).alloc y2.below.size _)).grown g4 (by simp;have:=y2.below.size;omega) (fun k hk=>by cases hk;omega)
         have hb':Below (p+1) w3 w4:=hb.mono (by omega)
         refine⟨j+1,z+1,acc++[z],s2,rfl,by first|rfl|(simp;done)|(congr 1),by first|rfl|(congr 1),rfl,⟨q1.next hb' (by omega),y2.low hb x7,?_,x3,x6,x1,y3,by omega⟩,by omega⟩
         rw[Cv.cU,LL];exact o4
        case measure=>go_light;have:=HX.out.2.2.1;omega
       ·have HE:Hid (∀w',Ch p wr w'->SetQ w p size s pnc w'):=fun w' hc=>HQ.out.1 w' (hS.ch.trans hc) (by rw[hS.go,show c-j=(c-(j+1))+1 by omega,Qin hn hd];rfl) _ Q5
        by_cases ha:y+d<18446744073709551616
        ·have HA:=fun W=>Qgg y d W ha
         have hd':¬((y+d:Nat):Int)<(size:Int):=by omega
         generalize y+d=z at *;clear hS ht k1 k2 k3 k4 k5 hn hd64 hy hd ha HS HZ
         go_wp2_with (first
          | (go_at_call 315;with_reducible refine HN.mono ?_;rintro x w1 ⟨s2,rfl,rfl,q1,q2,q3⟩)
          | (go_at_call 388;with_reducible refine(HA _).mono ?_;rintro x w2 ⟨rfl,rfl⟩)
          | (go_at_call 317;refine(YV _ _ (by first|rfl|exact Lx (by omega))).mono ?_;rintro x w3 ⟨rfl,rfl⟩))
         exact⟨rfl,HE.out _ q2⟩
        ·have HA:=fun W=>Qn6 y d W (by omega) hd64 ha
         clear hS ht k1 k2 k3 k4 k5 hn hd64 hy hd ha HS HZ
         go_wp2_with (first
          | (go_at_call 315;with_reducible refine HN.mono ?_;rintro x w1 ⟨s2,rfl,rfl,q1,q2,q3⟩)
          | (go_at_call 388;with_reducible refine(HA _).mono ?_;rintro x w2 ⟨rfl,rfl⟩)
          | (go_at_call 317;refine(YV _ _ rfl).mono ?_;rintro x w3 ⟨rfl,rfl⟩))
         exact⟨rfl,HE.out _ q2⟩
     ·obtain rfl:j=c:=by have:=hS.jc;omega
      have hlt':¬(j:Int)<(j:Int):=by omega
      clear hS ht k1 k2 k3 k4 k5 hlt;go_wp2
      go_ret
      obtain⟨hS,ht⟩:=HT.out;have hl:acc.length=j:=by have:=hS.own.1;simpa [cU] using this
      have e:=hS.go;rw[NH,YM] at e;simp only[Option.map_some,List.append_nil] at e;have:=HQ.out.2 acc t g wr e (by rw[hl];have o:=hS.own.mono (base':=w.heap.size) hS.hg;rw[Cv.Own,hl];exact o) hS.rd hS.ch ht
      rw[hl] at this;exact this
   ·obtain⟨i0,i1,i2,i3,i4⟩:=QjL;have hmk:∀W:World,(Instr.makeSlice 66 (.int .i64 0) (.int .u64 c)).run prog W= .halt (.panic (capPanic prog)) W:=fun W=>run_make_refused W 66 48 i0 underlying66 i1 .i64 .u64 c (by omega) (by have:=(Ul hn).1;have h3:=LW List.length this;rw[Qe,Le] at h3;omega) (.inr (by rw[i4];omega))
    have HQ:Hid (∀w',Ch p w w' -> ∀e,pan e->SetQ w p size s e w'):=fun w' hc e he=> .inr ⟨fun o S r' h=>by
     rw[UQ,hn] at h;simp only at h;rw[Lm hcr] at h
     cases hz:YM c 0 size r with
     | none=>rw[hz] at h;cases h
     | some a=>
      obtain⟨S',r2⟩:=a;obtain⟨z1,z2,z3⟩:=Qat _ _ _ _ _ (Ln _) hz;have:=UK z3;omega,he,hc⟩
    have HK:Hid (c<=r.length∧s.size<=281474976710656):=⟨hcr,hs⟩;clear hr hs hn hcr hsz hbig hc64 i1 i2 i3 i4 hp
    go_enter func316,ntmps316
    go_wp2_with (first
     | (go_at_call 315;(with_reducible refine HN.mono ?_;rintro x w1 ⟨s1,rfl,rfl,h1,h2,h3⟩;have HL:=Jx w1 p 0 s1 h1;have hf:=Qn3 HK.out.1;have hf2:=szw (Lu h3 HK.out.2)))
     | (go_at_call 387;with_reducible refine HL.mono ?_;rintro x w2 ⟨rfl,rfl⟩)
     | (go_at_call 317;refine(Yz _ _ rfl).mono ?_;rintro x w3 ⟨rfl,rfl⟩))
    exact⟨rfl,HQ.out _ h2 _ ⟨_,_,rfl⟩⟩
  ·have HQ:Hid (∀w',Ch p w w'->SetQ w p size s pnc w'):=fun w' hc=> .inr ⟨fun o S r h=>(by rw[UQ,hn] at h;simp only at h;rw[Ld hcr] at h;cases h),Q5,hc⟩
   have HK:Hid (¬c<=r.length∧s.size<=281474976710656):=⟨hcr,hs⟩;clear hr hs hn hcr hsz
   go_enter func316,ntmps316
   go_wp2_with (first
    | (go_at_call 315;go_loud (with_reducible refine HN.mono ?_;rintro x w1 ⟨s1,rfl,rfl,h1,h2,h3⟩;have HL:=Jx w1 p 0 s1 h1;have hf:=szno HK.out.1;have hf2:=szw (Lu h3 HK.out.2)))
    | (go_at_call 387;with_reducible refine HL.mono ?_;rintro x w2 ⟨rfl,rfl⟩)
    | (go_at_call 317;refine(YV _ _ (Lx (by omega))).mono ?_;rintro x w3 ⟨rfl,rfl⟩))
   exact⟨rfl,HQ.out _ h2⟩
end
theorem QiH{a b:BA}(h:a.data.toList=b.data.toList):a=b:=by
 obtain⟨⟨l⟩⟩:=a;obtain⟨⟨m⟩⟩:=b;simp only at h;rw[h]
theorem Qf5(w:World)(x:BA):∀(j:Nat) u,([x].map Value.string)[j]? = some u->(w.alloc (.cells #[.string x] 9)).cell? ((⟨w.heap.size,0,none⟩:Addr).add j)=some u:=fun j u hu=>by
 rw[Addr.add_mid];exact Qp w [.string x] 9 j u hu
structure DigS(w:World)(p g c k:Nat)(l0:List UInt8)(wr:World)(j:Nat)(acc:LB)(s:BA):Prop where
 rd:Rdr wr p s 0
 ch:Ch p w wr
 own:wr.ownsRow g 9 1 (.slice (Zp g) j c) j (acc.map Value.string)
 jc:j<=c
 hg:w.heap.size<=g
 go:Yt c k l0=acc++Yt (c-j) k s.data.toList
 sz:(c-j)*k=s.size
theorem Qhv{c j k:Nat}(hj:j<c){s:BA}{l0:List UInt8}{acc:LB}(h1:Yt c k l0=acc++Yt (c-j) k s.data.toList)(h2:(c-j)*k=s.size) :
  k<=s.size∧Yt c k l0=(acc++[s.extract 0 k])++Yt (c-(j+1)) k (s.extract k s.size).data.toList∧(c-(j+1))*k=(s.extract k s.size).size:=by
 obtain⟨m,hm⟩:∃m,c-(j+1)=m:=⟨_,rfl⟩;have e:c-j=m+1:=by omega
 rw[e,LT,Na] at h2;have h3:=LW List.length (UO s k);rw[Qe,LS,Qe] at h3;refine⟨by omega,?_,by rw[hm];omega⟩
 rw[h1,e,hm,Yt,UO,LH,List.singleton_append]
 congr 2
 apply QiH
 rw[Oz]
theorem J6(w:World)(p c k:Nat)(s:BA)(hr:Rdr w p s 0)(hs:s.size<=281474976710656)(hc:c<=1099511627776)(hk:k<=32)(h:¬c*k=s.data.toList.length) :
  Calls prog 318 #[Pq p,.int .u64 c,.int .i64 k] w fun e w'=>e=pnc∧w'=w:=by
 have HL:=Jx w p 0 s hr;rw[Qe] at h;have hm:c*k<=1099511627776*32:=WB hc hk;have e1:IntKind.u64.wrap (k:Int)=(k:Int):=by rw[IntKind.wrap_u64];omega
 have e2:IntKind.u64.wrap ((c:Int)*(k:Int))=((c*k:Nat):Int):=by rw[IntKind.wrap_u64,<-Ww];omega
 have e3:=szw hs;have e4:(((c*k:Nat):Int) == (s.size:Int))=false:=beq_false_of_ne (by omega)
 generalize c*k=q at *;clear hr hs hc hk h hm
 go_enter func318,ntmps318
 go_wp2_with (first
  | (go_at_call 387;with_reducible refine HL.mono ?_;rintro x w2 ⟨rfl,rfl⟩)
  | (go_at_call 317;refine(YV _ _ (by first|rfl|exact e4|exact Lx (by omega))).mono ?_;rintro x w3 ⟨rfl,rfl⟩))
 exact⟨rfl,rfl,rfl⟩
theorem J7(w:World)(p c k:Nat)(s:BA)(hr:Rdr w p s 0)(hs:s.size<=281474976710656)(hc:c<=1099511627776)(hk:k<=32)(h:c*k=s.data.toList.length) :
  Calls prog 318 #[Pq p,.int .u64 c,.int .i64 k] w fun e w'=> ∃g,e= .returned (.slice (Zp g) c c)∧Qg w' w.heap.size (.slice (Zp g) c c) (Yt c k s.data.toList)∧Ch p w w' ∧ ∃t,Rdr w' p t 0:=by
 have HL:=Jx w p 0 s hr;rw[Qe] at h;have hm:c*k<=1099511627776*32:=WB hc hk;obtain⟨i0,i1,i2,i3,i4⟩:=info_parts Tryz.infoS;have HI:Hid (prog.info? 9=some i0∧i0.zero=some (.string ByteArray.empty)∧i0.size=1∧i0.bytes=16):=⟨i1,i2,i3,i4⟩;have e1:IntKind.u64.wrap (k:Int)=(k:Int):=by rw[IntKind.wrap_u64];omega
 have e2:IntKind.u64.wrap ((c:Int)*(k:Int))=(s.size:Int):=by rw[IntKind.wrap_u64,<-Ww];omega
 have e3:=szw hs;have HK:Hid (Rdr w p s 0∧s.size<=281474976710656∧c<=1099511627776∧k<=32∧c*k=s.size∧p<w.heap.size):=⟨hr,hs,hc,hk,h,hr.lt⟩;have hc':(c:Int)<=1099511627776:=by omega
 clear hr hs hc hk h hm i1 i2 i3 i4
 go_enter func318,ntmps318
 go_wp2_with (first
  | (go_at_call 387;with_reducible refine HL.mono ?_;rintro x w2 ⟨rfl,rfl⟩)
  | (go_at_call 317;refine(Yz _ _ rfl).mono ?_;rintro x w3 ⟨rfl,rfl⟩)
  | (at_make;refine wpList_make_own _ rfl _ _ _ rfl w3.heap.size 9 i0 (.string ByteArray.empty) 1 underlying22 HI.out.1 HI.out.2.1 HI.out.2.2.1 .i64 .u64 _ c rfl rfl rfl ?c1 ?c2 (La _) ?_))
 case c1=>rw[HI.out.2.2.2];have:=HK.out;omega
 case c2=>have:=HK.out;unfold maxLen;omega
 intro w4 o4 g4;obtain⟨g,hg⟩:∃g,w3.heap.size=g:=⟨_,rfl⟩;rw[hg] at o4;have HS:Hid (DigS w3 p g c k s.data.toList w4 0 [] s):=by
  obtain⟨k1,k2,k3,k4,k5,k6⟩:=HK.out;have hb:Below w3.heap.size w3 w4:=(Lb _ _).grown g4 (La _) (fun k hk=>by cases hk)
  exact⟨k1.next hb k6,(Ch.refl p w3).low hb k6,o4,Ln _,by omega,by simp,by simpa using k5⟩
 rw[hg];clear o4 g4 HL hg e1 e2 e3;go_wp2
 go_loopg [7,8,9,22] c (fun m l d8 e9 ix wr=> ∃(j:Nat) (acc:LB) (t:BA),m=c-j∧ix= .int .u64 j∧l= .slice (Zp g) j c∧DigS w3 p g c k s.data.toList wr j acc t)
 case atStart=>go_light;exact⟨0,[],s,rfl,rfl,rfl,HS.out⟩
 case round=>
  obtain⟨j,acc,t,rfl,rfl,rfl,hS⟩:=hrel;obtain⟨k1,k2,k3,k4,k5,k6⟩:=HK.out;have HT:Hid (DigS w3 p g c k s.data.toList wr j acc t):=hS;have hj0:(0:Int)<=(j:Int):=Lh _
  by_cases hlt:j<c
  ·have hlt':(j:Int)<(c:Int):=by omega
   obtain⟨n1,n2,n3⟩:=Qhv hlt hS.go hS.sz;have HR:=U0 wr p 0 t k hS.rd;have htk:tkC t 0 (k:Int)=(t.extract 0 k,0,t.extract k t.size):=by rw[tkC,Ld (by simp),Ld (by omega)];rfl
   rw[htk] at HR;have e2:IntKind.u64.wrap ((j:Int)+1)=((j+1:Nat):Int):=by rw[IntKind.wrap_u64];omega
   have HX:Hid (j+1<=c∧w3.heap.size<=g∧p<w3.heap.size):=⟨hlt,hS.hg,k6⟩;generalize t.extract 0 k=d at *;generalize t.extract k t.size=t2 at *;have HN:Hid (Yt c k s.data.toList=(acc++[d])++Yt (c-(j+1)) k t2.data.toList∧(c-(j+1))*k=t2.size):=⟨n2,n3⟩;have HO:Hid (∀w1,Ch p wr w1->w1.ownsRow g 9 1 (.slice (Zp g) j c) j (acc.map Value.string)∧Ch p w3 w1):=fun w1 hc1=>by
    refine⟨Qj hS.own fun b hb _=> ?_,hS.ch.trans hc1⟩
    cases hb;exact hc1.block g (hS.own.lt g rfl).2 (by have:=hS.hg;omega)
   clear hS k1 k2 k3 k4 k5 k6 n1 n2 n3 htk HS HT
   go_wp2_with (first
    | (go_at_call 385;with_reducible refine HR.mono ?_;rintro x w1 ⟨rfl,q1,q2⟩;replace HO:=Q2 (HO.out _ q2))
    | (go_at_call 317;refine(Yz _ _ rfl).mono ?_;rintro x w5 ⟨rfl,rfl⟩)
    | (at_builtin;refine wpList_append_fits _ rfl _ _ _ rfl g 9 i0 1 underlying22 HI.out.1 HI.out.2.2.1 g j c (acc.map Value.string) rfl (HO.out.1.alloc _) ⟨w5.heap.size,0,none⟩ 1 1 ([d].map Value.string) rfl rfl (Qf5 w5 d) (by intro u hu;obtain⟨y,_,rfl⟩:=List.mem_map.1 hu;rfl) HX.out.1 ?_;intro w4 o4 g4))
   go_roundg (c-(j+1))
   case rel=>
    go_light;obtain⟨x3,x6,x7⟩:=HX.out;obtain⟨y1,y2⟩:=HO.out;have hlt:=y1.lt g rfl;have hb:Below w3.heap.size w5 w4:=(((Lb _ w5).alloc y2.below.size _)).grown g4 (by simp;have:=y2.below.size;omega) (fun k hk=>by cases hk;omega)
    have hb':Below (p+1) w5 w4:=hb.mono (by omega)
    refine⟨j+1,acc++[d],t2,rfl,by first|rfl|(congr 1),rfl,⟨q1.next hb' (by omega),y2.low hb x7,?_,x3,x6,HN.out.1,HN.out.2⟩⟩
    rw[LL];exact o4
   case measure=>go_light;have:=HX.out.1;omega
  ·obtain rfl:j=c:=by have:=hS.jc;omega
   have hlt':¬(j:Int)<(j:Int):=by omega
   clear hS k1 k2 k3 k4 k5 k6 hlt;go_wp2
   go_ret
   have hS:=HT.out;have hl:acc.length=j:=by have:=hS.own.1;simpa using this
   have e:=hS.go;rw[NH,Yt,Nd] at e;refine⟨g,rfl,?_,hS.ch,_,hS.rd⟩
   rw[e,Qg,hl];exact hS.own.mono hS.hg
end Go.Proofs.YtoblgjledefdbaaGreatDoor
