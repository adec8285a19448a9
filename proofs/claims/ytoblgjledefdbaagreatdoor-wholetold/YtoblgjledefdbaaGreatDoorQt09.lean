/- Own work. -/
import Derived.Shelf.Strings.OnBuilder
import Derived.Shelf.Strings.Repeat
import Derived.Test.YtoblgjledefdbaaGreatDoorQt08
set_option maxRecDepth 100000
set_option maxHeartbeats 8000000
namespace Go.Proofs.YtoblgjledefdbaaGreatDoor
open Go.RowKit
attribute [local go_sem ↓] Go.wp_at_zero Go.wp_at_succ
open Go.Proofs.Tryz
namespace St
open Rc
theorem QgC(n:Nat)(hn:n<=8796093021952)(u:World):(Instr.makeSlice 22 (.int .i64 n) (.int .i64 n)).run prog u= .ok (.slice (Zp u.heap.size) n n) (u.alloc (.cells (Array.replicate n (Value.string ByteArray.empty)) 9)):=by
 have:=run_make_row' (P:=prog) 22 9 (.string ByteArray.empty) 16 underlying22 Tryz.infoS rfl .i64 .i64 n (by omega) (by omega) u
 rw[this,OC]
theorem Qi0(w:World)(n:Nat)(hn:n<=8796093021952):Qh (w.alloc (.cells (Array.replicate n (Value.string ByteArray.empty)) 9)) w.heap.size (.slice (Zp w.heap.size) n n) (List.replicate n ByteArray.empty):=by
 refine⟨by simp,.inr ⟨w.heap.size,n,Array.replicate n (Value.string ByteArray.empty),by simp,La _,Yc _ _,by simp,by unfold maxLen;omega,by simp,by simp⟩⟩
theorem JU(p:Nat)(ds:LB):(QV p ds).length=ds.length:=by simp[QV]
theorem Qi8(p:Nat)(ds:LB)(d:BA):QV p (ds++[d])=QV p ds++[tx (nod (p+ds.length) d.data.toList)]:=by simp[QV]
theorem Qd7(w:World){q p:Nat}{T:Nat->Prop}{D:DV}{S:SV}(h:Sk w q p T D S)(ao:OA)(b off len cap:Nat)(ds:LB)(hr:RdS w ao b off len ds)(hmx:len<=1000)(h32:∀d∈ds,d.size<=32) :
  Ro 168 #[Pq q,.slice ao len cap] w (QV (nn S.ends.length) ds):=by
 obtain⟨ea,ec,⟨c0,c1,c2,c3,c4⟩,_⟩:=h.cells;obtain⟨xM,xN,hf,_⟩:=h.small;have HN:=Qc (Q6 w S.ends.length (by omega))
 have hb:=OD S.ends.length;clear h;generalize nn S.ends.length=m at *;generalize S.ends.length=n at *;have HM:=QgC len (by omega) w
 have HO:=Qc (Qi0 w len (by omega))
 have u0:Bl w (w.alloc (.cells (Array.replicate len (Value.string ByteArray.empty)) 9)):=bal (Lb _ _) _;have HU:=Qc u0;obtain⟨w1,xH⟩:=Ze (w.alloc (.cells (Array.replicate len (Value.string ByteArray.empty)) 9));rw[xH] at HM HO HU;clear xH u0;obtain⟨g,hg⟩:=Ze w.heap.size;have HG:=Qc hg;rw[hg] at HM HO;have HB:Hid (∀W,Bl w W->RdS W ao b off len ds):=fun W hW=>hr.next hW (La _)
 have hl:=hr.hl;have hp:=hr.ptr;clear hg hr
 go_enter func168,ntmps168
 go_wp2_with (go_at_call 245;refine HN.out.mono ?_;rintro e w2 ⟨rfl,rfl⟩)
 go_loopg [20] len (fun g' x wr=> ∃j:Nat,j<=len∧g'=len-j∧x= .int .i64 j∧Hid (Qh wr g (.slice (Zp g) len len) (QV m (ds.take j)++List.replicate (len-j) ByteArray.empty))∧Hid (Bl w2 wr))
 case atStart=>go_light;exact⟨0,Ln _,rfl,rfl,HO,HU⟩
 case round=>
  obtain⟨j,hj,rfl,rfl,HA,HW⟩:=hrel
  by_cases hlt:j<len
  ·have hz:(j:Int)<(len:Int):=by omega
   obtain rfl:=hp (by omega)
   have ck:=(HB.out _ HW.out).at hlt;obtain⟨d,xA⟩:=Ze (ds.getD j ByteArray.empty);have xD:j<ds.length:=by omega
   have xI:d∈ds:=by rw[<-xA,Ld,Lk xD];exact L8 _
   have xF:ds.take (j+1)=ds.take j++[d]:=by rw[<-xA,LM xD,Ld,Lk xD];rfl
   rw[xA] at ck;have hw:IntKind.i64.wrap ((j:Int)+1)=(j:Int)+1:=by rw[Lq];omega
   have xO:IntKind.u64.wrap (j:Int)=(j:Int):=Y5 _ (by omega) (by omega)
   have xP:IntKind.u64.wrap ((m:Int)+(j:Int))=((m+j:Nat):Int):=by rw[Y5 _ (by omega) (by omega)];omega
   have xC:=h32 d xI;obtain⟨tn,xG⟩:=Ze (tx (nod (m+j) d.data.toList));have HC:Hid (Zr 266 #[.int .u64 ((m+j:Nat):Int),.string d] wr (.string tn)):=Rc.U8 wr (m+j) (by omega) d (by omega) tn (by rw[nodS,Qb,Lf xC];exact xG)
   have xB:Hid (∀W,Bl wr W->(W.frozen? ⟨g,j,none⟩=false ∧ ∃x,W.cell? ⟨g,j,none⟩=some (.string x))∧Qh (W.setCell ⟨g,j,none⟩ (.string tn)) g (.slice (Zp g) len len) (QV m (ds.take (j+1))++List.replicate (len-(j+1)) ByteArray.empty)∧Bl w2 (W.setCell ⟨g,j,none⟩ (.string tn))):=fun W hW=>by
    have ho:=QB HA.out hW (La _);have xL:j<(QV m (ds.take j)++List.replicate (len-j) ByteArray.empty).length:=by simp[JU];omega
    have xE:=Jf ho xL;refine⟨⟨xE.2,_,xE.1⟩,?_,(Qa HW.out hW).setCell (by rw[HG.out];exact La _) _⟩
    have:=QnO ho j tn;have xJ:(QV m (ds.take j)).length=j:=by rw[JU,Lx];omega
    have xK:(ds.take j).length=j:=by rw[Lx];omega
    rw[xF,Qi8,xK,xG,show len-j=(len-(j+1))+1 by omega,IW] at *
    rw[Nb _ _ (by omega),xJ,NL,List.set_cons_zero] at this
    rw[Lw];exact this
   clear HA HW xF HB xA
   go_wp2_with (go_at_call 266;refine HC.out.mono ?_;rintro e w3 ⟨rfl,u3⟩;have ⟨⟨f1,x1,f2⟩,_⟩:=xB.out _ u3)
   go_roundg (len-(j+1))
   case rel=>go_light;exact⟨j+1,by omega,rfl,by go_num,(xB.out _ u3).2.1,(xB.out _ u3).2.2⟩
   case measure=>go_light;omega
  ·have hz:¬(j:Int)<(len:Int):=by omega
   have HZ:Hid (Qh wr w2.heap.size (.slice (Zp g) len len) (QV m ds)∧Bl w2 wr):=by
    have:=HA.out;rw[Lp (by omega),show len-j=0 by omega,List.replicate_zero,LU] at this
    exact⟨by rw[HG.out];exact this,HW.out⟩
   clear HA HW HB;go_wp2
   go_ret
   exact⟨_,rfl,HZ.out⟩
end St
namespace St
def tot:List (List UInt8×FV)->Nat
 | []=>0
 | (_,f)::r=>f.now.length+tot r
theorem Qlc{x:List UInt8×FV}{r:List (List UInt8×FV)}(h:Ord (x::r)):Ord r:=⟨(List.pairwise_cons.1 h.1).2,fun p hp=>h.2 p (LV _ hp)⟩
theorem On:∀ {L:List (List UInt8×FV)} (_:Ord L) (s:List UInt8) (f:FV),tot (QL L s f)+(Qe L s).now.length=tot L+f.now.length
 | [],_,s,f=>by
  rw[QL,Qe]
  split
  ·rename_i h;have:=U3.1 h;simp only[tot,fz];simp;omega
  ·simp[tot,fz]
 | (t,g)::r,h,s,f=>by
  rw[QL,Qe]
  by_cases e:t=s
  ·rw[Lf e,Lf e]
   split
   ·rename_i hg;have:=U3.1 hg;simp only[tot];omega
   ·simp only[tot];omega
  ·rw[Le e,Le e]
   by_cases e2:s<t
   ·rw[Lf e2];have hn:Qe r s=fz:=by
     apply YG
     intro hm;obtain⟨p,hp,xA⟩:=List.mem_map.1 hm;have h3:=(List.pairwise_cons.1 h.1).1 p hp;have h4:t<s:=by rw[<-xA];exact h3
     exact NB _ (IP h4 e2)
    rw[hn]
    split
    ·rename_i hg;have:=U3.1 hg;rw[this.1];rfl
    ·simp only[tot,fz];simp;omega
   ·rw[Le e2];have:=On (Qlc h) s f;simp only[tot];omega
theorem QbH{D:DV}(h:D.fk=0)(s:List UInt8)(f:FV):Yw D s f=(Q8 { D with acts:=D.acts+1 } s f,0):=by
 have e:Yj { D with acts:=D.acts+1 } = ({ D with acts:=D.acts+1 },0,[]):=by
  unfold Yj;exact Lf h
 unfold Yw;rw[e]
 rfl
section
variable {w W W':World} {p q bo:Nat} {D E D':DV} {ob:Obj}
end
theorem QlV{W:World}{q:Nat}{a b c d e f g:Value}{T:TypeId}(h:W.heap[q]? = some (.cells #[a,b,c,d,e,f,g] T (0,0))):W.cell? ⟨q,0,none⟩=some a∧W.cell? ⟨q,1,none⟩=some b∧W.cell? ⟨q,2,none⟩=some c∧W.cell? ⟨q,3,none⟩=some d∧W.cell? ⟨q,4,none⟩=some e∧W.cell? ⟨q,5,none⟩=some f∧W.cell? ⟨q,6,none⟩=some g :=
 ⟨by rw[cell_of_row W q 0 _ _ (0,0) h];rfl,by rw[cell_of_row W q 1 _ _ (0,0) h];rfl,by rw[cell_of_row W q 2 _ _ (0,0) h];rfl,by rw[cell_of_row W q 3 _ _ (0,0) h];rfl,by rw[cell_of_row W q 4 _ _ (0,0) h];rfl,by rw[cell_of_row W q 5 _ _ (0,0) h];rfl,by rw[cell_of_row W q 6 _ _ (0,0) h];rfl⟩
def cB(ks:List Bool):List Value:=ks.map .bool
def OwnL(w:World)(B:Nat)(v:Value)(ks:List Bool):Prop:=w.ownsRow B 4 1 v ks.length (cB ks)
theorem Tryz.infoB:(prog.info? 4).map (fun i=>(i.zero,i.size,i.bytes))=some (some (.bool false),1,1):=by kernel_rfl
theorem QnM{w:World}{B:Nat}{v:Value}{ks:List Bool}(h:OwnL w B v ks):∃ao b cap,v= .slice ao ks.length cap∧RdL w ao b 0 ks∧(0<ks.length->Ty w b 4∧B<=b):=by
 rcases h.2 with ⟨e1,e2⟩|⟨g,cap,cur,e1,e2,hb,h1,h2,h3,h4⟩
 ·refine⟨none,0,0,by rw[e1,e2],⟨fun h0=> ?_,fun j hj=> ?_⟩,fun h0=> ?_⟩ <;> omega
 ·refine⟨Zp g,g,cap,e1,⟨fun _=>rfl,fun j hj=> ?_⟩,fun _=>⟨⟨_,_,hb⟩,e2⟩⟩
  rw[cell_of_row w g (0+j) cur _ (0,0) hb,Ll];have:=Lv (fun x=>x[j]?) h4
  simp only[List.getElem?_take,Nat.mul_one,if_pos hj] at this
  rw[Nh] at this;rw[this];simp[cB,List.getD_eq_getElem?_getD,hj]
theorem J6(w:World)(ao:OA)(b o c:Nat)(ks:List Bool)(hk:RdL w ao b o ks)(hkl:ks.length<=140737488355328) :
  Calls prog 46 #[.slice ao ks.length c] w fun e w'=> ∃v,e= .returned v∧OwnL w' w.heap.size v ks∧Bl w w':=by
 obtain⟨i0,hi,xA,xB,xC⟩:=info_parts Tryz.infoB;obtain⟨n,hn⟩:=Ze ks.length
 cases ao with
 | none=>
  have h0:ks=[]:=by
   rcases IG ks.length with q|q
   ·exact List.length_eq_zero_iff.1 q
   ·have:=hk.ptr q;cases this
  subst h0;simp only[List.length_nil] at hn ⊢;subst hn;have HE:=Lib.run_eql_slice_nil_nil (P:=prog) w 0 c underlying31;clear hk hkl
  go_enter func46,ntmps46;go_wp2
  go_ret
  exact⟨_,rfl,⟨rfl,.inl ⟨rfl,rfl⟩⟩,Lb _ _⟩
 | some a=>
  have HH:Hid (RdL w (some a) b o ks∧ks.length=n∧n<=140737488355328):=⟨hk,hn,by omega⟩
  have hb:=bal (Lb w.heap.size w) (.cells #[] 4);have HO:Hid ((w.alloc (.cells #[] 4)).ownsRow w.heap.size 4 1 (.slice (Zp w.heap.size) 0 0) 0 []):=⟨rfl,.inr ⟨w.heap.size,0,_,rfl,La _,Yc w _,Ln _,by decide,rfl,rfl⟩⟩
  have HR:=Qc (hk.next hb);have HB:=Qc hb;have HE:=Lib.run_eql_slice_some_nil (P:=prog) w a n c underlying31;rw[hn];clear hk hkl hn hb
  go_enter func46,ntmps46
  go_wp2_with (at_builtin;refine wpList_append_own _ rfl _ _ 31 rfl w.heap.size 4 i0 (.bool false) 1 1 underlying31 hi xA xB xC rfl (by decide) _ 0 [] rfl HO.out _ n c (cB ks) rfl ?c0 ?c1 ?c2 ?c3 ?c4 ?c5 ?_)
  case c0=>rw[cB,LY,HH.out.2.1,Nd]
  case c1=>
   intro j u hu;have hj:j<ks.length:=by have:=(List.getElem?_eq_some_iff.1 hu).1;simpa [cB] using this
   have ep:=HR.out.ptr (by omega)
   injection ep with ep
   rw[ep,Addr.add_mid,HR.out.cell j hj];rw[<-hu];simp[cB,List.getD_eq_getElem?_getD,hj]
  case c2=>
   intro u hu;obtain⟨x,_,rfl⟩:=List.mem_map.1 hu
   rfl
  case c3=>have:=HH.out.2.2;unfold maxLen;omega
  case c4=>have:=HH.out.2.2;omega
  case c5=>have:=HB.out.size;exact this
  intro v' w' o' g' _;have HY:Hid (OwnL w' w.heap.size v' ks∧Bl w w'):=by
   refine⟨?_,HB.out.trans ((Lb _ _).grown g' HB.out.size (fun k hk=>by cases hk;exact La _))⟩
   unfold OwnL;rw[HH.out.2.1];exact o'
  clear o' g';go_wp2
  go_ret
  exact⟨_,rfl,HY.out.1,HY.out.2⟩
def YM(D:DV)(a k:Int)(ks:List Bool):DV:=if D.down then D else if 1<=a∧1<=k∧k<=5 then { D with fa:=a,fk:=k,ks:=ks } else { D with fa:=0,fk:=0,ks:=[] }
variable{W W0 w:World}{kb' kc kc' ko ko' m p q:Nat}{ka ka':OA}
theorem Dk.fate{R:List UInt8->FR}{kb:Nat}{D:DV}(h:Dk w p m R ka kb ko kc D none)(hu:Upo (fun x=>x=p) w W){a k:Int}{ks:List Bool}
  (hblk:W.heap[p]? = some (.cells #[.int .i64 D.free,.map (some m),.int .i64 D.acts,.int .i64 a,.int .i64 k,.slice ka' ks.length kc',.bool D.down] 98 (0,0)))
  (hk:RdL W ka' kb' ko' ks) (ht:0<ks.length->Ty W kb' 4) (hl:ks.length<=140737488355328) (hf:k=0∨(1<=k∧k<=5∧1<=a∧a<=9223372036854775807)):Dk W p m R ka' kb' ko' kc' { D with fa:=a,fk:=k,ks:=ks } none:=by
 have hm:=hu.block m h.mp.lt (fun e=>h.pm e.symm)
 have hx:∀x,Ty w x 5->W.heap[x]? = w.heap[x]? := fun x hx=>hu.block x hx.lt (h.other hx).1
 exact⟨hblk,h.mp.same hm,h.ord,fun s hs he=>(h.fil s hs he).same fun x hx'=>hx x (h.low s hs x hx'),fun s hs x hx'=>(h.low s hs x hx').same (hx x (h.low s hs x hx')),h.apart,h.nm,h.cnt,hk,ht,hl,h.fr,h.ac,hf⟩
theorem QlT{x0 x1 x2 x3 x4 x5 x6:Value}{T:TypeId}(h:W.heap[q]? = some (.cells #[x0,x1,x2,x3,x4,x5,x6] T (0,0)))(a b c:Value) :
  (((W.setCell ⟨q,3,none⟩ a).setCell ⟨q,4,none⟩ b).setCell ⟨q,5,none⟩ c).heap[q]? = some (.cells #[x0,x1,x2,a,b,c,x6] T (0,0)):=by
 have h1:(W.setCell ⟨q,3,none⟩ a).heap[q]? = some (.cells #[x0,x1,x2,a,x4,x5,x6] T (0,0)):=Lm W q 3 _ _ a h;have h2:((W.setCell ⟨q,3,none⟩ a).setCell ⟨q,4,none⟩ b).heap[q]? = some (.cells #[x0,x1,x2,a,b,x5,x6] T (0,0)):=Lm _ q 4 _ _ b h1;exact Lm _ q 5 _ _ c h2
theorem Qg3(h:Upo (fun x=>x=q) W0 W)(a b c:Value):Upo (fun x=>x=q) W0 (((W.setCell ⟨q,3,none⟩ a).setCell ⟨q,4,none⟩ b).setCell ⟨q,5,none⟩ c) :=
 ((h.set _ _ _ (.inl rfl)).set _ _ _ (.inl rfl)).set _ _ _ (.inl rfl)
def Qdz(w w':World)(p m:Nat)(R:List UInt8->FR)(kb:Nat)(D D':DV):Prop := ∃ka' kb' ko' kc',Dk w' p m R ka' kb' ko' kc' D' none∧(∀x,YC p m R kb' D' x->YC p m R kb D x∨w.heap.size<=x)∧Upo (fun x=>x=p) w w'
section
variable {p m:Nat} {R:List UInt8->FR} {ka:OA} {kb ko kc:Nat} {D:DV}
theorem QdX(w:World)(h:Dk w p m R ka kb ko kc D none)(a k:Int)(ha:a<=9223372036854775807)(ao:OA)(b o c:Nat)(ks:List Bool)(hk:RdL w ao b o ks)(hkl:ks.length<=140737488355328)(hne:0<ks.length->b≠p) :
  Calls prog 12 #[Pq p,.agg #[.int .i64 a,.int .i64 k,.slice ao ks.length c]] w fun e w'=>e= .returned (.tuple #[])∧Qdz w w' p m R kb D (YM D a k ks):=by
 obtain⟨n,hn⟩:=Ze ks.length;obtain⟨w1,xA⟩:=Ze (w.alloc (.cells #[.int .i64 a,.int .i64 k,.slice ao n c] 37));have xD:=Qc xA;have xK:=Qc hne;clear hne;have xB:Bl w w1:=by rw[<-xA];exact bal (Lb _ _) _
 have bx:w1.heap[w.heap.size]? = some (.cells #[.int .i64 a,.int .i64 k,.slice ao n c] 37 (0,0)):=by rw[<-xA];exact Yc _ _
 have h1:=h.next xB;have xF:=h.lt (.inl rfl);obtain⟨c0,c1,c2,c3,c4,c5,c6⟩:=h1.cells;have fz:=h1.frz;have HH:Hid (Dk w p m R ka kb ko kc D none∧Dk w1 p m R ka kb ko kc D none∧Bl w w1∧RdL w ao b o ks∧ks.length=n∧n<=140737488355328∧p<w.heap.size∧w1.heap[w.heap.size]? = some (.cells #[.int .i64 a,.int .i64 k,.slice ao n c] 37 (0,0))):=⟨h,h1,xB,hk,hn,by omega,xF,bx⟩
 rw[hn]
 by_cases hd:D.down=true
 ·have HL:Hid (YM D a k ks=D):=Lf hd;rw[hd] at c6;clear h hk hkl hn xA xB bx h1 xF hd
  go_enter func12,ntmps12
  go_upto_region 1 with (fail)
  rw[xD.out];go_wp2;refine LD (v := .tuple #[]) (by simp[results,results12,go_sem]) rfl ⟨rfl,?_⟩
  rw[HL.out];exact⟨ka,kb,ko,kc,HH.out.2.1,fun x hx=> .inl hx,Upo.of HH.out.2.2.1⟩
 have xE:D.down=false:=by simpa using hd
 rw[xE] at c6;obtain⟨w2,xC⟩:=Ze (((w1.setCell ⟨p,3,none⟩ (.int .i64 0)).setCell ⟨p,4,none⟩ (.int .i64 0)).setCell ⟨p,5,none⟩ (.slice none 0 0));have xG:=Qc xC;have u2:Upo (fun x=>x=p) w1 w2:=by rw[<-xC];exact Qg3 (Upo.refl _ _) _ _ _
 have j2:w2.heap[p]? = some (.cells #[.int .i64 D.free,.map (some m),.int .i64 D.acts,.int .i64 0,.int .i64 0,.slice none 0 0,.bool D.down] 98 (0,0)):=by rw[<-xC];exact QlT h1.blk _ _ _
 have xH:=(u2.block w.heap.size (Array.getElem?_eq_some_iff.1 bx).1 (by omega)).trans bx
 obtain⟨b0,b1,b2⟩:=Qp xH;have HJ:Hid (Upo (fun x=>x=p) w1 w2∧w2.heap[p]? = some (.cells #[.int .i64 D.free,.map (some m),.int .i64 D.acts,.int .i64 0,.int .i64 0,.slice none 0 0,.bool D.down] 98 (0,0))∧D.down=false):=⟨u2,j2,xE⟩
 clear h hk hkl hn xA xB bx h1 xF hd xE xC u2 j2 xH
 go_enter func12,ntmps12
 go_upto_region 1 with (fail)
 rw[xD.out]
 go_upto_region 3 with (fail)
 rw[xG.out];clear c0 c1 c2 c3 c4 c5 c6 fz xD xG
 by_cases hf:1<=a∧1<=k∧k<=5
 ·obtain⟨f1,f2,f3⟩:=hf;have HL:Hid (YM D a k ks = { D with fa:=a,fk:=k,ks:=ks }):=by show _=_;unfold YM;rw[Le (by simp[HJ.out.2.2]),Lf ⟨f1,f2,f3⟩]
  have xJ:Hid (Calls prog 46 #[.slice ao n c] w2.drew fun e w'=> ∃v,e= .returned v∧OwnL w' w2.heap.size v ks∧Bl w2 w'):=by
   obtain⟨g1,g2,g3,g4,g5,g6,g7,g8⟩:=HH.out;have hne:=xK.out;have xM:RdL w2 ao b o ks:=(g4.next g3).same fun h0=>HJ.out.1.block b ((g4.next g3).lt h0) (hne h0)
   have:=J6 w2.drew ao b o c ks (xM.same fun _=>rfl) (by omega)
   rw[g5] at this;exact this.mono fun e w' z=>by obtain⟨v,z1,z2,z3⟩:=z;exact⟨v,z1,z2,⟨z3.os,z3.tape,z3.output,z3.size,z3.block⟩⟩
  have HF:Hid (∀W,Bl w2 W->W.cell? ⟨p,3,none⟩=some (.int .i64 0)∧W.cell? ⟨p,4,none⟩=some (.int .i64 0)∧W.cell? ⟨p,5,none⟩=some (.slice none 0 0)∧(∀j,W.frozen? ⟨p,j,none⟩=false)∧W.cell? ⟨w.heap.size,0,none⟩=some (.int .i64 a)∧W.cell? ⟨w.heap.size,1,none⟩=some (.int .i64 k)∧W.cell? ⟨w.heap.size,2,none⟩=some (.slice ao n c)):=fun W hW=>by
   obtain⟨g1,g2,g3,g4,g5,g6,g7,g8⟩:=HH.out;have jW:=(hW.block p (Array.getElem?_eq_some_iff.1 HJ.out.2.1).1).trans HJ.out.2.1
   have bW:=(HJ.out.1.block w.heap.size (Array.getElem?_eq_some_iff.1 g8).1 (by omega)).trans g8
   have xL:=(hW.block _ (Array.getElem?_eq_some_iff.1 bW).1).trans bW
   obtain⟨y0,y1,y2,y3,y4,y5,y6⟩:=QlV jW;obtain⟨v0,v1,v2⟩:=Qp xL;exact⟨y3,y4,y5,fun j=>frozen_of_row W p j _ _ jW,v0,v1,v2⟩
  obtain⟨z3,z4,z5,zf,z0,z1,z2⟩:=HF.out w2 (Lb _ _);have HX:Hid (∀W qa qb qc,Bl w2 W->RdL W qa qb 0 ks->(0<ks.length->Ty W qb 4∧w2.heap.size<=qb)->Qdz w (((W.setCell ⟨p,3,none⟩ (.int .i64 a)).setCell ⟨p,4,none⟩ (.int .i64 k)).setCell ⟨p,5,none⟩ (.slice qa ks.length qc)) p m R kb D (YM D a k ks)):=fun W qa qb qc hW hr ht=>by
   obtain⟨g1,g2,g3,g4,g5,g6,g7,g8⟩:=HH.out;have jW:=(hW.block p (Array.getElem?_eq_some_iff.1 HJ.out.2.1).1).trans HJ.out.2.1
   have u1:Upo (fun x=>x=p) w1 (((W.setCell ⟨p,3,none⟩ (.int .i64 a)).setCell ⟨p,4,none⟩ (.int .i64 k)).setCell ⟨p,5,none⟩ (.slice qa ks.length qc)):=Qg3 (HJ.out.1.next hW) _ _ _
   have uW:Upo (fun x=>x=p) W (((W.setCell ⟨p,3,none⟩ (.int .i64 a)).setCell ⟨p,4,none⟩ (.int .i64 k)).setCell ⟨p,5,none⟩ (.slice qa ks.length qc)):=Qg3 (Upo.refl _ _) _ _ _
   have xP:p<w2.heap.size:=(Array.getElem?_eq_some_iff.1 HJ.out.2.1).1
   have kq:0<ks.length->(((W.setCell ⟨p,3,none⟩ (.int .i64 a)).setCell ⟨p,4,none⟩ (.int .i64 k)).setCell ⟨p,5,none⟩ (.slice qa ks.length qc)).heap[qb]? = W.heap[qb]? := fun h0=>uW.block qb (hr.lt h0) (by have:=(ht h0).2;omega)
   rw[HL.out];refine⟨qa,qb,0,qc,g2.fate u1 (QlT jW _ _ _) (hr.same kq) (fun h0=>(ht h0).1.same (kq h0)) (by omega) (.inr ⟨f2,f3,f1,ha⟩),fun x hx=> ?_,(Upo.of g3).trans u1 (fun _ _ q=>q)⟩
   rcases hx with q|q|q|⟨q,e⟩
   ·exact .inl (.inl q)
   ·exact .inl (.inr (.inl q))
   ·exact .inl (.inr (.inr (.inl q)))
   ·have h1:=(ht q).2;have h2:=g3.size;have h3:=HJ.out.1.size;exact .inr (by omega)
  go_upto_region 4 with (fail)
  go_region_with (go_at_call 46;(with_reducible refine xJ.out.mono ?_);rintro e w3 ⟨v,rfl,ho,xI⟩;obtain⟨qa,qb,qc,rfl,xN,xO⟩:=QnM ho;obtain⟨y3,y4,y5,yf,y0,y1,y2⟩:=HF.out w3 xI)
  all_goals
   go_end0
   exact⟨rfl,HX.out w3 qa qb qc xI xN xO⟩
 ·have HL:Hid (YM D a k ks = { D with fa:=0,fk:=0,ks:=[] }):=by show _=_;unfold YM;rw[Le (by simp[HJ.out.2.2]),Le hf]
  have HE:Hid (Qdz w w2 p m R kb D (YM D a k ks)):=by
   obtain⟨g1,g2,g3,g4,g5,g6,g7,g8⟩:=HH.out;rw[HL.out];refine⟨none,0,0,0,g2.fate HJ.out.1 HJ.out.2.1 (Uw _ _ _ _) (fun h0=>by simp at h0) (Ln _) (.inl rfl),fun x hx=> ?_,(Upo.of g3).trans HJ.out.1 (fun _ _ q=>q)⟩
   rcases hx with q|q|q|⟨q,_⟩
   ·exact .inl (.inl q)
   ·exact .inl (.inr (.inl q))
   ·exact .inl (.inr (.inr (.inl q)))
   ·simp at q
  clear HH HJ HL
  by_cases f1:a≥1
  ·by_cases f2:k≥1
   ·have f3:¬(k<=5):=fun q=>hf ⟨f1,f2,q⟩
    clear hf;go_wp2
    go_end0
    exact⟨rfl,HE.out⟩
   ·clear hf;go_wp2
    go_end0
    exact⟨rfl,HE.out⟩
  ·clear hf;go_wp2
   go_end0
   exact⟨rfl,HE.out⟩
end
theorem Dsk.lay{S:Nat->Prop}{D:DV}(h:Dsk w p S D)(a k:Int)(ha:a<=9223372036854775807)(ao:OA)(b o c:Nat)(ks:List Bool)(hk:RdL w ao b o ks)(hkl:ks.length<=140737488355328)(hne:0<ks.length -> ¬S b) :
  Calls prog 12 #[Pq p,.agg #[.int .i64 a,.int .i64 k,.slice ao ks.length c]] w fun e w'=>e= .returned (.tuple #[])∧Mvd w w' p S (YM D a k ks):=by
 obtain⟨m,R,ka,kb,ko,kc,h1,h2⟩:=h;refine(QdX w h1 a k ha ao b o c ks hk hkl (fun h0 e=>hne h0 ((h2 b).1 (.inl e)))).mono fun e w' z=>⟨z.1,?_⟩
 obtain⟨xB,xA,xD,xC,q1,q2,q3⟩:=z.2;exact⟨YC p m R xA (YM D a k ks),⟨m,R,xB,xA,xD,xC,q1,fun _=>Iff.rfl⟩,fun x hx=>(q2 x hx).imp (h2 x).1 id,q3.mono (fun x _ q=>(h2 x).1 (.inl q))⟩
def allS(l:List (List UInt8×List UInt8)):List (List UInt8×FV):=l.map fun x=>(x.1,⟨x.2,x.2⟩)
theorem Qc1(s:List UInt8)(f:FV)(hf:f.gone=false):∀L:List (List UInt8×FV),(∀p∈L,p.1<s)->QL L s f=L++[(s,f)]
 | [],_=>by rw[QL,Le (by simp[hf])];rfl
 | (t,g)::r,h=>by
  have h1:t<s:=h (t,g) (by simp)
  have ne:¬t=s:=fun e=>by rw[e] at h1;exact NB _ h1
  have nl:¬s<t:=fun e=>NB _ (IP h1 e)
  rw[QL,Le ne,Le nl,Qc1 s f hf r (fun p hp=>h p (LV _ hp))]
  rfl
theorem UN{α:Type}{P:List α->Prop}(h0:P [])(hs:∀l x,P l->P (l++[x]))(l:List α):P l:=by
 rw[<-List.reverse_reverse l]
 induction l.reverse with
 | nil=>exact h0
 | cons x r ih=>rw[Ip];exact hs _ _ ih
def Sor(l:List (List UInt8×List UInt8)):Prop:=l.Pairwise (fun a b=>a.1<b.1) ∧ ∀x∈l,x.2≠[]
theorem Ob(l:List (List UInt8×List UInt8)):Sor l->QM l=allS l:=by
 induction l using UN with
 | h0=>intro _;rfl
 | hs l x ih=>
  intro h;obtain⟨h1,h2⟩:=h;have h3:=List.pairwise_append.1 h1;have xA:=ih ⟨h3.1,fun y hy=>h2 y (by simp[hy])⟩
  have hx:=h2 x (by simp)
  rw[Qc8,Le hx,xA,Qc1]
  ·simp[allS]
  ·cases hg:(⟨x.2,x.2⟩:FV).gone
   ·rfl
   ·exact absurd (Lv FV.now (JI.1 hg)) hx
  ·intro p hp;obtain⟨y,hy,rfl⟩:=List.mem_map.1 hp;exact h3.2.2 y hy x (by simp)
theorem O0(ks:List Bool):∀(L:List (List UInt8×FV)) (i:Nat),L.Pairwise (fun a b=>a.1<b.1)->Sor (aft ks L i)
 | [],_,_=>⟨.nil,by simp[aft]⟩
 | (s,f)::r,i,h=>by
  obtain⟨h1,h2⟩:=List.pairwise_cons.1 h;have ih:=O0 ks r (stay ks f i).2 h2;simp only[aft]
  split
  ·exact ih
  ·rename_i hn
   refine⟨List.pairwise_cons.2 ⟨fun y hy=> ?_,ih.1⟩,fun y hy=> ?_⟩
   ·obtain⟨g,j,hg,_⟩:=Qbo hy;exact h1 _ hg
   ·rcases List.mem_cons.1 hy with rfl|hy
    ·exact hn
    ·exact ih.2 y hy
theorem Qjq(ks:List Bool)(x:List UInt8)(i:Nat):(stay ks ⟨x,x⟩ i).1=x:=by
 have hs:UK ks ⟨x,x⟩ i=(x.length,i):=by unfold UK;rw[Lf rfl]
 have hg:∀n,(sgo ks ⟨x,x⟩ i n).1=(List.range (64*n)).map fun j=>x.getD j 0:=by
  intro n
  induction n with
  | zero=>rfl
  | succ n ih=>
   simp only[sgo,if_true];rw[ih,show 64*(n+1)=64*n+64 by omega,List.range_add,LQ,Wi]
   rfl
 simp only[stay,hs];rw[hg]
 apply IK
 intro j
 by_cases hj:j<x.length
 ·have h1:j<64*nsec ⟨x,x⟩:=by unfold nsec;simp only;omega
  rw[LT,Lf hj,No,Iy h1];simp[List.getD_eq_getElem?_getD,hj]
 ·rw[LT,Le hj,Nn (by omega)]
section
variable {D E:DV} {at_ k j:Nat} {ks:List Bool}
end
section
variable {D:DV} {l:List (List UInt8×List UInt8)} {n:Nat}
end
end St
namespace St
open Rc
abbrev It:=List UInt8×LB
structure BV where
 ends:List Nat
 chain:BitVec 32
 a:List UInt8
 b:List UInt8
 m:List UInt8
def BV.z:BV:=⟨[],0#32,[],[],[]⟩
def BV.mk'(k:Nat)(B:BV)(x:It):MV:=nxM k B.ends B.chain (pay x.1) (QV (nn B.ends.length) x.2)
def BV.ad(k:Nat)(B:BV)(x:It):BV:=⟨B.ends++[(B.mk' k x).items],(B.mk' k x).chain,B.a++pay x.1,B.b++Rc.Qj (QV (nn B.ends.length) x.2),B.m++mrk (B.mk' k x)⟩
def bA(k:Nat)(A:List It):BV:=A.foldl (BV.ad k) BV.z
theorem QT(k:Nat)(A:List It)(x:It):bA k (A++[x])=(bA k A).ad k x:=by simp[bA]
def sA(k:Nat)(A:List It):SV:=⟨k,(bA k A).ends,(bA k A).chain,false⟩
structure OkI(k n:Nat)(x:It):Prop where
 len:x.1.length<=1048576
 cnt:x.2.length=nn (n+1)-nn n
 sz:∀d∈x.2,d.size=k
structure OkA(k:Nat)(A:List It):Prop where
 k1:1<=k
 k2:k<=32
 few:A.length<=65536
 it:∀i x,A[i]? = some x->OkI k i x
variable{k:Nat}{A:List It}{x:It}
theorem QnF(h1:1<=k)(h2:k<=32):OkA k []:=⟨h1,h2,by simp,fun i x h=>by simp at h⟩
theorem OkA.init(h:OkA k (A++[x])):OkA k A :=
 ⟨h.k1,h.k2,by have:=h.few;simp at this;omega,fun i y hy=>h.it i y (by rw[Ly (List.getElem?_eq_some_iff.1 hy).1];exact hy)⟩
theorem OkA.last(h:OkA k (A++[x])):OkI k A.length x:=h.it A.length x (by simp)
theorem OkA.take(h:OkA k A)(j:Nat):OkA k (A.take j) :=
 ⟨h.k1,h.k2,by have:=h.few;rw[Lx];omega,fun i y hy=>h.it i y (by rw[LT] at hy;split at hy;exact hy;cases hy)⟩
theorem YW(x:BA)(l:LB):Rc.Qj (x::l)=x.data.toList++Rc.Qj l:=by simp[Rc.Qj]
theorem Qdh(p:Nat)(d:BA)(ds:LB):QV p (d::ds)=tx (nod p d.data.toList)::QV (p+1) ds:=by
 have e:(fun(i:Nat) (d:BA)=>tx (nod (p+(i+1)) d.data.toList))=fun i d=>tx (nod (p+1+i) d.data.toList):=by
  funext i d
  rw[show p+(i+1)=p+1+i by omega]
 simp[QV,List.mapIdx_cons,e]
theorem Oz(p:Nat)(ds:LB)(h:∀d∈ds,d.size<=32):(Rc.Qj (QV p ds)).length=40*ds.length:=by
 induction ds generalizing p with
 | nil=>rfl
 | cons d ds ih=>
  rw[Qdh,YW,Lc,ih (p+1) (fun x hx=>h x (LV _ hx)),JA,Qam _ _ (by rw[Qb];exact h d (by simp)),LG]
  omega
structure LenA(k:Nat)(A:List It):Prop where
 ends:(bA k A).ends.length=A.length
 lst:lst (bA k A).ends=(bA k A).a.length
 a:(bA k A).a.length<=1048584*A.length
 b:(bA k A).b.length=40*nn A.length
 m:(bA k A).m.length=64*A.length
variable{I M t:List UInt8}
theorem QkV(l:List Nat)(x:Nat):lst (l++[x])=x:=by simp[lst]
theorem OkA.lens : OkA k A->LenA k A:=by
 refine UN (P:=fun A=>OkA k A->LenA k A) (fun _=>⟨rfl,rfl,La _,rfl,rfl⟩) (fun A x ih h=> ?_) A
 have l:=ih h.init;have hx:=h.last;have hf:=h.few;simp only[List.length_append,List.length_cons,List.length_nil] at hf;have hm:=Us A.length (by omega)
 have e:(bA k (A++[x]))=(bA k A).ad k x:=QT k A x;have ei:((bA k A).mk' k x).items=(bA k A).a.length+(x.1.length+8):=by
  show Go.Proofs.YtoblgjledefdbaaGreatDoor.St.lst (bA k A).ends+(pay x.1).length=_
  rw[l.lst,pay_len]
 refine⟨?_,?_,?_,?_,?_⟩
 ·rw[e];simp[BV.ad,l.ends]
 ·rw[e]
  show Go.Proofs.YtoblgjledefdbaaGreatDoor.St.lst ((bA k A).ends++[((bA k A).mk' k x).items])=((bA k A).a++pay x.1).length
  rw[QkV,ei,Lc,pay_len]
 ·rw[e]
  show((bA k A).a++pay x.1).length<=_
  have:=l.a;have:=hx.len;rw[Lc,pay_len,Lc];simp only[List.length_cons,List.length_nil];omega
 ·rw[e]
  show((bA k A).b++Rc.Qj (QV (nn (bA k A).ends.length) x.2)).length=_
  rw[Lc,Oz _ _ (fun d hd=>by rw[hx.sz d hd];exact h.k2),l.b,hx.cnt,Lc]
  simp only[List.length_cons,List.length_nil,Nat.zero_add];omega
 ·rw[e]
  show((bA k A).m++mrk ((bA k A).mk' k x)).length=_
  rw[Lc,Qd0 _ ⟨by show(1:Int)<=(k:Int);have:=h.k1;omega,by show(k:Int)<=32;have:=h.k2;omega⟩,l.m,Lc]
  simp only[List.length_cons,List.length_nil];omega
theorem QbJ(k:Nat)(A B:List It):(bA k A).a <+: (bA k (A++B)).a∧(bA k A).b <+: (bA k (A++B)).b∧(bA k A).m <+: (bA k (A++B)).m:=by
 refine UN (P:=fun B=>(bA k A).a <+: (bA k (A++B)).a∧(bA k A).b <+: (bA k (A++B)).b∧(bA k A).m <+: (bA k (A++B)).m) (by simp) (fun B x ih=> ?_) B
 rw[<-Lw,QT];exact⟨ih.1.trans (Nk _ _),ih.2.1.trans (Nk _ _),ih.2.2.trans (Nk _ _)⟩
theorem Qbp(k:Nat)(A:List It)(j:Nat):(bA k (A.take j)).a <+: (bA k A).a∧(bA k (A.take j)).b <+: (bA k A).b∧(bA k (A.take j)).m <+: (bA k A).m:=by
 have:=QbJ k (A.take j) (A.drop j)
 rwa [Nv] at this
theorem OkA.mvok(h:OkA k (A++[x])):((bA k A).mk' k x).Ok:=by
 have l:=h.init.lens;have hx:=h.last;have hf:=h.few;simp only[List.length_append,List.length_cons,List.length_nil] at hf;have hm:=Us A.length (by omega)
 refine⟨by show(1:Int)<=(k:Int);have:=h.k1;omega,by show(k:Int)<=32;have:=h.k2;omega,?_,?_,?_⟩
 ·show(bA k A).ends.length+1<_;rw[l.ends];omega
 ·show lst (bA k A).ends+(pay x.1).length<_
  have:=l.a;have:=hx.len;rw[l.lst,pay_len];omega
 ·show nn ((bA k A).ends.length+1)*40<_;rw[l.ends];omega
theorem Qe1(p:Nat)(ds:LB)(t:List UInt8)(h:∀d∈ds,d.size<=32)(j:Nat)(d:BA)(hd:ds[j]? = some d):((Rc.Qj (QV p ds)++t).drop (40*j)).take 40=nod (p+j) d.data.toList:=by
 induction ds generalizing p j with
 | nil=>simp at hd
 | cons e ds ih=>
  rw[Qdh,YW,JA,Lw];have hl:(nod p e.data.toList).length=40:=Qam _ _ (by rw[Qb];exact h e (by simp))
  cases j with
  | zero=>
   simp only[List.getElem?_cons_zero,Option.some.injEq] at hd
   subst hd;rw[Nat.mul_zero,NM,Lu (by omega),Lp (by omega),Ik]
  | succ j=>
   simp only[List.getElem?_cons_succ] at hd
   rw[show 40*(j+1)=(nod p e.data.toList).length+40*j by omega,<-I0,IJ,ih (p+1) (fun x hx=>h x (LV _ hx)) j hd,show p+1+j=p+(j+1) by omega]
theorem Qfy(k:Nat)(b:List UInt8)(p:Nat)(ds:LB)(hk:k<=32)(h:∀d∈ds,d.size=k)(t:List UInt8)(hb:b.drop (40*p)=Rc.Qj (QV p ds)++t)(hpl:40*p<=b.length):∀j,j<=ds.length->rdN k b p j=some ((QV p ds).take j)
 | 0,_=>rfl
 | j+1,hj=>by
  have h32:∀d∈ds,d.size<=32:=fun d hd=>by rw[h d hd];exact hk
  obtain⟨d,hd⟩:∃d,ds[j]? = some d:=⟨_,Lk (by omega)⟩
  have hrow:Yd b (p+j)=nod (p+j) d.data.toList:=by
   rw[Yd,show 40*(p+j)=40*p+40*j by omega,<-I0,hb]
   exact Qe1 p ds t h32 j d hd
  have xB:d∈ds:=N8 hd;have xC:rnod k (p+j) (nod (p+j) d.data.toList)=some d.data.toList:=by
   have:=QfH (p+j) d.data.toList (by rw[Qb];exact h32 d xB)
   rwa [Qb,h d xB] at this
  have xA:40*(p+j)+40<=b.length:=by
   have e:=Lv List.length hb;rw[Ni,Lc,Oz p ds h32] at e;omega
  rw[rdN,Qfy k b p ds hk h t hb hpl j (by omega)]
  simp only;rw[Lf ⟨xA,by rw[hrow,xC];rfl⟩,hrow]
  have e2:(QV p ds)[j]? = some (tx (nod (p+j) d.data.toList)):=by
   unfold QV;rw[List.getElem?_mapIdx,hd];rfl
  rw[N9,e2];rfl
theorem Qid(x:List UInt8)(h:x.length<=1048576):whl (pay x)=true:=by
 have:=QfJ x [] h;rw[LU] at this;unfold whl;rw[this];simp[pay_len]
theorem Ql9(h:OkA k (A++[x])){N:List UInt8}(hI:(bA k (A++[x])).a <+: I)(hN:(bA k (A++[x])).b <+: N) :
  tkN k I N ((bA k A).ends,(bA k A).chain) (mrk ((bA k A).mk' k x))=some ((bA k (A++[x])).ends,(bA k (A++[x])).chain):=by
 have l:=h.init.lens;have l2:=h.lens;have hx:=h.last;have hf:=h.few;simp only[List.length_append,List.length_cons,List.length_nil] at hf;have hm:=Us A.length (by omega)
 obtain⟨tI,hI⟩:=hI;obtain⟨tN,hN⟩:=hN;rw[QT] at hI hN;have ei:((bA k A).mk' k x).items=(bA k A).a.length+(x.1.length+8):=by
  show lst (bA k A).ends+(pay x.1).length=_
  rw[l.lst,pay_len]
 have hp:(I.drop (lst (bA k A).ends)).take (((bA k A).mk' k x).items-lst (bA k A).ends)=pay x.1:=by
  rw[ei,l.lst,<-hI]
  show List.take _ (List.drop _ (((bA k A).a++pay x.1)++tI))=_
  exact OJ _ _ _ _ _ rfl (by rw[pay_len];omega)
 have hb:N.drop (40*nn A.length)=Rc.Qj (QV (nn A.length) x.2)++tN:=by
  rw[<-hN,<-l.b]
  show List.drop _ (((bA k A).b++Rc.Qj (QV (nn (bA k A).ends.length) x.2))++tN)=_
  rw[Lw,IJ,l.ends]
 have hr:=Qfy k N (nn A.length) x.2 h.k2 hx.sz tN hb (by rw[<-hN,<-l.b];show _<=(((bA k A).b++Rc.Qj (QV (nn (bA k A).ends.length) x.2))++tN).length;simp only[List.length_append];omega) x.2.length (La _)
 rw[Lp (by rw[JU];exact La _),hx.cnt] at hr
 have xA:I.length=(bA k A).a.length+(x.1.length+8)+tI.length:=by
  rw[<-hI]
  show(((bA k A).a++pay x.1)++tI).length=_
  simp only[List.length_append,pay_len]
 unfold tkN;rw[QlH _ h.mvok];simp only;rw[Le (by
  rw[hp,Qid _ hx.len,ei,l.lst,l.ends];simp;omega),l.ends,hr]
 simp only;rw[hp,Lf (by unfold BV.mk';rw[l.ends]),QT]
 rfl
theorem QhR(h:OkA k (A++[x]))(hM:(bA k (A++[x])).m <+: M):UJ M A.length=mrk ((bA k A).mk' k x):=by
 have l:=h.init.lens;obtain⟨t,hM⟩:=hM;rw[UJ,<-hM,QT]
 show List.take _ (List.drop _ (((bA k A).m++mrk ((bA k A).mk' k x))++t))=_
 exact OJ _ _ _ _ _ l.m (Qd0 _ ⟨by show(1:Int)<=(k:Int);have:=h.k1;omega,by show(k:Int)<=32;have:=h.k2;omega⟩)
theorem Qdu(A:List It)(j:Nat)(hj:j<A.length):A.take (j+1)=A.take j++[A[j]]:=LM hj
theorem QfV(h:OkA k A){N:List UInt8}(hI:(bA k A).a <+: I)(hN:(bA k A).b <+: N)(hM:(bA k A).m <+: M):∀j,j<=A.length->tkA k I N M j=some ((bA k (A.take j)).ends,(bA k (A.take j)).chain)
 | 0,_=>rfl
 | j+1,hj=>by
  have e:=Qdu A j (by omega)
  have hp:=Qbp k A (j+1);have ht:=h.take (j+1);rw[e] at hp ht;rw[tkA,QfV h hI hN hM j (by omega)]
  simp only;have hl:(A.take j).length=j:=by rw[Lx];omega
  have hr:=QhR ht (hp.2.2.trans hM);rw[hl] at hr;rw[hr,Ql9 ht (hp.1.trans hI) (hp.2.1.trans hN),e]
theorem QpD(m:MV)(h:1<=m.k∧m.k<=32):mrk m≠zer 64:=by
 unfold mrk;rw[Lf h];intro e;have:=Lv (fun l=>l.head?) e
 simp[sld,UT,zer] at this
theorem Qip(h:OkA k A)(ht:t.length<64∨t=zer 64):Ot ((bA k A).m++t)=A.length:=by
 have l:=h.lens;unfold Ot
 rcases ht with ht|rfl
 ·have hd:((bA k A).m++t).length/64=A.length:=by rw[Lc,l.m];omega
  rw[hd,Le];rintro⟨h0,hz⟩;obtain⟨B,x,rfl⟩:∃B x,A=B++[x]:=by
   rcases IM A with rfl|⟨B,x,rfl⟩
   ·simp at h0
   ·exact⟨B,x,List.concat_eq_append⟩
  have hr:=QhR h (Nk _ t);simp only[List.length_append,List.length_cons,List.length_nil,Nat.zero_add,Nat.add_sub_cancel] at hz;rw[hr] at hz;exact QpD _ ⟨by show(1:Int)<=(k:Int);have:=h.k1;omega,by show(k:Int)<=32;have:=h.k2;omega⟩ hz
 ·have hd:((bA k A).m++zer 64).length/64=A.length+1:=by rw[Lc,l.m,Qw];omega
  have hz:UJ ((bA k A).m++zer 64) (A.length+1-1)=zer 64:=by
   unfold UJ;rw[Nm,<-l.m,IJ,Lp (by rw[Qw];exact La _)]
  rw[hd,Lf ⟨by omega,hz⟩]
  omega
theorem Qg1(h:OkA k A){N:List UInt8}(hI:(bA k A).a <+: I)(hN:(bA k A).b <+: N)(ht:t.length<64∨t=zer 64):OF k I N ((bA k A).m++t)=some ((bA k A).ends,(bA k A).chain):=by
 rw[OF,Qip h ht,QfV h hI hN (Nk _ _) A.length (La _),Lp (La _)]
end St
namespace St.Rc
def mC(m:MV):Array Value:=#[.int .i64 m.k,.int .u64 m.size,.int .u64 m.items,.int .u64 m.nodes,.int .u32 m.chain.toNat]
def pC(g:Nat):Array Value:=#[.slice (Zp g) 4 4,.slice (some ⟨g,4,none⟩) 1 1,.slice (some ⟨g,8,none⟩) 8 8,.slice (some ⟨g,16,none⟩) 8 8,.slice (some ⟨g,24,none⟩) 8 8,.slice (some ⟨g,32,none⟩) 4 4]
structure Mk(w W:World)(m:MV)(bm g bp:Nat)(l:List UInt8):Prop where
 hm:W.heap[bm]? = some (.cells (mC m) 239 (0,0))
 hp:W.heap[bp]? = some (.cells (pC g) 339 (0,0))
 row:Byt W g l
 len:l.length=64
 nm:bm≠g
 np:bp≠g
 lg:w.heap.size<=g
 bel:Bl w W
variable{W W' w:World}{m:MV}{a b bm bp c d g k:Nat}{l l':List UInt8}
theorem Mk.cells(h:Mk w W m bm g bp l) :
  W.cell? ⟨bm,0,none⟩=some (.int .i64 m.k)∧W.cell? ⟨bm,1,none⟩=some (.int .u64 m.size)∧W.cell? ⟨bm,2,none⟩=some (.int .u64 m.items)∧W.cell? ⟨bm,3,none⟩=some (.int .u64 m.nodes)∧W.cell? ⟨bm,4,none⟩=some (.int .u32 m.chain.toNat) ∧
  W.cell? ⟨bp,0,none⟩=some (.slice (Zp g) 4 4)∧W.cell? ⟨bp,1,none⟩=some (.slice (some ⟨g,4,none⟩) 1 1)∧W.cell? ⟨bp,2,none⟩=some (.slice (some ⟨g,8,none⟩) 8 8)∧W.cell? ⟨bp,3,none⟩=some (.slice (some ⟨g,16,none⟩) 8 8)∧W.cell? ⟨bp,4,none⟩=some (.slice (some ⟨g,24,none⟩) 8 8)∧W.cell? ⟨bp,5,none⟩=some (.slice (some ⟨g,32,none⟩) 4 4):=by
 refine⟨?_,?_,?_,?_,?_,?_,?_,?_,?_,?_,?_⟩
 iterate 5 (rw[cell_of_row W bm _ _ _ (0,0) h.hm];rfl)
 iterate 6 (rw[cell_of_row W bp _ _ _ (0,0) h.hp];rfl)
theorem Mk.upo(h:Mk w W m bm g bp l)(hu:Upo (fun b=>b=g) W W')(hr:Byt W' g l')(hl:l'.length=64):Mk w W' m bm g bp l' :=
 ⟨(hu.block bm (Array.getElem?_eq_some_iff.1 h.hm).1 h.nm).trans h.hm,(hu.block bp (Array.getElem?_eq_some_iff.1 h.hp).1 h.np).trans h.hp,hr,hl,h.nm,h.np,h.lg,hu.since h.bel h.lg⟩
theorem Mk.put(h:Mk w W m bm g bp l)(off len n:Nat)(ho:off+len<=64)(h8:len<=8)(hn:n<18446744073709551616) :
  Calls prog 264 #[.slice (some ⟨g,off,none⟩) len len,.int .u64 n] W fun e w'=>e= .returned (.tuple #[])∧Mk w w' m bm g bp (ovr l off (big len n)):=by
 refine(Uv W g off len len n l h.row (by rw[h.len];exact ho) h8 hn).mono ?_
 rintro e w' ⟨rfl,hy,hu⟩;exact⟨rfl,h.upo hu hy (by rw[QbB _ _ _ (by rw[Qk,h.len];exact ho),h.len])⟩
theorem Qnq(k a b c d:Nat):ovr (ovr (ovr (ovr (ovr (ovr (zer 64) 0 [109,115,102,1]) 4 (big 1 k)) 8 (big 8 a)) 16 (big 8 b)) 24 (big 8 c)) 32 (big 4 d)=UT k a b c d++zer 4:=by
 have xA:zer 64=[]++zer 64:=rfl;rw[xA,YO [] _ _ 0 rfl,Nj,show([109,115,102,1]:List UInt8).length=4 from rfl,YO _ _ _ 4 rfl,Qk]
 rw[show zer (64-4-1)=zer 3++zer 56 from rfl,<-Lw,YO _ _ _ 8 (by simp[Qk,Qw]),Qk]
 rw[YO _ _ _ 16 (by simp[Qk,Qw]),Qk,YO _ _ _ 24 (by simp[Qk,Qw]),Qk,YO _ _ _ 32 (by simp[Qk,Qw]),Qk]
 rw[UT,show zer (56-8-8-8-4)=zer 24++zer 4 from rfl,Lw _ (zer 24)]
theorem Mk.first(h:Mk w W m bm g bp (zer 64)):∃W',(∀ty,(Builtin.copy_ #[127,9] ty #[.slice (Zp g) 4 4,.string ⟨#[109,115,102,1]⟩]).run prog W= .ok (goInt 4) W')∧Mk w W' m bm g bp (ovr (zer 64) 0 [109,115,102,1]):=by
 refine⟨W.setCells g 0 (cY [109,115,102,1]),fun ty=>Qcw ty (k:=0) (n:=4) (m:=4) (o:=0) h.row (by rw[Qw];decide) (fun _=>rfl) (La _),h.upo (Upo.sets (S:=fun b=>b=g) (.inl rfl) _ 0 _ (Upo.refl _ _)) (h.row.over 0 _ (by rw[Qw];decide)) ?_⟩
 rw[QbB _ _ _ (by rw[Qw];decide),Qw]
theorem Mk.seal(h:Mk w W m bm g bp (ovr (ovr (ovr (ovr (ovr (ovr (zer 64) 0 [109,115,102,1]) 4 (big 1 k)) 8 (big 8 a)) 16 (big 8 b)) 24 (big 8 c)) 32 (big 4 d)))(t:BA)(ht:(⟨(sld (UT k a b c d)).toArray⟩:BA)=t) :
  Calls prog 265 #[.slice (Zp g) 64 64] W fun e w'=>e= .returned (.string t)∧Bl w w':=by
 have hr:=h.row;have hl:=h.len;rw[Qnq] at hr hl;have xA:(UT k a b c d++zer 4).take (64-4)=UT k a b c d:=by
  rw[Lu (by rw[J5];decide),Lp (by rw[J5];decide)]
 refine(Jv W g 64 64 _ hr hl (by decide) (La _) (by decide) t (by rw[xA];exact ht)).mono ?_
 rintro e w' ⟨rfl,_,xB⟩;exact⟨rfl,xB.since h.bel h.lg⟩
theorem Qfe(w:World)(m:MV)(h1:m.size<18446744073709551616)(h2:m.items<18446744073709551616)(h3:m.nodes<18446744073709551616)(t:BA)(ht:(⟨(mrk m).toArray⟩:BA)=t) :
  Zr 177 #[.agg (mC m)] w (.string t):=by
 obtain⟨mk,ma,mb,mc,md⟩:=m;have HS:=fun W=>QaG W mk
 have h4:=md.isLt
 by_cases hk:1<=mk∧mk<=32
 ·rw[LW hk] at HS;rw[mrk,Lf hk] at ht;obtain⟨k,rfl⟩:∃k:Nat,mk=(k:Int):=⟨mk.toNat,by omega⟩
  simp only[Int.toNat_natCast] at ht h1 h2 h3;have hw:IntKind.u64.wrap (k:Int)=(k:Int):=by rw[IntKind.wrap_u64];omega
  obtain⟨d,hd⟩:=Ze md.toNat;have xJ:IntKind.u64.wrap (d:Int)=(d:Int):=by rw[IntKind.wrap_u64];omega
  have H4:Hid (k<18446744073709551616∧ma<18446744073709551616∧mb<18446744073709551616∧mc<18446744073709551616∧d<18446744073709551616):=⟨by omega,h1,h2,h3,by omega⟩
  have xE:∀u:World,(Instr.makeSlice 127 (.int .i64 64) (.int .i64 64)).run prog u= .ok (.slice (Zp u.heap.size) 64 64) (u.alloc (.cells (Array.replicate 64 (Value.int .u8 0)) 5)):=fun u=>UB 64 (by decide) u
  have xD:Hid (∀W g,Zr 273 #[.slice (Zp g) 64 64] W (mP g)):=fun W g=>Qcg W g 64 64 (by decide)
  obtain⟨xF,hz⟩:=Ze (Array.replicate 64 (Value.int .u8 0));rw[hz] at xE;have HZ:Hid (Array.replicate 64 (Value.int .u8 0)=xF):=hz;have HT:Hid ((⟨(sld (UT k ma mb mc d)).toArray⟩:BA)=t):=by rw[<-hd];exact ht
  clear ht hz h1 h2 h3 h4 hk;unfold mC;rw[hd]
  go_enter func177,ntmps177
  go_upto_region 5 with (first
   | (go_at_call 272;with_reducible refine(HS _).mono ?_;rintro e w1 ⟨rfl,rfl⟩)
   | (go_at_call 273;with_reducible refine(xD.out _ _).mono ?_;rintro e w2 ⟨rfl,hb⟩;unfold mP))
  obtain⟨w3,xC⟩:=Ze (w2.alloc (.cells (pC (w.heap.size+1)) 339));obtain⟨wa,xA⟩:=Ze (w.alloc (.cells (mC ⟨(k:Int),ma,mb,mc,md⟩) 239));have M3:Mk w w3 ⟨(k:Int),ma,mb,mc,md⟩ w.heap.size (w.heap.size+1) w2.heap.size (zer 64):=by
   have xB:=hb;unfold mC at xA;rw[hd] at xA;rw[xA] at xB;have xI:wa.heap.size=w.heap.size+1:=by rw[<-xA];simp
   have y0:Byt (wa.alloc (.cells xF 5)) (w.heap.size+1) (zer 64):=by
    rw[<-HZ.out,<-xI];exact O3 wa 64
   have s2:w.heap.size+2<=w2.heap.size:=by have:=xB.size;simp at this;omega
   have y2:=y0.next xB (by simp;omega)
   have m2:w2.heap[w.heap.size]? = some (.cells (mC ⟨(k:Int),ma,mb,mc,md⟩) 239 (0,0)):=by
    rw[xB.block _ (by simp;omega),(MapKept.heap_alloc wa _).2 _ (by omega),<-xA,Yc]
    unfold mC;rw[hd]
   have b2:Bl w w2:=Qa (by rw[<-xA];exact bal (bal (Lb _ _) _) _) xB
   rw[<-xC];exact⟨(MapKept.heap_alloc w2 _).2 _ (by omega) |>.trans m2,Yc _ _,y2.same ((MapKept.heap_alloc w2 _).2 _ (by omega)),Qw _,by omega,by omega,by omega,bal b2 _⟩
  unfold pC at xC;rw[xC];generalize w.heap.size+1=g at *;generalize w2.heap.size=bp at *;obtain⟨w4,xH,M⟩:=M3.first;have HM:Hid (∀W l,Mk w W ⟨(k:Int),ma,mb,mc,md⟩ w.heap.size g bp l->W.cell? ⟨w.heap.size,0,none⟩=some (.int .i64 k)∧W.cell? ⟨w.heap.size,1,none⟩=some (.int .u64 ma)∧W.cell? ⟨w.heap.size,2,none⟩=some (.int .u64 mb)∧W.cell? ⟨w.heap.size,3,none⟩=some (.int .u64 mc)∧W.cell? ⟨w.heap.size,4,none⟩=some (.int .u32 d) ∧
    W.cell? ⟨bp,0,none⟩=some (.slice (Zp g) 4 4)∧W.cell? ⟨bp,1,none⟩=some (.slice (some ⟨g,4,none⟩) 1 1)∧W.cell? ⟨bp,2,none⟩=some (.slice (some ⟨g,8,none⟩) 8 8)∧W.cell? ⟨bp,3,none⟩=some (.slice (some ⟨g,16,none⟩) 8 8)∧W.cell? ⟨bp,4,none⟩=some (.slice (some ⟨g,24,none⟩) 8 8)∧W.cell? ⟨bp,5,none⟩=some (.slice (some ⟨g,32,none⟩) 4 4)):=fun W l h=>by
   have:=h.cells;simp only[hd] at this;exact this
  have p0:=(HM.out _ _ M3).2.2.2.2.2.1;obtain⟨c0,c1,c2,c3,c4,_,q1,q2,q3,q4,q5⟩:=HM.out _ _ M;clear xC hd hb xD HS xE xA
  go_wp2_with (first
   | (refine UI (by rfl) _ _ _ _ (by rfl) (by rfl) (by rfl) (xH _) ?_)
   | (go_at_call 264;(first
     | (with_reducible refine(M.put 4 1 k (by decide) (by decide) H4.out.1).mono ?_)
     | (with_reducible refine(M.put 8 8 ma (by decide) (by decide) H4.out.2.1).mono ?_)
     | (with_reducible refine(M.put 16 8 mb (by decide) (by decide) H4.out.2.2.1).mono ?_)
     | (with_reducible refine(M.put 24 8 mc (by decide) (by decide) H4.out.2.2.2.1).mono ?_)
     | (with_reducible refine(M.put 32 4 d (by decide) (by decide) H4.out.2.2.2.2).mono ?_));rintro e w5 ⟨rfl,M⟩;obtain⟨c0,c1,c2,c3,c4,_,q1,q2,q3,q4,q5⟩:=HM.out _ _ M)
   | (go_at_call 265;with_reducible refine(M.seal t HT.out).mono ?_;rintro e w6 ⟨rfl,xG⟩))
  go_ret
  exact⟨rfl,xG⟩
 ·rw[LA hk] at HS;rw[mrk,Le hk] at ht;subst ht;unfold mC
  go_enter func177,ntmps177
  go_wp2_with (go_at_call 272;with_reducible refine(HS _).mono ?_;rintro e w1 ⟨rfl,rfl⟩)
  go_ret
  exact⟨rfl,bal (Lb _ _) _⟩
end St.Rc
namespace St
open Rc
variable{B g:Nat}{W w:World}
theorem bdw(h:Below B w W):Below B w W.drew:=⟨h.os,h.tape,h.output,h.size,h.block⟩
theorem Qqn(h:Bl w W)(hg:w.heap.size<=g)(a b c d e:Value):Bl w (((((W.setCell ⟨g,0,none⟩ a).setCell ⟨g,1,none⟩ b).setCell ⟨g,2,none⟩ c).setCell ⟨g,3,none⟩ d).setCell ⟨g,4,none⟩ e) :=
 Upo.below (S:=fun _=>False) (((((Upo.of h).set g 0 a (.inr hg)).set g 1 b (.inr hg)).set g 2 c (.inr hg)).set g 3 d (.inr hg) |>.set g 4 e (.inr hg)) (La _) (fun _ q=>q.elim)
theorem Qob{x0 x1 x2 x3 x4:Value}{T:TypeId}(h:W.heap[g]? = some (.cells #[x0,x1,x2,x3,x4] T (0,0)))(a b c d e:Value):(((((W.setCell ⟨g,0,none⟩ a).setCell ⟨g,1,none⟩ b).setCell ⟨g,2,none⟩ c).setCell ⟨g,3,none⟩ d).setCell ⟨g,4,none⟩ e).heap[g]? = some (.cells #[a,b,c,d,e] T (0,0)):=by
 have h1:(W.setCell ⟨g,0,none⟩ a).heap[g]? = some (.cells #[a,x1,x2,x3,x4] T (0,0)):=Lm W g 0 _ _ a h;have h2:((W.setCell ⟨g,0,none⟩ a).setCell ⟨g,1,none⟩ b).heap[g]? = some (.cells #[a,b,x2,x3,x4] T (0,0)):=Lm _ g 1 _ _ b h1;have h3:(((W.setCell ⟨g,0,none⟩ a).setCell ⟨g,1,none⟩ b).setCell ⟨g,2,none⟩ c).heap[g]? = some (.cells #[a,b,c,x3,x4] T (0,0)):=Lm _ g 2 _ _ c h2;have h4:((((W.setCell ⟨g,0,none⟩ a).setCell ⟨g,1,none⟩ b).setCell ⟨g,2,none⟩ c).setCell ⟨g,3,none⟩ d).heap[g]? = some (.cells #[a,b,c,d,x4] T (0,0)):=Lm _ g 3 _ _ d h3;exact Lm _ g 4 _ _ e h4
section
variable {q p:Nat} {T:Nat->Prop} {D:DV} {S:SV}
theorem Qpe(c:BitVec 32)(s:List UInt8)(ss:LB):chn c s ss<4294967296:=Qkf _
theorem Qc0(w:World)(h:Sk w q p T D S)(s:BA)(hs:s.size<=1073741824)(ao:OA)(b off len cap:Nat)(ss:LB)(hr:RdS w ao b off len ss)(hmx:len<=9223372036854775807)(m:MV)(hm:nxM S.k S.ends S.chain s.data.toList ss=m) :
  Zr 169 #[Pq q,.string s,.slice ao len cap] w (.agg (mC m)):=by
 obtain⟨xI,xJ,hf,_,_,hl⟩:=h.small;have hb:=OD (S.ends.length+1);have xH:=Qpe S.chain s.data.toList ss;obtain⟨cv,xE⟩:=Ze (chn S.chain s.data.toList ss);have hz:=Qb s;have em:mC m=#[.int .i64 S.k,.int .u64 ((S.ends.length:Int)+1),.int .u64 ((lst S.ends:Int)+(s.size:Int)),.int .u64 ((nn (S.ends.length+1):Int)*40),.int .u32 cv]:=by
  rw[<-hm,mC,nxM,hz,xE];simp only[BitVec.toNat_ofNat];rw[Nt (by omega)]
  simp
 rw[em];obtain⟨w1,xC⟩:=Ze (w.alloc (.cells #[.int .i64 0,.int .u64 0,.int .u64 0,.int .u64 0,.int .u32 0] 239));have u1:Bl w w1:=by rw[<-xC];exact bal (Lb _ _) _
 obtain⟨bo,xD⟩:=Ze w.heap.size;obtain⟨ea,ec,xB⟩:=h.seen;have HC:Hid (∀W,Bl w W->W.cell? ⟨q,1,none⟩=some (.int .i64 S.k)∧W.cell? ⟨q,2,none⟩=some (.slice ea S.ends.length ec)∧W.cell? ⟨q,3,none⟩=some (.int .u32 S.chain.toNat)):=fun W hW=>⟨(xB W hW).2.1,(xB W hW).2.2.1,(xB W hW).2.2.2.1⟩
 have HS:Hid (∀W,Bl w W->Re 74 #[Pq q] W (.int .u64 S.ends.length)):=fun W hW=>YX W (h.next hW)
 have HL:Hid (∀W,Bl w W->Re 155 #[Pq q,.string ⟨#[105,116,101,109,115]⟩] W (.int .i64 (lst S.ends:Int))):=fun W hW=>YN W (h.next hW)
 have HN:Hid (∀W,Re 245 #[.int .i64 ((S.ends.length:Int)+1)] W (.int .u64 (nn (S.ends.length+1):Int))):=fun W=>by
  have:=Q6 W (S.ends.length+1) (by omega)
  rw[IR] at this;exact this
 have HK:Hid (∀W,Bl w W->Calls prog 267 #[.int .u32 S.chain.toNat,.string s,.slice ao len cap] W fun e w'=>e= .returned (.int .u32 cv)∧Bl w w'∧Bl W w'):=fun W hW=>
  (Qim W S.chain s (by omega) ao b off len cap ss (hr.next hW (La _)) hmx cv xE).mono fun e w' z=>⟨z.1,Qa hW z.2,z.2⟩
 clear hr xB h hm em xE hz xH;generalize S.chain.toNat=cc at *;generalize nn (S.ends.length+1)=m1 at *;generalize lst S.ends=l1 at *;generalize S.k=k at *;generalize S.ends.length=n at *;generalize hsz:s.size=sz at *;have e1:IntKind.u64.wrap ((n:Int)+1)=(n:Int)+1:=Y5 _ (by omega) (by omega)
 have e2:IntKind.i64.wrap ((n:Int)+1)=(n:Int)+1:=by rw[Lq];omega
 have e3:IntKind.i64.wrap ((l1:Int)+(sz:Int))=(l1:Int)+(sz:Int):=by rw[Lq];omega
 have e4:IntKind.u64.wrap ((l1:Int)+(sz:Int))=(l1:Int)+(sz:Int):=Y5 _ (by omega) (by omega)
 have e5:IntKind.u64.wrap ((m1:Int)*40)=(m1:Int)*40:=Y5 _ (by omega) (by omega)
 have H5:Hid (∀W a b c d e,Bl w W->Bl w (((((W.setCell ⟨bo,0,none⟩ a).setCell ⟨bo,1,none⟩ b).setCell ⟨bo,2,none⟩ c).setCell ⟨bo,3,none⟩ d).setCell ⟨bo,4,none⟩ e)):=fun W a b c d e hW=>Qqn hW (by omega) a b c d e
 have xF:Hid (∀W a b c d e,Bl w W->(((((W.setCell ⟨bo,0,none⟩ a).setCell ⟨bo,1,none⟩ b).setCell ⟨bo,2,none⟩ c).setCell ⟨bo,3,none⟩ d).setCell ⟨bo,4,none⟩ e).cell? ⟨q,1,none⟩=some (.int .i64 k)∧(((((W.setCell ⟨bo,0,none⟩ a).setCell ⟨bo,1,none⟩ b).setCell ⟨bo,2,none⟩ c).setCell ⟨bo,3,none⟩ d).setCell ⟨bo,4,none⟩ e).cell? ⟨q,2,none⟩=some (.slice ea n ec)∧(((((W.setCell ⟨bo,0,none⟩ a).setCell ⟨bo,1,none⟩ b).setCell ⟨bo,2,none⟩ c).setCell ⟨bo,3,none⟩ d).setCell ⟨bo,4,none⟩ e).cell? ⟨q,3,none⟩=some (.int .u32 cc)):=fun W a b c d e hW=>HC.out _ (H5.out W a b c d e hW)
 have HW:=Qc xC;have HB:=Qc xD;have xA:w1.heap[bo]? = some (.cells #[.int .i64 0,.int .u64 0,.int .u64 0,.int .u64 0,.int .u32 0] 239 (0,0)):=by rw[<-xC,<-xD];exact Yc _ _
 have HO:Hid (∀W,Below w1.drew.heap.size w1.drew W -> ∀j,W.frozen? ⟨bo,j,none⟩=false):=fun W hW j=>frozen_of_row W bo j _ _ ((hW.block bo (Array.getElem?_eq_some_iff.1 xA).1).trans xA)
 have HP:Hid (∀W,Below w1.drew.heap.size w1.drew W->W.heap[bo]? = some (.cells #[.int .i64 0,.int .u64 0,.int .u64 0,.int .u64 0,.int .u32 0] 239 (0,0))):=fun W hW=>(hW.block bo (Array.getElem?_eq_some_iff.1 xA).1).trans xA
 clear xA;clear xC xD
 go_enter func169,ntmps169
 go_upto_region 1 with (fail)
 rw[HW.out,HB.out];have u:=bdw u1
 go_region_held3 (fun Z=>Z.cell? ⟨q,1,none⟩=some (.int .i64 k)∧Z.cell? ⟨q,2,none⟩=some (.slice ea n ec)∧Z.cell? ⟨q,3,none⟩=some (.int .u32 cc)) (first|assumption|(with_reducible exact xF.out _ _ _ _ _ _ u)|(with_reducible exact HC.out _ u)) (first
  | (go_at_call 74;(with_reducible refine(HS.out _ u).mono ?_);rintro e w2 ⟨rfl,rfl⟩)
  | (go_at_call 155;(with_reducible refine(HL.out _ u).mono ?_);rintro e w2 ⟨rfl,rfl⟩)
  | (go_at_call 245;(with_reducible refine(HN.out _).mono ?_);rintro e w2 ⟨rfl,rfl⟩)
  | (go_at_call 267;(with_reducible refine(HK.out _ u).mono ?_);rintro e w2 ⟨rfl,u,u2⟩;have xG:=HO.out _ u2;have ⟨b0,b1,b2,b3,b4⟩:=Ys (HP.out _ u2)))
 all_goals
  have z5:=H5.out w2 (.int .i64 k) (.int .u64 ((n:Int)+1)) (.int .u64 ((l1:Int)+(sz:Int))) (.int .u64 ((m1:Int)*40)) (.int .u32 cv) u;have z6:=Ys (Qob (HP.out _ u2) (.int .i64 k) (.int .u64 ((n:Int)+1)) (.int .u64 ((l1:Int)+(sz:Int))) (.int .u64 ((m1:Int)*40)) (.int .u32 cv));clear H5 xF HC HS HL HN HK HO HP xG b0 b1 b2 b3 b4;generalize (((((w2.setCell ⟨bo,0,none⟩ (.int .i64 k)).setCell ⟨bo,1,none⟩ (.int .u64 ((n:Int)+1))).setCell ⟨bo,2,none⟩ (.int .u64 ((l1:Int)+(sz:Int)))).setCell ⟨bo,3,none⟩ (.int .u64 ((m1:Int)*40))).setCell ⟨bo,4,none⟩ (.int .u32 cv))=wz at *;obtain⟨y0,y1,y2,y3,y4⟩:=z6
  repeat go_step
  exact LD (v := .agg #[.int .i64 k,.int .u64 ((n:Int)+1),.int .u64 ((l1:Int)+(sz:Int)),.int .u64 ((m1:Int)*40),.int .u32 cv]) (by simp[results,results169,go_sem,y0,y1,y2,y3,y4]) rfl ⟨rfl,z5⟩
end
end St
section
open Go.Shelf
def Tryz.lays156_ren:Go.Shelf.Ren:=⟨fun|156=>173|165=>269|166=>270|169=>271|240=>345|241=>346|276=>395|277=>396|n=>n,fun|31=>22|9=>9|3=>3|4=>4|0=>0|20=>20|72=>330|76=>334|70=>328|37=>127|75=>333|127=>392|164=>320|5=>5|80=>336|n=>n,fun|n=>n⟩
theorem Tryz.lays156:Go.Proofs.Lays.n156 prog Tryz.lays156_ren := {
 mixed:=by kernel_rfl
 f156:=func173.trans (Lv some (by kernel_rfl))
 f165:=func269.trans (Lv some (by kernel_rfl))
 f166:=func270.trans (Lv some (by kernel_rfl))
 f169:=func271.trans (Lv some (by kernel_rfl))
 f240:=func345.trans (Lv some (by kernel_rfl))
 f241:=func346.trans (Lv some (by kernel_rfl))
 f276:=func395.trans (Lv some (by kernel_rfl))
 f277:=func396.trans (Lv some (by kernel_rfl))
 t0:=underlying0
 a0:=Tryz.isAgg0
 z0:=Tryz.sizeOf0
 v0:=Tryz.zeroValue0
 t3:=underlying3
 a3:=Tryz.isAgg3
 z3:=Tryz.sizeOf3
 v3:=Tryz.zeroValue3
 t4:=underlying4
 a4:=Tryz.isAgg4
 z4:=Tryz.sizeOf4
 v4:=Tryz.zeroValue4
 t9:=underlying9
 a9:=Tryz.isAgg9
 z9:=Tryz.sizeOf9
 v9:=Tryz.zeroValue9
 t20:=underlying20
 a20:=Tryz.isAgg20
 z20:=Tryz.sizeOf20
 v20:=Tryz.zeroValue20
 t31:=underlying22
 a31:=Tryz.isAgg22
 z31:=Tryz.sizeOf22
 v31:=Tryz.zeroValue22
 t37:=underlying127
 a37:=Tryz.isAgg127
 z37:=Tryz.sizeOf127
 v37:=Tryz.zeroValue127
 t70:=underlying328
 a70:=Tryz.isAgg328
 z70:=Tryz.sizeOf328
 v70:=Tryz.zeroValue328
 t72:=underlying330
 a72:=Tryz.isAgg330
 z72:=Tryz.sizeOf330
 v72:=Tryz.zeroValue330
 t75:=underlying333
 a75:=Tryz.isAgg333
 z75:=Tryz.sizeOf333
 v75:=Tryz.zeroValue333
 t76:=underlying334
 a76:=Tryz.isAgg334
 z76:=Tryz.sizeOf334
 v76:=Tryz.zeroValue334
 t127:=underlying392
 a127:=Tryz.isAgg392
 z127:=Tryz.sizeOf392
 v127:=Tryz.zeroValue392
 t164:=underlying320
 a164:=Tryz.isAgg320
 z164:=Tryz.sizeOf320
 v164:=Tryz.zeroValue320 }
theorem Tryz.Builder_Extra_156:Builder.Extra prog Tryz.lays156_ren := {
 sizeBuilder:=by kernel_rfl
 liesBuilder:=by kernel_rfl
 t5:=underlying5
 a5:=Tryz.isAgg5
 z5:=Tryz.sizeOf5
 v5:=Tryz.zeroValue5
 infoByte:=by kernel_rfl
 cellsByte:=by kernel_rfl
 sizeByte:=by kernel_rfl
 neB5:=by decide }
theorem Tryz.strings_Join_none(a:OA)(c:Nat)(sep:BA)(w:World) :
  Re 173 #[.slice a 0 c,.string sep] w (.string ⟨#[]⟩):=Any.strings_Join_none Tryz.lays156 Tryz.Builder_Extra_156 a c sep w
theorem Tryz.strings_Join(bk o c:Nat)(xs:LB)(sep:BA)(w:World)(hcells:∀(j:Nat) x,xs[j]? = some x->w.cell? ⟨bk,o+j,none⟩=some (.string x))(hbk:bk<w.heap.size)(hN:xs.length<=140737488355328)(hcap:xs.length<=c)(hlen:(Lib.join (xs.map (·.data.toList)) sep.data.toList).length<=140737488355328) :
  Zr 173 #[.slice (some ⟨bk,o,none⟩) xs.length c,.string sep] w (.string ⟨(Lib.join (xs.map (·.data.toList)) sep.data.toList).toArray⟩):=Any.strings_Join Tryz.lays156 Tryz.Builder_Extra_156 bk o c xs sep w hcells hbk hN hcap hlen
theorem Qc7(D:LB):Lib.join (D.map (·.data.toList)) []=YL D:=by
 cases D with
 | nil=>rfl
 | cons d D=>rw[ID,Lib.join_cons,YW];simp[Lib.joinTail,YL];rfl
theorem QiE(w:World)(da:OA)(db dO dc:Nat)(D:LB)(rd:RdS w da db dO D.length D)(hc:D.length<=dc)(hD:D.length<=140737488355328)(hl:(YL D).length<=140737488355328) :
  Zr 173 #[.slice da D.length dc,.string ByteArray.empty] w (.string ⟨(YL D).toArray⟩):=by
 have he:ByteArray.empty.data.toList=[]:=rfl
 by_cases h0:D.length=0
 ·have:D=[]:=List.length_eq_zero_iff.1 h0;subst this;exact(Tryz.strings_Join_none da dc ByteArray.empty w).mono fun e w' h=>⟨h.1,by rw[h.2];exact Lb _ _⟩
 ·obtain rfl:=rd.ptr (by omega)
  have h:=Tryz.strings_Join db dO dc D ByteArray.empty w (fun j x hx=>rd.rng j _ (by rw[No,hx];rfl)) (rd.lt (by omega)) hD hc (by rw[he,Qc7];exact hl)
  rw[he,Qc7] at h;exact h
end
namespace St
open Go.Shelf
open Go.RowKit in
theorem Tryz.strings_Join_none(a:OA)(c:Nat)(sep:BA)(w:World) :
  Re 173 #[.slice a 0 c,.string sep] w (.string ⟨#[]⟩):=Any.strings_Join_none Tryz.lays156 Tryz.Builder_Extra_156 a c sep w
open Go.RowKit in
theorem Tryz.strings_Join(bk o c:Nat)(xs:LB)(sep:BA)(w:World)(hcells:∀(j:Nat) x,xs[j]? = some x->w.cell? ⟨bk,o+j,none⟩=some (.string x))(hbk:bk<w.heap.size)(hN:xs.length<=140737488355328)(hcap:xs.length<=c)(hlen:(Lib.join (xs.map (·.data.toList)) sep.data.toList).length<=140737488355328) :
  Zr 173 #[.slice (some ⟨bk,o,none⟩) xs.length c,.string sep] w (.string ⟨(Lib.join (xs.map (·.data.toList)) sep.data.toList).toArray⟩):=Any.strings_Join Tryz.lays156 Tryz.Builder_Extra_156 bk o c xs sep w hcells hbk hN hcap hlen
def Tryz.lays105_ren:Go.Shelf.Ren:=⟨fun|105=>242|212=>325|99=>326|165=>269|166=>270|170=>327|169=>271|263=>390|264=>391|206=>392|240=>345|241=>346|276=>395|277=>396|n=>n,fun|9=>9|3=>3|4=>4|20=>20|0=>0|46=>276|109=>380|5=>5|72=>330|76=>334|51=>110|146=>414|53=>48|148=>416|70=>328|37=>127|75=>333|127=>392|164=>320|80=>336|n=>n,fun|n=>n⟩
theorem Tryz.lays105:Go.Proofs.Lays.n105 prog Tryz.lays105_ren := {
 mixed:=by kernel_rfl
 f99:=func326.trans (Lv some (by kernel_rfl))
 f105:=func242.trans (Lv some (by kernel_rfl))
 f165:=func269.trans (Lv some (by kernel_rfl))
 f166:=func270.trans (Lv some (by kernel_rfl))
 f169:=func271.trans (Lv some (by kernel_rfl))
 f170:=func327.trans (Lv some (by kernel_rfl))
 f206:=func392.trans (Lv some (by kernel_rfl))
 f212:=func325.trans (Lv some (by kernel_rfl))
 f240:=func345.trans (Lv some (by kernel_rfl))
 f241:=func346.trans (Lv some (by kernel_rfl))
 f263:=func390.trans (Lv some (by kernel_rfl))
 f264:=func391.trans (Lv some (by kernel_rfl))
 f276:=func395.trans (Lv some (by kernel_rfl))
 f277:=func396.trans (Lv some (by kernel_rfl))
 t0:=underlying0
 a0:=Tryz.isAgg0
 z0:=Tryz.sizeOf0
 v0:=Tryz.zeroValue0
 t3:=underlying3
 a3:=Tryz.isAgg3
 z3:=Tryz.sizeOf3
 v3:=Tryz.zeroValue3
 t4:=underlying4
 a4:=Tryz.isAgg4
 z4:=Tryz.sizeOf4
 v4:=Tryz.zeroValue4
 t5:=underlying5
 a5:=Tryz.isAgg5
 z5:=Tryz.sizeOf5
 v5:=Tryz.zeroValue5
 t9:=underlying9
 a9:=Tryz.isAgg9
 z9:=Tryz.sizeOf9
 v9:=Tryz.zeroValue9
 t20:=underlying20
 a20:=Tryz.isAgg20
 z20:=Tryz.sizeOf20
 v20:=Tryz.zeroValue20
 t37:=underlying127
 a37:=Tryz.isAgg127
 z37:=Tryz.sizeOf127
 v37:=Tryz.zeroValue127
 t46:=underlying276
 a46:=Tryz.isAgg276
 z46:=Tryz.sizeOf276
 v46:=Tryz.zeroValue276
 t51:=underlying110
 a51:=Tryz.isAgg110
 z51:=Tryz.sizeOf110
 v51:=Tryz.zeroValue110
 t53:=underlying48
 a53:=Tryz.isAgg48
 z53:=Tryz.sizeOf48
 v53:=Tryz.zeroValue48
 t70:=underlying328
 a70:=Tryz.isAgg328
 z70:=Tryz.sizeOf328
 v70:=Tryz.zeroValue328
 t72:=underlying330
 a72:=Tryz.isAgg330
 z72:=Tryz.sizeOf330
 v72:=Tryz.zeroValue330
 t75:=underlying333
 a75:=Tryz.isAgg333
 z75:=Tryz.sizeOf333
 v75:=Tryz.zeroValue333
 t76:=underlying334
 a76:=Tryz.isAgg334
 z76:=Tryz.sizeOf334
 v76:=Tryz.zeroValue334
 t109:=underlying380
 a109:=Tryz.isAgg380
 z109:=Tryz.sizeOf380
 v109:=Tryz.zeroValue380
 t127:=underlying392
 a127:=Tryz.isAgg392
 z127:=Tryz.sizeOf392
 v127:=Tryz.zeroValue392
 t146:=underlying414
 a146:=Tryz.isAgg414
 z146:=Tryz.sizeOf414
 v146:=Tryz.zeroValue414
 t148:=underlying416
 a148:=Tryz.isAgg416
 z148:=Tryz.sizeOf416
 v148:=Tryz.zeroValue416
 t164:=underlying320
 a164:=Tryz.isAgg320
 z164:=Tryz.sizeOf320
 v164:=Tryz.zeroValue320 }
theorem Tryz.Builder_Extra_105:Builder.Extra prog Tryz.lays105_ren := {
 sizeBuilder:=by kernel_rfl
 liesBuilder:=by kernel_rfl
 t5:=underlying5
 a5:=Tryz.isAgg5
 z5:=Tryz.sizeOf5
 v5:=Tryz.zeroValue5
 infoByte:=by kernel_rfl
 cellsByte:=by kernel_rfl
 sizeByte:=by kernel_rfl
 neB5:=by decide }
open Go.RowKit Go.Lib in
theorem Tryz.strings_Repeat_main(s:BA)(c:Nat)(w:World)(hc2:2<=c)(hc:c<=9223372036854775807)(hlen:s.size*c<=140737488355328)(h0:0<s.size) :
  Zr 242 #[.string s,.int .i64 c] w (.string ⟨(Lib.repeatL s.data.toList c).toArray⟩):=Any.strings_Repeat_main Tryz.lays105 Tryz.Builder_Extra_105 s c w hc2 hc hlen h0
end St
namespace St
open Rc
section
variable {q p:Nat} {T:Nat->Prop} {D:DV} {S:SV}
variable{W w w1 w2:World}{D':DV}{S' S2:SV}
theorem SkM.cell(h:SkM w W q p T D' S'){b i:Nat}{v:Value}(hc:w.cell? ⟨b,i,none⟩=some v)(hT:¬T b):W.cell? ⟨b,i,none⟩=some v:=by
 obtain⟨T',_,_,h3⟩:=h;exact(LE (a:=⟨b,i,none⟩) (h3.block b (Lo _ _ hc) hT)).trans hc
theorem QW{T1:Nat->Prop}{D2:DV}(a2:∀x,T1 x->T x∨w.heap.size<=x)(a3:Upo T w w1)(h:SkM w1 w2 q p T1 D2 S2):SkM w w2 q p T D2 S2:=by
 obtain⟨T2,b1,b2,b3⟩:=h;refine⟨T2,b1,fun x hx=> ?_,a3.trans b3 (fun x hx ht=> ?_)⟩
 ·rcases b2 x hx with e|e
  ·exact a2 x e
  ·exact .inr (Lr a3.size e)
 ·rcases a2 x ht with e|e
  ·exact e
  ·omega
theorem SkM.limp(h:SkM w W q p T D' S):(W.cell? ⟨q,4,none⟩=some (.bool S.lame)∧W.frozen? ⟨q,4,none⟩=false)∧SkM w (W.setCell ⟨q,4,none⟩ (.bool true)) q p T D' { S with lame:=true } := by
 obtain⟨T',⟨S0,v,d1,d2,d3,d4,d5⟩,h2,h3⟩:=h;refine⟨⟨(Ys d2.blk).2.2.2.2,frozen_of_row W q 4 _ _ d2.blk⟩,T',⟨S0,v,?_,⟨Lm W q 4 _ _ _ d2.blk,Qy d2.own (fun g hg=>Below.heap_setCell _ _ _ _ (d4 g hg).1),d2.k1,d2.k2,d2.few,d2.low⟩,d3,d4,d5⟩,h2,h3.set q 4 _ ?_⟩
 ·exact d1.same (fun x hx=>Below.heap_setCell _ _ _ _ (fun e=>d3 (show S0 q from(show x=q from e) ▸ hx)))
 ·exact h2 q ((d5 q).2 (.inr (.inl rfl)))
theorem bdz(w:World):Bl w w.drew:=bdw (Lb _ _)
theorem Qg4(w:World)(h:Sk w q p T D S)(hr:Rmy D)(s t:BA)(hs:s.size<=maxLen)(ht:t.size<=140737488355328)(n:Nat)(hn:n<=9223372036854775807)(HL:Hid (∀W,Sk W q p T D S->Re 155 #[Pq q,.string s] W (.int .i64 n)))(D':DV)(r:Int)(hD:wrD D s.data.toList (n:Int) t.data.toList=(D',r)) :
  Calls prog 171 #[Pq q,.string s,.string t] w fun e w'=>e= .returned (.int .i64 r)∧SkM w w' q p T D' S:=by
 have HW:Hid (∀W,Sk W q p T D S->Bl w W->Calls prog 268 #[Pq p,.string s,.int .i64 n,.string t] W fun e w'=>e= .returned (.int .i64 r)∧SkM w w' q p T D' S):=fun W hW hb=>by
  have:=hW.write hr s t hs n (by omega) (by omega) ht
  rw[hD] at this;exact this.mono fun e w' z=>⟨z.1,z.2.first hb⟩
 have HC:Hid (∀W,Sk W q p T D S->W.cell? ⟨q,0,none⟩=some (Pq p)):=fun W hW=>by
  obtain⟨_,_,⟨c0,_⟩,_⟩:=hW.cells;exact c0
 have xA:Hid (∀W,SkM w W q p T D' S->W.cell? ⟨q,0,none⟩=some (Pq p)):=fun W hW=>by
  obtain⟨T',hW,_⟩:=hW;obtain⟨_,_,⟨c0,_⟩,_⟩:=hW.cells;exact c0
 have tw:=h.next (bdz w);have ub:=bdz w;have c0:=HC.out _ h;clear h hr hs ht hn hD
 go_enter func171,ntmps171
 go_upto_region 1 with (fail)
 go_region_held3 (fun Z=>Z.cell? ⟨q,0,none⟩=some (Pq p)) (first|assumption|(with_reducible exact xA.out _ t3)|(with_reducible exact HC.out _ tw)) (first
  | (go_at_call 155;(with_reducible refine(HL.out _ tw).mono ?_);rintro e w2 ⟨rfl,rfl⟩)
  | (go_at_call 268;(with_reducible refine(HW.out _ tw ub).mono ?_);rintro e w3 ⟨rfl,t3⟩))
 all_goals
  go_wp2
  go_ret
  exact⟨rfl,t3⟩
theorem Qb8(w:World)(ao:OA)(b off len cap:Nat)(ss:LB)(hr:RdS w ao b off len ss)(hc:len<=cap)(hl:len<=1000)(hf:(Rc.Qj ss).length<=140737488355328) :
  Zr 173 #[.slice ao len cap,.string ⟨#[]⟩] w (.string (tx (Rc.Qj ss))):=by
 have hj:Lib.join (ss.map (·.data.toList)) []=Rc.Qj ss:=by
  cases ss with
  | nil=>rfl
  | cons d r=>rw[ID,Lib.join_cons];simp[Lib.joinTail,Rc.Qj];rfl
 by_cases h0:0<len
 ·obtain rfl:=hr.ptr h0;have xA:=hr.hl;subst xA;have:=Tryz.strings_Join b off cap ss ⟨#[]⟩ w (fun j x hx=>hr.rng j _ (by rw[No,hx];rfl)) (hr.lt h0) (by omega) hc (by rw[show(ByteArray.mk #[]).data.toList=[] from rfl,hj];exact hf)
  rw[show(ByteArray.mk #[]).data.toList=[] from rfl,hj] at this
  exact this
 ·obtain rfl:len=0:=by omega
  have:ss=[]:=List.length_eq_zero_iff.1 hr.hl;subst this;exact(Tryz.strings_Join_none ao cap ⟨#[]⟩ w).mono fun e w' h=>⟨h.1,by rw[h.2];exact Lb _ _⟩
theorem QjB(w:World)(h:Sk w q p T D S)(hr:Rmy D)(bs bp:Nat)(hcs:w.cell? ⟨bs,0,none⟩=some (Pq q))(t:BA)(hcp:w.cell? ⟨bp,0,none⟩=some (.string t))(ht:t.size<=140737488355328)(D':DV)(r:Int)(hD:wrD D nmI (lst S.ends:Int) t.data.toList=(D',r)) :
  Calls prog 170 #[Pq bs,Pq bp] w fun e w'=>e= .returned (.int .i64 r)∧SkM w w' q p T D' S:=by
 have HW:=Qc (Qg4 w h hr ⟨#[105,116,101,109,115]⟩ t (by decide) ht (lst S.ends) (by have:=h.small.2.2.2.2.2;omega) (fun W hW=>YN W hW) D' r hD)
 clear h hr hD
 go_enter func170,ntmps170
 go_wp2_with (go_at_call 171;refine HW.out.mono ?_;rintro e w1 ⟨rfl,t1⟩)
 go_ret
 exact⟨rfl,t1⟩
theorem QjC(w:World)(h:Sk w q p T D S)(hr:Rmy D)(bs br:Nat)(hcs:w.cell? ⟨bs,0,none⟩=some (Pq q))(ao:OA)(b off len cap:Nat)(ss:LB)(hcr:w.cell? ⟨br,0,none⟩=some (.slice ao len cap))(hrd:RdS w ao b off len ss)(hc:len<=cap)(hl:len<=1000)(hf:(Rc.Qj ss).length<=1000000)(ns:¬T bs)(nr:¬T br)(D':DV)(r:Int)(hD:wrD D nmN ((nn S.ends.length*40:Nat):Int) (Rc.Qj ss)=(D',r)) :
  Calls prog 172 #[Pq bs,Pq br] w fun e w'=>e= .returned (.int .i64 r)∧SkM w w' q p T D' S:=by
 have HJ:Hid (∀W,Bl w W->Calls prog 173 #[.slice ao len cap,.string ⟨#[]⟩] W fun e w'=>e= .returned (.string (tx (Rc.Qj ss)))∧Bl w w'):=fun W hW=>(Qb8 W ao b off len cap ss (hrd.next hW (La _)) hc hl (by omega)).mono fun e w' z=>⟨z.1,Qa hW z.2⟩
 have HW:Hid (∀W,Bl w W->Calls prog 171 #[Pq q,.string ⟨#[110,111,100,101,115]⟩,.string (tx (Rc.Qj ss))] W fun e w'=>e= .returned (.int .i64 r)∧SkM w w' q p T D' S):=fun W hW=>
  (Qg4 W (h.next hW) hr ⟨#[110,111,100,101,115]⟩ (tx (Rc.Qj ss)) (by decide) (by rw[YA];omega) (nn S.ends.length*40) (by have:=OD S.ends.length;have:=h.small.2.2.1;omega) (fun W hW=>Qai W hW) D' r hD).mono fun e w' z=>⟨z.1,z.2.first hW⟩
 have HC:Hid (∀W,Bl w W->W.cell? ⟨bs,0,none⟩=some (Pq q)∧W.cell? ⟨br,0,none⟩=some (.slice ao len cap)):=fun W hW=>⟨(hW.cell (p:=⟨bs,0,none⟩) (Lo _ _ hcs)).trans hcs,(hW.cell (p:=⟨br,0,none⟩) (Lo _ _ hcr)).trans hcr⟩
 have xA:Hid (∀W,SkM w W q p T D' S->W.cell? ⟨bs,0,none⟩=some (Pq q)∧W.cell? ⟨br,0,none⟩=some (.slice ao len cap)):=fun W hW=>⟨hW.cell hcs ns,hW.cell hcr nr⟩
 have u:=bdz w;clear h hr hD hrd hc hl hf
 go_enter func172,ntmps172
 go_upto_region 1 with (fail)
 go_region_held3 (fun Z=>Z.cell? ⟨bs,0,none⟩=some (Pq q)∧Z.cell? ⟨br,0,none⟩=some (.slice ao len cap)) (first|assumption|(with_reducible exact xA.out _ t3)|(with_reducible exact HC.out _ u)) (first
  | (go_at_call 173;(with_reducible refine(HJ.out _ u).mono ?_);rintro e w2 ⟨rfl,u⟩)
  | (go_at_call 171;(with_reducible refine(HW.out _ u).mono ?_);rintro e w3 ⟨rfl,t3⟩))
 all_goals
  go_wp2
  go_ret
  exact⟨rfl,t3⟩
theorem QjF(w:World)(h:Sk w q p T D S)(hr:Rmy D)(bs bm:Nat)(hcs:w.cell? ⟨bs,0,none⟩=some (Pq q))(m:MV)(h1:m.size<18446744073709551616)(h2:m.items<18446744073709551616)(h3:m.nodes<18446744073709551616)(hcm:w.cell? ⟨bm,0,none⟩=some (.int .i64 m.k)∧w.cell? ⟨bm,1,none⟩=some (.int .u64 m.size)∧w.cell? ⟨bm,2,none⟩=some (.int .u64 m.items)∧w.cell? ⟨bm,3,none⟩=some (.int .u64 m.nodes)∧w.cell? ⟨bm,4,none⟩=some (.int .u32 m.chain.toNat))(ns:¬T bs)(nm:¬T bm)(D':DV)(r:Int)(hD:wrD D nmM ((S.ends.length*64:Nat):Int) (mrk m)=(D',r)) :
  Calls prog 176 #[Pq bs,Pq bm] w fun e w'=>e= .returned (.int .i64 r)∧SkM w w' q p T D' S:=by
 obtain⟨m0,m1,m2,m3,m4⟩:=hcm;have HJ:Hid (∀W,Bl w W->Calls prog 177 #[.agg #[.int .i64 m.k,.int .u64 m.size,.int .u64 m.items,.int .u64 m.nodes,.int .u32 m.chain.toNat]] W fun e w'=>e= .returned (.string (tx (mrk m)))∧Bl w w'):=fun W hW=>(Qfe W m h1 h2 h3 (tx (mrk m)) rfl).mono fun e w' z=>⟨z.1,Qa hW z.2⟩
 have xB:(mrk m).length<=64:=by
  unfold mrk
  split
  ·rw[Oj,J5];omega
  ·simp
 have HW:Hid (∀W,Bl w W->Calls prog 171 #[Pq q,.string ⟨#[109,97,114,107,115]⟩,.string (tx (mrk m))] W fun e w'=>e= .returned (.int .i64 r)∧SkM w w' q p T D' S):=fun W hW=>
  (Qg4 W (h.next hW) hr ⟨#[109,97,114,107,115]⟩ (tx (mrk m)) (by decide) (by rw[YA];omega) (S.ends.length*64) (by have:=h.small.2.2.1;omega) (fun W hW=>Qah W hW) D' r hD).mono fun e w' z=>⟨z.1,z.2.first hW⟩
 have up:∀ {b i:Nat} {v:Value} {W:World},w.cell? ⟨b,i,none⟩=some v->Bl w W->W.cell? ⟨b,i,none⟩=some v:=fun {b i v W} hc hW=>(hW.cell (p:=⟨b,i,none⟩) (Lo _ _ hc)).trans hc
 have HC:Hid (∀W,Bl w W->W.cell? ⟨bs,0,none⟩=some (Pq q)∧W.cell? ⟨bm,0,none⟩=some (.int .i64 m.k)∧W.cell? ⟨bm,1,none⟩=some (.int .u64 m.size)∧W.cell? ⟨bm,2,none⟩=some (.int .u64 m.items)∧W.cell? ⟨bm,3,none⟩=some (.int .u64 m.nodes)∧W.cell? ⟨bm,4,none⟩=some (.int .u32 m.chain.toNat)):=fun W hW=>⟨up hcs hW,up m0 hW,up m1 hW,up m2 hW,up m3 hW,up m4 hW⟩
 have xA:Hid (∀W,SkM w W q p T D' S->W.cell? ⟨bs,0,none⟩=some (Pq q)∧W.cell? ⟨bm,0,none⟩=some (.int .i64 m.k)∧W.cell? ⟨bm,1,none⟩=some (.int .u64 m.size)∧W.cell? ⟨bm,2,none⟩=some (.int .u64 m.items)∧W.cell? ⟨bm,3,none⟩=some (.int .u64 m.nodes)∧W.cell? ⟨bm,4,none⟩=some (.int .u32 m.chain.toNat)):=fun W hW=>⟨hW.cell hcs ns,hW.cell m0 nm,hW.cell m1 nm,hW.cell m2 nm,hW.cell m3 nm,hW.cell m4 nm⟩
 have u:=bdz w;clear h hr hD up xB h1 h2 h3;obtain⟨mk,ma,mb,mc,md⟩:=m;simp only at *;generalize tx (mrk ⟨mk,ma,mb,mc,md⟩)=tm at *;generalize md.toNat=mdn at *
 go_enter func176,ntmps176
 go_upto_region 1 with (fail)
 go_region_held3 (fun Z=>Z.cell? ⟨bs,0,none⟩=some (Pq q)∧Z.cell? ⟨bm,0,none⟩=some (.int .i64 mk)∧Z.cell? ⟨bm,1,none⟩=some (.int .u64 ma)∧Z.cell? ⟨bm,2,none⟩=some (.int .u64 mb)∧Z.cell? ⟨bm,3,none⟩=some (.int .u64 mc)∧Z.cell? ⟨bm,4,none⟩=some (.int .u32 mdn)) (first|assumption|(with_reducible exact xA.out _ t3)|(with_reducible exact HC.out _ u)) (first
  | (go_at_call 177;(with_reducible refine(HJ.out _ u).mono ?_);rintro e w2 ⟨rfl,u⟩)
  | (go_at_call 171;(with_reducible refine(HW.out _ u).mono ?_);rintro e w3 ⟨rfl,t3⟩))
 all_goals
  go_wp2
  go_ret
  exact⟨rfl,t3⟩
theorem QjD(w:World)(h:Sk w q p T D S)(hr:Rmy D)(bs:Nat)(hcs:w.cell? ⟨bs,0,none⟩=some (Pq q))(D':DV)(r:Int)(hD:QP D nmI=(D',r)) :
  Calls prog 174 #[Pq bs] w fun e w'=>e= .returned (.int .i64 r)∧SkM w w' q p T D' S:=by
 have HW:Hid (Calls prog 157 #[Pq p,.string ⟨#[105,116,101,109,115]⟩] w fun e w'=>e= .returned (.int .i64 r)∧SkM w w' q p T D' S):=by
  have:=h.sync hr ⟨#[105,116,101,109,115]⟩ (by decide)
  rw[show(ByteArray.mk #[105,116,101,109,115]).data.toList=nmI from rfl,hD] at this
  exact this
 obtain⟨_,_,⟨c0,_⟩,_⟩:=h.cells;clear h hr hD
 go_enter func174,ntmps174
 go_wp2_with (go_at_call 157;refine HW.out.mono ?_;rintro e w1 ⟨rfl,t1⟩)
 go_ret
 exact⟨rfl,t1⟩
theorem QjE(w:World)(h:Sk w q p T D S)(hr:Rmy D)(bs:Nat)(hcs:w.cell? ⟨bs,0,none⟩=some (Pq q))(D':DV)(r:Int)(hD:QP D nmN=(D',r)) :
  Calls prog 175 #[Pq bs] w fun e w'=>e= .returned (.int .i64 r)∧SkM w w' q p T D' S:=by
 have HW:Hid (Calls prog 157 #[Pq p,.string ⟨#[110,111,100,101,115]⟩] w fun e w'=>e= .returned (.int .i64 r)∧SkM w w' q p T D' S):=by
  have:=h.sync hr ⟨#[110,111,100,101,115]⟩ (by decide)
  rw[show(ByteArray.mk #[110,111,100,101,115]).data.toList=nmN from rfl,hD] at this
  exact this
 obtain⟨_,_,⟨c0,_⟩,_⟩:=h.cells;clear h hr hD
 go_enter func175,ntmps175
 go_wp2_with (go_at_call 157;refine HW.out.mono ?_;rintro e w1 ⟨rfl,t1⟩)
 go_ret
 exact⟨rfl,t1⟩
theorem QjG(w:World)(h:Sk w q p T D S)(hr:Rmy D)(bs:Nat)(hcs:w.cell? ⟨bs,0,none⟩=some (Pq q))(D':DV)(r:Int)(hD:QP D nmM=(D',r)) :
  Calls prog 178 #[Pq bs] w fun e w'=>e= .returned (.int .i64 r)∧SkM w w' q p T D' S:=by
 have HW:Hid (Calls prog 157 #[Pq p,.string ⟨#[109,97,114,107,115]⟩] w fun e w'=>e= .returned (.int .i64 r)∧SkM w w' q p T D' S):=by
  have:=h.sync hr ⟨#[109,97,114,107,115]⟩ (by decide)
  rw[show(ByteArray.mk #[109,97,114,107,115]).data.toList=nmM from rfl,hD] at this
  exact this
 obtain⟨_,_,⟨c0,_⟩,_⟩:=h.cells;clear h hr hD
 go_enter func178,ntmps178
 go_wp2_with (go_at_call 157;refine HW.out.mono ?_;rintro e w1 ⟨rfl,t1⟩)
 go_ret
 exact⟨rfl,t1⟩
end
end St
namespace St
abbrev dv:Value := .slice none 0 0
def resO(r:Result Value):Option (Value×World) :=
 match r with
 | .ok v w=>some (v,w)
 | .halt _ _=>none
theorem Qn1(r:Result Value)(hs:(resO r).isSome=true)(d:Value×World):r= .ok ((resO r).getD d).1 ((resO r).getD d).2:=by
 cases r with
 | ok v w=>rfl
 | halt x w=>cases hs
noncomputable def appR (t ty:Nat) (v u:Value) (w:World):Option (Value×World):=resO ((Builtin.append_ #[t,t] ty #[v,u]).run prog w)
theorem O1{t ty:Nat}{v u v':Value}{w w':World}(h:(Builtin.append_ #[t,t] ty #[v,u]).run prog w= .ok v' w'):appR t ty v u w=some (v',w'):=Lv resO h
theorem QlP(t ty:Nat)(v u:Value)(w:World)(hs:(appR t ty v u w).isSome=true):(Builtin.append_ #[t,t] ty #[v,u]).run prog w= .ok ((appR t ty v u w).getD (dv,w)).1 ((appR t ty v u w).getD (dv,w)).2:=Qn1 _ hs (dv,w)
theorem UY(ρ:Operand->Value)(d:Option Tmp)(s x:Operand)(t ty:Nat)(ps:String)(af:Array Edge)(gd:Option (Nat×Bool))(w:World)(hs:(appR t ty (ρ s) (ρ x) w).isSome=true) :
  (execOp ρ { dst:=d,op:=Op.call { callee:=Callee.builtin Builtin.append,args:=#[s,x],argTypes:=#[t,t] },type:=ty,pos:=ps,after:=af,guard:=gd }).run prog w= .ok (.value ((appR t ty (ρ s) (ρ x) w).getD (dv,w)).1) ((appR t ty (ρ s) (ρ x) w).getD (dv,w)).2:=by
 have xA:=QlP t ty (ρ s) (ρ x) w hs;generalize (appR t ty (ρ s) (ρ x) w).getD (dv,w)=r at *;simp[execOp,resolve,invoke,builtin,xA,Result.andThen]
end St
namespace St
open Rc
attribute [local go_sem ↓] UY
theorem Qeb(w:World)(a:Value)(T:TypeId):∀j u,[a][j]? = some u->(w.alloc (.cells #[a] T)).cell? ((⟨w.heap.size,0,none⟩:Addr).add j)=some u:=fun j u hu=>by
 rw[Addr.add_mid,Nc,Ll]
 simpa using hu
def QjA(w w':World)(v v':Value):Prop:=(∃g n cap,v= .slice (Zp g) n cap∧v'= .slice (Zp g) (n+1) cap∧w.grownBy w' (some g))∨(w.grownBy w' none ∧ ∀g,v'.ownBlock=some g->w.heap.size<=g)
theorem Qjg(w:World)(ty B:Nat)(v:Value)(L:List Nat)(hown:OwnE w B v L)(ad:Addr)(mc:Nat)(z:Nat)(hr:∀j u,[Value.int .i64 z][j]? = some u->w.cell? (ad.add j)=some u)
  (hlen:L.length+1<=1048576) (hB:B<=w.heap.size) :
  ∃v' w',(Builtin.append_ #[167,167] ty #[v,.slice (some ad) 1 mc]).run prog w= .ok v' w'∧OwnE w' B v' (L++[z])∧QjA w w' v v':=by
 obtain⟨i0,hi,xF,xD,xG⟩:=info_parts Tryz.infoE;have xC:∀ {w':World} {v':Value} {n:Nat},n=L.length+1->w'.ownsRow B 3 1 v' n (cE L++[.int .i64 z])->OwnE w' B v' (L++[z]):=fun hn h=>by
  rw[OwnE,cE,LQ,Lc,LG,NZ,Ll,<-hn];exact h
 have xE:∀u∈([.int .i64 z]:List Value),u.oneCell'=true:=by intro u hu;simp at hu;subst hu;rfl
 have xA:=hown
 rcases hown.2 with ⟨rfl,h0⟩|⟨g,cp,cur,rfl,hgb,hh,hc⟩
 ·have hL:L=[]:=List.length_eq_zero_iff.1 h0;subst hL;obtain⟨v',w',xB,r1,r2,_⟩:=run_append_own (P:=prog) w w.heap.size 167 ty 3 i0 (.int .i64 0) 1 8 underlying167 hi xF xD xG rfl (by decide) _ 0 [] (Np _ _ _ _) ad 1 mc [.int .i64 z] rfl hr xE (by decide) (by decide) (La _)
  exact⟨v',w',xB,xC rfl (by simpa [cE] using World.ownsRow.mono r1 hB),.inr ⟨r2,fun k hk=>(LO r1 k hk).1⟩⟩
 ·by_cases hfit:L.length+1<=cp
  ·obtain⟨w',xB,r1,r2⟩:=run_append_fits (P:=prog) w B 167 ty 3 i0 1 underlying167 hi xD g L.length cp (cE L) xA ad 1 mc [.int .i64 z] rfl hr xE hfit;exact⟨_,w',xB,xC rfl r1,.inl ⟨g,L.length,cp,rfl,rfl,r2⟩⟩
  ·obtain⟨v',w',xB,r1,r2⟩:=run_append_arg_grows (P:=prog) w 167 ty 3 i0 (.int .i64 0) 1 8 underlying167 hi xF xD xG rfl (by decide) ⟨g,0,none⟩ L.length cp (cE L) xA.1 (Ib xA rfl) ad 1 mc [.int .i64 z] rfl hr (by omega) (by unfold maxLen;omega) (by omega)
   exact⟨v',w',xB,xC rfl (World.ownsRow.mono r1 hB),.inr ⟨r2,fun k hk=>(LO r1 k hk).1⟩⟩
section
variable {q p:Nat} {T:Nat->Prop} {D:DV} {S:SV}
theorem UH(w:World)(h:Sk w q p T D S)(m:MV)(h1:m.items<=268435456)(h2:S.ends.length<65536) :
  Calls prog 179 #[Pq q,.agg (mC m)] w fun e w'=>e= .returned (.tuple #[])∧SkM w w' q p T D { S with ends:=S.ends++[m.items],chain:=m.chain } := by
 obtain⟨S0,v,d1,d2,d3,d4,d5⟩:=h;obtain⟨ao,xC,rfl,_⟩:=Oe d2.own;obtain⟨mk,ma,mb,mc,md⟩:=m;simp only at h1;have hw:IntKind.i64.wrap (mb:Int)=(mb:Int):=by rw[Lq];omega
 obtain⟨w1,xF⟩:=Ze (w.alloc (.cells #[.int .i64 mk,.int .u64 ma,.int .u64 mb,.int .u64 mc,.int .u32 md.toNat] 239));have u1:Bl w w1:=by rw[<-xF];exact bal (Lb _ _) _
 have k1:w1.heap[w.heap.size]? = some (.cells #[.int .i64 mk,.int .u64 ma,.int .u64 mb,.int .u64 mc,.int .u32 md.toNat] 239 (0,0)):=by rw[<-xF];exact Yc _ _
 rw[show mC ⟨mk,ma,mb,mc,md⟩=#[.int .i64 mk,.int .u64 ma,.int .u64 mb,.int .u64 mc,.int .u32 md.toNat] from rfl]
 have s1:Sto w1 q p (.slice ao S.ends.length xC) S:=d2.same (u1.block q d2.lt) (fun g hg=>u1.block g (Of d2.own hg))
 obtain⟨w2,xD⟩:=Ze ((w1.alloc (.cells #[.int .i64 mb] 3)).drew);have u2:Bl w1 w2:=by rw[<-xD];exact Qi (bal (Lb _ _) _) 1
 have s2:Sto w2 q p (.slice ao S.ends.length xC) S:=s1.same (u2.block q s1.lt) (fun g hg=>u2.block g (Of s1.own hg))
 obtain⟨v',w3,xH,o3,g3⟩:=Qjg w2 167 0 _ S.ends s2.own ⟨w1.heap.size,0,none⟩ 1 mb (by rw[<-xD];exact Qeb _ _ _) (by omega) (Ln _)
 have t3:Upo (fun x=>(Value.slice ao S.ends.length xC).ownBlock=some x) w2 w3:=by
  rcases g3 with ⟨g,n,c,e1,e2,g3⟩|⟨g3,_⟩
  ·rw[e1];exact Upo.grown g3 (fun b hb=>by cases hb;rfl)
  ·exact Upo.grown g3 (fun b hb=>by cases hb)
 have xE:∀g,v'.ownBlock=some g->(Value.slice ao S.ends.length xC).ownBlock=some g∨w2.heap.size<=g:=fun g hg=>by
  rcases g3 with ⟨g',n,c,e1,e2,g3⟩|⟨_,g3⟩
  ·rw[e1];rw[e2] at hg;exact .inl hg
  ·exact .inr (g3 g hg)
 obtain⟨xB,xA,rfl,_⟩:=Oe o3;have xI:q<w2.heap.size:=s2.lt;have kq:w3.heap[q]? = some (.cells #[Pq p,.int .i64 S.k,.slice ao S.ends.length xC,.int .u32 S.chain.toNat,.bool S.lame] 169 (0,0)):=(t3.block q xI (fun e=>(d4 q e).1 rfl)).trans s2.blk
 have km:w3.heap[w.heap.size]? = some (.cells #[.int .i64 mk,.int .u64 ma,.int .u64 mb,.int .u64 mc,.int .u32 md.toNat] 239 (0,0)):=by
  have hz:=(Array.getElem?_eq_some_iff.1 k1).1
  refine(t3.block _ (by have:=u2.size;omega) (fun e=> ?_)).trans ((u2.block _ hz).trans k1)
  have:=Of d2.own e;omega
 obtain⟨c0,c1,c2,c3,c4⟩:=Ys s2.blk;obtain⟨x0,x1,x2,x3,x4⟩:=Ys ((u2.block _ (Array.getElem?_eq_some_iff.1 k1).1).trans k1)
 obtain⟨_,_,xT,_,_⟩:=Ys s1.blk;obtain⟨_,_,xR,_,_⟩:=Ys k1;have xL:=Qc xF;have xS:=Qc xD;have ha:=O1 xH;have f2:w3.frozen? ⟨q,2,none⟩=false:=frozen_of_row w3 q 2 _ _ kq;have f3:w3.frozen? ⟨q,3,none⟩=false:=frozen_of_row w3 q 3 _ _ kq;obtain⟨y0,y1,y2,y3,y4⟩:=Ys kq;obtain⟨z0,z1,z2,z3,z4⟩:=Ys km;obtain⟨bm,xG⟩:=Ze w.heap.size;have xK:=Qc xG;rw[xG] at xR x0 x1 x2 x3 x4 z0 z1 z2 z3 z4;rw[<-xD] at c2 x2 ha;have xM:(S.ends++[mb]).length=S.ends.length+1:=by simp
 rw[xM] at ha o3 xE;have xN:¬bm=q:=by have:=d2.lt;omega
 have xO:¬q=bm:=fun e=>xN e.symm
 have HZ:Hid (SkM w ((w3.setCell ⟨q,2,none⟩ (.slice xB (S.ends.length+1) xA)).setCell ⟨q,3,none⟩ (.int .u32 md.toNat)) q p T D { S with ends:=S.ends++[mb],chain:=md }):=by
  have ub:Bl w w2:=Qa u1 u2;have xP:((w3.setCell ⟨q,2,none⟩ (.slice xB (S.ends.length+1) xA)).setCell ⟨q,3,none⟩ (.int .u32 md.toNat)).heap[q]? = some (.cells #[Pq p,.int .i64 S.k,.slice xB (S.ends.length+1) xA,.int .u32 md.toNat,.bool S.lame] 169 (0,0)) :=
   Lm _ q 3 _ _ _ (Lm w3 q 2 _ _ _ kq)
  have up:Upo (fun x=>x=q∨(Value.slice ao S.ends.length xC).ownBlock=some x) w ((w3.setCell ⟨q,2,none⟩ (.slice xB (S.ends.length+1) xA)).setCell ⟨q,3,none⟩ (.int .u32 md.toNat)) :=
   (((Upo.of ub).trans t3 (fun x _ e=> .inr e)).set q 2 _ (.inl (.inl rfl))).set q 3 _ (.inl (.inl rfl))
  have xQ:∀x,x≠q->((w3.setCell ⟨q,2,none⟩ (.slice xB (S.ends.length+1) xA)).setCell ⟨q,3,none⟩ (.int .u32 md.toNat)).heap[x]? = w3.heap[x]? := fun x hx=>(Below.heap_setCell _ _ _ _ hx).trans (Below.heap_setCell _ _ _ _ hx)
  have xJ:∀g,(Value.slice xB (S.ends.length+1) xA).ownBlock=some g->g≠q ∧ ¬S0 g:=fun g hg=>by
   rcases xE g hg with e|e
   ·exact d4 g e
   ·exact⟨by omega,fun hs=>by have:=d1.lt hs;have:=ub.size;omega⟩
  refine⟨fun x=>S0 x∨x=q∨(Value.slice xB (S.ends.length+1) xA).ownBlock=some x,⟨S0,.slice xB (S.ends.length+1) xA,?_,⟨xP,Qy (v := .slice xB (S.ends.length+1) xA) o3 (fun g hg=>xQ g (xJ g hg).1),d2.k1,d2.k2,by simp;omega,fun e he=> ?_⟩,d3,xJ,fun _=>Iff.rfl⟩,fun x hx=> ?_,up.mono (fun x _ e=>(d5 x).2 (.inr e))⟩
  ·exact d1.keep up (fun x hx e=>by
    rcases e with rfl|e
    ·exact d3 hx
    ·exact(d4 x e).2 hx)
  ·rcases List.mem_append.1 he with e1|e1
   ·exact d2.low e e1
   ·rw[List.mem_singleton.1 e1];exact h1
  ·rcases hx with e|e|e
   ·exact .inl ((d5 x).2 (.inl e))
   ·exact .inl ((d5 x).2 (.inr (.inl e)))
   ·rcases xE x e with e|e
    ·exact .inl ((d5 x).2 (.inr (.inr e)))
    ·exact .inr (by have:=ub.size;omega)
 clear xF xD xG u1 u2 s1 s2 xH o3 g3 t3 xE kq km k1 d1 d2 d3 d4 d5 h1 h2 xI
 go_enter func179,ntmps179
 go_upto_region 1 with (fail)
 rw[xL.out,xK.out]
 go_region
 all_goals
  go_wp2;exact bodyPost_end (results_none rfl _ prog _) rfl ⟨rfl,HZ.out⟩
end
end St
namespace St
structure Rm(n:Nat)(D:DV):Prop where
 acts:D.acts+n<=4611686018427387904
 cnt:D.L.length+n<=1099511627776
 free:D.free+268435456*n<=4611686018427387904
variable{m n:Nat}{D:DV}
theorem Rm.rmy(h:Rm (n+1) D):Rmy D:=⟨by have:=h.acts;omega,by have:=h.cnt;omega,by have:=h.free;omega⟩
theorem Rm.mono(h:Rm n D)(hm:m<=n):Rm m D:=⟨by have:=h.acts;omega,by have:=h.cnt;omega,by have:=h.free;omega⟩
theorem QpV(s:List UInt8)(f:FV)(hz:(Qe D.L s).now.length<=268435456)(ha:D.acts+n<=4611686018427387904)(hc:D.L.length+(n+1)<=1099511627776)(hf:D.free+268435456*(n+1)<=4611686018427387904):Rm n (Q8 D s f):=by
 refine⟨ha,?_,?_⟩
 ·have:=Jt (L:=D.L) s f
  show(QL D.L s f).length+n<=_
  omega
 ·show D.free+(Qe D.L s).now.length-f.now.length+268435456*n<=_
  omega
theorem QhP(ks:List Bool)(h:Rm n D):Rm n (Oy D ks):=by
 refine⟨h.acts,?_,h.free⟩
 have h1:=Qe9 (aft ks D.L 0);have h2:=QdB ks D.L 0;have:=h.cnt
 show(QM (aft ks D.L 0)).length+n<=_
 omega
theorem QgO(s:List UInt8)(f:FV)(hz:(Qe D.L s).now.length<=268435456)(h:Rm (n+1) D):Rm n (Yw D s f).1:=by
 obtain⟨e1,e2,e3,e4,_⟩:=QkX { D with acts:=D.acts+1 }
 have ha:=h.acts;have hc:=h.cnt;have hf:=h.free;have q1:Rm n (Yj { D with acts:=D.acts+1 }).1:=⟨by rw[e4];show D.acts+1+n<=_;omega,by rw[e1];show D.L.length+n<=_;omega,by rw[e2];show D.free+_<=_;omega⟩
 have q2:Rm n (Q8 (Yj { D with acts:=D.acts+1 }).1 s f):=QpV s f (by rw[e1];exact hz) (by rw[e4];show D.acts+1+n<=_;omega) (by rw[e1];exact hc) (by rw[e2];exact hf)
 unfold Yw;simp only
 split
 ·exact q1
 ·split
  ·exact q1
  ·split
   ·exact QhP _ q1
   ·split
    ·exact q2
    ·split
     ·exact QhP _ q2
     ·exact q2
theorem QlG(s:List UInt8)(off:Int)(t:List UInt8)(hz:(Qe D.L s).now.length<=268435456)(h:Rm (n+1) D):Rm n (wrD D s off t).1:=by
 unfold wrD
 split
 ·exact h.mono (by omega)
 ·split
  ·exact h.mono (by omega)
  ·split
   ·exact h.mono (by omega)
   ·exact QgO s _ hz h
theorem QpU(s:List UInt8)(off:Int)(hz:(Qe D.L s).now.length<=268435456)(h:Rm (n+1) D):Rm n (Jq D s off).1:=by
 unfold Jq
 split
 ·exact h.mono (by omega)
 ·split
  ·exact h.mono (by omega)
  ·exact QgO s _ hz h
theorem Qa2(s:List UInt8)(hz:(Qe D.L s).now.length<=268435456)(h:Rm (n+1) D):Rm n (QP D s).1:=by
 unfold QP
 split
 ·exact h.mono (by omega)
 ·exact QgO s _ hz h
end St
namespace St
def Bk(W:World)(b:Nat)(x:Value)(T:TypeId):Prop:=W.heap[b]? = some (.cells #[x] T (0,0))
section
variable {W W':World} {b:Nat} {x y:Value} {T:TypeId}
theorem Bk.lt(h:Bk W b x T):b<W.heap.size:=(Array.getElem?_eq_some_iff.1 h).1
theorem Bk.both(h:Bk W b x T):W.cell? ⟨b,0,none⟩=some x∧W.frozen? ⟨b,0,none⟩=false:=⟨by rw[cell_of_row W b 0 _ _ (0,0) h];rfl,frozen_of_row W b 0 _ _ h⟩
theorem Bk.next(h:Bk W b x T)(u:Bl W W'):Bk W' b x T:=(u.block b h.lt).trans h
theorem Bk.al(h:Bk W b x T)(o:Obj):Bk (W.alloc o) b x T:=h.next (bal (Lb _ _) o)
theorem Bk.four(h:Bk W b x T):W.cell? ⟨b,0,none⟩=some x∧W.frozen? ⟨b,0,none⟩=false∧(∀o,(W.alloc o).cell? ⟨b,0,none⟩=some x) ∧ ∀o,(W.alloc o).frozen? ⟨b,0,none⟩=false:=⟨h.both.1,h.both.2,fun o=>(h.al o).both.1,fun o=>(h.al o).both.2⟩
theorem Bk.ne(h:Bk W b x T):¬b=W.heap.size ∧ ¬W.heap.size=b:=by have:=h.lt;omega
theorem Bk.put(h:Bk W b x T)(y:Value):Bk (W.setCell ⟨b,0,none⟩ y) b y T:=Lm W b 0 _ _ y h
theorem Bk.other(h:Bk W b x T){c i:Nat}(hc:b≠c)(y:Value):Bk (W.setCell ⟨c,i,none⟩ y) b x T:=(Below.heap_setCell _ _ _ _ hc).trans h
theorem Jp(W:World)(x:Value)(T:TypeId):Bk (W.alloc (.cells #[x] T)) W.heap.size x T:=Yc _ _
theorem QjO(u:Below (W.alloc (.cells #[x] T)).heap.size (W.alloc (.cells #[x] T)) W'):Bk W' W.heap.size x T:=(Jp W x T).next u
theorem QjP{U:TypeId}(u:Below ((W.alloc (.cells #[x] T)).alloc (.cells #[y] U)).heap.size ((W.alloc (.cells #[x] T)).alloc (.cells #[y] U)) W'):Bk W' W.heap.size x T∧Bk W' (W.heap.size+1) y U:=by
 refine⟨((Jp W x T).al _).next u,?_⟩
 have h:=Jp (W.alloc (.cells #[x] T)) y U;rw[Y6] at h;exact h.next u
theorem J1{V:World}(u:Below V.drew.heap.size V.drew W'):Bl V W':=⟨u.os,u.tape,u.output,u.size,u.block⟩
theorem QmA(u:Below (W.alloc (.cells #[x] T)).drew.heap.size (W.alloc (.cells #[x] T)).drew W'):Bk W' W.heap.size x T:=QjO (J1 u)
theorem QmB{U:TypeId}(u:Below ((W.alloc (.cells #[x] T)).alloc (.cells #[y] U)).drew.heap.size ((W.alloc (.cells #[x] T)).alloc (.cells #[y] U)).drew W'):Bk W' W.heap.size x T∧Bk W' (W.heap.size+1) y U:=QjP (J1 u)
theorem apart{w:World}{B:Nat}{v:Value}{ss:LB}(o:Qh w B v ss)(hb:b<B):∀g,v.ownBlock=some g->g≠b:=fun g hg e=>by
 have:=(LO o g hg).1;omega
end
end St
end Go.Proofs.YtoblgjledefdbaaGreatDoor
