/- Own work. -/
import Derived.Test.YtoblgjledefdbaaGreatDoorQm21
import Derived.Test.YtoblgjledefdbaaGreatDoorQm23
set_option maxRecDepth 100000
set_option maxHeartbeats 2000000
namespace Go.Proofs.YtoblgjledefdbaaGreatDoor
open Go.RowKit
attribute [local go_sem ↓] Go.wp_at_zero Go.wp_at_succ
open Go.Proofs.Tryz
namespace St
open Rc
theorem QkN:(⟨(Lib.repeatL [0] 64).toArray⟩:BA)=tx (zer 64):=by kernel_rfl
theorem QfR(w:World)(s:BA)(b:Bool)(hb:decide (s.data.toList=zer 64)=b):Calls prog 153 #[.string s] w fun e w'=>e = .returned (.bool b)∧Below w.heap.size w w':=by
 have HR:Hid (Calls prog 242 #[.string ⟨#[0]⟩,.int .i64 64] w fun e w'=>e = .returned (.string (tx (zer 64)))∧Below w.heap.size w w'):=by
  have:=Tryz.strings_Repeat_main ⟨#[0]⟩ 64 w (by decide) (by decide) (by decide) (by decide)
  rw[show(ByteArray.mk #[0]).data.toList=[0] from rfl,QkN] at this
  exact this
 have h1:(s.toList == (tx (zer 64)).toList)=b:=by
  rw[<-hb]
  by_cases h:s=tx (zer 64)
  ·rw[QaU h,h,Jc];simp
  ·rw[Qc7 h];exact(Ls fun e=>h (Rc.Ji (by rw[e,Jc]))).symm
 generalize tx (zer 64)=z at *;clear hb
 go_enter func153,ntmps153
 go_wp2_with (go_at_call 242;refine HR.out.mono ?_;rintro e w1 ⟨rfl,u1⟩)
 go_ret
 exact⟨by simp_all,u1⟩
theorem QdE(k:Nat)(b:List UInt8)(p:Nat) : ∀ {j:Nat} {l:LB},rdN k b p j=some l->l.length=j ∧ ∀x∈l,x.size=40
 | 0,l,h=>by simp only[rdN,Option.some.injEq] at h;subst h;simp
 | j+1,l,h=>by
  rw[rdN] at h
  cases hq:rdN k b p j with
  | none=>rw[hq] at h;cases h
  | some l' =>
   rw[hq] at h;simp only at h
   split at h
   ·rename_i hc
    simp only[Option.some.injEq] at h;subst h;obtain⟨h1,h2⟩:=QdE k b p hq;refine⟨by simp[h1],fun x hx => ?_⟩
    rcases List.mem_append.1 hx with h|h
    ·exact h2 x h
    ·rw[List.mem_singleton.1 h,Yp,Yb,Lz,Nb];have:=hc.1;omega
   ·cases h
theorem QeX{k:Nat}{b:List UInt8}{p j:Nat}(h:rdN k b p j=none) : ∀i,j<=i->rdN k b p i=none:=fun i hi=>by
 induction i with
 | zero => obtain rfl : j = 0:=by omega
           exact h
 | succ i ih =>
  by_cases e:j=i+1
  ·rw[<-e];exact h
  ·rw[rdN,ih (by omega)]
def RnQ(w:World)(o:Option LB)(e:Ending)(w':World):Prop:=Below w.heap.size w w'∧match o with
 | none=>e = .returned (.tuple #[.slice none 0 0,.int .i64 190])
 | some rows => ∃va vc,e = .returned (.tuple #[.slice va rows.length vc,.int .i64 0])∧Rc.Qi w' w.heap.size (.slice va rows.length vc) rows
theorem O0{D:DV}(hd:D.down=false)(s:List UInt8)(a n:Nat):rdS D s (a:Int) (n:Int)=if a+n<=(now D s).length then (((now D s).drop a).take n,0) else ([],190):=by
 have e1:rdD D s (a:Int) (n:Int)=if a+n<=(now D s).length then (((now D s).drop a).take n,0) else ([],173):=by
  unfold rdD now;rw[hd];simp only[Bool.false_eq_true,if_false,Int.toNat_natCast]
  by_cases h:a+n<=(Qe D.L s).now.length
  ·rw[Le (by omega),Lk h]
  ·rw[Lk (by omega),Le h]
 unfold rdS;rw[e1]
 by_cases h:a+n<=(now D s).length
 ·simp only[if_pos h];rfl
 ·simp only[if_neg h];rfl
theorem Qdr(w:World){q p:Nat}{T:Nat->Prop}{D:DV}{S:SV}(h:Sk w q p T D S)(hd:D.down=false)(hfew:S.ends.length<65536) :
  Calls prog 244 #[.pointer (some ⟨q,0,none⟩)] w (RnQ w (rdN S.k (now D nmN) (nn S.ends.length) (nn (S.ends.length+1) - nn S.ends.length))):=by
 obtain⟨xX,xY,hf,_⟩:=h.small;have xU:=Uk S.ends.length hf;obtain⟨ea,ec,xM⟩:=h.seen;have HC:Hid (∀W,Below w.heap.size w W->W.cell? ⟨q,1,none⟩=some (.int .i64 (S.k:Int))):=fun W hW=>(xM W hW).2.1
 obtain⟨_,_,c2,_,_⟩:=xM w (Lb _ _);have HN:Hid (∀W,Calls prog 245 #[.int .i64 (S.ends.length:Int)] W fun e w'=>e = .returned (.int .u64 (nn S.ends.length:Int))∧w'=W):=fun W=>Q3 W S.ends.length (by omega)
 have xI:Hid (∀W,Calls prog 245 #[.int .i64 ((S.ends.length:Int)+1)] W fun e w'=>e = .returned (.int .u64 (nn (S.ends.length+1):Int))∧w'=W):=fun W=>by
  have:=Q3 W (S.ends.length+1) (by omega)
  rw[IK] at this;exact this
 have hz:=h.sz nmN;have HR:Hid (∀W,Below w.heap.size w W -> ∀i t r,rdS D nmN ((i*40:Nat):Int) 40=(t,r)->i<=131074->Calls prog 143 #[.pointer (some ⟨q,0,none⟩),.string ⟨#[110,111,100,101,115]⟩,.int .i64 ((i:Int)*40),.int .i64 40] W fun e w'=>e = .returned (.tuple #[.string (tx t),.int .i64 r])∧Below W.heap.size W w'):=fun W hW i t r h1 h2=>by
  rw[show(i:Int)*40=((i*40:Nat):Int) by omega]
  exact JO W (h.next hW) ⟨#[110,111,100,101,115]⟩ (by decide) _ _ (by omega) (by omega) (by omega) (by omega) (tx t) r (by rw[show(ByteArray.mk #[110,111,100,101,115]).data.toList=nmN from rfl,h1]) (by rw[show(ByteArray.mk #[110,111,100,101,115]).data.toList=nmN from rfl,h1])
 have xC:=fun i=>O0 hd nmN (i*40) 40
 clear xM h;obtain⟨nb,xV⟩:=Ze (now D nmN);rw[xV] at xC ⊢;generalize nn (S.ends.length+1)=m1 at *;generalize nn S.ends.length=m0 at *;generalize S.ends.length=n at *;generalize S.k=k at *;have e1:IntKind.i64.wrap ((n:Int)+1)=(n:Int)+1:=by rw[Lr];omega
 obtain⟨m,hm⟩:=Ze (m1 - m0);have xS:m1=m0+m:=by omega
 subst xS;rw[hm];clear hm
 go_enter func244,ntmps244
 go_wp2_with (go_at_call 245;(with_reducible refine(HN.out _).mono ?_);rintro e w1 ⟨rfl,rfl⟩)
 go_loopg [5,6] m (fun g v x wr => ∃(j:Nat) (rows:LB),j<=m∧g=m - j∧x = .int .u64 ((m0+j:Nat):Int)∧Hid (rdN k nb m0 j=some rows)∧Hid (Rc.Qi wr w1.heap.size v rows)∧Hid (Below w1.heap.size w1 wr))
 case atStart=>go_light;exact⟨0,[],Ll _,rfl,rfl,rfl,Rc.YK _ _,Lb _ _⟩
 case round =>
  obtain⟨j,rows,hj,rfl,hx,HA,HO,HW⟩:=hrel;obtain⟨xJ,xK⟩:=QdE k nb m0 HA.out;obtain⟨va,vc,rfl⟩:=Qx HO.out;rw[xJ] at HO;obtain⟨i,hi⟩:=Ze (m0+j);rw[hi] at hx;subst hx
  by_cases hlt:j<m
  ·have xO:((m0+j:Nat):Int)<((m0+m:Nat):Int):=by omega
   have xP:IntKind.i64.wrap ((m0+j:Nat):Int)=((m0+j:Nat):Int):=by rw[Lr];omega
   have xQ:IntKind.i64.wrap (((m0+j:Nat):Int)*40)=((m0+j:Nat):Int)*40:=by rw[Lr];omega
   have xR:IntKind.u64.wrap (((m0+j:Nat):Int)+1)=((m0+(j+1):Nat):Int):=by rw[YD _ (by omega) (by omega)];omega
   have xA:=xC i;rw[hi] at xO xP xQ xR;have xB:rdN k nb m0 (j+1)=if 40*i+40<=nb.length∧(rnod k i (Yb nb i)).isSome then some (rows++[tx (Yb nb i)]) else none:=by rw[rdN,HA.out,hi]
   by_cases hin:i*40+40<=nb.length
   ·rw[Lk hin] at xA;have er:(nb.drop (i*40)).take 40=Yb nb i:=by rw[Yb,LG]
    rw[er] at xA;have xE:=Qd (HR.out wr HW.out i _ _ xA (by omega))
    obtain⟨xD,xN⟩:=Ze (Yb nb i);have xZ:xD.length<=40:=by rw[<-xN,Yb,Lz];omega
    rw[xN] at xE xB
    cases hq:rnod k i xD with
    | none =>
     have xF:rdN k nb m0 m=none:=QeX (by rw[xB,hq];simp) m (by omega)
     have xL:Hid (∀W,Calls prog 252 #[.int .i64 (k:Int),.int .u64 (i:Int),.string (tx xD)] W fun e w'=>e = .returned (.tuple #[.string ⟨#[]⟩,.int .i64 180])∧Below W.heap.size W w'):=fun W=>Qay W (k:Int) i (by omega) (tx xD) _ _ (QdM (by omega) (by show rnod (k:Int).toNat i xD=none;simpa using hq))
     have HZ:Hid (∀W W',Below wr.heap.size wr W->Below W.heap.size W W'->RnQ w1 (rdN k nb m0 m) (.returned (.tuple #[.slice none 0 0,.int .i64 190])) W'):=fun W W' h1 h2=>by
      rw[xF];exact⟨Qa (Qa HW.out h1) h2,rfl⟩
     have CK:Hid (∀W,Below wr.heap.size wr W->W.cell? ⟨q,1,none⟩=some (.int .i64 (k:Int))):=fun W h1=>HC.out W (Qa HW.out h1)
     generalize rdN k nb m0 m=rr at *;generalize tx xD=tr at *;clear HA HO HW HC HR xC xB xF hq hi xA xK
     go_wp2_with (first
      | (go_at_call 245;(with_reducible refine(xI.out _).mono ?_);rintro e w2 ⟨rfl,rfl⟩)
      | (go_at_call 143;(with_reducible refine xE.out.mono ?_);rintro e w3 ⟨rfl,u3⟩;have c1:=CK.out _ u3)
      | (go_at_call 252;(with_reducible refine(xL.out _).mono ?_);rintro e w4 ⟨rfl,u4⟩))
     go_ret2
     exact HZ.out _ _ u3 u4
    | some x =>
     have xG:rdN k nb m0 (j+1)=some (rows++[tx xD]):=by rw[xB,hq,Lk ⟨by omega,rfl⟩]
     have xL:Hid (∀W,Calls prog 252 #[.int .i64 (k:Int),.int .u64 (i:Int),.string (tx xD)] W fun e w'=>e = .returned (.tuple #[.string ⟨x.toArray⟩,.int .i64 0])∧Below W.heap.size W w'):=fun W=>Qay W (k:Int) i (by omega) (tx xD) _ _ (QdN (by omega) (by show rnod (k:Int).toNat i xD=some x;simpa using hq))
     have CK:Hid (∀W,Below wr.heap.size wr W->W.cell? ⟨q,1,none⟩=some (.int .i64 (k:Int))):=fun W h1=>HC.out W (Qa HW.out h1)
     have xW:(tx xD).size<=9223372036854775807:=by rw[Yp];omega
     have HY:=Qd xG;have xH:Hid (∀W W',Below wr.heap.size wr W->Below W.heap.size W W'->Rc.Qi W' w1.heap.size (.slice va j vc) rows∧w1.heap.size<=W'.heap.size∧Below w1.heap.size w1 W'):=fun W W' h1 h2=>⟨Rc.Qv (Rc.Qv HO.out h1 (La _)) h2 (La _),(Qa (Qa HW.out h1) h2).size,Qa (Qa HW.out h1) h2⟩
     have xT:=xU.2.2;clear HA HO HW HC HR xC xB hq xA xK xG;generalize tx xD=tr at *
     go_wp2_with (first
      | (go_at_call 245;(with_reducible refine(xI.out _).mono ?_);rintro e w2 ⟨rfl,rfl⟩)
      | (go_at_call 143;(with_reducible refine xE.out.mono ?_);rintro e w3 ⟨rfl,u3⟩;have c1:=CK.out _ u3)
      | (go_at_call 252;(with_reducible refine(xL.out _).mono ?_);rintro e w4 ⟨rfl,u4⟩)
      | (at_builtin;refine Rc.QM _ rfl _ _ rfl w1.heap.size _ rows rfl (Rc.Yr (xH.out _ _ u3 u4).1 _) (some ⟨w4.heap.size,0,none⟩) w4.heap.size 0 1 [tr] rfl (Rc.Uy w4 tr xW) (fun h=>by cases h) (by rw[xJ];show j+1<=_;omega) (by have:=(xH.out _ _ u3 u4).2.1;rw[Y3];omega) ?_))
     intro v5 w5 h5 u5;have HZ:Hid (Rc.Qi w5 w1.heap.size v5 (rows++[tr])∧Below w1.heap.size w1 w5):=⟨h5,(bal (xH.out _ _ u3 u4).2.2 _).trans u5⟩;clear h5 u5 xH;go_wp2
     go_roundg (m - (j+1))
     case rel=>go_light;exact⟨j+1,rows++[tr],by omega,rfl,by first|rfl|(congr 1;omega),HY.out,HZ.out.1,HZ.out.2⟩
     case measure=>go_light;omega
   ·rw[Le hin] at xA;have xE:=Qd (HR.out wr HW.out i _ _ xA (by omega))
    have xF:rdN k nb m0 m=none:=QeX (by rw[xB,Le (fun h=>hin (by omega))]) m (by omega)
    have HZ:Hid (∀W,Below wr.heap.size wr W->RnQ w1 (rdN k nb m0 m) (.returned (.tuple #[.slice none 0 0,.int .i64 190])) W):=fun W h1=>by
     rw[xF];exact⟨Qa HW.out h1,rfl⟩
    generalize rdN k nb m0 m=rr at *;clear HA HO HW HC HR xC xB xF hi xA xK
    go_wp2_with (first
     | (go_at_call 245;(with_reducible refine(xI.out _).mono ?_);rintro e w2 ⟨rfl,rfl⟩)
     | (go_at_call 143;(with_reducible refine xE.out.mono ?_);rintro e w3 ⟨rfl,u3⟩))
    go_ret2
    exact HZ.out _ u3
  ·have xO : ¬(i:Int)<((m0+m:Nat):Int):=by omega
   obtain rfl:j=m:=by omega
   have HZ:Hid (RnQ w1 (rdN k nb m0 j) (.returned (.tuple #[.slice va j vc,.int .i64 0])) wr):=by
    rw[HA.out];exact⟨HW.out,va,vc,by rw[xJ],by rw[xJ];exact HO.out⟩
   generalize rdN k nb m0 j=rr at *;clear HA HO HW HC HR xC xK
   go_wp2_with (go_at_call 245;(with_reducible refine(xI.out _).mono ?_);rintro e w2 ⟨rfl,rfl⟩)
   go_ret2
   exact HZ.out
end St
namespace St.Rc
def rmT(s:List UInt8):MV×Int:=match rmrk s with
 | some x=>(x,0)
 | none=>(MV.z,180)
theorem Qge{s:List UInt8}(h:rmrk s=none):rmT s=(MV.z,180):=by rw[rmT,h]
theorem Qhj{s:List UInt8}{x:MV}(h:rmrk s=some x):rmT s=(x,0):=by rw[rmT,h]
theorem QcO(w:World)(s:BA)(rm:MV)(re:Int)(h:rmT s.data.toList=(rm,re)) :
  Calls prog 243 #[.string s] w fun e w'=>e = .returned (.tuple #[.agg (mC rm),.int .i64 re])∧Below w.heap.size w w':=by
 by_cases h64:s.size=64
 ·have z1:((s.size:Int) == 64)=true:=by simp;omega
  obtain⟨wz,xL⟩:=Ze (w.alloc (.cells #[.int .i64 0,.int .u64 0,.int .u64 0,.int .u64 0,.int .u32 0] 239));obtain⟨c0,w1,kb,yF,hy,xN,yG⟩:=OC wz s 64 h64;have xU:Hid (∀W g,Calls prog 273 #[.slice (some ⟨g,0,none⟩) 64 c0] W fun e w'=>e = .returned (mP g)∧Below W.heap.size W w'):=fun W g=>QbF W g 64 c0 (by omega)
  have yE:wz.heap.size=w.heap.size+1:=by rw[<-xL];simp
  rw[yE] at kb hy
  go_enter func243,ntmps243
  go_upto_region 4 with (first
   | (go_at_call 273;with_reducible refine(xU.out _ _).mono ?_;rintro e w2 ⟨rfl,xD⟩;unfold mP))
  obtain⟨w3,xJ⟩:=Ze (w2.alloc (.cells (pC (w.heap.size+1)) 339));obtain⟨bp,xQ⟩:=Ze w2.heap.size;have yD:w.heap.size+2<=w2.heap.size:=by have:=xN.size;have:=xD.size;omega
  have HB:Hid (Byt w3 (w.heap.size+1) s.data.toList∧w3.heap[bp]? = some (.cells (pC (w.heap.size+1)) 339 (0,0))∧w3.heap[w.heap.size]? = some (.cells #[.int .i64 0,.int .u64 0,.int .u64 0,.int .u64 0,.int .u32 0] 239 (0,0))∧Below w.heap.size w w3∧w.heap.size+2<=bp∧bp<w3.heap.size):=by
   have hq:=(hy.next xD (by omega))
   have b2:Below wz.heap.size wz w2:=Qa xN xD;rw[<-xJ,<-xQ];refine⟨hq.same ((MapKept.heap_alloc w2 _).2 _ (by omega)),Yq _ _,?_,bal (Qa (by rw[<-xL];exact bal (Lb _ _) _) b2) _,yD,by simp⟩
   rw[(MapKept.heap_alloc w2 _).2 _ (by omega),b2.block _ (by omega),<-xL]
   exact Yq _ _
  unfold pC at xJ;rw[xJ,xQ];obtain⟨g,hg⟩:=Ze (w.heap.size+1);rw[hg] at HB;rw[hg];have HC:Hid (∀W,Below w3.heap.size w3 W->W.cell? ⟨bp,1,none⟩=some (.slice (some ⟨g,4,none⟩) 1 1)∧W.cell? ⟨bp,2,none⟩=some (.slice (some ⟨g,8,none⟩) 8 8)∧W.cell? ⟨bp,3,none⟩=some (.slice (some ⟨g,16,none⟩) 8 8)∧W.cell? ⟨bp,4,none⟩=some (.slice (some ⟨g,24,none⟩) 8 8)∧W.cell? ⟨bp,5,none⟩=some (.slice (some ⟨g,32,none⟩) 4 4)):=fun W hb=>by
   have hh:W.heap[bp]? = some (.cells (pC g) 339 (0,0)):=(hb.block _ HB.out.2.2.2.2.2).trans HB.out.2.1;refine⟨?_,?_,?_,?_,?_⟩
   iterate 5 (rw[cell_of_row W bp _ _ _ (0,0) hh];rfl)
  obtain⟨n0,xE⟩:=Ze (num ((s.data.toList.drop 4).take 1));obtain⟨n1,xF⟩:=Ze (num ((s.data.toList.drop 8).take 8));obtain⟨n2,xG⟩:=Ze (num ((s.data.toList.drop 16).take 8));obtain⟨n3,xH⟩:=Ze (num ((s.data.toList.drop 24).take 8));obtain⟨n4,xI⟩:=Ze (num ((s.data.toList.drop 32).take 4));have xZ:s.data.toList.length=64:=by rw[Qb,h64]
  have gs:g<w3.heap.size:=by have:=HB.out.2.2.2.2;omega
  have H0:Hid (∀W,Below w3.heap.size w3 W->Calls prog 321 #[.slice (some ⟨g,4,none⟩) 1 1] W fun e w'=>e = .returned (.int .u64 (n0:Int))∧w'=W):=fun W hb=>YW W g 4 1 1 _ (HB.out.1.next hb gs) (by omega) (by decide) n0 xE
  have H1:Hid (∀W,Below w3.heap.size w3 W->Calls prog 321 #[.slice (some ⟨g,8,none⟩) 8 8] W fun e w'=>e = .returned (.int .u64 (n1:Int))∧w'=W):=fun W hb=>YW W g 8 8 8 _ (HB.out.1.next hb gs) (by omega) (by decide) n1 xF
  have H2:Hid (∀W,Below w3.heap.size w3 W->Calls prog 321 #[.slice (some ⟨g,16,none⟩) 8 8] W fun e w'=>e = .returned (.int .u64 (n2:Int))∧w'=W):=fun W hb=>YW W g 16 8 8 _ (HB.out.1.next hb gs) (by omega) (by decide) n2 xG
  have H3:Hid (∀W,Below w3.heap.size w3 W->Calls prog 321 #[.slice (some ⟨g,24,none⟩) 8 8] W fun e w'=>e = .returned (.int .u64 (n3:Int))∧w'=W):=fun W hb=>YW W g 24 8 8 _ (HB.out.1.next hb gs) (by omega) (by decide) n3 xH
  have H4:Hid (∀W,Below w3.heap.size w3 W->Calls prog 321 #[.slice (some ⟨g,32,none⟩) 4 4] W fun e w'=>e = .returned (.int .u64 (n4:Int))∧w'=W):=fun W hb=>YW W g 32 4 4 _ (HB.out.1.next hb gs) (by omega) (by decide) n4 xI
  have l0:n0<256:=by rw[<-xE];exact On _ 1 (by simp;omega)
  have l1:n1<256^8:=by rw[<-xF];exact On _ 8 (by simp;omega)
  have l2:n2<256^8:=by rw[<-xG];exact On _ 8 (by simp;omega)
  have l3:n3<256^8:=by rw[<-xH];exact On _ 8 (by simp;omega)
  have l4:n4<256^4:=by rw[<-xI];exact On _ 4 (by simp;omega)
  have v0:IntKind.i64.wrap (n0:Int)=(n0:Int):=by rw[Lr];omega
  have v4:IntKind.u32.wrap (n4:Int)=(n4:Int):=by rw[IntKind.wrap_u32];omega
  have yH:(n4:Int) % 4294967296=(n4:Int):=by omega
  have xR:mOf s.data.toList=⟨(n0:Int),n1,n2,n3,BitVec.ofNat 32 n4⟩:=by rw[mOf,xE,xF,xG,xH,xI]
  have hD:=J7 (Lb w3.heap.size w3);clear xJ xQ hy xN xD kb xL xU xE xF xG xH xI;obtain⟨t,ht⟩ : ∃t:BA,(⟨(mrk (mOf s.data.toList)).toArray⟩:BA)=t:=⟨_,rfl⟩;have xT:Hid (Calls prog 177 #[.agg #[.int .i64 (n0:Int),.int .u64 (n1:Int),.int .u64 (n2:Int),.int .u64 (n3:Int),.int .u32 (n4:Int)]] (w3.alloc (.cells #[.int .i64 (n0:Int),.int .u64 (n1:Int),.int .u64 (n2:Int),.int .u64 (n3:Int),.int .u32 (n4:Int)] 239)).drew fun e w'=>e = .returned (.string t)∧(w'.cell? ⟨w3.heap.size,0,none⟩=some (.int .i64 (n0:Int))∧w'.cell? ⟨w3.heap.size,1,none⟩=some (.int .u64 (n1:Int))∧w'.cell? ⟨w3.heap.size,2,none⟩=some (.int .u64 (n2:Int))∧w'.cell? ⟨w3.heap.size,3,none⟩=some (.int .u64 (n3:Int))∧w'.cell? ⟨w3.heap.size,4,none⟩=some (.int .u32 (n4:Int)))∧w'.heap[w.heap.size]? = some (.cells #[.int .i64 0,.int .u64 0,.int .u64 0,.int .u64 0,.int .u32 0] 239 (0,0))∧Below w.heap.size w w'):=by
   have e4:(BitVec.ofNat 32 n4).toNat=n4:=by rw[BitVec.toNat_ofNat];omega
   obtain⟨wa,xK⟩:=Ze ((w3.alloc (.cells #[.int .i64 (n0:Int),.int .u64 (n1:Int),.int .u64 (n2:Int),.int .u64 (n3:Int),.int .u32 (n4:Int)] 239)).drew);have xX:wa.heap[w3.heap.size]? = some (.cells #[.int .i64 (n0:Int),.int .u64 (n1:Int),.int .u64 (n2:Int),.int .u64 (n3:Int),.int .u32 (n4:Int)] 239 (0,0)):=by rw[<-xK];exact Yq w3 _
   have xY:wa.heap[w.heap.size]? = some (.cells #[.int .i64 0,.int .u64 0,.int .u64 0,.int .u64 0,.int .u32 0] 239 (0,0)):=by
    rw[<-xK];exact((MapKept.heap_alloc w3 _).2 _ (by have:=HB.out.2.2.2.2;omega)).trans HB.out.2.2.1
   have yB:Below w.heap.size w wa:=by rw[<-xK];exact J7 (bal HB.out.2.2.2.1 _)
   rw[xK];have:=QeE wa ⟨(n0:Int),n1,n2,n3,BitVec.ofNat 32 n4⟩ l1 l2 l3 t (by rw[<-xR];exact ht)
   unfold mC at this;simp only[e4] at this;refine this.mono ?_
   rintro e w' ⟨rfl,hb⟩;have hh:=(hb.block _ (Array.getElem?_eq_some_iff.1 xX).1).trans xX
   refine⟨rfl,?_,(hb.block _ (Array.getElem?_eq_some_iff.1 xY).1).trans xY,Qa yB hb⟩
   refine⟨?_,?_,?_,?_,?_⟩
   iterate 5 (rw[cell_of_row w' _ _ _ _ (0,0) hh];rfl)
  have xV:Hid (∀W:World,W.heap[w.heap.size]? = some (.cells #[.int .i64 0,.int .u64 0,.int .u64 0,.int .u64 0,.int .u32 0] 239 (0,0))->(W.cell? ⟨w.heap.size,0,none⟩=some (.int .i64 0)∧W.cell? ⟨w.heap.size,1,none⟩=some (.int .u64 0)∧W.cell? ⟨w.heap.size,2,none⟩=some (.int .u64 0)∧W.cell? ⟨w.heap.size,3,none⟩=some (.int .u64 0)∧W.cell? ⟨w.heap.size,4,none⟩=some (.int .u32 0))∧W.frozen? ⟨w.heap.size,0,none⟩=false∧W.frozen? ⟨w.heap.size,1,none⟩=false∧W.frozen? ⟨w.heap.size,2,none⟩=false∧W.frozen? ⟨w.heap.size,3,none⟩=false∧W.frozen? ⟨w.heap.size,4,none⟩=false):=fun W hh=>by
   refine⟨⟨?_,?_,?_,?_,?_⟩,?_,?_,?_,?_,?_⟩
   iterate 5 (rw[cell_of_row W _ _ _ _ (0,0) hh];rfl)
   iterate 5 (exact frozen_of_row W _ _ _ _ hh)
  have xS:Hid (∀(W:World) (m:MV),W.heap[w.heap.size]? = some (.cells #[.int .i64 0,.int .u64 0,.int .u64 0,.int .u64 0,.int .u32 0] 239 (0,0))->Below w.heap.size w W -> ∃W',(((((W.setCell ⟨w.heap.size,0,none⟩ (.int .i64 m.k)).setCell ⟨w.heap.size,1,none⟩ (.int .u64 (m.size:Int))).setCell ⟨w.heap.size,2,none⟩ (.int .u64 (m.items:Int))).setCell ⟨w.heap.size,3,none⟩ (.int .u64 (m.nodes:Int))).setCell ⟨w.heap.size,4,none⟩ (.int .u32 (m.chain.toNat:Int)))=W'∧(W'.cell? ⟨w.heap.size,0,none⟩=some (.int .i64 m.k)∧W'.cell? ⟨w.heap.size,1,none⟩=some (.int .u64 (m.size:Int))∧W'.cell? ⟨w.heap.size,2,none⟩=some (.int .u64 (m.items:Int))∧W'.cell? ⟨w.heap.size,3,none⟩=some (.int .u64 (m.nodes:Int))∧W'.cell? ⟨w.heap.size,4,none⟩=some (.int .u32 (m.chain.toNat:Int)))∧Below w.heap.size w W'):=fun W m hh hb=>by
   have q1:=Lp W w.heap.size 0 _ _ (.int .i64 m.k) hh;have q2:=Lp _ w.heap.size 1 _ _ (.int .u64 (m.size:Int)) q1;have q3:=Lp _ w.heap.size 2 _ _ (.int .u64 (m.items:Int)) q2;have q4:=Lp _ w.heap.size 3 _ _ (.int .u64 (m.nodes:Int)) q3;have q5:=Lp _ w.heap.size 4 _ _ (.int .u32 (m.chain.toNat:Int)) q4;refine⟨_,rfl,⟨?_,?_,?_,?_,?_⟩,((((hb.setCell (La _) _).setCell (La _) _).setCell (La _) _).setCell (La _) _).setCell (La _) _⟩
   iterate 5 (rw[cell_of_row _ _ _ _ _ (0,0) q5];rfl)
  have HT:Hid ((⟨(mrk (mOf s.data.toList)).toArray⟩:BA)=t∧mOf s.data.toList=⟨(n0:Int),n1,n2,n3,BitVec.ofNat 32 n4⟩∧n4<256^4∧s.data.toList.length=64∧rmT s.data.toList=(rm,re)):=⟨ht,xR,l4,xZ,h⟩;clear ht xR l0 l1 l2 l3 l4 xZ h
  go_cut [5] from 13 to 30 (fun x wx=>x = .pointer (some ⟨w3.heap.size,0,none⟩)∧wx=(w3.alloc (.cells #[.int .i64 (n0:Int),.int .u64 (n1:Int),.int .u64 (n2:Int),.int .u64 (n3:Int),.int .u32 (n4:Int)] 239)).drew)
  case first =>
   go_region_held3 (fun Z=>Z.cell? ⟨bp,1,none⟩=some (.slice (some ⟨g,4,none⟩) 1 1)∧Z.cell? ⟨bp,2,none⟩=some (.slice (some ⟨g,8,none⟩) 8 8)∧Z.cell? ⟨bp,3,none⟩=some (.slice (some ⟨g,16,none⟩) 8 8)∧Z.cell? ⟨bp,4,none⟩=some (.slice (some ⟨g,24,none⟩) 8 8)∧Z.cell? ⟨bp,5,none⟩=some (.slice (some ⟨g,32,none⟩) 4 4)) (first|assumption|(exact HC.out _ hD)|(exact HC.out _ (J7 (bal (Lb _ _) _)))) (first
    | (go_at_call 321;(first
      | (with_reducible refine(H0.out _ hD).mono ?_)|(with_reducible refine(H0.out _ (J7 (bal (Lb _ _) _))).mono ?_)
      | (with_reducible refine(H1.out _ hD).mono ?_)|(with_reducible refine(H1.out _ (J7 (bal (Lb _ _) _))).mono ?_)
      | (with_reducible refine(H2.out _ hD).mono ?_)|(with_reducible refine(H2.out _ (J7 (bal (Lb _ _) _))).mono ?_)
      | (with_reducible refine(H3.out _ hD).mono ?_)|(with_reducible refine(H3.out _ (J7 (bal (Lb _ _) _))).mono ?_)
      | (with_reducible refine(H4.out _ hD).mono ?_)|(with_reducible refine(H4.out _ (J7 (bal (Lb _ _) _))).mono ?_));rintro e w4 ⟨rfl,rfl⟩))
   all_goals
    go_wp2_with fail
    go_meet
    case rel=>exact⟨rfl,rfl⟩
  case rest =>
   obtain⟨rfl,rfl⟩:=hcut;clear HC H0 H1 H2 H3 H4 hD
   by_cases heq:t=s
   ·have yC:=QaU heq;obtain⟨xA,xM,yA,xW,h⟩:=HT.out;have e4:(BitVec.ofNat 32 n4).toNat=n4:=by rw[BitVec.toNat_ofNat];omega
    rw[Qhj (x:=⟨(n0:Int),n1,n2,n3,BitVec.ofNat 32 n4⟩) (by rw[rmrk,xM];refine Lk ⟨xW,?_⟩;have:=Lw (fun z:BA=>z.data.toList) (xA.trans heq);rw[xM] at this;exact this)] at h
    obtain⟨rfl,rfl⟩:(⟨(n0:Int),n1,n2,n3,BitVec.ofNat 32 n4⟩:MV)=rm∧0=re:=by simpa using h
    clear xA xM yA xW h heq
    go_wp2_with (go_at_call 177;with_reducible refine xT.out.mono ?_;rintro e w5 ⟨rfl,⟨m0,m1,m2,m3,m4⟩,xB,xO⟩;obtain⟨⟨r0,r1,r2,r3,r4⟩,f0,f1,f2,f3,f4⟩:=xV.out _ xB)
    obtain⟨w6,xC,⟨x0,x1,x2,x3,x4⟩,xP⟩:=xS.out w5 ⟨(n0:Int),n1,n2,n3,BitVec.ofNat 32 n4⟩ xB xO;simp only[e4] at xC x4;rw[xC];exact Lv (v := .tuple #[.agg (mC ⟨(n0:Int),n1,n2,n3,BitVec.ofNat 32 n4⟩),.int .i64 0]) (by simp[results,results243,go_sem,x0,x1,x2,x3,x4,mC];omega) rfl ⟨rfl,xP⟩
   ·have yC:=Qc7 heq;obtain⟨xA,_,_,_,h⟩:=HT.out;rw[Qge (Le fun q=>heq (Ji (by rw[<-xA];exact q.2)))] at h
    obtain⟨rfl,rfl⟩:MV.z=rm∧180=re:=by simpa using h
    clear xA h heq
    go_wp2_with (go_at_call 177;with_reducible refine xT.out.mono ?_;rintro e w5 ⟨rfl,⟨m0,m1,m2,m3,m4⟩,xB,xO⟩;obtain⟨⟨r0,r1,r2,r3,r4⟩,f0,f1,f2,f3,f4⟩:=xV.out _ xB)
    obtain⟨w6,xC,⟨x0,x1,x2,x3,x4⟩,xP⟩:=xS.out w5 MV.z xB xO;simp only[MV.z,show(0#32).toNat=0 from rfl,show((0:Nat):Int)=0 from rfl] at xC x0 x1 x2 x3 x4
    rw[xC];exact Lv (v := .tuple #[.agg (mC MV.z),.int .i64 180]) (by simp[results,results243,go_sem,x0,x1,x2,x3,x4,mC,MV.z]) rfl ⟨rfl,xP⟩
 ·have z1:((s.size:Int) == 64)=false:=by simp;omega
  rw[Qge (Le fun q=>h64 (by rw[<-Qb];exact q.1))] at h
  obtain⟨rfl,rfl⟩:MV.z=rm∧180=re:=by simpa using h
  clear h
  go_enter func243,ntmps243;go_wp2;exact Lv (v := .tuple #[.agg (mC MV.z),.int .i64 180]) (by simp[results,results243,go_sem,mC,MV.z]) rfl ⟨rfl,bal (Lb _ _) _⟩
end St.Rc
end Go.Proofs.YtoblgjledefdbaaGreatDoor
