/- Own work. -/
import Derived.Test.YtdocjikpcbmcgaaGreatDoorQn31
set_option maxRecDepth 100000
set_option maxHeartbeats 2000000
namespace Go.Proofs.YtdocjikpcbmcgaaGreatDoor
open Go.RowKit
attribute [local go_sem ↓] Go.wp_at_zero Go.wp_at_succ
open Go.Proofs.Tryz
section
open Cv (zl cov)
structure Pb(B:Nat)(wr:World)(v u:Value)(P Q:List (Nat×Nat)):Prop where
 ov:Cv.Qx wr B v (zl P)
 ou:Cv.Qx wr B u (zl Q)
 ap:Apt v u
section
variable {B:Nat} {w w':World} {v u v':Value} {P Q P':List (Nat×Nat)}
theorem Pb.next(h:Pb B w v u P Q)(hb:Zb w w'):Pb B w' v u P Q:=⟨Qdd h.ov hb,Qdd h.ou hb,h.ap⟩
theorem Pb.swap(h:Pb B w v u P Q):Pb B w u v Q P:=⟨h.ou,h.ov,fun g h1 h2=>h.ap g h2 h1⟩
theorem Pb.app(h:Pb B w v u P Q)(o:Cv.Qx w' B v' (zl P'))(g:w.grownBy w' v.ownBlock)(f:v'.ownBlock=v.ownBlock ∨ ∀b,v'.ownBlock=some b->w.heap.size<=b):Pb B w' v' u P' Q:=by
 refine⟨o,Qi h.ou fun b hb _=>g.block b (LP h.ou b hb).2 fun e=>h.ap b e.symm hb,fun b h1 h2 => ?_⟩
 rcases f with f|f
 ·exact h.ap b (f.symm.trans h1) h2
 ·have:=f b h1;have:=(LP h.ou b h2).2;omega
theorem QnF(B:Nat)(w:World):Pb B w (.slice none 0 0) (.slice none 0 0) [] []:=⟨LT _ _ _ _,LT _ _ _ _,fun g h _=>by cases h⟩
end
theorem QfH(W:World)(B:Nat)(v0 v1:Value)(P Q:List (Nat×Nat))(o0:Cv.Qx W B v0 (zl P))(o1:Cv.Qx W B v1 (zl Q))(hl:P.length+Q.length<=1000000)(t:Nat) :
  Calls prog 111 #[.slice (some ⟨W.heap.size,0,none⟩) 2 2] (W.alloc (.cells #[v0,v1] t)) fun e w' => ∃v,e = .returned v∧Cv.Qx w' W.heap.size v (zl (P++Q))∧Zb W w':=by
 have hb:=bal (Lb W.heap.size W) (.cells #[v0,v1] t);have hx:=Lu W (.cells #[v0,v1] t);have hc:CatB (W.alloc (.cells #[v0,v1] t)) W.heap.size [v0,v1] [zl P,zl Q]:=by
  refine Qm9 ?_ ?_ (Cv.O2 (Cv.O3 o0) hb) (Cv.O2 (Cv.O3 o1) hb)
  ·rw[cell_of_row _ _ 0 _ _ (0,0) hx];rfl
  ·rw[cell_of_row _ _ 1 _ _ (0,0) hx];rfl
 have hf:[zl P,zl Q].flatten=zl (P++Q):=by
  simp only[List.flatten_cons,List.flatten_nil,List.append_nil,zl,List.map_append]
 refine(Qi1 _ _ 2 _ _ hc (by simp) (by rw[hf,Cv.QC,Lg];omega) _ hf).mono fun e w' ⟨v,e1,e2,e3⟩=>⟨v,e1,?_,Qa hb e3⟩
 exact World.ownsRow.mono e2 (by simp)
def ots(i:Nat)(M:List (Nat×Nat)):List (Nat×Nat):=M.filter fun m=>decide (i / 2^m.1≠m.2)
def sbs(i:Nat)(M:List (Nat×Nat)):List (Nat×Nat):=M.flatMap fun m=>if i / 2^m.1=m.2 then bes i m.1 else []
theorem Qbb(i:Nat)(A B:List (Nat×Nat)):ots i (A++B)=ots i A++ots i B:=N5 ..
theorem Qbn(i:Nat)(A B:List (Nat×Nat)):sbs i (A++B)=sbs i A++sbs i B:=NW ..
theorem QnV{n i H:Nat}{A B:List (Nat×Nat)}(h:Wy n i A H B):ots i (Cv.dnL 41 0 n)=A++B:=by
 rw[h.all,Qbb];have h1:ots i A=A:=List.filter_eq_self.2 fun a ha=>Ln (by have:=h.no_left ha;omega)
 have h2:ots i B=B:=List.filter_eq_self.2 fun a ha=>Ln (by have:=h.no_right ha;omega)
 rw[h1,ots,Ng (by simp)]
 rw[show List.filter (fun m=>decide (i / 2^m.1≠m.2)) B=B from h2]
theorem QnX{n i H:Nat}{A B:List (Nat×Nat)}(h:Wy n i A H B):sbs i (Cv.dnL 41 0 n)=bes i H:=by
 rw[h.all,Qbn];have h1:sbs i A=[]:=List.flatMap_eq_nil_iff.2 fun a ha=>Le (by have:=h.no_left ha;omega)
 have h2:sbs i B=[]:=List.flatMap_eq_nil_iff.2 fun a ha=>Le (by have:=h.no_right ha;omega)
 rw[h1,Ie,sbs,NN,Lm rfl];rw[show B.flatMap (fun m=>if i / 2^m.1=m.2 then bes i m.1 else [])=[] from h2,Na]
theorem Qje(w:World){n i H:Nat}{A B:List (Nat×Nat)}(h:Wy n i A H B)(hn:n<=2^40)(hi:i<n) :
  Calls prog 108 #[.int .u64 (n:Int),.int .u64 (i:Int)] w fun e w' => ∃v,e = .returned v∧Cv.Qx w' w.heap.size v (zl (wyB i H A B))∧Zb w w':=by
 obtain⟨M,hM⟩:=Ze (Cv.dnL 41 0 n);have xV:Hid (∀W,Calls prog 75 #[.int .u64 (n:Int)] W fun e w' => ∃ao g cap,e = .returned (.tuple #[.slice ao M.length cap,.int .i64 0])∧RdB w' ao g 0 M.length (zl M)∧Zb W w'):=fun W=>Qc1 n hn M hM W
 have yN:M.length<=41:=by rw[<-hM];exact Cv.YS 41 0 n
 have xO : ∀b∈M,b.1<=40:=by
  have xZ:=U4 n hn;rw[hM] at xZ;exact fun b hb=>Cv.pw40 (Lz (by have:=LE (Pl.pw b.1) (show 1<=b.2+1 by omega);rw[LX] at this;exact this) (Lz (xZ b hb) hn))
 have HE:Hid (sbs i M++ots i M=wyB i H A B∧(sbs i M).length+(ots i M).length<=1000):=by
  have e1:=QnV h;have e2:=QnX h;rw[hM] at e1 e2;have:=h.len;have:=h.hH;exact⟨by rw[e1,e2];rfl,by rw[e1,e2,Us,Lg];omega⟩
 have hz:(M.length:Int)<=41:=by omega
 clear hM h
 go_enter func108,ntmps108
 go_upto_region 3 with (go_at_call 75;with_reducible refine(xV.out _).mono ?_;rintro e w2 ⟨ao,gM,yF,rfl,yK,yH⟩)
 clear xV;have HV:Hid (∀W,Zb w2 W->RdB W ao gM 0 M.length (zl M)∧Zb w W):=fun W hb=>⟨yK.below hb,Qa yH hb⟩
 go_wp2
 go_loopg [7,8,19] M.length (fun g v u i' wr => ∃j:Nat,g=M.length - j∧j<=M.length∧i' = .int .i64 (j:Int)∧Hid (Pb w2.heap.size wr v u (sbs i (M.take j)) (ots i (M.take j)))∧Hid (Zb w2 wr))
 case atStart=>go_light;exact⟨0,rfl,Ll _,rfl,QnF _ _,Lb _ _⟩
 case round =>
  obtain⟨j,rfl,hj,rfl,xE,xL⟩:=hrel
  by_cases hlt:j<M.length
  ·have z0:(0:Int)<=(j:Int):=Lf _;have z1:(j:Int)<(M.length:Int):=by omega
   obtain⟨xT,xQ⟩:=HV.out wr xL.out;obtain rfl:=xT.addr (by omega)
   obtain⟨b,xN⟩:=Ze (M.getD j (0,0));have xY:b∈M:=by rw[<-xN,La,Lc hlt];exact LG _
   obtain⟨k0,k1⟩:=xT.cell j hlt;have yE:(zl M).getD j (0,0)=((b.1:Int),b.2):=by
    rw[<-xN,La,La,zl,No,Lc hlt];rfl
   rw[yE] at k0 k1;simp only at k0 k1;rw[Lr] at k0 k1;have yG:=xO b xY;have yD:M.take (j+1)=M.take j++[b]:=by rw[LW hlt,<-xN,La,Lc hlt];rfl
   obtain⟨bh,bk⟩:=b;simp only at k0 k1 yG;clear xT yE xN xY;obtain⟨W1,xM⟩:=Ze (wr.alloc (.cells #[.int .i64 (bh:Int),.int .u64 (bk:Int)] 83));have xA:Zb wr W1:=by rw[<-xM];exact bal (Lb _ _) _
   have t1:W1.heap[wr.heap.size]? = some (.cells #[.int .i64 (bh:Int),.int .u64 (bk:Int)] 83 (0,0)):=by rw[<-xM];exact Lu wr _
   have d0:W1.cell? ⟨wr.heap.size,0,none⟩=some (.int .i64 (bh:Int)):=by rw[cell_of_row W1 wr.heap.size 0 _ _ (0,0) t1];rfl
   have d1:W1.cell? ⟨wr.heap.size,1,none⟩=some (.int .u64 (bk:Int)):=by rw[cell_of_row W1 wr.heap.size 1 _ _ (0,0) t1];rfl
   have y0:(0:Int)<=(bh:Int):=Lf _;have y1:(bh:Int)<=40:=by omega
   go_upto_region 6 with (fail)
   try rw[xM]
   clear k0 k1 xM t1;obtain⟨p,hp⟩:=Ze (i / 2^bh);have yA:(i:Int) / 2^bh=(p:Int):=by rw[<-hp];simp
   have xB:=Qe (Lo hp yD);have xJ : ∀t,Zb wr (W1.drewN t):=fun t=>Qd xA t
   have xU:=Qe xJ;clear hp yD xJ xA
   by_cases hq:p=bk
   ·subst hq
    go_quiet (fail)
    clear yA;have xA:=xU.out nq;have xH:(W1.drewN nq).cell? ⟨wr.heap.size,0,none⟩=some (.int .i64 (bh:Int)):=d0;obtain⟨W2,xD⟩:=Ze (W1.drewN nq);rw[xD] at xA xH
    try rw[xD]
    clear xD d0 d1;have xC:=Qa xL.out xA;have xF:Hid (Pb w2.heap.size W2 u7 u8 (sbs i (M.take j)++bes i 0) (ots i (M.take j))∧(sbs i (M.take j)).length<=2000∧ots i (M.take (j+1))=ots i (M.take j)∧sbs i (M.take (j+1))=sbs i (M.take j)++bes i bh∧Zb w2 W2):=by
     have yM:(sbs i (M.take j)).length<=2000:=by
      have h1:sbs i M=sbs i (M.take j)++sbs i (M.drop j):=by rw[<-Qbn,Nk]
      have h2:=HE.out.2;rw[h1,Lg] at h2;omega
     refine⟨?_,yM,?_,?_,xC⟩
     ·have:=xE.out.next xA
      simpa [bes] using this
     ·rw[xB.out.2,Qbb];have:ots i [(bh,p)]=[]:=by
       unfold ots;rw[Ng (by simp[xB.out.1])]
       rfl
      rw[this,Na]
     ·rw[xB.out.2,Qbn]
      congr 1
      simp[sbs,xB.out.1]
    clear xE;go_wp2
    go_loopg [7,36] bh (fun g v x wi => ∃t:Nat,g=bh - t∧t<=bh∧x = .int .i64 (t:Int)∧Hid (Pb w2.heap.size wi v u8 (sbs i (M.take j)++bes i t) (ots i (M.take j)))∧Hid (Zb w2 wi))
    case atStart=>go_light;exact⟨0,rfl,Ll _,rfl,xF.out.1,xC⟩
    case round =>
     clear xC xA xH;obtain⟨t,rfl,yL,rfl,xG,xK⟩:=hrel
     by_cases hlt2:t<bh
     ·have x0:(t:Int)<(bh:Int):=by omega
      have x1:(0:Int)<=(t:Int):=Lf _;obtain⟨q,hq⟩:=Ze (i / 2^t);have xS:(i:Int) / 2^t=(q:Int):=by rw[<-hq];simp
      have xR:q<2^40:=by have:=Nt i (2^t);omega
      have ex:bits .xor .u64 (q:Int) 1=((sb q:Nat):Int):=by rw[<-Qgk];exact bits_xor_u64_nat q 1 (by omega) (by decide)
      have yB:bes i (t+1)=bes i t++[(t,sb q)]:=by rw[Qew,hq]
      have xW:=Qe yB;obtain⟨sq,yC⟩:=Ze (sb q);rw[yC] at ex xW;clear yC hq xR yB
      go_wp2_with (at_builtin;refine Cv.QP _ rfl _ _ rfl w2.heap.size u7 (zl (sbs i (M.take j)++bes i t)) rfl (Pb.next xG.out (bal (Lb _ _) _)).ov (.slice (some ⟨wr.heap.size,0,none⟩) 1 1) [((t:Int),sq)] rfl (Cv.YU wr (t:Int) sq 83) ?e2 ?e3 ?_)
      case e2=>have:=xF.out.2.1;rw[Cv.QC,Lg,Us];simp;omega
      case e3=>have:=xK.out.size;simp;omega
      intro v' w3 r1 r2 r3;have hN:Pb w2.heap.size w3 v' u8 (sbs i (M.take j)++bes i (t+1)) (ots i (M.take j))∧Zb w2 w3:=by
       have xI:=xG.out.next (bal (Lb wr.heap.size wr) (.cells #[.int .i64 (t:Int),.int .u64 (sq:Int)] 83));refine⟨xI.app ?_ r2 (by rw[LA] ;exact r3),(bal xK.out _).trans ((Lb _ _).grown r2 (by have:=xK.out.size;simp;omega) fun b hb=>(LP xI.ov b hb).1)⟩
       rw[xW.out,<-LH,Cv.UO];exact r1
      have HN:=Qe hN;obtain⟨va,vn,vc,rfl⟩:=Cv.Qj r1;clear hN r1 r2 r3 xG;go_wp2
      go_roundg (bh - (t+1))
      case rel=>go_light;exact⟨t+1,rfl,by omega,by go_num,HN.out.1,HN.out.2⟩
      case measure=>go_light;omega
     ·obtain rfl:t=bh:=by omega
      have x0 : ¬(t:Int)<(t:Int):=by omega
      have HN:Hid (Pb w2.heap.size wr u7 u8 (sbs i (M.take (j+1))) (ots i (M.take (j+1)))):=by
       show Pb _ _ _ _ _ _
       rw[xF.out.2.2.2.1,xF.out.2.2.1];exact xG.out
      clear xG xF hlt2 yL;go_wp2
      go_roundg (M.length - (j+1))
      case rel=>go_light;exact⟨j+1,rfl,by omega,by go_num,HN.out,xK.out⟩
      case measure=>go_light;omega
   ·have xS : ¬(p:Int)=(bk:Int):=by omega
    have yJ:((p:Int) != (bk:Int))=true:=by simpa using xS
    go_quiet (fail)
    clear yA;have xA:=xU.out nq;have xH:(W1.drewN nq).cell? ⟨wr.heap.size,0,none⟩=some (.int .i64 (bh:Int)):=d0;have xX:(W1.drewN nq).cell? ⟨wr.heap.size,1,none⟩=some (.int .u64 (bk:Int)):=d1;obtain⟨W2,xD⟩:=Ze (W1.drewN nq);rw[xD] at xA xH xX
    try rw[xD]
    clear xD d0 d1 yJ xS;have xP:=(xE.out.next xA);have xC:=Qa xL.out xA
    go_wp2_with (at_builtin;refine Cv.QP _ rfl _ _ rfl w2.heap.size u8 (zl (ots i (M.take j))) rfl (Pb.next xP (bal (Lb _ _) _)).ou (.slice (some ⟨W2.heap.size,0,none⟩) 1 1) [((bh:Int),bk)] rfl (Cv.YU W2 (bh:Int) bk 83) ?c2 ?c3 ?_)
    case c2 =>
     have h1:ots i M=ots i (M.take j)++ots i (M.drop j):=by rw[<-Qbb,Nk]
     have h2:=HE.out.2;rw[h1,Lg] at h2;rw[Cv.QC];simp;omega
    case c3=>have:=xC.size;simp;omega
    intro v' w3 r1 r2 r3;have hN:Pb w2.heap.size w3 u7 v' (sbs i (M.take (j+1))) (ots i (M.take (j+1)))∧Zb w2 w3:=by
     have e1:ots i (M.take (j+1))=ots i (M.take j)++[(bh,bk)]:=by
      rw[xB.out.2,Qbb]
      congr 1
      unfold ots;rw[NE (by simp[xB.out.1,hq])]
      rfl
     have e2:sbs i (M.take (j+1))=sbs i (M.take j):=by
      rw[xB.out.2,Qbn];have:sbs i [(bh,bk)]=[]:=by simp[sbs,xB.out.1,hq]
      rw[this,Na]
     have xI:=xP.next (bal (Lb W2.heap.size W2) (.cells #[.int .i64 (bh:Int),.int .u64 (bk:Int)] 83));refine⟨?_,?_⟩
     ·rw[e1,e2];refine(xI.swap.app ?_ r2 (by rw[LA] ;exact r3)).swap
      rw[Cv.UO];exact r1
     ·exact(bal xC _).trans ((Lb _ _).grown r2 (by have:=xC.size;simp;omega) fun b hb=>(LP xI.ou b hb).1)
    have HN:=Qe hN;obtain⟨va,vn,vc,rfl⟩:=Cv.Qj r1;clear hN r1 r2 r3 xP xC xH xX xE;go_wp2
    go_roundg (M.length - (j+1))
    case rel=>go_light;exact⟨j+1,rfl,by omega,by go_num,HN.out.1,HN.out.2⟩
    case measure=>go_light;omega
  ·obtain rfl:j=M.length:=by omega
   have yO : ¬(M.length:Int)<(M.length:Int):=by omega
   have hP:=xE.out;rw[LY] at hP;have xQ:=(HV.out wr xL.out).2;obtain⟨sa,sn,sc,rfl⟩:=Cv.Qj hP.ov;obtain⟨oa,on,oc,rfl⟩:=Cv.Qj hP.ou;have HC:=QfH wr w2.heap.size _ _ _ _ hP.ov hP.ou (by have:=HE.out.2;omega)
   rw[HE.out.1] at HC;have HC:=Qe HC;clear hP xE HV hlt hj
   go_wp2_with (go_at_call 111;with_reducible refine(HC.out _).mono ?_;rintro e w3 ⟨v,rfl,h3,yI⟩)
   obtain⟨a3,n3,c3,rfl⟩:=Cv.Qj h3
   go_ret
   exact⟨_,rfl,World.ownsRow.mono h3 xQ.size,Qa xQ yI⟩
theorem Qgw(w:World)(k:Int)(old:Nat){n i H:Nat}{A B:List (Nat×Nat)}(h:Wy n i A H B)(hn:n<=2^40)(hi:i<n)(sa:OA)(sb so sc:Nat)(hs:RdU w sa sb so 1 [i])(vd:Value) :
  Calls prog 60 #[vP 1 k old n (.slice sa 1 sc) vd] w fun e w' => ∃v,e = .returned v∧Cv.Qx w' w.heap.size v (zl (wyB i H A B))∧Zb w w':=by
 obtain⟨F,xA,h6,hb,_⟩:=Yk w (.int .i64 1) (.int .i64 k) (.int .u64 (old:Int)) (.int .u64 (n:Int)) (.slice sa 1 sc) vd;obtain rfl:=hs.ptr (by omega)
 have HE:Hid (∀W,Calls prog 108 #[.int .u64 (n:Int),.int .u64 (i:Int)] W fun e w' => ∃v,e = .returned v∧Cv.Qx w' W.heap.size v (zl (wyB i H A B))∧Zb W w'):=fun W=>Qje W h hn hi
 obtain⟨c0,c1,c2,c3,c4,c5⟩:=h6.cells;have ci:F.cell? ⟨sb,so,none⟩=some (.int .u64 (i:Int)):=(hs.next hb).at (j:=0) (by omega)
 unfold vP;clear h hn hi hs h6
 go_enter func60,ntmps60
 go_upto_region 1 with (fail)
 try rw[xA]
 clear xA
 go_upto_region 3 with (fail)
 go_region_with (go_at_call 108;with_reducible refine(HE.out _).mono ?_;rintro e w3 ⟨v,rfl,h3,xB⟩;obtain⟨a3,n3,c3,rfl⟩:=Cv.Qj h3)
 all_goals
  go_wp2
  go_ret
  exact⟨_,rfl,World.ownsRow.mono h3 (hb.drew.size),Qa hb.drew xB⟩
theorem Qez(w:World)(k:Int)(old n:Nat)(S:List Nat)(he:Cv.QR n S=0)(hS:S.length<=5000)(sa:OA)(sb so sc:Nat)(hs:RdU w sa sb so S.length S)(vd:Value) :
  Calls prog 60 #[vP 2 k old n (.slice sa S.length sc) vd] w fun e w' => ∃v,e = .returned v∧Cv.Qx w' w.heap.size v (zl (Cv.rst 0 n S))∧Zb w w':=by
 obtain⟨F,xA,h6,hb,_⟩:=Yk w (.int .i64 2) (.int .i64 k) (.int .u64 (old:Int)) (.int .u64 (n:Int)) (.slice sa S.length sc) vd;have HE:Hid (Calls prog 109 #[.int .u64 (n:Int),.slice sa S.length sc] F fun x w' => ∃v,x = .returned (.tuple #[v,.int .i64 0])∧Cv.Qx w' F.heap.size v (zl (Cv.rst 0 n S))∧Zb F w'):=Cv.Ql4 n F sa sb so S.length sc S (UK (hs.next hb)) hS he
 obtain⟨c0,c1,c2,c3,c4,c5⟩:=h6.cells;unfold vP;clear hs h6 he hS
 go_enter func60,ntmps60
 go_upto_region 1 with (fail)
 try rw[xA]
 clear xA
 go_wp2_with (go_at_call 109;with_reducible refine HE.out.mono ?_;rintro e w3 ⟨v,rfl,h3,xB⟩;obtain⟨a3,n3,c3,rfl⟩:=Cv.Qj h3)
 go_ret
 exact⟨_,rfl,World.ownsRow.mono h3 hb.size,Qa hb xB⟩
end
theorem QcT(w:World)(k:Int)(la:OA)(ln lc:Nat)(hn:ln<=8796093022208)(o:Nat)(c:BA)(e0:Int)
  (HR:Hr w 56 #[.int .i64 k,.slice la ln lc,.int .u64 (ln:Int)] (.tuple #[.agg #[.int .u64 (o:Int),.string c],.int .i64 e0])) :
  Zr 23 #[.int .i64 k,.slice la ln lc] w (.agg #[.int .u64 (o:Int),.string c]):=by
 have xB:=bal (Lb w.heap.size w) (.cells #[.int .u64 0,.string ⟨#[]⟩] 30);have h0:Rh (w.alloc (.cells #[.int .u64 0,.string ⟨#[]⟩] 30)) w.heap.size 0 ⟨#[]⟩:=Qcn w 0 ⟨#[]⟩;have z1:(ln:Int)<=8796093022208:=by omega
 obtain⟨W0,xA⟩:=Ze (w.alloc (.cells #[.int .u64 0,.string ⟨#[]⟩] 30));rw[xA] at xB h0;clear hn
 go_enter func23,ntmps23
 go_upto_region 1 with (fail)
 try rw[xA]
 clear xA
 go_upto_region 2 with (go_at_call 56;with_reducible refine(HR.out _ xB).mono ?_;rintro e w1 ⟨rfl,xD⟩)
 obtain⟨F,xC,hr,xE⟩ : ∃W,w1.alloc (.cells #[.int .u64 (o:Int),.string c] 30)=W∧Rh W w1.heap.size o c∧Zb w1 W:=⟨_,rfl,Qcn w1 o c,bal (Lb _ _) _⟩
 try rw[xC]
 clear xC;have hx:=h0.next (Qa xD xE);obtain⟨c0,c1⟩:=hr.cells;obtain⟨d0,d1⟩:=hx.cells;have df:=hx.fz;have hp:=hx.put o c;have xF:=O1 F w.heap.size o c;unfold putR at hp xF;obtain⟨s0,s1⟩:=hp.cells;clear h0 hx hr;go_wp2;refine Lp (v := .agg #[.int .u64 (o:Int),.string c]) (by simp[results,results23,go_sem,s0,s1]) rfl ⟨rfl,?_⟩
 exact(Qa (Qa xB xD) xE).trans (xF.below (by rintro b rfl;exact Ld _))
theorem Qgz(w:World)(ht:Tb w)(k:Int)(k1:1<=k)(k2:k<=32)(la:OA)(lb lo lc:Nat)(L:LB)(hr:RdS w la lb lo L.length L)(hsz : ∀s∈L,s.size<=140737488351232)(hm:L.length<=1099511627776)(hlc:L.length<=lc)(c:BA)(hc:rtD (clk k) L L.length=c) :
  Zr 23 #[.int .i64 k,.slice la L.length lc] w (.agg #[.int .u64 (L.length:Int),.string c]) :=
 QcT w k la L.length lc (by omega) L.length c 0 fun W hb=>Qkc W (ht.next hb) k k1 k2 la lb lo L.length lc L (hr.next hb (Ld _)) hsz (by omega) hlc L.length (Ld _) c hc
theorem Qi0(w:World)(k:Int)(hk:k<1∨32<k)(la:OA)(ln lc:Nat)(hn:ln<=1099511627776) :
  Zr 23 #[.int .i64 k,.slice la ln lc] w (.agg #[.int .u64 ((0:Nat):Int),.string ⟨#[]⟩]) :=
 QcT w k la ln lc (by omega) 0 ⟨#[]⟩ 70 fun W _=>Qia W k hk la ln lc ln
def soC(L:LB)(l:List (Nat×BA)):Prop := ∀c∈l,L.getD c.1 ByteArray.empty=c.2
instance (L:LB) (l:List (Nat×BA)):Decidable (soC L l):=by unfold soC;infer_instance
theorem JW(w:World)(ca:OA)(cb co cc:Nat)(l:List (Nat×BA))(hc:RdK w ca cb co l.length l)(hcm:l.length<=1099511627776)(la:OA)(lb lo lc:Nat)(L:LB)(hr:RdS w la lb lo L.length L)(hm:L.length<=1099511627776)(hin : ∀c∈l,c.1<L.length)(r:Bool)(hq:decide (soC L l)=r) :
  Zr 24 #[.slice ca l.length cc,.slice la L.length lc] w (.bool r):=by
 have HC:Hid (∀W,Zb w W->RdK W ca cb co l.length l∧RdS W la lb lo L.length L):=fun W hb=>⟨hc.next hb,hr.next hb (Ld _)⟩
 have z1:(l.length:Int)<=1099511627776:=by omega
 have z2:(L.length:Int)<=1099511627776:=by omega
 have xH:=Qe hin;have HQ:=Qe hq;clear hc hr hcm hm hin hq
 go_enter func24,ntmps24;go_wp2
 go_loopg [9] l.length (fun g i wr => ∃j:Nat,j<=l.length∧g=l.length - j∧i = .int .i64 (j:Int)∧Hid (∀t,t<j->L.getD (l.getD t noC).1 ByteArray.empty=(l.getD t noC).2)∧Hid (Zb w wr))
 case atStart=>go_light;exact⟨0,Ll _,rfl,rfl,fun t ht=>absurd ht (Nu _),Lb _ _⟩
 case round =>
  obtain⟨j,hj,rfl,rfl,xC,xF⟩:=hrel
  by_cases hlt:j<l.length
  ·have y0:(0:Int)<=(j:Int):=Lf _;have y1:(j:Int)<(l.length:Int):=by omega
   obtain⟨hk,hs⟩:=HC.out wr xF.out;obtain rfl:=hk.ptr (by omega)
   obtain⟨c0,c1⟩:=hk.at hlt;have xA:l.getD j noC∈l:=by rw[La,Lc hlt];exact LG _
   have hi:=xH.out _ xA;obtain⟨a,ha⟩:=Ze ((l.getD j noC).1);obtain⟨x,hx⟩:=Ze ((l.getD j noC).2);rw[ha] at c0 hi;rw[hx] at c1;obtain⟨W1,xB⟩:=Ze (wr.alloc (.cells #[.int .u64 (a:Int),.string x] 38));have xD:Zb wr W1:=by rw[<-xB];exact bal (Lb _ _) _
   have t1:W1.heap[wr.heap.size]? = some (.cells #[.int .u64 (a:Int),.string x] 38 (0,0)):=by rw[<-xB];exact Lu wr _
   have d0:W1.cell? ⟨wr.heap.size,0,none⟩=some (.int .u64 (a:Int)):=by rw[cell_of_row W1 wr.heap.size 0 _ _ (0,0) t1];rfl
   have d1:W1.cell? ⟨wr.heap.size,1,none⟩=some (.string x):=by rw[cell_of_row W1 wr.heap.size 1 _ _ (0,0) t1];rfl
   have xE:=hs.next xD (Ld _);obtain rfl:=xE.ptr (by omega)
   have ci:=xE.at hi;obtain⟨y,hy⟩:=Ze (L.getD a ByteArray.empty);rw[hy] at ci;have q0:(0:Int)<=(a:Int):=Lf _;have q1:(a:Int)<(L.length:Int):=by omega
   have xG:Hid (∀t,Zb w (W1.drewN t)):=fun t=>Qd (Qa xF.out xD) t
   by_cases he:y=x
   ·subst he;have HN:Hid (∀t,t<j+1->L.getD (l.getD t noC).1 ByteArray.empty=(l.getD t noC).2):=fun t ht=>by
     rcases NB (NL ht) with h|rfl
     ·exact xC.out t h
     ·rw[ha,hx];exact hy
    clear hk hs xE xA ha hx hy t1 xC hi xD
    go_upto_region 4 with (fail)
    try rw[xB]
    clear xB c0 c1
    go_quiet (fail)
    go_wp2
    go_roundg (l.length - (j+1))
    case rel=>go_light;exact⟨j+1,by omega,rfl,by go_num,HN,xG.out _⟩
    case measure=>go_light;omega
   ·have xI:=YZ he;have hz:=Uu he;obtain rfl:false=r:=by
     rw[<-HQ.out];refine(Lj fun h=>he ?_).symm
     have:=h _ xA;rw[ha,hx,hy] at this;exact this
    clear hk hs xE xA ha hx hy t1 xC hi xD he
    go_upto_region 4 with (fail)
    try rw[xB]
    clear xB c0 c1
    go_quiet (fail)
    go_wp2
    go_ret
    exact⟨rfl,xG.out _⟩
  ·obtain rfl:j=l.length:=by omega
   have hz : ¬(l.length:Int)<(l.length:Int):=by omega
   obtain rfl:true=r:=by
    rw[<-HQ.out];refine(Ln fun c hc => ?_).symm
    obtain⟨t,ht,rfl⟩:=LS hc;have:=xC.out t ht;rw[La (l:=l),Lc ht] at this;exact this
   have hB:=xF.out;clear hlt hj;go_wp2
   go_ret
   exact⟨rfl,hB⟩
section
open Pl (pw QF)
open Cv (Row All Til But cov zl)
theorem QcC{A:Nat->Prop}{q:Nat} : ∀ {L:List (Nat×Nat)} {p:Nat},Til A q p L->L.length+p<=q
 | [],_,h=>by have:=h.1;simp;omega
 | b::L,p,h=>by
  have:=QcC h.2.2.2.2.2;have h1:=h.1;have h2:=Cv.YR b.1 b.2;rw[Lt];omega
theorem QgU{i:Nat} : ∀ {l:List (Nat×BA)},[i]=ixs l -> ∃x,l=[(i,x)]
 | [(a,x)],hS=>by
  simp only[List.map_cons,List.map_nil] at hS;injection hS with hS _
  exact⟨x,by rw[hS]⟩
theorem QgL(i:Nat):(fun t:Nat=>t=i)=fun t=>t∈[i]:=by funext t;simp
structure AccT(k:Int)(o1:Nat)(c1:BA)(l:List (Nat×BA))(P:PV)(Bs:List (Nat×Nat))(K:List He)(R:LB):Prop where
 tre:Tre (clk k) o1 Bs P.D (vlC l) (fun i=>i∈ixs l) K R
 root:dg (clk k) (QI o1 (Qr (clk k) R))=c1
 free : ∀i∈ixs l,i<o1 ∧ ∀t,ixM Bs t (i / 2^t)=none
 asc:Asc (ixs l)
 len:Bs.length<=2*o1+200
 call : ∀W sa sb sc da db dc,o1<=5000->RdF W sa sb sc da db dc P->Calls prog 60 #[vP P.kd k P.old P.size (.slice sa P.S.length sc) (.slice da P.D.length dc)] W fun e w' => ∃v,e = .returned v∧Cv.Qx w' W.heap.size v (zl Bs)∧Zb W w'
theorem Qdr{n:Nat} : ∀ {S:List Nat} {x:Nat},Cv.QT x S n->x<=n->S.length+x<=n
 | [],_,_,hx=>by simpa using hx
 | a::S,x,h,hx=>by
  have h1:x<=a:=(Cv.Yp h a (Nq ..)).1;have h2:a<n:=(Cv.Yp h a (Nq ..)).2;have:=Qdr h.2 h2;rw[Lt];omega
theorem Qhu{n:Nat}{S:List Nat}(hp:Asc S)(hb : ∀i∈S,i<n):S.length<=n:=by
 have xA : ∀(S:List Nat) (x:Nat),Asc S->(∀i∈S,x<=i∧i<n)->x<=n->S.length+x<=n:=by
  intro S
  induction S with
  | nil=>intro x _ _ hx;simpa using hx
  | cons a S ih =>
   intro x hp hb hx;obtain⟨h1,h2⟩:=List.pairwise_cons.1 hp;have ha:=hb a (Nq ..);have:=ih (a+1) h2 (fun i hi=>⟨h1 i hi,(hb i (L4 _ hi)).2⟩) (by omega)
   rw[Lt];omega
 have:=xA S 0 hp (fun i hi=>⟨Ll _,hb i hi⟩) (Ll _)
 omega
theorem QiO{k:Int}{o1:Nat}{c1:BA}{l:List (Nat×BA)}{s:BA}{P:PV}(A:Acc k o1 c1 l s P) : ∃Bs K R,AccT k o1 c1 l P Bs K R:=by
 have hS:=A.hS;have xC:=A.size;have xE:=A.old
 rcases A.how with ⟨h1,i,A',H,B,hSi,wy,hi,hf,hr⟩|⟨h2,hok,hr⟩
 ·rw[hSi] at hS;obtain⟨x,xB⟩:=QgU hS;have xF:vlC l i=x:=by rw[xB];simp[vlC]
  have xG:(vls l).getD 0 ByteArray.empty=x:=by rw[xB];rfl
  rw[xG] at hr;have ht:=Qfu wy A.n40 ⟨A.k1,A.k2⟩ hf (V:=vlC l) x xF;rw[QgL i,hS] at ht;refine⟨_,_,_,ht,hr,fun t ht => ?_,?_,?_,fun W sa sb sc da db dc _ hF => ?_⟩
  ·rw[<-hS] at ht;have ht:t=i:=by simpa using ht
   subst ht;exact⟨hi,fun t=>YG.2 (wy.free t)⟩
  ·rw[<-hS];exact Wj _ _
  ·have:=wy.len;have:=wy.hH;rw[Of];omega
  ·have xA:=hF.p.rs;rw[hSi] at xA ⊢;rw[h1,xC];exact Qgw W k P.old wy A.n40 hi sa sb 0 sc xA _
 ·rw[hS] at hok hr;obtain⟨xD,_,_,hc⟩:=Cv.QJ hok.2.1;refine⟨_,_,_,Qdn hok,hr,fun t ht=>⟨(Cv.Yp hc t ht).2,Qbv hok ht⟩,Y8 hc,?_,fun W sa sb sc da db dc h5 hF => ?_⟩
  ·have:=QcC (Cv.YP o1 (ixs l) xD hc);omega
  ·have xA:=hF.p.rs;rw[hS] at xA ⊢;rw[h2,xC];exact Qez W k P.old o1 (ixs l) hok.2.1 (by have:=Qdr hc (Ll _);omega) sa sb 0 sc xA _
theorem Qkq{c:Nat}{L:LB}(hL:L.length<=2^40):rtD c L L.length=dg c (QI L.length (Qr c ((Cv.dnL 41 0 L.length).map fun b=>nd c L b.1 b.2))):=by
 have:=(Qaq c L L.length (Ld _) hL).1;rw[Cv.QX L.length hL] at this;rw[rtD,this]
theorem Qds{k:Int}{L:LB}{l:List (Nat×BA)}{s:BA}{P:PV}{Bs:List (Nat×Nat)}{K:List He}{R:LB}(A:Acc k L.length (rtD (clk k) L L.length) l s P)(T:AccT k L.length (rtD (clk k) L L.length) l P Bs K R) :
  (∃q,wk (clk k) L.length L (ixM Bs) P.D (vlC l) (Cv.dnL 41 0 L.length)=some q∧Clx (clk k) q)∨soC L l:=by
 have he:=T.root;rw[Qkq A.n40,<-T.tre.pk] at he
 rcases QkT (Qp k) T.tre.lt T.tre.dsz he.symm with h|⟨_,h⟩
 ·exact .inl h
 ·refine .inr fun c hc => ?_
  have hm:c.1∈ixs l:=List.mem_map.2 ⟨c,hc,rfl⟩;obtain⟨hi,xA⟩:=T.free c.1 hm;obtain⟨A',H,B,wy⟩:=Qhn L.length c.1 A.n40 hi;obtain⟨h1,h2⟩:=h _ wy.top;have:=(Qjo (Qp k) T.tre.lt T.tre.dsz H (c.1 / 2^H) h1 h2 0 c.1 (Ll _) rfl (fun t _ _=>xA t)).2 rfl (by have:=xA 0;rwa [NC,Ih] at this)
  rw[this];obtain⟨j,hj,rfl⟩:=LS hc;have e:=Qer T.asc hj;rw[La,Lc hj] at e;exact e
end
structure SdP(w:World)(k:Int)(L:LB)(M:Nat->Nat->Option Nat)(D:LB)(V:Nat->BA)(Q:Nat->Prop)(v1 v2:Value):Prop where
 tb:Tb w
 e1 : ∀W h i,Zb w W->h<=40->(i+1)*2^h<=L.length->Zr 214 #[v1,bkV h i] W (lsE (clk k) L M h i)
 e2 : ∀W h i,Zb w W->h<=40->(i+1)*2^h<=L.length->(h=0->M h i=none->Q i)->Zr 216 #[v2,bkV h i] W (prE D V M h i)
 szL : ∀s∈L,s.size<=140737488351232
 szV : ∀i,Q i->(V i).size<2305843009213693952
 hM : ∀h i j,M h i=some j->j<D.length
 hD : ∀d∈D,d.size=clk k
 hL:L.length<=1099511627776
theorem QfB{w:World}{k:Int}{L:LB}{M:Nat->Nat->Option Nat}{D:LB}{V:Nat->BA}{Q:Nat->Prop}{v1 v2:Value}(S:SdP w k L M D V Q v1 v2) : ∀(h i:Nat),h<=40->(i+1)*2^h<=L.length->Vis M Q h i -> ∀W,Zb w W ->
  Zr 76 #[wkV k v1 107 v2,bkV h i] W (snV (nd (clk k) L h i) (xd (clk k) M D V h i) (fp (clk k) L M D V h i)):=by
 have hc:=Qp k;have xA : ∀(h i j:Nat),h<=40->(i+1)*2^h<=L.length->M h i=some j -> ∀W,Zb w W->Zr 76 #[wkV k v1 107 v2,bkV h i] W (snV (nd (clk k) L h i) (xd (clk k) M D V h i) (fp (clk k) L M D V h i)):=fun h i j hh hi e W hb=>by
  rw[QeP e,Qhp e];refine block_cutP W k v1 v2 h i _ _ none (Qem _) (fun W' hb' => ?_) (fun W' hb' => ?_)
  ·have:=S.e1 W' h i (Qa hb hb') hh hi
   rwa [lsE,e,Option.isSome_some,Lm rfl] at this
  ·have:=S.e2 W' h i (Qa hb hb') hh hi (fun _ h0=>by rw[e] at h0;cases h0)
   rwa [prE,e,Option.isSome_some,Lm rfl] at this
 intro h
 induction h with
 | zero =>
  intro i hh hi hv W hb
  cases e:M 0 i with
  | some j=>exact xA 0 i j hh hi e W hb
  | none =>
   have hq:=hv e;rw[ON e,Qah e,nd];have xB:i<L.length:=QbW hi;have hs:=S.szL _ (Qv xB);have xD:=S.szV i hq;refine block_leafP W k v1 v2 0 i (S.tb.next hb) _ _ (by rw[Yu];omega) (by rw[Yu];omega) _ _ rfl rfl _ rfl (fun W' hb' => ?_) (fun W' hb' => ?_)
   ·have:=S.e1 W' 0 i (Qa hb hb') hh hi
    rwa [lsE,e,IF,Le (by simp),Le (by simp)] at this
   ·have:=S.e2 W' 0 i (Qa hb hb') hh hi (fun _ _=>hq)
    rwa [prE,e,IF,Le (by simp),Le (by simp)] at this
 | succ h ih =>
  intro i hh hi hv W hb
  cases e:M (h+1) i with
  | some j=>exact xA (h+1) i j hh hi e W hb
  | none =>
   obtain⟨vl,vr⟩:=hv e;obtain⟨i1,i2⟩:=Qlt hi;rw[Qa6 e,Qai e,nd];have xB:i<L.length:=QbW hi;have xC:=S.hL;have z1 : ∀a b,(nd (clk k) L a b).size<=32:=fun a b=>by rw[Q7 hc];exact hc
   have z2 : ∀a b,(xd (clk k) M D V a b).size<=32:=fun a b=>by rw[Og hc S.hM S.hD];exact hc
   refine block_nodeP W k v1 v2 (h+1) h i (2*i) (2*i+1) rfl hh rfl rfl (by omega) (S.tb.next hb) (nd (clk k) L h (2*i)) (xd (clk k) M D V h (2*i)) (nd (clk k) L h (2*i+1)) (xd (clk k) M D V h (2*i+1)) _ _ ⟨z1 _ _,z2 _ _,z1 _ _,z2 _ _⟩ _ _ rfl rfl _ _ rfl rfl _ _ _ rfl rfl rfl (fun W' hb' => ?_) (fun W' hb' => ?_) (fun W' hb'=>ih (2*i) (by omega) i1 vl W' (Qa hb hb')) (fun W' hb'=>ih (2*i+1) (by omega) i2 vr W' (Qa hb hb'))
   ·have:=S.e1 W' (h+1) i (Qa hb hb') hh hi
    rwa [lsE,e,IF,Le (by simp),Lm (by omega)] at this
   ·have:=S.e2 W' (h+1) i (Qa hb hb') hh hi (fun h0=>by omega)
    rwa [prE,e,IF,Le (by simp),Lm (by omega)] at this
theorem QiK{w:World}{k:Int}{L:LB}{M:Nat->Nat->Option Nat}{D:LB}{V:Nat->BA}{Q:Nat->Prop}{v1 v2:Value}(S:SdP w k L M D V Q v1 v2)(n:Nat)(hn:n<=L.length)(B:List (Nat×Nat))(hB:Cv.dnL 41 0 n=B)(hv : ∀b∈B,Vis M Q b.1 b.2)(T:Pq)(hT:wk (clk k) n L M D V B=T) :
  Zr 35 #[wkV k v1 107 v2,.int .u64 (n:Int)] w (pv T):=by
 have hc:=Qp k;have xA:n<=2^40:=Lz hn S.hL;have xC:=U4 n xA;rw[hB] at xC;refine all_any w S.tb k v1 _ v2 n xA B hB (fun b=>nd (clk k) L b.1 b.2) (fun b=>xd (clk k) M D V b.1 b.2) (fun b=>by rw[Q7 hc];exact hc) (fun b=>by rw[Og hc S.hM S.hD];exact hc) (fp (clk k) L M D V) (fun W b hb hbm => ?_) T hT
 have xB:b.1<=40:=Cv.pw40 (Lz (by have:=LE (Pl.pw b.1) (show 1<=b.2+1 by omega);rw[LX] at this;exact this) (Lz (xC b hbm) xA))
 exact QfB S b.1 b.2 xB (Lz (xC b hbm) hn) (hv b hbm) W hb
section
open Cv (zl)
theorem QnJ(w:World)(b:Nat)(o:Obj):ChT (fun x=>x=b) w (ChangeMaps.setBlock w b o) :=
 ⟨rfl,rfl,rfl,by simp[ChangeMaps.setBlock],fun q hq=>by simp[ChangeMaps.setBlock,show ¬b=q from fun e=>hq e.symm]⟩
theorem QjJ{w:World}{b:Nat}{f g:Int->Nat->Option Nat}(h:Mi w b f)(e : ∀x y,Fitb x y->f x y=g x y):Mi w b g:=by
 obtain⟨es,c,h1,h2,h3,h4⟩:=h;exact⟨es,c,h1,h2,h3,fun x y s hf=>by rw[<-e x y hf];exact h4 x y s hf⟩
theorem Qe0(w:World)(kd k:Int)(old n:Nat)(vs:Value)(da:OA)(dn dc:Nat)(la:OA)(ln lc:Nat)(ca:OA)(cn cc:Nat)(Bs:List (Nat×Nat))(hBf : ∀b∈Bs,b.1<=40∧b.2<2^40)(hBl:Bs.length<=100000)(hBn:Bs.Nodup)
  (HBo : ∀W,Zb w W->Calls prog 60 #[vP kd k old n vs (.slice da dn dc)] W fun e w' => ∃v,e = .returned v∧Cv.Qx w' W.heap.size v (zl Bs)∧Zb W w')
  (T:Pq) (HA : ∀W mb,Zb w W->Mi W mb (fun h i=>if 0<=h then ixM Bs h.toNat i else none)->Zr 35 #[wkV k (lsV k la ln lc (some mb)) 107 (prV' da dn dc ca cn cc (some mb)),.int .u64 (n:Int)] W (pv T)) :
  Zr 26 #[vP kd k old n vs (.slice da dn dc),.slice la ln lc,.slice ca cn cc] w (pv T):=by
 have xA:=Qe HBo;have yB:=Qe HA;unfold vP at xA ⊢;obtain⟨F,yD,h6,hb,xX⟩:=Yk w (.int .i64 kd) (.int .i64 k) (.int .u64 (old:Int)) (.int .u64 (n:Int)) vs (.slice da dn dc);obtain⟨F1,xQ,yK,xE⟩:=Qce F;obtain⟨F2,xL⟩:=Ze (F1.alloc (.map #[] 0));have xU:Mi F2 F1.heap.size (fun _ _=>none):=by rw[<-xL];exact Qnv F1
 have xN:Zb F1 F2:=by rw[<-xL];exact bal (Lb _ _) _
 have xW:F1.heap.size=w.heap.size+1+1:=by rw[<-xQ,LA,xX]
 have yA:=h6.next (Qa xE xN);have xZ:=yK.next xN;obtain⟨c0,c1,c2,c3,c4,c5⟩:=yA.cells;have xT:=Qa hb (Qa xE xN);rw[xX] at xZ;rw[xW] at xU;have HQ:=Qe (Lo yA (Lo xZ xU));clear HBo HA h6 yK xU hb xE xN yA xZ;have yR := @run_makeMap prog
 go_enter func26,ntmps26
 go_upto_region 2 with (fail)
 try rw[yD,xQ,xL]
 try rw[xW]
 clear yD xQ xL yR
 go_upto_region 3 with (go_at_call 60;with_reducible refine(xA.out _ xT).mono ?_;rintro e w3 ⟨v,rfl,h3,xG⟩;obtain⟨a3,n3,yW,rfl⟩:=Cv.Qj h3)
 obtain⟨yV,gB,yZ,yN,yU,xP,yT⟩:=Y4 h3 (fun x hx=>by
  obtain⟨b0,yO,rfl⟩:=List.mem_map.1 hx;have:=hBf b0 yO;exact⟨⟨by simp only;omega,by simp only;omega⟩,by simp only;omega⟩)
 injection yU with e1 e2 e3
 subst e1 e2 e3;have yS:Bs.length=n3:=by have:=xP.len;rwa [Cv.QC] at this
 subst yS;have xI:0<Bs.length->w.heap.size+1+1<gB∧gB<w3.heap.size:=fun h0=>by
  obtain⟨g,yP,yX,yQ⟩:=QjW h3 (by rw[Cv.QC];exact h0)
  have:=xP.addr h0;rw[yP] at this;injection this with this
  injection this with this _
  subst this;have:=HQ.out.2.2.lt;exact⟨by omega,yQ⟩
 have xC:Hid (Six w3 w.heap.size (.int .i64 kd) (.int .i64 k) (.int .u64 (old:Int)) (.int .u64 (n:Int)) vs (.slice da dn dc)∧P3 w3 (w.heap.size+1) none∧Zb w w3):=⟨HQ.out.1.next xG,HQ.out.2.1.next xG,Qa xT xG⟩;have yC:Hid (Mi w3 (w.heap.size+1+1) (fun h i=>if 0<=h then ixM (Bs.take 0) h.toNat i else none)):=by
  refine QjJ (HQ.out.2.2.same (xG.block _ HQ.out.2.2.lt)) fun x y _ => ?_
  split
  ·rw[NS];exact(YG.2 (by simp)).symm
  ·rfl
 have hz:(Bs.length:Int)<=100000:=by omega
 have HG:=Qe xI;have HR:=Qe xP;clear HQ h3 xG xT c0 c1 c2 c3 c4 c5 yT xI xP xW xX xA
 go_loopg [14] Bs.length (fun g i wr => ∃j:Nat,g=Bs.length - j∧j<=Bs.length∧i = .int .i64 (j:Int)∧Hid (Mi wr (w.heap.size+1+1) (fun h i=>if 0<=h then ixM (Bs.take j) h.toNat i else none))∧Hid (Bx (w.heap.size+1+1) w3 wr))
 case atStart=>go_light;exact⟨0,rfl,Ll _,rfl,yC,Bx.refl _ _⟩
 case round =>
  clear yC;obtain⟨j,rfl,hj,rfl,xF,xB⟩:=hrel
  by_cases hlt:j<Bs.length
  ·have z0:(0:Int)<=(j:Int):=Lf _;have z1:(j:Int)<(Bs.length:Int):=by omega
   have xV:=HR.out;obtain rfl:=xV.addr (by omega)
   obtain⟨b,xO⟩:=Ze (Bs.getD j (0,0));have yH:b∈Bs:=by rw[<-xO,La,Lc hlt];exact LG _
   obtain⟨k0,k1⟩:=xV.cell j hlt;have yL:(zl Bs).getD j (0,0)=((b.1:Int),b.2):=by
    rw[<-xO,La,La,zl,No,Lc hlt];rfl
   rw[yL] at k0 k1;simp only at k0 k1;rw[Lr] at k0 k1;have xI:=HG.out (by omega)
   have xD:=xB.out.block gB xI.2 (by omega)
   replace k0:=(LC (a:=⟨gB,j*2,none⟩) xD).trans k0;replace k1:=(LC (a:=⟨gB,j*2+1,none⟩) xD).trans k1;obtain⟨f1,f2⟩:=hBf b yH;have xY:Bs.take (j+1)=Bs.take j++[b]:=by rw[LW hlt,<-xO,La,Lc hlt];rfl
   have yJ:b ∉ Bs.take j:=fun hm=>by
    have h1:(Bs.take (j+1)).Nodup:=hBn.sublist (Is _ _);rw[xY] at h1;exact(List.nodup_append.1 h1).2.2 b hm b (by simp) rfl
   have xJ:(Bs.take j).length=j:=by rw[Lq];omega
   obtain⟨bh,bk⟩:=b;simp only at k0 k1 f1 f2;obtain⟨W1,xM⟩:=Ze (wr.alloc (.cells #[.int .i64 (bh:Int),.int .u64 (bk:Int)] 83));have xE:Zb wr W1:=by rw[<-xM];exact bal (Lb _ _) _
   have t1:W1.heap[wr.heap.size]? = some (.cells #[.int .i64 (bh:Int),.int .u64 (bk:Int)] 83 (0,0)):=by rw[<-xM];exact Lu wr _
   have d0:W1.cell? ⟨wr.heap.size,0,none⟩=some (.int .i64 (bh:Int)):=by rw[cell_of_row W1 wr.heap.size 0 _ _ (0,0) t1];rfl
   have d1:W1.cell? ⟨wr.heap.size,1,none⟩=some (.int .u64 (bk:Int)):=by rw[cell_of_row W1 wr.heap.size 1 _ _ (0,0) t1];rfl
   have hf:Fitb (bh:Int) bk:=⟨⟨by omega,by omega⟩,by omega⟩
   have yE:Mi W1 (w.heap.size+1+1) _:=xF.out.same (xE.block _ xF.out.lt);obtain⟨es,cl,xK,xR⟩:=yE.write hf j;unfold kv ni at xK;have xH:=QnJ W1 (w.heap.size+1+1) (.map es cl);obtain⟨W2,yF⟩:=Ze (ChangeMaps.setBlock W1 (w.heap.size+1+1) (.map es cl));rw[yF] at xK xR xH;have HN:Hid (Mi W2 (w.heap.size+1+1) (fun h i=>if 0<=h then ixM (Bs.take (j+1)) h.toNat i else none)∧Bx (w.heap.size+1+1) w3 W2):=by
    refine⟨QjJ xR fun x y _ => ?_,(xB.out.next xE).put xH⟩
    show(if x=(bh:Int)∧y=bk then some j else if 0<=x then ixM (Bs.take j) x.toNat y else none)=if 0<=x then ixM (Bs.take (j+1)) x.toNat y else none
    by_cases hx:0<=x
    ·rw[Lm hx,Lm hx,xY,Qlv yJ,xJ]
     by_cases he:x=(bh:Int)∧y=bk
     ·obtain⟨rfl,rfl⟩:=he;rw[Lm ⟨rfl,rfl⟩,Lm (by rw[IJ])]
     ·rw[Le he,Le (fun e=>he ?_)]
      injection e with e1 e2
      exact⟨by omega,e2⟩
    ·rw[Le hx,Le hx,Le (fun e:x=(bh:Int)∧y=bk=>hx (by omega))]
   clear xV yL xO yH xD xI xY yJ xJ t1 yE xR xH yF hf f1 f2 xF xB
   go_upto_region 5 with (fail)
   try rw[xM]
   clear xM k0 k1;go_wp2
   go_roundg (Bs.length - (j+1))
   case rel=>go_light;exact⟨j+1,rfl,by omega,by go_num,HN.out.1,HN.out.2⟩
   case measure=>go_light;omega
  ·obtain rfl:j=Bs.length:=by omega
   have yY : ¬(Bs.length:Int)<(Bs.length:Int):=by omega
   have xS:=xF.out;rw[LY] at xS;have x6:Six wr w.heap.size (.int .i64 kd) (.int .i64 k) (.int .u64 (old:Int)) (.int .u64 (n:Int)) vs (.slice da dn dc):=(xB.out.block _ xC.out.1.lt (by omega)).trans xC.out.1
   have x3:P3 wr (w.heap.size+1) none:=(xB.out.block _ xC.out.2.1.lt (by omega)).trans xC.out.2.1
   have yI:Zb w wr:=xC.out.2.2.trans (xB.out.below (by omega) (Nat.le_of_lt xC.out.1.lt))
   obtain⟨c0,c1,c2,c3,c4,c5⟩:=x6.cells;have yM:=Qe (yB.out wr (w.heap.size+1+1) yI xS);have H3:=Qe x3;clear xF xB xC x6 x3 xS yB HR HG hlt hj
   go_wp2_with (go_at_call 35;with_reducible refine yM.out.mono ?_;rintro e w8 ⟨rfl,yG⟩;have h3:=H3.out.next yG;obtain⟨r0,r1,r2⟩:=h3.cells;have rf:=h3.fz;simp only[pA,pB',Option.isSome_none] at r0 r1 r2)
   have hp:=h3.put T;have xH:=J8 w8 (w.heap.size+1) T;obtain⟨d0,d1,d2⟩:=hp.cells;refine Lp (v:=pv T) (by simp[results,results26,go_sem,d0,d1,d2]) rfl ⟨rfl,?_⟩
   exact(Qa yI yG).trans (xH.below (by rintro b rfl;omega))
end
abbrev tri(T:Pq):Value := .tuple #[.string (pA T),.string (pB' T),.bool T.isSome]
section
variable (w:World) (k:Int) (la:OA) (ln lc:Nat) (ca:OA) (cn cc:Nat) (s:BA) (o:Nat) (c:BA)
  (HCm:Hr w 23 #[.int .i64 k,.slice la ln lc] (.agg #[.int .u64 (o:Int),.string c]))
include HCm
theorem Qjf(r:Int)(hr:r≠0)
  (HL:Hr w 11 #[.int .i64 k,.agg #[.int .u64 (o:Int),.string c],.slice ca cn cc,.string s] (.int .i64 r)) :
  Zr 10 #[.int .i64 k,.slice la ln lc,.slice ca cn cc,.string s] w (tri none):=by
 have hz:(r != 0)=true:=by simpa using hr
 have xC : ¬r=0:=hr;clear hr
 go_enter func10,ntmps10
 go_wp2_with (first
  | (go_at_call 23;with_reducible refine(HCm.out _ (Lb _ _)).mono ?_;rintro e w1 ⟨rfl,xA⟩)
  | (go_at_call 11;with_reducible refine(HL.out _ xA).mono ?_;rintro e w2 ⟨rfl,xB⟩))
 exact Lp (v:=tri none) (by simp[results,results10,go_sem,pA,pB']) rfl ⟨rfl,Qa xA xB⟩
theorem Qjg
  (HL:Hr w 11 #[.int .i64 k,.agg #[.int .u64 (o:Int),.string c],.slice ca cn cc,.string s] (.int .i64 0))
  (HS:Hr w 24 #[.slice ca cn cc,.slice la ln lc] (.bool true)) :
  Zr 10 #[.int .i64 k,.slice la ln lc,.slice ca cn cc,.string s] w (tri none):=by
 go_enter func10,ntmps10
 go_wp2_with (first
  | (go_at_call 23;with_reducible refine(HCm.out _ (Lb _ _)).mono ?_;rintro e w1 ⟨rfl,xA⟩)
  | (go_at_call 11;with_reducible refine(HL.out _ xA).mono ?_;rintro e w2 ⟨rfl,xB⟩)
  | (go_at_call 24;with_reducible refine(HS.out _ (Qa xA xB)).mono ?_;rintro e w3 ⟨rfl,xC⟩))
 exact Lp (v:=tri none) (by simp[results,results10,go_sem,pA,pB']) rfl ⟨rfl,Qa (Qa xA xB) xC⟩
theorem QgC(P:PV)(T:Pq)
  (HL:Hr w 11 #[.int .i64 k,.agg #[.int .u64 (o:Int),.string c],.slice ca cn cc,.string s] (.int .i64 0))
  (HS:Hr w 24 #[.slice ca cn cc,.slice la ln lc] (.bool false))
  (HD:Hid (∀W,Calls prog 25 #[.string s] W fun e w' => ∃sa sb sc da db dc,e = .returned (.tuple #[vP P.kd P.k P.old P.size (.slice sa P.S.length sc) (.slice da P.D.length dc),.int .i64 0])∧RdF w' sa sb sc da db dc P∧Zb W w'))
  (HO:Hid (∀W sa sb sc da db dc,Zb w W->RdF W sa sb sc da db dc P->Zr 26 #[vP P.kd P.k P.old P.size (.slice sa P.S.length sc) (.slice da P.D.length dc),.slice la ln lc,.slice ca cn cc] W (pv T))) :
  Zr 10 #[.int .i64 k,.slice la ln lc,.slice ca cn cc,.string s] w (tri T):=by
 obtain⟨kd,kk,xM,xE,S,D⟩:=P;simp only[vP] at HD HO
 go_enter func10,ntmps10
 go_upto_region 4 with (first
  | (go_at_call 23;with_reducible refine(HCm.out _ (Lb _ _)).mono ?_;rintro e w1 ⟨rfl,xA⟩)
  | (go_at_call 11;with_reducible refine(HL.out _ xA).mono ?_;rintro e w2 ⟨rfl,xB⟩)
  | (go_at_call 24;with_reducible refine(HS.out _ (Qa xA xB)).mono ?_;rintro e w3 ⟨rfl,xI⟩)
  | (go_at_call 25;with_reducible refine(HD.out _).mono ?_;rintro e w4 ⟨sa,sb,sc,da,db,dc,rfl,hF,xJ⟩))
 obtain⟨F,xG,h6,xC,_⟩:=Yk w4 (.int .i64 kd) (.int .i64 kk) (.int .u64 (xM:Int)) (.int .u64 (xE:Int)) (.slice sa S.length sc) (.slice da D.length dc)
 try rw[xG]
 clear xG;obtain⟨c0,c1,c2,c3,c4,c5⟩:=h6.cells;have xD:=Qa (Qa (Qa (Qa xA xB) xI) xJ) xC;have xF:=hF.next xC;clear hF xA xB xI xJ xC h6
 go_upto_region 5 with (go_at_call 26;with_reducible refine(HO.out _ _ _ _ _ _ _ xD xF).mono ?_;rintro e w6 ⟨rfl,xK⟩)
 obtain⟨G,xH,h3,xL,_⟩:=Qj0 w6 T
 try rw[xH]
 clear xH;obtain⟨e0,e1,e2⟩:=h3.cells;have HB:Hid (∀t,Zb w (G.drewN t)):=fun t=>Qd (Qa (Qa xD xK) xL) t
 clear xD xK xL h3 xF c0 c1 c2 c3 c4 c5
 go_quiet (fail)
 go_wp2;exact Lp (v:=tri T) (by simp[results,results10,go_sem]) rfl ⟨rfl,HB.out _⟩
end
theorem Qll(w:World)(la:OA)(n lc:Nat)(hc:n<=lc)(m:Nat)(hm:min n 150=m):Calls prog 8 #[.slice la n lc] w fun e w'=>e = .returned (.slice la m lc)∧w=w':=by
 have z1:(n:Int)<=(lc:Int):=by omega
 by_cases h:150<n
 ·obtain rfl:m=150:=by omega
  have z2:(150:Int)<(n:Int):=by omega
  have z3:(150:Int)<=(lc:Int):=by omega
  clear hm h hc
  go_enter func8,ntmps8;go_wp2
  go_ret
  exact⟨rfl,rfl⟩
 ·obtain rfl:m=n:=by omega
  have z2 : ¬(150:Int)<(m:Int):=by omega
  clear hm h hc
  go_enter func8,ntmps8;go_wp2
  go_ret
  exact⟨rfl,rfl⟩
end Go.Proofs.YtdocjikpcbmcgaaGreatDoor
