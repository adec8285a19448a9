/- Own work. -/
import Derived.Test.YtdocjikpcbmcgaaGreatDoorQj14
set_option maxRecDepth 100000
set_option maxHeartbeats 2000000
namespace Go.Proofs.YtdocjikpcbmcgaaGreatDoor
open Go.RowKit
attribute [local go_sem ↓] Go.wp_at_zero Go.wp_at_succ
def pA(x:Pq):BA:=match x with|some q=>q.1|none=>⟨#[]⟩
def pB'(x:Pq):BA:=match x with|some q=>q.2|none=>⟨#[]⟩
abbrev pv(x:Pq):Value := .agg #[.string (pA x),.string (pB' x),.bool x.isSome]
def P3(w:World)(g:Nat)(x:Pq):Prop:=w.heap[g]? = some (.cells #[.string (pA x),.string (pB' x),.bool x.isSome] 59 (0,0))
theorem P3.cells{w:World}{g:Nat}{x:Pq}(h:P3 w g x):w.cell? ⟨g,0,none⟩=some (.string (pA x))∧w.cell? ⟨g,1,none⟩=some (.string (pB' x))∧w.cell? ⟨g,2,none⟩=some (.bool x.isSome):=by
 refine⟨?_,?_,?_⟩
 ·rw[cell_of_row w g 0 _ _ (0,0) h];rfl
 ·rw[cell_of_row w g 1 _ _ (0,0) h];rfl
 ·rw[cell_of_row w g 2 _ _ (0,0) h];rfl
theorem P3.lt{w:World}{g:Nat}{x:Pq}(h:P3 w g x):g<w.heap.size:=(Lg.1 h).1
theorem P3.next{w W:World}{g:Nat}{x:Pq}(h:P3 w g x)(hb:Zb w W):P3 W g x:=(hb.block g h.lt).trans h
theorem Qft(w:World)(x:Pq) : ∃W,w.alloc (.cells #[.string (pA x),.string (pB' x),.bool x.isSome] 59)=W∧P3 W w.heap.size x∧Zb w W∧W.heap.size=w.heap.size+1 :=
 ⟨_,rfl,heap_alloc_new w _,bal (Below.refl _ _) _,Lp ..⟩
theorem Qnt{a b:BA}(h:a≠b):pv (un a b) = .agg #[.string a,.string b,.bool true]:=by rw[un,if_neg h];rfl
theorem QgG{a b:BA}(h:a=b):un a b=none:=if_pos h
theorem QmF(w:World)(x y:Pq):Zr 73 #[pv x,pv y] w (pv (x.or y)):=by
 cases x with
 | none =>
  go_enter Tryz.func73,Tryz.ntmps73;go_wp2;refine bodyPost_ret (v:=pv y) (by simp[results,Tryz.results73,go_sem]) rfl ⟨rfl,?_⟩
  exact bal (bal (bal (Below.refl _ _) _) _) _
 | some q =>
  go_enter Tryz.func73,Tryz.ntmps73;go_wp2;refine bodyPost_ret (v:=pv (some q)) (by simp[results,Tryz.results73,go_sem]) rfl ⟨rfl,?_⟩
  exact bal (bal (bal (Below.refl _ _) _) _) _
theorem Qcj(w:World)(a b:BA):Zr 70 #[.string a,.string b] w (pv (un a b)):=by
 by_cases h:a=b
 ·subst h;rw[QgG rfl]
  go_enter Tryz.func70,Tryz.ntmps70;go_wp2;refine bodyPost_ret (v:=pv none) (by simp[results,Tryz.results70,go_sem,pA,pB']) rfl ⟨rfl,?_⟩
  exact bal (Below.refl _ _) _
 ·rw[Qnt h];have hz:=YG h;have hzb:=Yo h;clear h
  go_enter Tryz.func70,Tryz.ntmps70;go_wp2;refine bodyPost_ret (v := .agg #[.string a,.string b,.bool true]) (by simp[results,Tryz.results70,go_sem]) rfl ⟨rfl,?_⟩
  exact bal (Below.refl _ _) _
theorem JR(w:World)(x y r:Pq)(hr:x.or y=r):Zr 73 #[pv x,pv y] w (pv r):=by subst hr;exact QmF w x y
theorem Y8(w:World)(a b:BA)(r:Pq)(hr:un a b=r):Zr 70 #[.string a,.string b] w (pv r):=by subst hr;exact Qcj w a b
abbrev wo(t:BA):Value := .iface 173 (.string t)
abbrev ba(d:BA):Value := .iface 207 (.string d)
theorem Qnc(t:BA)(w:World):(Instr.typeAssert (wo t) 171 173 true).run Tryz.prog w = .ok (.tuple #[.string t,.bool true]) w:=by kernel_rfl
theorem Qnb(t:BA)(w:World):(Instr.typeAssert (ba t) 171 173 true).run Tryz.prog w = .ok (.tuple #[.string ⟨#[]⟩,.bool false]) w:=by kernel_rfl
theorem QlY(t:BA)(w:World):(Instr.typeAssert (ba t) 171 207 true).run Tryz.prog w = .ok (.tuple #[.string t,.bool true]) w:=by kernel_rfl
theorem UQ(w:World)(t:BA):Zr 129 #[wo t] w (.string t):=by
 have h1:=Qnc t
 go_enter Tryz.func129,Tryz.ntmps129;go_wp2
 go_ret
 exact⟨rfl,Below.refl _ _⟩
theorem Qbh(w:World)(t:BA):Zr 129 #[ba t] w (.string ⟨#[]⟩):=by
 have h1:=Qnb t;have h2:=QlY t
 go_enter Tryz.func129,Tryz.ntmps129;go_wp2
 go_ret
 exact⟨rfl,Below.refl _ _⟩
theorem YR(w:World)(ht:Tb w)(k:Int)(t:BA)(hs:t.size<4611686018427387904)(r:BA)(hr:dg (clk k) t=r):Zr 222 #[.string t,.int .i64 k] w (.string r):=by
 have HO:=OY w ht k t hs r hr
 go_enter Tryz.func222,Tryz.ntmps222
 go_wp2_with (go_at_call 126;with_reducible refine HO.mono ?_;rintro e w1 ⟨rfl,hb1⟩)
 go_ret
 exact⟨rfl,hb1⟩
theorem J4(w:World)(k:Int)(t:BA):Zr 223 #[.string t,.int .i64 k] w (.string t):=by
 go_enter Tryz.func223,Tryz.ntmps223;go_wp2
 go_ret
 exact⟨rfl,Below.refl _ _⟩
abbrev OC(w:World)(g:Nat)(y:Pq):World:=((w.setCell ⟨g,0,none⟩ (.string (pA y))).setCell ⟨g,1,none⟩ (.string (pB' y))).setCell ⟨g,2,none⟩ (.bool y.isSome)
theorem P3.put{w:World}{g:Nat}{x:Pq}(h:P3 w g x)(y:Pq):P3 (OC w g y) g y:=heap_setCell_same _ g 2 _ _ _ (heap_setCell_same _ g 1 _ _ _ (heap_setCell_same w g 0 _ _ _ h))
theorem Ud(w:World)(g:Nat)(y:Pq):ChT (fun b=>b=g) w (OC w g y):=(((ChT.refl (fun b=>b=g) w).set g 0 _ rfl).set g 1 _ rfl).set g 2 _ rfl
theorem P3.fz{w:World}{g:Nat}{x:Pq}(h:P3 w g x) : ∀j,w.frozen? ⟨g,j,none⟩=false:=fun j=>frozen_of_row w g j _ _ h
theorem QaI(w:World)(ht:Tb w)(k:Int)(b off n cap:Nat)(P:LB)(hr:RdS w (some ⟨b,off,none⟩) b off n P)(h2:2<=n)(hn:n<=cap)(hnm:n<=1000)(hsz : ∀s∈P,s.size<=32)(r:BA)(hq:UG (P.getD 0 ByteArray.empty) (QA (clk k) (P.drop 1))=r) :
  Zr 74 #[.int .i64 k,.slice (some ⟨b,off,none⟩) n cap] w (.string r):=by
 have hl:=hr.hl;subst hl;obtain⟨x,hx⟩:=Ze (P.getD 0 ByteArray.empty);obtain⟨y,hy⟩:=Ze (QA (clk k) (P.drop 1));have hxs:x.size<=32:=by rw[<-hx];exact hsz _ (QI (by omega))
 have hys:y.size<=32:=by rw[<-hy];exact Yc (Qx k) (Lb _) _ (fun s hs=>hsz s (LU hs))
 have hd:=Jf (H:=1) (dc:=cap) hr hn (by omega) (fun h=>by cases h) (ax:=some ⟨b,off+1,none⟩) (by rw[if_neg (by omega)];simp[Addr.add_mid])
 have HB:Hid (∀W,Zb w W->Zr 72 #[.int .i64 k,.slice (some ⟨b,off+1,none⟩) (P.length - 1) (cap - 1)] W (.string y)):=fun W hb=>by
  have:=Ji W (ht.next hb) k (some ⟨b,off+1,none⟩) b (off+1) _ (cap - 1) _ (hd.1.next hb (Lb _)) (fun s hs=>Lm (hsz s (LU hs)) (by decide)) (by rw[LD];omega) y hy
  rwa [LD] at this
 have HT:Hid (∀W,Zr 127 #[.string x,.string y] W (.string r)):=fun W=>QdZ W x y (by omega) (by omega) r (by rw[<-hx,<-hy];exact hq)
 have c0 : ∀W,Zb w W->W.cell? ⟨b,off,none⟩=some (.string x):=fun W hb=>by
  have:=(hr.next hb (Lb _)).at (k:=0) (by omega)
  rw[hx] at this;exact this
 have C0:=Qc c0;have cc:=c0 w (Below.refl _ _);have hb0:=Below.refl w.heap.size w;have z1:(1:Int)<=(P.length:Int):=by omega
 have z2:(P.length:Int)<=(cap:Int):=by omega
 have z3 : ¬cap=1:=by omega
 have z4:(0:Int)<(P.length:Int):=by omega
 have z5:(P.length:Int)<=1000:=by omega
 clear hr hsz hq hx hy hd ht h2 hn hnm hxs hys c0
 go_enter Tryz.func74,Tryz.ntmps74
 go_upto_region 1 with (fail)
 go_region_with (first
  | (go_at_call 72;with_reducible refine(HB.out _ (Below.refl _ w).drew).mono ?_;rintro e w1 ⟨rfl,hb1⟩;have cc1:=C0.out _ (Qa (Below.refl _ w).drew hb1);have hb9:=Qa (Below.refl _ w).drew hb1)
  | (go_at_call 127;with_reducible refine(HT.out _).mono ?_;rintro e w2 ⟨rfl,hb2⟩))
 all_goals
  go_wp2
  go_ret
  exact⟨rfl,Qa hb9 hb2⟩
theorem Qj6{c:Nat}{P Q:LB}(hl:P.length=Q.length){i:Nat}(hi:i+1<P.length):bg c (P.drop i) (Q.drop i)=(un (UG ((P.drop i).getD 0 ByteArray.empty) (QA c ((P.drop i).drop 1))) (UG ((Q.drop i).getD 0 ByteArray.empty) (QA c ((Q.drop i).drop 1)))).or (bg c (P.drop (i+1)) (Q.drop (i+1))):=by
 rw[LC (show i<P.length by omega),LC (show i<Q.length by omega),LC hi,LC (show i+1<Q.length by omega),bg]
 rfl
theorem QlZ{c:Nat}{P Q:LB}(hl:P.length=Q.length){i:Nat}(hi:P.length<=i+1):bg c (P.drop i) (Q.drop i)=none:=by
 by_cases h:i<P.length
 ·rw[LC h,Nb (show P.length<=i+1 by omega)]
  simp[bg]
 ·rw[Nb (show P.length<=i by omega)]
  simp[bg]
theorem aboveall_any (w:World) (ht:Tb w) (k:Int) (n:Nat) (pa:OA) (pb po pc:Nat) (P:LB) (hP:RdS w pa pb po P.length P) (hpc:P.length<=pc) (hpn:pa=none->pc=0) (qa:OA) (qb qo qc:Nat) (Q:LB) (hQ:RdS w qa qb qo P.length Q) (hqc:P.length<=qc) (hqn:qa=none->qc=0) (hm:P.length<=100) (hPs : ∀s∈P,s.size<=32) (hQs : ∀s∈Q,s.size<=32) (T:Pq) (hT:tp (clk k) n P Q=T) :
    Zr 34 #[.int .i64 k,.int .u64 (n:Int),.slice pa P.length pc,.slice qa P.length qc] w (pv T):=by
  have hl:P.length=Q.length:=hQ.hl.symm;obtain⟨x,hx⟩:=Ze (QA (clk k) P);obtain⟨y,hy⟩:=Ze (QA (clk k) Q);obtain⟨x1,hx1⟩:=Ze (QN n x);obtain⟨y1,hy1⟩:=Ze (QN n y);have hxs:x.size<=32:=by rw[<-hx];exact Yc (Qx k) (Lb _) _ hPs
  have hys:y.size<=32:=by rw[<-hy];exact Yc (Qx k) (Lb _) _ hQs
  have HB1:Hid (∀W,Zb w W->Zr 72 #[.int .i64 k,.slice pa P.length pc] W (.string x)):=fun W hb=>Ji W (ht.next hb) k pa pb po _ pc P (hP.next hb (Lb _)) (fun s hs=>Lm (hPs s hs) (by decide)) (by omega) x hx
  have HB2:Hid (∀W,Zb w W->Zr 72 #[.int .i64 k,.slice qa P.length qc] W (.string y)):=fun W hb=>Ji W (ht.next hb) k qa qb qo _ qc Q (hQ.next hb (Lb _)) (fun s hs=>Lm (hQs s hs) (by decide)) (by omega) y hy
  have HR1:Hid (∀W,Zr 71 #[.int .u64 (n:Int),.string x] W (.string x1)):=fun W=>QaA W n x (by omega) x1 hx1
  have HR2:Hid (∀W,Zr 71 #[.int .u64 (n:Int),.string y] W (.string y1)):=fun W=>QaA W n y (by omega) y1 hy1
  have HE:Hid ((un x1 y1).or (bg (clk k) (P.drop 0) (Q.drop 0))=T):=by rw[<-hx1,<-hy1,<-hx,<-hy,Iv,Iv];exact hT
  have HS:Hid (∀i,i+1<P.length -> ∃s t:BA,bg (clk k) (P.drop i) (Q.drop i)=(un s t).or (bg (clk k) (P.drop (i+1)) (Q.drop (i+1)))∧pa=some ⟨pb,po,none⟩∧qa=some ⟨qb,qo,none⟩∧(∀W,Zb w W->Zr 74 #[.int .i64 k,.slice (some ⟨pb,po+i,none⟩) (P.length - i) (pc - i)] W (.string s))∧(∀W,Zb w W->Zr 74 #[.int .i64 k,.slice (some ⟨qb,qo+i,none⟩) (P.length - i) (qc - i)] W (.string t))):=fun i hi=>by
    have ea:=hP.ptr (by omega)
    have eb:=hQ.ptr (by omega)
    subst ea eb;refine⟨_,_,Qj6 hl hi,rfl,rfl,fun W hb => ?_,fun W hb => ?_⟩
    · have hd:=Jf (H:=i) (dc:=pc) (hP.next hb (Lb _)) hpc (by omega) (fun h=>by cases h) (ax:=some ⟨pb,po+i,none⟩) (by rw[if_neg (by omega)];simp[Addr.add_mid])
      have:=QaI W (ht.next hb) k pb (po+i) _ (pc - i) _ hd.1 (by rw[LD];omega) (by rw[LD];omega) (by rw[LD];omega) (fun s hs=>hPs s (LU hs)) _ rfl
      rwa [LD] at this
    · have hQ':=hQ;rw[hl] at hQ';have hd:=Jf (H:=i) (dc:=qc) (hQ'.next hb (Lb _)) (by omega) (by omega) (fun h=>by cases h) (ax:=some ⟨qb,qo+i,none⟩) (by rw[if_neg (by omega)];simp[Addr.add_mid])
      have:=QaI W (ht.next hb) k qb (qo+i) _ (qc - i) _ hd.1 (by rw[LD];omega) (by rw[LD];omega) (by rw[LD];omega) (fun s hs=>hQs s (LU hs)) _ rfl
      rwa [LD,<-hl] at this
  have HF:Hid (∀i,P.length<=i+1->bg (clk k) (P.drop i) (Q.drop i)=none):=fun i hi=>QlZ hl hi
  have HC:Hid (P.length<=pc∧P.length<=qc):=⟨hpc,hqc⟩;have z5:(P.length:Int)<=100:=by omega
  have hb0:=bal (Below.refl w.heap.size w) (.cells #[.string ⟨#[]⟩,.string ⟨#[]⟩,.bool false] 59);clear hx hy hx1 hy1 hxs hys ht hP hQ hPs hQs hT hpc hqc hpn hqn hl
  go_enter Tryz.func34,Tryz.ntmps34
  go_upto_region 1 with (fail)
  go_upto_region 2 with (first
    | (go_at_call 72;with_reducible refine(HB1.out _ hb0).mono ?_;rintro e w1 ⟨rfl,hb1⟩)
    | (go_at_call 72;with_reducible refine(HB2.out _ (Qa (Qa hb0 hb1) hb2)).mono ?_;rintro e w3 ⟨rfl,hb3⟩)
    | (go_at_call 71;with_reducible refine(HR1.out _).mono ?_;rintro e w2 ⟨rfl,hb2⟩)
    | (go_at_call 71;with_reducible refine(HR2.out _).mono ?_;rintro e w4 ⟨rfl,hb4⟩)
    | (go_at_call 70;with_reducible refine(Qcj _ _ _).mono ?_;rintro e w5 ⟨rfl,hb5⟩))
  obtain⟨F,hFe,h3,hb6,_⟩:=Qft w5 (un x1 y1)
  try rw[hFe]
  clear hFe;have hbF:=Qa (Qa (Qa (Qa (Qa (Qa hb0 hb1) hb2) hb3) hb4) hb5) hb6;have hR:F.heap[w.heap.size]? = some (.cells #[.string ⟨#[]⟩,.string ⟨#[]⟩,.bool false] 59 (0,0)):=by
    have:=heap_alloc_new w (.cells #[.string ⟨#[]⟩,.string ⟨#[]⟩,.bool false] 59);exact((Qa (Qa (Qa (Qa (Qa hb1 hb2) hb3) hb4) hb5) hb6).block _ (by rw[Lp];omega)).trans this
  obtain⟨g5,hg5⟩:=Ze w5.heap.size;have hgw:w.heap.size<g5:=by
    have h1:=hb0.size;have h2:=hb1.size;have h3:=hb2.size;have h4:=hb3.size;have h5:=hb4.size;have h6:=hb5.size;rw[Lp] at h2;omega
  rw[hg5] at h3
  try rw[hg5]
  clear hg5 hb0 hb1 hb2 hb3 hb4 hb5 hb6 HB1 HB2 HR1 HR2;have H3:=Qc h3;have HR:=Qc hR;clear h3 hR;go_wp2
  go_loopg [25] P.length (fun g i wr => ∃(j:Nat) (X:Pq),g=P.length - j∧j<=P.length∧i = .int .i64 (j:Int)∧Hid (X.or (bg (clk k) (P.drop j) (Q.drop j))=T)∧Hid (P3 wr g5 X)∧Hid (Zb w wr∧wr.heap[w.heap.size]? = some (.cells #[.string ⟨#[]⟩,.string ⟨#[]⟩,.bool false] 59 (0,0))))
  case atStart =>
    go_light;exact⟨0,_,rfl,Lf _,rfl,HE,H3,Qc ⟨hbF,HR.out⟩⟩
  case round =>
    clear hbF HE H3 HR;obtain⟨j,X,rfl,hj,rfl,HE,H3,HW⟩:=hrel;have h3:=H3.out;obtain⟨c0,c1,c2⟩:=h3.cells;have fz:=h3.fz
    by_cases hlt:j+1<P.length
    · have hz:(j:Int)<(P.length:Int) - 1:=by omega
      have z0:(0:Int)<=(j:Int):=Le _;obtain⟨s,t,e1,rfl,rfl,HS1,HS2⟩:=HS.out j hlt;have HS1:=Qc HS1;have HS2:=Qc HS2;have z1:(j:Int)<=(P.length:Int):=by omega
      have z2:(P.length:Int)<=(pc:Int):=by have:=HC.out.1;omega
      have z3:(P.length:Int)<=(qc:Int):=by have:=HC.out.2;omega
      have z4 : ¬pc=j:=by have:=HC.out.1;omega
      have z6 : ¬qc=j:=by have:=HC.out.2;omega
      obtain⟨U,hU⟩:=Ze (un s t);obtain⟨Y,hY⟩:=Ze (X.or U);have HUn:Hid (∀W,Zr 70 #[.string s,.string t] W (pv U)):=fun W=>Y8 W s t U hU
      have HOr:Hid (∀W,Zr 73 #[pv X,pv U] W (pv Y)):=fun W=>JR W X U Y hY
      have HE2:Hid (Y.or (bg (clk k) (P.drop (j+1)) (Q.drop (j+1)))=T):=by
        have:=HE.out;rw[e1,hU] at this;rw[<-this,<-hY]
        show _=_
        cases X <;> rfl
      have hbw:=HW.out.1;have HK:Hid (∀W,Zb wr W->W.cell? ⟨g5,0,none⟩=some (.string (pA X))∧W.cell? ⟨g5,1,none⟩=some (.string (pB' X))∧W.cell? ⟨g5,2,none⟩=some (.bool X.isSome) ∧ ∀j,W.frozen? ⟨g5,j,none⟩=false):=fun W hb=>by
        have:=H3.out.next hb;obtain⟨a,b,c⟩:=this.cells;exact⟨a,b,c,this.fz⟩
      have hc9:=(Below.refl wr.heap.size wr).drew;clear e1 HE h3 hU hY
      go_upto_region 5 with (fail)
      go_region_with (first
        | (go_at_call 74;first
            | (with_reducible refine(HS1.out _ (Qa hbw hc9)).mono ?_)
            | (with_reducible refine(HS2.out _ (Qa hbw hc9)).mono ?_)
           rintro e w1 ⟨rfl,hb1⟩;replace hc9:=Qa hc9 hb1;obtain⟨c0,c1,c2,fz⟩:=HK.out _ hc9)
        | (go_at_call 70;with_reducible refine(HUn.out _).mono ?_;rintro e w3 ⟨rfl,hb3⟩;replace hc9:=Qa hc9 hb3;obtain⟨c0,c1,c2,fz⟩:=HK.out _ hc9)
        | (go_at_call 73;with_reducible refine(HOr.out _).mono ?_;rintro e w4 ⟨rfl,hb4⟩;replace hc9:=Qa hc9 hb4;obtain⟨c0,c1,c2,fz⟩:=HK.out _ hc9))
      all_goals
        have hp:=(H3.out.next hc9).put Y;have hch:=Ud w4 g5 Y;have HP:=Qc hp;have HCh:=Qc hch;clear hp hch c0 c1 c2 fz;go_wp2
        go_roundg (P.length - (j+1))
        case rel =>
          go_light;exact⟨j+1,Y,rfl,by omega,by go_num,HE2,HP,Qc ⟨(Qa hbw hc9).trans (HCh.out.below (by rintro b rfl;omega)),(HCh.out.block _ (by omega)).trans ((hc9.block _ (by have:=(Lg.1 HW.out.2).1;exact this)).trans HW.out.2)⟩⟩
        case measure=>go_light;omega
    · have hz : ¬(j:Int)<(P.length:Int) - 1:=by omega
      have e1:=HF.out j (by omega)
      have e2:X=T:=by
        have:=HE.out;rw[e1] at this;rw[<-this]
        cases X <;> rfl
      subst e2;have hW:=HW.out;have r0:wr.cell? ⟨w.heap.size,0,none⟩=some (.string ⟨#[]⟩):=by rw[cell_of_row wr w.heap.size 0 _ _ (0,0) hW.2];rfl
      have r1:wr.cell? ⟨w.heap.size,1,none⟩=some (.string ⟨#[]⟩):=by rw[cell_of_row wr w.heap.size 1 _ _ (0,0) hW.2];rfl
      have r2:wr.cell? ⟨w.heap.size,2,none⟩=some (.bool false):=by rw[cell_of_row wr w.heap.size 2 _ _ (0,0) hW.2];rfl
      have rf : ∀j,wr.frozen? ⟨w.heap.size,j,none⟩=false:=fun j=>frozen_of_row wr w.heap.size j _ _ hW.2
      have hp:=P3.put (x:=none) (show P3 wr w.heap.size none from hW.2) X
      have hch:=Ud wr w.heap.size X;obtain⟨d0,d1,d2⟩:=hp.cells;clear e1 HE HF HS hp;go_wp2;refine bodyPost_ret (v:=pv X) (by simp[results,Tryz.results34,go_sem,d0,d1,d2]) rfl ⟨rfl,?_⟩
      exact hW.1.trans (hch.below (by rintro b rfl;omega))
theorem Tryz.laidOut:laidOutB Tryz.prog=true:=by kernel_rfl
theorem Tryz.rowB:(83:TypeId)<Tryz.prog.types.size:=of_decide_eq_true (by kernel_rfl)
theorem Tryz.deepB:Tryz.prog.keyTypeAt 2 83=true:=by kernel_rfl
theorem Tryz.keyed:Maps.Keyed Tryz.prog 83:=Maps.Keyed.of_law (deep_law_laid Tryz.laidOut (m:=2) (by omega) Tryz.rowB Tryz.deepB (by rw[Tryz.underlying83]))
def kv(h:Int)(k:Nat):Value := .agg #[.int .i64 h,.int .u64 (k:Int)]
def ni(s:Nat):Value := .int .i64 (s:Int)
theorem Qfq{h h':Int}{k k':Nat}(e:kv h k=kv h' k'):h=h'∧k=k':=by
 have h1:Value.int .i64 h=Value.int .i64 h'∧Value.int .u64 (k:Int)=Value.int .u64 (k':Int):=by
  unfold kv at e;injection e with e
  have:=congrArg Array.toList e;injection this with a b
  injection b with b _
  exact⟨a,b⟩
 obtain⟨a,b⟩:=h1;injection a with _ a
 injection b with _ b
 exact⟨a,by omega⟩
theorem Qi5{s s':Nat}(e:ni s=ni s'):s=s':=by
 unfold ni at e;injection e with _ e
 omega
theorem keyT:Tryz.prog.keyType 83=true:=by kernel_rfl
theorem Qh8:Tryz.prog.cellsOf 83=2:=by kernel_rfl
theorem Qkc:Tryz.prog.cellsOf 3=1:=by kernel_rfl
theorem Qkd:Tryz.prog.cellsOf 28=1:=by kernel_rfl
theorem QmZ : ∃n,Tryz.prog.types.size+1=n+2:=by
 have h:0<Tryz.prog.types.size:=NX (Lf _) Tryz.rowB;generalize Tryz.prog.types.size=z at *;exact⟨z - 1,by omega⟩
theorem QkD(n:Nat)(h u:Int)(w1:(Lit.int .i64 h).wf=true)(w2:(Lit.int .u64 u).wf=true):Tryz.prog.keyLits (n+2) 83 [.int .i64 h,.int .u64 u]=some [.int .i64 h,.int .u64 u]:=by
 simp[Program.keyLits,Tryz.underlying83,w1,w2,Qh8,Qkc,Qkd,Tryz.underlying3,Tryz.underlying28]
theorem Qhh(h:Int)(k:Nat):(kv h k).formed Tryz.prog 83=true:=by
 simp[Value.formed,Tryz.underlying83,Qh8,kv]
theorem QbO{h:Int}{k:Nat}(hf:Fitb h k) : ∃l,keyOf Tryz.prog 83 (kv h k)=some l:=by
 obtain⟨n,hn⟩:=QmZ;obtain⟨h1,h3⟩:=hf;have e:=QkD n h k (WalkArith.wf_i64 h1) (WalkArith.wf_u64 ⟨by omega,by omega⟩)
 have e2:(kv h k).cells.toList=[.int .i64 h,.int .u64 (k:Int)]:=rfl;rw[<-hn,<-e2] at e;unfold keyOf;rw[Tryz.underlying83];simp only[keyT,Qhh,Bool.and_self,if_true,e,Option.map_some];exact⟨_,rfl⟩
def Mi(w:World)(b:Nat)(f:Int->Nat->Option Nat):Prop :=
 ∃es clock,w.heap[b]? = some (.map es clock)∧(∀e∈es.toList,∃h k s,Fitb h k∧e.key=kv h k∧e.val=ni s)∧es.toList.Pairwise (fun x y=>x.key≠y.key) ∧
  ∀h k s,Fitb h k->(f h k=some s ↔ ∃e∈es.toList,e.key=kv h k∧e.val=ni s)
theorem Mi.lt{w:World}{b:Nat}{f:Int->Nat->Option Nat}(h:Mi w b f):b<w.heap.size:=by
 obtain⟨es,c,h1,_⟩:=h;exact(Lg.1 h1).1
theorem Mi.same{w W:World}{b:Nat}{f:Int->Nat->Option Nat}(h:Mi w b f)(hb:W.heap[b]? = w.heap[b]?):Mi W b f:=by
 obtain⟨es,c,h1,h2⟩:=h;exact⟨es,c,hb.trans h1,h2⟩
theorem Qmz(w:World):Mi (w.alloc (.map #[] 0)) w.heap.size (fun _ _=>none):=by
 refine⟨#[],0,(MapKept.heap_alloc w _).1,?_,?_,?_⟩
 ·intro e he;simp at he
 ·simp
 ·intro h k s _;simp
theorem Mi.find{w:World}{b:Nat}{f:Int->Nat->Option Nat}(hm:Mi w b f){h:Int}{k:Nat}(hf:Fitb h k) :
  ∃es clock,w.heap[b]? = some (.map es clock)∧((f h k=none∧(Instr.findKey 83 (kv h k) es.toList).run Tryz.prog w = .ok none w ∧ ∀e∈es.toList,e.key≠kv h k) ∨
   ∃j e s,f h k=some s∧(Instr.findKey 83 (kv h k) es.toList).run Tryz.prog w = .ok (some (j,ni s)) w∧es.toList[j]? = some e∧e.key=kv h k):=by
 obtain⟨es,c,h1,h2,h3,h4⟩:=hm;obtain⟨l,hl⟩:=QbO hf;refine⟨es,c,h1,?_⟩
 rcases Tryz.keyed.find w hl es.toList (fun e he=>by obtain⟨h',k',s,hf',e1,_⟩:=h2 e he;rw[e1];exact QbO hf') with ⟨r1,r2⟩|⟨j,e,r1,r2,r3⟩
 ·refine .inl ⟨?_,r1,r2⟩
  cases hx:f h k with
  | none=>rfl
  | some s =>
   obtain⟨e,he,ek,_⟩:=(h4 h k s hf).1 hx;exact absurd ek (r2 e he)
 ·have hm:=Ik r2;obtain⟨h',k',s,hf',e1,e2⟩:=h2 e hm;rw[e2] at r1;exact .inr ⟨j,e,s,(h4 h k s hf).2 ⟨e,hm,r3,e2⟩,r1,r2,r3⟩
theorem Mi.look{w:World}{b:Nat}{f:Int->Nat->Option Nat}(hm:Mi w b f){h:Int}{k:Nat}(hf:Fitb h k)(c:Bool) :
  (Instr.lookup 67 (.map (some b)) (kv h k) c).run Tryz.prog w = .ok (if c then .tuple #[ni ((f h k).getD 0),.bool (f h k).isSome] else ni ((f h k).getD 0)) w:=by
 obtain⟨l,hl⟩:=QbO hf;obtain⟨es,cl,h1,⟨e0,e1,_⟩|⟨j,e,s,e0,e1,_⟩⟩:=hm.find hf
 ·rw[e0];simp[Instr.lookup,run_underlying Tryz.underlying67,MapKept.run_getObj_map h1,Tryz.keyed.check w _ hl,e1,Result.andThen]
  rfl
 ·rw[e0];simp[Instr.lookup,run_underlying Tryz.underlying67,MapKept.run_getObj_map h1,Tryz.keyed.check w _ hl,e1,Result.andThen]
def puti(f:Int->Nat->Option Nat)(h:Int)(k:Nat)(s:Nat):Int->Nat->Option Nat:=fun h' k'=>if h'=h∧k'=k then some s else f h' k'
theorem Mi.write{w:World}{b:Nat}{f:Int->Nat->Option Nat}(hm:Mi w b f){h:Int}{k:Nat}(hf:Fitb h k)(s:Nat) :
  ∃es clock,(Instr.mapUpdate 67 (.map (some b)) (kv h k) (ni s)).run Tryz.prog w = .ok () (ChangeMaps.setBlock w b (.map es clock))∧Mi (ChangeMaps.setBlock w b (.map es clock)) b (puti f h k s):=by
 have hb:=hm.lt;obtain⟨l,hl⟩:=QbO hf;have sz : ∀o,(ChangeMaps.setBlock w b o).heap[b]? = some o:=fun o=>by simp[ChangeMaps.setBlock,hb]
 obtain⟨es,cl,h1,hor⟩:=hm.find hf;obtain⟨es',cl',g1,g2,g3,g4⟩:=hm;rw[h1] at g1;injection g1 with g1
 injection g1 with g1 g1'
 subst g1 g1'
 rcases hor with ⟨e0,e1,e2⟩|⟨j,e,s0,e0,e1,e2,e3⟩
 ·refine⟨es.push ⟨kv h k,ni s,cl⟩,cl+1,?_,_,_,sz _,?_,?_,?_⟩
  ·simp[Instr.mapUpdate,run_underlying Tryz.underlying67,MapKept.run_getObj_map h1,Tryz.keyed.check w false hl,e1,MapKept.run_setObj_map _ h1,Result.andThen,ChangeMaps.setBlock]
  ·intro x hx;simp only[Array.toList_push,List.mem_append,List.mem_singleton] at hx
   rcases hx with hx|rfl
   ·exact g2 x hx
   ·exact⟨h,k,s,hf,rfl,rfl⟩
  ·rw[Array.toList_push,List.pairwise_append];refine⟨g3,by simp,fun x hx y hy => ?_⟩
   simp only[List.mem_singleton] at hy;subst hy;exact e2 x hx
  ·intro h' k' s' hf';simp only[puti,Array.toList_push,List.mem_append,List.mem_singleton]
   by_cases hq:h'=h∧k'=k
   ·obtain⟨rfl,rfl⟩:=hq;rw[if_pos ⟨rfl,rfl⟩];refine⟨fun hs => ?_,?_⟩
    ·injection hs with hs
     subst hs;exact⟨_,.inr rfl,rfl,rfl⟩
    ·rintro⟨x,hx|rfl,ex,ey⟩
     ·exact absurd ex (e2 x hx)
     ·rw[Qi5 ey]
   ·rw[if_neg hq,g4 h' k' s' hf'];refine⟨fun⟨x,hx,r⟩=>⟨x,.inl hx,r⟩,?_⟩
    rintro⟨x,hx|rfl,ex,ey⟩
    ·exact⟨x,hx,ex,ey⟩
    ·obtain⟨q1,q2⟩:=Qfq ex;exact absurd ⟨q1.symm,q2.symm⟩ hq
 ·have hj:es[j]? = some e:=by simpa using e2
  have hlist:(es.modify j (fun e' => { e' with key:=kv h k,val:=ni s })).toList=es.toList.set j { e with key:=kv h k,val:=ni s } := by rw[Array.toList_modify,ChangeMaps.modify_eq_set _ _ _ _ e2]
  have hjl:j<es.toList.length:=(Lw.1 e2).1;have hne : ∀i x,es.toList[i]? = some x->i≠j->x.key≠kv h k:=fun i x hx hij=>by
   have hil:=(Lw.1 hx).1;have pw:=Np.1 g3;have ei:es.toList[i]=x:=(Lw.1 hx).2;have ej:es.toList[j]=e:=(Lw.1 e2).2
   rcases Nat.lt_or_gt_of_ne hij with hlt|hlt
   ·have:=pw i j hil hjl hlt;rw[ei,ej,e3] at this;exact this
   ·have:=pw j i hjl hil hlt;rw[ei,ej,e3] at this;exact fun q=>this q.symm
  have who : ∀x,x∈es.toList.set j { e with key:=kv h k,val:=ni s } ↔ x = { e with key:=kv h k,val:=ni s } ∨ (x∈es.toList∧x.key≠kv h k):=by
   intro x
   constructor
   ·intro hx;obtain⟨i,hi,ex⟩:=LZ hx;rw[List.getElem_set] at ex
    split at ex
    ·exact .inl ex.symm
    ·rename_i hn
     have hi':i<es.toList.length:=by simpa using hi
     exact .inr ⟨ex ▸ LO hi',hne i x (by rw[Lc hi',ex]) (fun q=>hn q.symm)⟩
   ·rintro(rfl|⟨hx,hk⟩)
    ·exact List.mem_iff_getElem.2 ⟨j,by simpa using hjl,by simp⟩
    ·obtain⟨i,hi,ex⟩:=LZ hx;refine List.mem_iff_getElem.2 ⟨i,by simpa using hi,?_⟩
     rw[List.getElem_set_ne]
     ·exact ex
     ·rintro rfl
      apply hk
      rw[<-ex,(Lw.1 e2).2,e3]
  refine⟨es.modify j (fun e' => { e' with key:=kv h k,val:=ni s }),cl,?_,_,_,sz _,?_,?_,?_⟩
  ·simp[Instr.mapUpdate,run_underlying Tryz.underlying67,MapKept.run_getObj_map h1,Tryz.keyed.check w false hl,e1,hj,e3,Tryz.keyed.stays w hl,MapKept.run_setObj_map _ h1,Result.andThen,ChangeMaps.setBlock]
  ·intro x hx;rw[hlist] at hx
   rcases(who x).1 hx with rfl|⟨hx,_⟩
   ·exact⟨h,k,s,hf,rfl,rfl⟩
   ·exact g2 x hx
  ·rw[hlist,Np];have pw:=Np.1 g3;have ky : ∀i (hi:i<(es.toList.set j { e with key:=kv h k,val:=ni s }).length),((es.toList.set j { e with key:=kv h k,val:=ni s })[i]).key=(es.toList[i]'(by simpa using hi)).key:=by
    intro i hi;rw[List.getElem_set]
    split
    ·rename_i q
     subst q;rw[(Lw.1 e2).2,e3]
    ·rfl
   intro i i' hi hi' hlt;rw[ky i hi,ky i' hi'];exact pw i i' _ _ hlt
  ·intro h' k' s' hf';rw[hlist]
   by_cases hq:h'=h∧k'=k
   ·obtain⟨rfl,rfl⟩:=hq;rw[puti,if_pos ⟨rfl,rfl⟩];refine⟨fun hs => ?_,?_⟩
    ·injection hs with hs
     subst hs;exact⟨_,(who _).2 (.inl rfl),rfl,rfl⟩
    ·rintro⟨x,hx,ex,ey⟩
     rcases(who x).1 hx with rfl|⟨_,hk⟩
     ·rw[Qi5 ey]
     ·exact absurd ex hk
   ·rw[puti,if_neg hq,g4 h' k' s' hf']
    constructor
    ·rintro⟨x,hx,ex,ey⟩;refine⟨x,(who x).2 (.inr ⟨hx,fun q=>hq ?_⟩),ex,ey⟩
     obtain⟨q1,q2⟩:=Qfq (ex.symm.trans q);exact⟨q1,q2⟩
    ·rintro⟨x,hx,ex,ey⟩
     rcases(who x).1 hx with rfl|⟨hx,_⟩
     ·obtain⟨q1,q2⟩:=Qfq ex;exact absurd ⟨q1.symm,q2.symm⟩ hq
     ·exact⟨x,hx,ex,ey⟩
def Cm(w:World)(mo:Option Nat)(M:Nat->Nat->Option Nat):Prop :=
 (∃b,mo=some b∧Mi w b (fun h k=>if 0<=h then M h.toNat k else none))∨(mo=none ∧ ∀h k,M h k=none)
theorem Cm.next{w W:World}{mo:Option Nat}{M:Nat->Nat->Option Nat}(h:Cm w mo M)(hb:Zb w W):Cm W mo M:=by
 rcases h with ⟨b,e,hm⟩|⟨e,hm⟩
 ·exact .inl ⟨b,e,hm.same (hb.block b hm.lt)⟩
 ·exact .inr ⟨e,hm⟩
theorem Cm.look{w:World}{mo:Option Nat}{M:Nat->Nat->Option Nat}(hm:Cm w mo M){h k:Nat}(hh:h<=40)(hk:k<18446744073709551616) :
  (Instr.lookup 67 (.map mo) (.agg #[.int .i64 (h:Int),.int .u64 (k:Int)]) true).run Tryz.prog w = .ok (.tuple #[.int .i64 (((M h k).getD 0:Nat):Int),.bool (M h k).isSome]) w:=by
 have hf:Fitb (h:Int) k:=⟨⟨by omega,by omega⟩,hk⟩
 rcases hm with ⟨b,rfl,hm⟩|⟨rfl,hm⟩
 ·have:=hm.look hf true;simp only[Int.natCast_nonneg,if_true,Int.toNat_natCast] at this;exact this
 ·obtain⟨l,hl⟩:=QbO hf;rw[hm h k];have h1:=Tryz.keyed.check w true hl;unfold kv at h1;simp[Instr.lookup,run_underlying Tryz.underlying67,h1,Result.andThen]
  rfl
abbrev lsV(k:Int)(la:OA)(n lc:Nat)(mo:Option Nat):Value := .agg #[.int .i64 k,.slice la n lc,.map mo]
def lsE(c:Nat)(L:LB)(M:Nat->Nat->Option Nat)(h i:Nat):Value:=if (M h i).isSome then ba (nd c L h i) else if 0<h then .nilIface else wo (Qm (L.getD i ByteArray.empty))
theorem QdS(w:World)(a b c:Value)(T:Nat)(h i:Int) : ∃W,(w.alloc (.cells #[a,b,c] T)).alloc (.cells #[.int .i64 h,.int .u64 i] 83)=W∧Zb w W ∧
  (W.cell? ⟨w.heap.size,0,none⟩=some a∧W.cell? ⟨w.heap.size,1,none⟩=some b∧W.cell? ⟨w.heap.size,2,none⟩=some c)∧(W.cell? ⟨w.heap.size+1,0,none⟩=some (.int .i64 h)∧W.cell? ⟨w.heap.size+1,1,none⟩=some (.int .u64 i))∧W.heap.size=w.heap.size+2:=by
 have h1:(w.alloc (.cells #[a,b,c] T)).heap[w.heap.size]? = some (.cells #[a,b,c] T (0,0)):=heap_alloc_new w _;have h2:((w.alloc (.cells #[a,b,c] T)).alloc (.cells #[.int .i64 h,.int .u64 i] 83)).heap[w.heap.size]? = some (.cells #[a,b,c] T (0,0)):=((bal (Below.refl _ (w.alloc (.cells #[a,b,c] T))) _).block _ (by rw[Lp];omega)).trans h1
 have h3:=heap_alloc_new (w.alloc (.cells #[a,b,c] T)) (.cells #[.int .i64 h,.int .u64 i] 83);rw[Lp] at h3;refine⟨_,rfl,bal (bal (Below.refl _ _) _) _,⟨?_,?_,?_⟩,⟨?_,?_⟩,by rw[Lp,Lp]⟩
 ·rw[cell_of_row _ w.heap.size 0 _ _ (0,0) h2];rfl
 ·rw[cell_of_row _ w.heap.size 1 _ _ (0,0) h2];rfl
 ·rw[cell_of_row _ w.heap.size 2 _ _ (0,0) h2];rfl
 ·rw[cell_of_row _ (w.heap.size+1) 0 _ _ (0,0) h3];rfl
 ·rw[cell_of_row _ (w.heap.size+1) 1 _ _ (0,0) h3];rfl
theorem QbP(w:World)(ht:Tb w)(k:Int)(la:OA)(lb lo lc:Nat)(L:LB)(hr:RdS w la lb lo L.length L)(hsz : ∀s∈L,s.size<=140737488351232)(hm:L.length<=1099511627776)(mo:Option Nat)(M:Nat->Nat->Option Nat)(hM:Cm w mo M)(h i:Nat)(hh:h<=40)(hi:(i+1)*2^h<=L.length)(r:Value)(hq:lsE (clk k) L M h i=r) :
  Calls Tryz.prog 214 #[lsV k la L.length lc mo,.agg #[.int .i64 (h:Int),.int .u64 (i:Int)]] w fun e w'=>e = .returned r∧Zb w w':=by
 have hi64:i<18446744073709551616:=by
  have:=NT (i+1) (Ie (n:=h));omega
 obtain⟨W0,hW0,hb0,⟨c0,c1,c2⟩,⟨d0,d1⟩,hz⟩:=QdS w (.int .i64 k) (.slice la L.length lc) (.map mo) 69 (h:Int) (i:Int);have hlk:=(hM.next hb0).look hh hi64;have hr0:=hr.next hb0 (Lb _)
 cases e:M h i with
 | some j =>
  obtain rfl:ba (nd (clk k) L h i)=r:=by rw[<-hq,lsE,e];rfl
  rw[e] at hlk;simp only[Option.getD_some,Option.isSome_some] at hlk;have HTr:=QjQ W0 (ht.next hb0) k la lb lo L.length lc L hr0 hsz (by omega) h i hh hi _ rfl
  generalize nd (clk k) L h i=d at HTr;clear hr hsz hm hM hh hi hq e ht hi64 hr0
  go_enter Tryz.func214,Tryz.ntmps214
  go_upto_region 1 with (fail)
  try rw[hW0]
  clear hW0 hz
  go_wp2_with (go_at_call 215;with_reducible refine HTr.mono ?_;rintro e w1 ⟨rfl,hb1⟩)
  go_ret
  exact⟨rfl,Qa hb0 hb1⟩
 | none =>
  rw[e] at hlk;simp only[Option.getD_none,Option.isSome_none] at hlk
  by_cases h0:0<h
  ·obtain rfl:Value.nilIface=r:=by rw[<-hq,lsE,e];simp[h0]
   have hz0:(0:Int)<(h:Int):=by omega
   clear hr hsz hm hM hh hi hq e ht hi64 hr0 h0
   go_enter Tryz.func214,Tryz.ntmps214
   go_upto_region 1 with (fail)
   try rw[hW0]
   clear hW0 hz;go_wp2
   go_ret
   exact⟨rfl,hb0⟩
  ·obtain rfl:h=0:=by omega
   obtain rfl:wo (Qm (L.getD i ByteArray.empty))=r:=by rw[<-hq,lsE,e];simp
   rw[Nj,NN] at hi;obtain rfl:=hr.ptr (by omega)
   have ci:=hr0.at (k:=i) (by omega)
   have hsi:=hsz _ (QI (show i<L.length by omega))
   obtain⟨x,hx⟩:=Ze (L.getD i ByteArray.empty);rw[hx] at ci hsi ⊢;have HLf:=Qau W0 x (by omega)
   have z0:(0:Int)<=(i:Int):=Le _;have z1:(i:Int)<(L.length:Int):=by omega
   have z2:(L.length:Int)<=1099511627776:=by omega
   rw[show((0:Nat):Int)=0 from rfl] at hW0 d0 hlk ⊢
   clear hr hsz hM hq e ht hi64 hr0 h0 hx hsi hm hi hh
   go_enter Tryz.func214,Tryz.ntmps214
   go_upto_region 1 with (fail)
   try rw[hW0]
   clear hW0 hz
   go_wp2_with (go_at_call 164;with_reducible refine HLf.mono ?_;rintro e w1 ⟨rfl,hb1⟩)
   go_ret
   exact⟨rfl,Qa hb0 hb1⟩
end Go.Proofs.YtdocjikpcbmcgaaGreatDoor
