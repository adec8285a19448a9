/- Own work. -/
import Derived.Test.YtdocjikpcbmcgaaGreatDoorQj26
set_option maxRecDepth 100000
set_option maxHeartbeats 2000000
namespace Go.Proofs.YtdocjikpcbmcgaaGreatDoor
open Go.RowKit
attribute [local go_sem ↓] Go.wp_at_zero Go.wp_at_succ
section
open Cv (RdC)
theorem Y7{w W:World}{B T s n:Nat}{v:Value}{xs:List Value}(h:w.ownsRow B T s v n xs)(hb:Zb w W):W.ownsRow B T s v n xs :=
 Qj h fun g hg _=>hb.block g (Lq h g hg).2
theorem Tryz.infoH:(Tryz.prog.info? 85).map (fun i=>(i.zero,i.size,i.bytes))=some (some (.agg #[.int .i64 0,.int .u64 0,.string ByteArray.empty]),3,32):=by kernel_rfl
def cH:List He->List Value
 | []=>[]
 | e::r => .int .i64 (e.1.1:Int) :: .int .u64 (e.1.2:Int) :: .string e.2::cH r
theorem Ql3(l:List He):(cH l).length=l.length*3:=by
 induction l with
 | nil=>rfl
 | cons b r ih=>simp[cH,ih];omega
theorem Qh2(l m:List He):cH (l++m)=cH l++cH m:=by
 induction l with
 | nil=>rfl
 | cons b r ih=>simp[cH,ih]
theorem Qh3(l:List He) : ∀u∈cH l,u.oneCell'=true:=by
 induction l with
 | nil=>intro u hu;cases hu
 | cons b r ih =>
  intro u hu;simp[cH] at hu
  rcases hu with rfl|rfl|rfl|hu
  ·rfl
  ·rfl
  ·rfl
  ·exact ih u hu
theorem Ql2(l:List He)(j:Nat)(e:He)(hj:l[j]? = some e):(cH l)[j*3]? = some (.int .i64 (e.1.1:Int))∧(cH l)[j*3+1]? = some (.int .u64 (e.1.2:Int))∧(cH l)[j*3+2]? = some (.string e.2):=by
 induction l generalizing j with
 | nil=>simp at hj
 | cons b r ih =>
  cases j with
  | zero=>simp at hj;subst hj;exact⟨rfl,rfl,rfl⟩
  | succ j =>
   have:=ih j (by simpa using hj)
   rw[show(j+1)*3=j*3+1+1+1 by omega]
   simpa [cH] using this
abbrev OwnH(w:World)(B:Nat)(v:Value)(l:List He):Prop:=w.ownsRow B 85 3 v l.length (cH l)
abbrev dH:He:=((0,0),ByteArray.empty)
structure RdH(w:World)(ao:OA)(g n:Nat)(l:List He):Prop where
 len:l.length=n
 addr:0<n->ao=some ⟨g,0,none⟩
 cell : ∀j,j<n->w.cell? ⟨g,j*3,none⟩=some (.int .i64 ((l.getD j dH).1.1:Nat))∧w.cell? ⟨g,j*3+1,none⟩=some (.int .u64 ((l.getD j dH).1.2:Nat))∧w.cell? ⟨g,j*3+2,none⟩=some (.string (l.getD j dH).2)
theorem RdH.next{w W:World}{ao:OA}{g n:Nat}{l:List He}(r:RdH w ao g n l)(h:Zb w W):RdH W ao g n l :=
 ⟨r.len,r.addr,fun j hj=>by
  obtain⟨h1,h2,h3⟩:=r.cell j hj;exact⟨(h.cell (p:=⟨g,j*3,none⟩) (Lh w _ h1)).trans h1,(h.cell (p:=⟨g,j*3+1,none⟩) (Lh w _ h2)).trans h2,(h.cell (p:=⟨g,j*3+2,none⟩) (Lh w _ h3)).trans h3⟩⟩
theorem Qgi{w:World}{B:Nat}{v:Value}{l:List He}(h:OwnH w B v l) : ∃ao g cap,v = .slice ao l.length cap∧RdH w ao g l.length l:=by
 have h0:=h;obtain⟨h1,h2⟩:=h
 rcases h2 with ⟨rfl,h2⟩|⟨g,cap,cur,rfl,hg,hh,hc1,hc2,hc3,hc4⟩
 ·exact⟨none,0,0,by rw[h2],rfl,fun h=>by omega,fun j hj=>by omega⟩
 ·refine⟨some ⟨g,0,none⟩,g,cap,rfl,rfl,fun _=>rfl,fun j hj => ?_⟩
  have he:l[j]? = some (l.getD j dH):=by rw[La,Lc hj];rfl
  obtain⟨g1,g2,g3⟩:=Ql2 l j _ he;have hcs:=h0.cells (g:=g) rfl;have k1:=hcs _ _ g1;have k2:=hcs _ _ g2;have k3:=hcs _ _ g3;rw[Addr.add_mid,Ll] at k1 k2 k3;exact⟨k1,k2,k3⟩
theorem Qnu(w:World)(e:He):RdC (w.alloc (.cells #[.int .i64 (e.1.1:Int),.int .u64 (e.1.2:Int),.string e.2] 85)) (.slice (some ⟨w.heap.size,0,none⟩) 1 1) 1 (cH [e]):=by
 refine⟨some ⟨w.heap.size,0,none⟩,1,rfl,(fun h=>by cases h),fun ad ha j c hj => ?_⟩
 cases ha;rw[Addr.add_mid,Ll,cell_of_row _ _ _ _ _ (0,0) (heap_alloc_new w _)]
 match j,hj with
 | 0,hj=>exact hj
 | 1,hj=>exact hj
 | 2,hj=>exact hj
theorem QaT(w:World){ops:Array Oper}{rest:List Oper}{o:Oper}{a:Act}{Q:Exit->Act->World->Prop}
  (hg:o.guard=none) (s x:Operand) (hop:o.op=Op.call { callee:=Callee.builtin Builtin.append,args:=#[s,x],argTypes:=#[81,81] })
  (B:Nat) (v:Value) (L:List He) (hs:a.eval s=v) (hown:OwnH w B v L) (u:Value) (M:List He) (hx:a.eval x=u) (hr:RdC w u M.length (cH M))
  (hlen:L.length+M.length<=1099511627776) (hB:B<=w.heap.size)
  (hK : ∀v' w',OwnH w' B v' (L++M)->w.grownBy w' v.ownBlock->wpList Tryz.prog ops Q rest (a.put o.dst v') w'):wpList Tryz.prog ops Q (o::rest) a w:=by
 obtain⟨i0,hi,hz0,hz1,hz2⟩:=info_parts Tryz.infoH;refine Cv.QQ w hg s x _ hop B 85 i0 (.agg #[.int .i64 0,.int .u64 0,.string ByteArray.empty]) 3 32 Tryz.underlying81 hi hz0 hz1 hz2 rfl (by decide) v L.length (cH L) hs hown u M.length (cH M) hx hr (Ql3 M) (Qh3 M) (by unfold maxLen;omega) (by omega) hB ?_
 intro v' w' h;refine hK v' w' ?_ h.grown
 rw[OwnH,Qh2,Ld];exact h.own
theorem Qee{p:He->Bool}(K:List He)(j:Nat)(h:j<K.length):(K.take (j+1)).filter p=(K.take j).filter p++(if p (K.getD j dH) then [K.getD j dH] else []):=by
 have e:K.take (j+1)=K.take j++[K.getD j dH]:=by rw[NA,La,Lc h];rfl
 rw[e,Iq]
 congr 1
 by_cases hp:p (K.getD j dH)=true
 ·rw[NG hp,if_pos hp];rfl
 ·rw[Nl hp,if_neg hp];rfl
def UpC(k:Int)(h:Nat):Prop := ∀(kk:Nat),(kk+1)*2^h<=2^40 -> ∀(K:List He) (v:BA) (w:World) (ao:OA) (g cap:Nat),Tr w->RdH w ao g K.length K->K.length<=100000000->Fn K->Tl (clk k) K h kk v->(∀e∈K,e.1.1<=40∧e.1.2<2^40∧e.2.size<=32) ->
 Zr 89 #[.int .i64 k,.agg #[.int .i64 (h:Int),.int .u64 (kk:Int)],.slice ao K.length cap] w (.tuple #[.string v,.bool true])
theorem QeM(k:Int)(h:Nat)(hh:h<=40)(HI : ∀g,h=g+1->UpC k g):UpC k h:=by
  intro kk hk K v w ao g cap hT hR hKl hF hTl hKb;have hb:=bal (Below.refl w.heap.size w) (.cells #[.int .i64 (h:Int),.int .u64 (kk:Int)] 83);have e0:=heap_alloc_new w (.cells #[.int .i64 (h:Int),.int .u64 (kk:Int)] 83);obtain⟨W0,hW0⟩:=Ze (w.alloc (.cells #[.int .i64 (h:Int),.int .u64 (kk:Int)] 83));rw[hW0] at hb e0;have c0:W0.cell? ⟨w.heap.size,0,none⟩=some (.int .i64 (h:Int)):=by rw[cell_of_row _ _ 0 _ _ (0,0) e0];rfl
  have c1:W0.cell? ⟨w.heap.size,1,none⟩=some (.int .u64 (kk:Int)):=by rw[cell_of_row _ _ 1 _ _ (0,0) e0];rfl
  have HS:Hid (∀W,Zb W0 W->W.cell? ⟨w.heap.size,0,none⟩=some (.int .i64 (h:Int))∧W.cell? ⟨w.heap.size,1,none⟩=some (.int .u64 (kk:Int))∧RdH W ao g K.length K∧Tr W∧Zb w W):=fun W hW =>
    ⟨(hW.cell (p:=⟨w.heap.size,0,none⟩) (Lh W0 _ c0)).trans c0,(hW.cell (p:=⟨w.heap.size,1,none⟩) (Lh W0 _ c1)).trans c1,hR.next (Qa hb hW),hT.next (Qa hb hW),Qa hb hW⟩
  have hKz:(K.length:Int)<=100000000:=by omega
  have HQ:Hid (K.length<=100000000∧Fn K∧Tl (clk k) K h kk v∧(∀e∈K,e.1.1<=40∧e.1.2<2^40∧e.2.size<=32)∧(kk+1)*2^h<=2^40∧h<=40):=⟨hKl,hF,hTl,hKb,hk,hh⟩;have HI:=Qc HI;have hkk:kk<2^40:=by
    have:=Nm (kk+1) (LL h);omega
  have hkz:(kk:Int)<1099511627776:=by omega
  have hhz:(h:Int)<=40:=by omega
  clear hT hR hKl hF hTl hKb hk hh hb e0 c0 c1 hkk
  go_enter Tryz.func89,Tryz.ntmps89
  go_upto_region 1 with (fail)
  try rw[hW0]
  clear hW0;go_wp2
  go_loopg [8] K.length (fun gh jj wr => ∃j:Nat,j<=K.length∧gh=K.length - j∧jj = .int .i64 (j:Int)∧Hid (∀t,t<j->(K.getD t dH).1≠(h,kk))∧Hid (Zb W0 wr))
  case atStart =>
    go_light;exact⟨0,Lf _,rfl,rfl,fun t ht=>absurd ht (NC _),Below.refl _ _⟩
  case round =>
    obtain⟨j,hj,rfl,rfl,HA,HB⟩:=hrel;obtain⟨c0,c1,hR,hT,hbw⟩:=HS.out wr HB.out
    by_cases hlt:j<K.length
    · have hz:(j:Int)<(K.length:Int):=by omega
      have hz0:(0:Int)<=(j:Int):=Le _;obtain rfl:=hR.addr (by omega)
      obtain⟨m0,m1,m2⟩:=hR.cell j hlt;have hmem:K.getD j dH∈K:=by rw[La,Lc hlt];exact LO _
      obtain⟨⟨⟨eh,ek⟩,ed⟩,hee⟩ : ∃e,K.getD j dH=e:=⟨_,rfl⟩;rw[hee] at m0 m1 m2 hmem;simp only at m0 m1 m2;have HBF:=Qc hbw
      by_cases heq:eh=h∧ek=kk
      · obtain⟨rfl,rfl⟩:=heq;obtain rfl:ed=v:=HQ.out.2.2.1.some HQ.out.2.1 _ hmem rfl;clear hR hT hbw hmem hee HA;go_wp2
        go_quiet (fail)
        go_wp2
        go_ret2
        exact⟨rfl,Qd HBF.out _⟩
      · have HA':Hid (∀t,t<j+1->(K.getD t dH).1≠(h,kk)):=fun t ht=>by
          rcases Nu (NI ht) with h1|rfl
          · exact HA.out t h1
          · rw[hee];intro e;exact heq ⟨congrArg Prod.fst e,congrArg Prod.snd e⟩
        by_cases x1:eh=h
        · have x2 : ¬ek=kk:=fun e=>heq ⟨x1,e⟩
          have x3 : ¬(ek:Int)=(kk:Int):=by omega
          subst x1;clear hR hT hbw hmem hee HA heq;go_wp2
          go_quiet (fail)
          go_wp2
          go_roundg (K.length - (j+1))
          case rel =>
            go_light;exact⟨j+1,by omega,rfl,by go_num,HA'.out,Qd HB.out _⟩
          case measure=>go_light;omega
        · have x3 : ¬(eh:Int)=(h:Int):=by omega
          clear hR hT hbw hmem hee HA heq
          by_cases x2:ek=kk
          · subst x2;go_wp2
            go_quiet (fail)
            go_wp2
            go_roundg (K.length - (j+1))
            case rel =>
              go_light;exact⟨j+1,by omega,rfl,by go_num,HA'.out,Qd HB.out _⟩
            case measure=>go_light;omega
          · have x4 : ¬(ek:Int)=(kk:Int):=by omega
            go_wp2
            go_quiet (fail)
            go_wp2
            go_roundg (K.length - (j+1))
            case rel =>
              go_light;exact⟨j+1,by omega,rfl,by go_num,HA'.out,Qd HB.out _⟩
            case measure=>go_light;omega
    · obtain rfl:j=K.length:=by omega
      have hz : ¬((K.length:Int)<(K.length:Int)):=by omega
      have hnone : ∀e∈K,e.1≠(h,kk):=fun e he=>by
        obtain⟨t,ht,rfl⟩:=LZ he;have:=HA.out t ht;rw[La,Lc ht] at this;exact this
      obtain⟨f,x,y,hf,hv,hx,hy⟩:=HQ.out.2.2.1.down hnone;rw[<-hf] at hx hy;have hh0 : ¬(h:Int)=0:=by omega
      have hh1:(h:Int) - 1=(f:Int):=by omega
      obtain⟨Bl,hBl⟩:=Ze (K.filter (JD h kk));rw[hBl] at hx hy;have hBll:Bl.length<=K.length:=by rw[<-hBl];exact Ig _ _
      have hBl0:0<Bl.length:=by obtain⟨e,he⟩:=hx.mem;exact List.length_pos_of_mem he
      have hBb : ∀e∈Bl,e.1.1<=40∧e.1.2<2^40∧e.2.size<=32:=fun e he=>HQ.out.2.2.2.1 e (by rw[<-hBl] at he;exact(Nr.1 he).1)
      have hBf:Fn Bl:=by rw[<-hBl];exact HQ.out.2.1.filter _
      have hk40:=HQ.out.2.2.2.2.1;have hp2:2^h=2*2^f:=by rw[hf,LA];omega
      have hka:(2*kk+1)*2^f<=2^40:=by
        refine Lm ?_ hk40
        rw[hp2,<-L4];exact Lo _ (by omega)
      have hkb:(2*kk+1+1)*2^f<=2^40:=by
        refine Lm ?_ hk40
        rw[hp2,<-L4];exact Lo _ (by omega)
      have hxs:=hx.size (Qx k) (fun e he=>(hBb e he).2.2)
      have hys:=hy.size (Qx k) (fun e he=>(hBb e he).2.2)
      have HU1:Hid (∀W ao g cap,Tr W->RdH W ao g Bl.length Bl->Zr 89 #[.int .i64 k,.agg #[.int .i64 (f:Int),.int .u64 ((2*kk:Nat):Int)],.slice ao Bl.length cap] W (.tuple #[.string x,.bool true])):=fun W ao g cap hT hR=>HI.out f hf (2*kk) hka Bl x W ao g cap hT hR (by have:=HQ.out.1;omega) hBf hx hBb
      have HU2:Hid (∀W ao g cap,Tr W->RdH W ao g Bl.length Bl->Zr 89 #[.int .i64 k,.agg #[.int .i64 (f:Int),.int .u64 ((2*kk+1:Nat):Int)],.slice ao Bl.length cap] W (.tuple #[.string y,.bool true])):=fun W ao g cap hT hR=>HI.out f hf (2*kk+1) hkb Bl y W ao g cap hT hR (by have:=HQ.out.1;omega) hBf hy hBb
      have HNd:Hid (∀W,Tr W->Zr 101 #[.int .i64 k,.string x,.string y] W (.string v)):=fun W hT=>JX W hT k x y (by omega) (by omega) v hv.symm
      have HX:Hid (K.filter (JD h kk)=Bl∧Bl.length<=K.length∧0<Bl.length):=⟨hBl,hBll,hBl0⟩;have HB0:=Qc HB.out;have HF:=Qc hf;clear hnone hv hx hy hBl hBll hBl0 hBb hBf hk40 hp2 hka hkb hxs hys hR hT hbw HA HI hf;obtain⟨w1,hw1⟩ : ∃w1,w1=wr:=⟨_,rfl⟩;subst hw1;clear hlt hj hhz hkz hKz;go_wp2
      go_loopg [9,10] K.length (fun gh vv jj wr => ∃j:Nat,j<=K.length∧gh=K.length - j∧jj = .int .i64 (j:Int)∧Hid (OwnH wr w1.heap.size vv ((K.take j).filter (JD h kk)))∧Hid (Zb w1 wr))
      case atStart =>
        go_light;exact⟨0,Lf _,rfl,rfl,Lz _ _ _ _,Below.refl _ _⟩
      case round =>
        obtain⟨j,hj,rfl,rfl,HO,HB⟩:=hrel;obtain⟨c0,c1,hR,hT,hbw⟩:=HS.out wr (Qa HB0.out HB.out)
        by_cases hlt:j<K.length
        · have hz:(j:Int)<(K.length:Int):=by omega
          have hz0:(0:Int)<=(j:Int):=Le _;obtain rfl:=hR.addr (by omega)
          obtain⟨m0,m1,m2⟩:=hR.cell j hlt;have hfn:=Qee (p:=JD h kk) K j hlt;have hfl:((K.take j).filter (JD h kk)).length<=100000000:=by
            have:=Ig (JD h kk) (K.take j);rw[Lv] at this;have:=HQ.out.1;omega
          have hmem:K.getD j dH∈K:=by rw[La,Lc hlt];exact LO _
          have hbd:=HQ.out.2.2.2.1 _ hmem;obtain⟨⟨⟨eh,ek⟩,ed⟩,hee⟩ : ∃e,K.getD j dH=e:=⟨_,rfl⟩;rw[hee] at m0 m1 m2 hfn hbd;simp only at m0 m1 m2 hbd;obtain⟨P,hP⟩:=Ze ((K.take j).filter (JD h kk));rw[hP] at hfn hfl;have HO1:=HO;rw[hP] at HO1;have hez:(eh:Int)<=40:=by omega
          have hh40:=HQ.out.2.2.2.2.2;have hKz:(K.length:Int)<=100000000:=by have:=HQ.out.1;omega
          by_cases hel:eh<h
          · have hd1:decide ((eh:Int)<(h:Int))=true:=decide_eq_true (by omega)
            have hd2:decide (eh<h)=true:=decide_eq_true hel
            obtain⟨sh,hsh⟩:=Ze (h - eh);have hs1:(h:Int) - (eh:Int)=(sh:Int):=by omega
            have hs2:IntKind.u64.wrap (sh:Int)=(sh:Int):=by rw[IntKind.wrap_u64];omega
            have hs3:(sh:Int)<64:=by omega
            have hs4:(0:Int)<=(sh:Int):=Le _;obtain⟨qq,hqq⟩:=Ze (ek / 2^sh);have hs5:(ek:Int) / (2:Int)^sh=(qq:Int):=by rw[<-hqq];simp
            have hin:JD h kk ((eh,ek),ed)=decide (qq=kk):=by
              rw[JD];simp only[hsh,hqq,decide_eq_true hel,Bool.true_and]
            by_cases hqk:qq=kk
            · have g1:((qq:Int) == (kk:Int))=true:=by rw[hqk];simp
              have g2:decide ((qq:Int)=(kk:Int))=true:=decide_eq_true (by rw[hqk])
              have HFn:Hid ((K.take (j+1)).filter (JD h kk)=P++[((eh,ek),ed)]):=by rw[hin,decide_eq_true hqk] at hfn;exact hfn
              have HJ:=Qc hlt;have HPl:=Qc hfl;have HE:=Qc hee;subst hqk;clear hR hT hbw hfn hfl hmem hbd hee hP HO hel hsh hqq hin hh40 hlt hj
              go_upto_region 12 with (fail)
              go_quiet (fail)
              go_upto_region 13 with (fail)
              have hq:Zb wr (wr.drewN nq):=Qd (Below.refl _ _) _;obtain⟨_,_,hR',_,_⟩:=HS.out _ (Qa (Qa HB0.out HB.out) hq);obtain⟨n0,n1,n2⟩:=hR'.cell j HJ.out;rw[HE.out] at n0 n1 n2;simp only at n0 n1 n2;have HO2:=Qc (Y7 HO1.out hq);have HB2:=Qc (Qa HB.out hq);clear hq hR' m0 m1 m2 c0 c1 HO1;generalize wr.drewN nq=wq at *
              go_upto_region 11 with (at_builtin;refine QaT _ rfl _ _ rfl w1.heap.size _ P rfl (IP HO2.out _) _ [((eh,ek),ed)] rfl (Qnu _ ((eh,ek),ed)) ?c1 ?c2 ?_)
              case c1=>have:=HPl.out;simp;omega
              case c2=>have:=HB2.out.size;simp;omega
              intro v' w3 o3 g3;have hb3:Zb w1 w3:=(bal HB2.out _).trans ((Below.refl _ _).grown g3 (by have:=HB2.out.size;rw[Lp];omega) (fun t ht=>(Lq HO2.out t ht).1))
              have HO3:=Qc (And.intro o3 hb3);clear o3 g3 hb3 HO2;go_wp2
              go_roundg (K.length - (j+1))
              case rel =>
                go_light;exact⟨j+1,HJ.out,rfl,by go_num,by rw[HFn.out];exact HO3.out.1,HO3.out.2⟩
              case measure=>go_light;have:=HJ.out;omega
            · have HFn:Hid ((K.take (j+1)).filter (JD h kk)=P):=by rw[hin,decide_eq_false hqk] at hfn;rw[hfn];exact L6 _
              have g1:((qq:Int) == (kk:Int))=false:=by simp;omega
              have g2:decide ((qq:Int)=(kk:Int))=false:=decide_eq_false (by omega)
              have g3:decide (qq=kk)=false:=decide_eq_false hqk
              have HJ:=Qc hlt;clear hR hT hbw hfn hfl hmem hbd hee hP HO hel hsh hqq hin hh40 hlt hj
              go_upto_region 12 with (fail)
              go_quiet (fail)
              go_wp2
              go_roundg (K.length - (j+1))
              case rel =>
                go_light;exact⟨j+1,HJ.out,rfl,by go_num,by rw[HFn.out];exact Y7 HO1.out (Qd (Below.refl _ _) _),Qd HB.out _⟩
              case measure=>go_light;have:=HJ.out;omega
          · have hd1:decide ((eh:Int)<(h:Int))=false:=decide_eq_false (by omega)
            have hd2:decide (eh<h)=false:=decide_eq_false hel
            have hin:JD h kk ((eh,ek),ed)=false:=by rw[JD];simp only[decide_eq_false hel,Bool.false_and]
            have HFn:Hid ((K.take (j+1)).filter (JD h kk)=P):=by rw[hin] at hfn;rw[hfn];exact L6 _
            have HJ:=Qc hlt;clear hR hT hbw hfn hfl hmem hbd hee hP HO hel hin hh40 hlt hj
            go_upto_region 12 with (fail)
            go_quiet (fail)
            go_wp2
            go_roundg (K.length - (j+1))
            case rel =>
              go_light;exact⟨j+1,HJ.out,rfl,by go_num,by rw[HFn.out];exact Y7 HO1.out (Qd (Below.refl _ _) _),Qd HB.out _⟩
            case measure=>go_light;have:=HJ.out;omega
        · obtain rfl:j=K.length:=by omega
          have hz : ¬((K.length:Int)<(K.length:Int)):=by omega
          have hO:=HO.out;rw[Lx (Lb _),HX.out.1] at hO;obtain⟨ba,bg,bc,rfl,hRb⟩:=Qgi hO;have hb0 : ¬(Bl.length:Int)=0:=by have:=HX.out.2.2;omega
          have hb0':((Bl.length:Int) == 0)=false:=by simp;have:=HX.out.2.2;intro e;rw[e] at this;exact absurd this (NB _)
          have hkk:=HQ.out.2.2.2.2.1;have hk2:kk+1<=2^40:=Lm (Nm (kk+1) (LL h)) hkk;have hf40:(f:Int)<=40:=by have:=HQ.out.2.2.2.2.2;have:=HF.out;omega
          obtain⟨k2,hk2'⟩:=Ze (2*kk);obtain⟨k3,hk3'⟩:=Ze (2*kk+1);have e1:IntKind.u64.wrap (2*(kk:Int))=(k2:Int):=by rw[IntKind.wrap_u64];omega
          have e2:IntKind.u64.wrap ((k2:Int)+1)=(k3:Int):=by rw[IntKind.wrap_u64];omega
          rw[hk2'] at HU1;rw[hk3'] at HU2;have HW1:=HU1.out wr ba bg bc hT hRb;have HR2:=Qc hRb;have HB2:=Qc HB.out;clear hO hRb hkk hk2 hk2' hk3' hR hT hbw HO hlt hj
          go_wp2_with (first
            | (go_at_call 89;with_reducible refine HW1.mono ?_;rintro e w2 ⟨rfl,hb2⟩
               obtain⟨d0,d1,_,hT2,_⟩:=HS.out w2 (Qa HB0.out (Qa HB2.out hb2));have HW2:=HU2.out w2 ba bg bc hT2 (HR2.out.next hb2))
            | (go_at_call 89;with_reducible refine HW2.mono ?_;rintro e w3 ⟨rfl,hb3⟩
               obtain⟨_,_,_,hT3,_⟩:=HS.out w3 (Qa HB0.out (Qa (Qa HB2.out hb2) hb3)))
            | (go_at_call 101;with_reducible refine(HNd.out _ hT3).mono ?_;rintro e w4 ⟨rfl,hb4⟩))
          go_ret2
          exact⟨rfl,(HS.out w4 (Qa HB0.out (Qa (Qa (Qa HB2.out hb2) hb3) hb4))).2.2.2.2⟩
theorem Qbd(k:Int) : ∀h,h<=40->UpC k h
 | 0,_=>QeM k 0 (Lf _) (fun g e=>by cases e)
 | h+1,hh=>QeM k (h+1) hh (fun g e=>by cases e;exact Qbd k h (by omega))
end
section
open Cv (RdC zl cU)
theorem Qcg{α:Type}(d:α)(l:List α)(j:Nat)(h:j<l.length):l.take (j+1)=l.take j++[l.getD j d]:=by
 rw[NA,La,Lc h];rfl
theorem Qcd(w:World){ops:Array Oper}{o:Oper}{a:Act}{K:Act->World->Prop}{Q:Exit->Act->World->Prop}{E:Prop}(hgd:o.guard=none)
  (s x:Operand) (hop:o.op=Op.call { callee:=Callee.builtin Builtin.append,args:=#[s,x],argTypes:=#[81,81] })
  (B:Nat) (v:Value) (L:List He) (hs:a.eval s=v) (hown:OwnH w B v L) (ad:Addr) (cap:Nat) (e:He) (hx:a.eval x = .slice (some ad) 1 cap) (hr : ∀j u,(cH [e])[j]? = some u->w.cell? (ad.add j)=some u)
  (hlen:L.length+1<=1099511627776) (hB:B<=w.heap.size)
  (hK : ∀v' w',OwnH w' B v' (L++[e])->Below B w w'->w.grownBy w' v.ownBlock->K (a.put o.dst v') w'):if Region.wanted o (yielded ops a.tmps)=true then Oper.wp Tryz.prog o a w K Q else E:=by
 have hw:Region.wanted o (yielded ops a.tmps)=true:=by simp[Region.wanted,hgd]
 rw[if_pos hw];obtain⟨i0,hi,hz0,hz1,hz2⟩:=info_parts Tryz.infoH;have hlt : ∀k,v.ownBlock=some k->B<=k:=fun k hk=>(Lq hown k hk).1
 obtain⟨v',w',hrun,r1,r2,_⟩:=run_append_own (P:=Tryz.prog) w B 81 o.type 85 i0 (.agg #[.int .i64 0,.int .u64 0,.string ByteArray.empty]) 3 32 Tryz.underlying81 hi hz0 hz1 hz2 rfl (by decide) v L.length _ hown ad 1 cap (cH [e]) rfl hr (Qh3 [e]) (by unfold maxLen;omega) (by omega) hB
 unfold Oper.wp;simp[execOp,hop,resolve,invoke,builtin,hs,hx,hrun,Result.andThen];refine hK v' w' ?_ ((Below.refl _ _).grown r2 hB hlt) r2
 rw[OwnH,Ld,Qh2];exact r1
theorem Qk7{w:World}{B B' e e' s s' n n' g:Nat}{v v':Value}{xs xs':List Value}(h:w.ownsRow B e s v n xs)(h':w.ownsRow B' e' s' v' n' xs')(he:e≠e')(hg:v.ownBlock=some g):v'.ownBlock≠some g:=fun hg'=>by
 obtain⟨_,cur,hc⟩:=Ja h hg;obtain⟨_,cur',hc'⟩:=Ja h' hg';rw[hc] at hc';injection hc' with hc'
 injection hc' with _ h2 _
 exact he h2
theorem QfD{w:World}{B n c:Nat}{a:OA}{R:List (Nat×Nat)}(h:Cv.Qz w B (.slice a n c) (zl R))(hf : ∀b∈R,(b.2+1)*2^b.1<=2^40) : ∃g,RdB w a g 0 R.length (zl R):=by
 obtain⟨ao,g,n',cap,hv,hr,_⟩:=Uc h (fun x hx=>by
  obtain⟨b0,hb0,rfl⟩:=LE.1 hx;exact(Oq (hf b0 hb0) (Lb _)).1)
 obtain⟨rfl,_,_⟩:=NJ hv;have hl:=hr.len;rw[Cv.Qq] at hl;subst hl;exact⟨g,hr⟩
theorem Qh7(w:World)(e:He) : ∀j u,(cH [e])[j]? = some u->(w.alloc (.cells #[.int .i64 (e.1.1:Int),.int .u64 (e.1.2:Int),.string e.2] 85)).drew.cell? (Addr.add ⟨w.heap.size,0,none⟩ j)=some u:=fun j u hj=>by
 rw[Addr.add_mid,Ll,cell_of_row (w.alloc (.cells #[.int .i64 (e.1.1:Int),.int .u64 (e.1.2:Int),.string e.2] 85)).drew _ _ _ _ (0,0) (heap_alloc_new w _)]
 match j,hj with
 | 0,hj=>exact hj
 | 1,hj=>exact hj
 | 2,hj=>exact hj
end
end Go.Proofs.YtdocjikpcbmcgaaGreatDoor
