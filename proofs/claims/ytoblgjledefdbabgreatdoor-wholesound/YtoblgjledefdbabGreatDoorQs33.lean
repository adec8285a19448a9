/- Own work. -/
import Derived.Test.YtoblgjledefdbabGreatDoorQs32
set_option maxRecDepth 100000
set_option maxHeartbeats 4000000
namespace Go.Proofs.YtoblgjledefdbabGreatDoor
open Go.RowKit
attribute [local go_sem ↓] Go.wp_at_zero Go.wp_at_succ
open Go.Proofs.Tryz
section
open Cv (zl)
theorem Qcu(n:Nat)(h40:n<=2^40)(M:List (Nat×Nat))(hM:Cv.dnL 41 0 n=M)(W:World):Calls prog 44 #[.int .u64 n] W fun e w'=> ∃ao g cap,e= .returned (.tuple #[.slice ao M.length cap,.int .i64 0])∧RdB w' ao g 0 M.length (zl M)∧Below W.heap.size W w':=by
 have hMin:∀b∈M,(b.2+1)*2^b.1<=n:=by rw[<-hM];exact Qcm n h40
 have h:=Cv.Q8 n W;rw[(JQ n h40).1,(JQ n h40).2,hM] at h;refine h.mono fun e w' ⟨v,e1,e2,e3⟩=> ?_
 obtain⟨ao,g,n',cap,rfl,hr',_⟩:=OP e2 (fun b hb=>by
  obtain⟨b0,hb0,rfl⟩:=List.mem_map.1 hb;exact(QgI (hMin b0 hb0) h40).1)
 have hl:=hr'.len;rw[Cv.Yd] at hl;subst hl;exact⟨ao,g,cap,e1,hr',e3⟩
theorem Ql0(F:Nat->Nat->Pq)(B:List (Nat×Nat)){j:Nat}(hj:j<B.length):fm F (B.drop j)=(F (B.getD j (0,0)).1 (B.getD j (0,0)).2).or (fm F (B.drop (j+1))):=by
 rw[LV hj,fm,La,Ld hj]
 rfl
theorem Oc(f:Nat×Nat->BA)(B:List (Nat×Nat)){j:Nat}(hj:j<B.length):(B.take (j+1)).map f=(B.take j).map f++[f (B.getD j (0,0))]:=by
 rw[LQ hj,Nd,La,Ld hj]
 rfl
theorem cn1(w:World)(d:BA)(T:Nat):(w.alloc (.cells #[.string d] T)).cell? ⟨w.heap.size,0,none⟩=some (.string d):=cell_of_one (Lr w _)
theorem cn2(w:World)(d:BA)(T:Nat)(o:Obj):((w.alloc (.cells #[.string d] T)).alloc o).cell? ⟨w.heap.size,0,none⟩=some (.string d) :=
 cell_of_one (((bal (Lc _ (w.alloc (.cells #[.string d] T))) o).block w.heap.size (by rw[LK];omega)).trans (Lr w _))
theorem cn3(w:World)(d:BA)(T:Nat)(o:Obj):((w.alloc o).alloc (.cells #[.string d] T)).cell? ⟨w.heap.size+1,0,none⟩=some (.string d):=by
 have:=cn1 (w.alloc o) d T
 rwa [LK] at this
theorem QpA{W w':World}{ob:Option Nat}{g N:Nat}{c:Value}(h6:W.grownBy w' ob)(ho:∀b,ob=some b->b<N)(hN:N<=g)(h:W.cell? ⟨g,0,none⟩=some c):w'.cell? ⟨g,0,none⟩=some c :=
 (Lq (a:=⟨g,0,none⟩) (h6.block g (Ll W _ h) fun e=>by have:=ho g e.symm;omega)).trans h
theorem Qop{W w':World}{ob:Option Nat}{g N:Nat}{c:Obj}(h6:W.grownBy w' ob)(ho:∀b,ob=some b->b<N)(hN:N<=g)(h:W.heap[g]? = some c):w'.heap[g]? = some c :=
 (h6.block g (Array.getElem?_eq_some_iff.1 h).1 fun e=>by have:=ho g e.symm;omega).trans h
theorem Ql3{W w':World}{ob:Option Nat}{g N:Nat}{c:Obj}(h6:W.grownBy w' ob)(ho:∀b,ob=some b->N<=b)(hN:g<N)(h:W.heap[g]? = some c):w'.heap[g]? = some c :=
 (h6.block g (Array.getElem?_eq_some_iff.1 h).1 fun e=>by have:=ho g e.symm;omega).trans h
structure Aw(N g5 gz:Nat)(F V:World)(v u:Value)(P Q:LB)(Z:Pq)(x y:BA)(q:Pq):Prop where
 pr:Pr (N+1) V v u P Q
 p3:P3 V N Z
 s5:S5 V g5 x y q
 be:Below (N+1) F V
 sz:N+1<=V.heap.size
section
variable {N g5 gz:Nat} {F V W:World} {v u v':Value} {P Q P':LB} {Z:Pq} {x y:BA} {q:Pq}
theorem Aw.next(h:Aw N g5 gz F V v u P Q Z x y q)(hb:Below V.heap.size V W):Aw N g5 gz F W v u P Q Z x y q:=⟨h.pr.next hb,h.p3.next hb,h.s5.next hb,h.be.trans (hb.mono h.sz),Lt h.sz hb.size⟩
theorem Aw.swap(h:Aw N g5 gz F V v u P Q Z x y q):Aw N g5 gz F V u v Q P Z x y q:=⟨h.pr.swap,h.p3,h.s5,h.be,h.sz⟩
theorem Aw.app(h:Aw N g5 gz F V v u P Q Z x y q)(o:Qg W (N+1) v' P')(g:V.grownBy W v.ownBlock)(f:v'.ownBlock=v.ownBlock ∨ ∀b,v'.ownBlock=some b->V.heap.size<=b)(lo:∀b,v.ownBlock=some b->N+1<=b∧b<gz)(hg:gz<=g5):Aw N g5 gz F W v' u P' Q Z x y q:=by
 have hb:Below (N+1) V W:=(Lc _ _).grown g h.sz fun b hb=>(lo b hb).1
 exact⟨h.pr.app o g f,Ql3 g (fun b hb=>(lo b hb).1) (by omega) h.p3,Qop g (fun b hb=>(lo b hb).2) hg h.s5,h.be.trans hb,Lt h.sz hb.size⟩
theorem Aw.seen(h:Aw N g5 gz F V v u P Q Z x y q):V.cell? ⟨g5,0,none⟩=some (.string x)∧V.cell? ⟨g5,1,none⟩=some (.string y):=⟨h.s5.cells.1,h.s5.cells.2.1⟩
end
theorem all_any (w:World) (ht:Tb w) (k:Int) (v1:Value) (T2:Nat) (v2:Value) (n:Nat) (h40:n<=2^40) (M:List (Nat×Nat)) (hM:Cv.dnL 41 0 n=M) (X Y:Nat×Nat->BA) (hX:∀b,(X b).size<=32) (hY:∀b,(Y b).size<=32) (F:Nat->Nat->Pq)
    (HBk:∀W b,Below w.heap.size w W->b∈M->Calls prog 107 #[wkV k v1 T2 v2,bkV b.1 b.2] W fun e w'=>e= .returned (snV (X b) (Y b) (F b.1 b.2))∧Below W.heap.size W w')
    (T:Pq) (hT:(tp (clk k) n (M.map X) (M.map Y)).or (fm F M)=T) :
    Calls prog 61 #[wkV k v1 T2 v2,.int .u64 n] w fun e w'=>e= .returned (pv T)∧Below w.heap.size w w':=by
  have HMt:Hid (∀W,Calls prog 44 #[.int .u64 n] W fun e w'=> ∃ao g cap,e= .returned (.tuple #[.slice ao M.length cap,.int .i64 0])∧RdB w' ao g 0 M.length (zl M)∧Below W.heap.size W w'):=fun W=>Qcu n h40 M hM W
  have hMl:M.length<=41:=by rw[<-hM];exact Cv.Jv 41 0 n
  have HBk':=Qc HBk;clear HBk;have hb0:=bal (bal (Lc w.heap.size w) (.cells #[.int .i64 k,.iface 133 v1,.iface T2 v2] 139)) (.cells #[.string ⟨#[]⟩,.string ⟨#[]⟩,.bool false] 81);have hz:(M.length:Int)<=41:=by omega
  have HT:=Qc hT;clear hM h40 hT
  go_enter func61,ntmps61
  go_upto_region 4 with (go_at_call 44;with_reducible refine(HMt.out _).mono ?_;rintro e w2 ⟨ao,gM,capM,rfl,hrB,hb2⟩)
  obtain⟨F0,hFe,h30,hb30⟩:=QbM w2
  try rw[hFe]
  clear hFe;have HV:Hid (∀W,Below w2.heap.size w2 W->(W.cell? ⟨w.heap.size,0,none⟩=some (.int .i64 k)∧W.cell? ⟨w.heap.size,1,none⟩=some (.iface 133 v1)∧W.cell? ⟨w.heap.size,2,none⟩=some (.iface T2 v2))∧P3 W (w.heap.size+1) none∧RdB W ao gM 0 M.length (zl M)∧Below w.heap.size w W):=fun W hb=>by
    obtain⟨Z,hZ⟩:∃Z,(w.alloc (.cells #[.int .i64 k,.iface 133 v1,.iface T2 v2] 139)).alloc (.cells #[.string ⟨#[]⟩,.string ⟨#[]⟩,.bool false] 81)=Z:=⟨_,rfl⟩;have hzz:Z.heap.size=w.heap.size+2:=by rw[<-hZ,LK,LK]
    have q1:Z.heap[w.heap.size]? = some (.cells #[.int .i64 k,.iface 133 v1,.iface T2 v2] 139 (0,0)):=by
      rw[<-hZ];exact((bal (Lc _ (w.alloc (.cells #[.int .i64 k,.iface 133 v1,.iface T2 v2] 139))) _).block _ (by rw[LK];omega)).trans (Lr w _)
    have q2:P3 Z (w.heap.size+1) none:=by
      have:=Lr (w.alloc (.cells #[.int .i64 k,.iface 133 v1,.iface T2 v2] 139)) (.cells #[.string ⟨#[]⟩,.string ⟨#[]⟩,.bool false] 81);rw[LK,hZ] at this;exact this
    rw[hZ] at hb0 hb2;have hbZ:=Qa hb2 hb;have q3:W.heap[w.heap.size]? = _:=(hbZ.block w.heap.size (by omega)).trans q1
    exact⟨⟨by rw[cell_of_row W w.heap.size 0 _ _ (0,0) q3];rfl,by rw[cell_of_row W w.heap.size 1 _ _ (0,0) q3];rfl,by rw[cell_of_row W w.heap.size 2 _ _ (0,0) q3];rfl⟩,q2.next hbZ,hrB.below hb,Qa (Qa hb0 hb2) hb⟩
  have H30:=Qc (Lx h30 hb30);have hz5:w.heap.size+1<w2.heap.size:=(HV.out w2 (Lc _ _)).2.1.lt;have HE0:Hid ((none:Pq).or (fm F (M.drop 0))=fm F M):=rfl;clear hb0 hb2 hrB h30 hb30 HMt;go_wp2
  go_loopg [7,8,21] M.length (fun g v u i wr=> ∃(j:Nat) (Z:Pq),g=M.length-j∧j<=M.length∧i= .int .i64 j∧Hid (Z.or (fm F (M.drop j))=fm F M)∧Hid (P3 wr w2.heap.size Z)∧Hid (Pr (w2.heap.size+1) wr v u ((M.take j).map X) ((M.take j).map Y))∧Hid (Below w2.heap.size w2 wr))
  case atStart=>go_light;exact⟨0,none,rfl,Lm _,rfl,HE0,H30.out.1,QoW _ _,H30.out.2⟩
  case round=>
    clear H30 HE0;obtain⟨j,Z,rfl,hj,rfl,HE,H3,HPr,HBw⟩:=hrel
    by_cases hlt:j<M.length
    · have z0:(0:Int)<=(j:Int):=Lf _;have z1:(j:Int)<(M.length:Int):=by omega
      obtain⟨⟨c0,c1,c2⟩,_,hrd,hbw⟩:=HV.out wr HBw.out;obtain rfl:=hrd.addr (by omega)
      obtain⟨b,hbb⟩:∃b,M.getD j (0,0)=b:=⟨_,rfl⟩;have hbm:b∈M:=by rw[<-hbb,La,Ld hlt];exact LN _
      obtain⟨k0,k1⟩:=hrd.cell j hlt;have hzl:(zl M).getD j (0,0)=((b.1:Int),b.2):=by
        rw[<-hbb,La,La,zl,No,Ld hlt];rfl
      rw[hzl] at k0 k1;simp only at k0 k1;rw[Lp] at k0 k1;obtain⟨x,hx⟩:∃x,X b=x:=⟨_,rfl⟩;obtain⟨y,hy⟩:∃y,Y b=y:=⟨_,rfl⟩;obtain⟨q,hq⟩:∃q,F b.1 b.2=q:=⟨_,rfl⟩;obtain⟨Z',hZ'⟩:∃Z',Z.or q=Z':=⟨_,rfl⟩;have HOr:Hid (∀W,Calls prog 108 #[pv Z,pv q] W fun e w'=>e= .returned (pv Z')∧Below W.heap.size W w'):=fun W=>QbH W Z q Z' hZ'
      have HN:Hid (Z'.or (fm F (M.drop (j+1)))=fm F M∧(M.take (j+1)).map X=(M.take j).map X++[x]∧(M.take (j+1)).map Y=(M.take j).map Y++[y]∧((M.take j).map X).length<=1000∧((M.take j).map Y).length<=1000):=by
        refine⟨?_,by rw[Oc X M hlt,hbb,hx],by rw[Oc Y M hlt,hbb,hy],by rw[LI,Lv];omega,by rw[LI,Lv];omega⟩
        have:=HE.out;rw[Ql0 F M hlt,hbb,hq] at this;rw[<-this,<-hZ']
        cases Z <;> rfl
      have HB1:Hid (∀W,Below w.heap.size w W->Calls prog 107 #[wkV k v1 T2 v2,bkV b.1 b.2] W fun e w'=>e= .returned (snV x y q)∧Below W.heap.size W w'):=fun W hb=>by
        have:=HBk'.out W b hb hbm;rw[hx,hy,hq] at this;exact this
      obtain⟨bh,bk⟩:=b;simp only at k0 k1;clear hrd hzl hbb hbm hx hy hq hZ' HE
      go_upto_region 7 with (fail)
      obtain⟨W1,hW1⟩:∃W1,wr.alloc (.cells #[.int .i64 bh,.int .u64 bk] 131)=W1:=⟨_,rfl⟩;have hb1:Below wr.heap.size wr W1:=by rw[<-hW1];exact bal (Lc _ _) _
      have t1:W1.heap[wr.heap.size]? = some (.cells #[.int .i64 bh,.int .u64 bk] 131 (0,0)):=by rw[<-hW1];exact Lr wr _
      have d0:W1.cell? ⟨wr.heap.size,0,none⟩=some (.int .i64 bh):=by rw[cell_of_row W1 wr.heap.size 0 _ _ (0,0) t1];rfl
      have d1:W1.cell? ⟨wr.heap.size,1,none⟩=some (.int .u64 bk):=by rw[cell_of_row W1 wr.heap.size 1 _ _ (0,0) t1];rfl
      try rw[hW1]
      obtain⟨⟨c0',c1',c2'⟩,_,_,hbw1⟩:=HV.out W1 (Qa HBw.out hb1);clear hW1 t1 c0 c1 c2 k0 k1
      go_upto_region 8 with (go_at_call 107;with_reducible refine(HB1.out _ hbw1).mono ?_;rintro e w4 ⟨rfl,hb4⟩)
      obtain⟨F5,hFe,s5,hb5,hsz5⟩:=Qf7 w4 x y q
      try rw[hFe]
      clear hFe;have hbR:=Qa (Qa hb1 hb4) hb5;have hPr:=HPr.out.next hbR;have h3:=H3.out.next hbR;have hlw:wr.heap.size<=w4.heap.size:=Lt hb1.size hb4.size;have hl2:w2.heap.size<wr.heap.size:=H3.out.lt;obtain⟨e0,e1,e2,e3,e4⟩:=s5.cells
      -- the lists lie ahead of what is seen
      have lo1:∀g,u7.ownBlock=some g->w2.heap.size+1<=g∧g<wr.heap.size:=fun g hg=>LX HPr.out.ov g hg
      have lo2:∀g,u8.ownBlock=some g->w2.heap.size+1<=g∧g<wr.heap.size:=fun g hg=>LX HPr.out.ou g hg
      have HS:Hid (∀V,Below F5.heap.size F5 V->V.cell? ⟨w4.heap.size,0,none⟩=some (.string x)∧V.cell? ⟨w4.heap.size,1,none⟩=some (.string y)):=fun V hb=>⟨(s5.next hb).cells.1,(s5.next hb).cells.2.1⟩
      have HQ:=Qc (Lx hPr (Lx h3 (Lx s5 (Lx lo1 lo2))));clear hPr h3 s5 lo1 lo2 c0' c1' c2' d0 d1 hb1 hb4 hb5 hbw1 hbw
      go_cut [7,8] from 28 to 37 (fun v u wx=>Hid (Aw w2.heap.size w4.heap.size wr.heap.size F5 wx v u ((M.take j).map X++[x]) ((M.take j).map Y++[y]) Z x y q))
      case first=>
        have HP:Hid (∀V,Below F5.heap.size F5 V->Aw w2.heap.size w4.heap.size wr.heap.size F5 V u7 u8 ((M.take j).map X) ((M.take j).map Y) Z x y q):=fun V hb=>⟨HQ.out.1.next hb,HQ.out.2.1.next hb,HQ.out.2.2.1.next hb,hb.mono (by have:=HQ.out.2.1.lt;omega),by have:=HQ.out.2.1.lt;have:=hb.size;omega⟩
        have lo1:=Qc HQ.out.2.2.2.1;have lo2:=Qc HQ.out.2.2.2.2;have HL:=Qc (Lx hl2 (Lx hlw (show w4.heap.size<F5.heap.size by omega)))
        clear HQ hl2 hlw hsz5 e0 e1 e2 e3 e4;have HN4:=Qc HN.out.2.2.2;obtain⟨e0,e1⟩:=HS.out F5 (Lc _ _)
        go_region_held3 (fun V=>V.cell? ⟨w4.heap.size,0,none⟩=some (.string x)∧V.cell? ⟨w4.heap.size,1,none⟩=some (.string y))
          (first|with_reducible exact hp7.out.seen|with_reducible exact(hp6.out.next (by repeat (first|with_reducible exact Lc _ _|refine NF ?_|refine bal ?_ _))).seen|with_reducible exact HS.out _ (by repeat (first|with_reducible exact Lc _ _|refine NF ?_|refine bal ?_ _)))
          (first
            | (refine Qe0 _ (by rfl) _ _ (by rfl) (w2.heap.size+1) u8 ((M.take j).map Y) (by rfl) (hp6.out.next (by repeat (first|with_reducible exact Lc _ _|refine NF ?_|refine bal ?_ _))).swap.pr.ov _ y (by rfl) (by first|exact cn1 _ _ _|exact QpA g6 (fun b hb=>(lo1.out b hb).2) (by have:=HL.out;omega) (by first|exact cn1 _ _ _|exact cn2 _ _ _ _|exact cn3 _ _ _ _)) HN4.out.2 (hp6.out.next (by repeat (first|with_reducible exact Lc _ _|refine NF ?_|refine bal ?_ _))).sz ?_
               intro v7 w7 o7 g7 f7;have hp7:=Qc ((hp6.out.next (by repeat (first|with_reducible exact Lc _ _|refine NF ?_|refine bal ?_ _))).swap.app o7 g7 f7 lo2.out HL.out.2.1))
            | (refine Qe0 _ (by rfl) _ _ (by rfl) (w2.heap.size+1) u7 ((M.take j).map X) (by rfl) (HP.out _ (by repeat (first|with_reducible exact Lc _ _|refine NF ?_|refine bal ?_ _))).pr.ov _ x (by rfl) (by first|exact cn1 _ _ _|exact cn2 _ _ _ _|exact cn3 _ _ _ _) HN4.out.1 (HP.out _ (by repeat (first|with_reducible exact Lc _ _|refine NF ?_|refine bal ?_ _))).sz ?_
               intro v6 w6 o6 g6 f6;have hp6:=Qc ((HP.out _ (by repeat (first|with_reducible exact Lc _ _|refine NF ?_|refine bal ?_ _))).app o6 g6 f6 lo1.out HL.out.2.1)))
        all_goals
          go_wp2
          go_meet
          case rel=>go_light;exact hp7.out.swap
      case rest=>
        have hA:=hcut.out;obtain⟨f0,f1,f2⟩:=hA.p3.cells;obtain⟨_,_,g2,g3,g4⟩:=hA.s5.cells;have HA:=Qc hA;have HQx:=Qc (Lx hl2 (Lx hlw hbR));clear hA hcut HQ HS e0 e1 e2 e3 e4 hsz5
        go_upto_region 10 with (go_at_call 108;with_reducible refine(HOr.out _).mono ?_;rintro e w8 ⟨rfl,hb8⟩;have hA8:=HA.out.next hb8;obtain⟨h0,h1,h2⟩:=hA8.p3.cells;have hf:=hA8.p3.fz)
        have hp:=hA8.p3.put Z';have hch:=JV w8 w2.heap.size Z';obtain⟨W9,hW9⟩:∃W9,putP w8 w2.heap.size Z'=W9:=⟨_,rfl⟩;rw[hW9] at hp hch;unfold putP at hW9
        try rw[hW9]
        have HF:Hid (P3 W9 w2.heap.size Z'∧Pr (w2.heap.size+1) W9 u7 u8 ((M.take (j+1)).map X) ((M.take (j+1)).map Y)∧Below w2.heap.size w2 W9):=by
          refine⟨hp,?_,?_⟩
          · rw[HN.out.2.1,HN.out.2.2.1];exact⟨Qr hA8.pr.ov fun b hb1 hb2=>hch.block b (by have:=(LX hA8.pr.ov b hb1).1;omega),Qr hA8.pr.ou fun b hb1 hb2=>hch.block b (by have:=(LX hA8.pr.ou b hb1).1;omega),hA8.pr.ap⟩
          · have b1:Below w2.heap.size w2 F5:=Qa HBw.out HQx.out.2.2;have b2:Below w2.heap.size F5 w8:=hA8.be.mono (by omega)
            exact(b1.trans b2).trans (hch.below (by rintro b rfl;exact Lb _))
        have HN1:=Qc HN.out.1;clear hW9 hp hch hA8 h0 h1 h2 hf f0 f1 f2 g2 g3 g4 hl2 hlw hbR;go_wp2
        go_roundg (M.length-(j+1))
        case rel=>go_light;exact⟨j+1,Z',rfl,by omega,by go_num,HN1,HF.out.1,HF.out.2.1,HF.out.2.2⟩
        case measure=>go_light;omega
    · obtain rfl:j=M.length:=by omega
      have hz1:¬(M.length:Int)<(M.length:Int):=by omega
      obtain⟨⟨c0,c1,c2⟩,hR,_,hbw⟩:=HV.out wr HBw.out;have hE:=HE.out;rw[Wm,fm] at hE;have hZf:Z=fm F M:=by rw[<-hE];cases Z <;> rfl
      have hPr:=HPr.out;rw[NA] at hPr;obtain⟨pa,pb,pc,hv7,hp,hpc,hpn⟩:=QJ hPr.ov (fun s hs=>by obtain⟨b,_,rfl⟩:=List.mem_map.1 hs;have:=hX b;omega)
      obtain⟨qa,qb,qc,hv8,hq,hqc,hqn⟩:=QJ hPr.ou (fun s hs=>by obtain⟨b,_,rfl⟩:=List.mem_map.1 hs;have:=hY b;omega)
      have lX:(M.map X).length=M.length:=LI ..;have lY:(M.map Y).length=M.length:=LI ..;rw[lX] at hv7 hp hpc;rw[lY] at hv8 hq hqc;subst hv7 hv8;obtain⟨A,hA⟩:∃A,tp (clk k) n (M.map X) (M.map Y)=A:=⟨_,rfl⟩;have HA:Hid (∀W,Below wr.heap.size wr W->Calls prog 109 #[.int .i64 k,.int .u64 n,.slice pa M.length pc,.slice qa M.length qc] W fun e w'=>e= .returned (pv A)∧Below W.heap.size W w'):=fun W hb=>by
        have:=aboveall_any W (ht.next (Qa hbw hb)) k n pa pb 0 pc (M.map X) (by rw[lX];exact hp.next hb (Lb _)) (by omega) hpn qa qb 0 qc (M.map Y) (by rw[lX];exact hq.next hb (Lb _)) (by omega) hqn (by omega) (fun s hs=>by obtain⟨b,_,rfl⟩:=List.mem_map.1 hs;exact hX b) (fun s hs=>by obtain⟨b,_,rfl⟩:=List.mem_map.1 hs;exact hY b) A hA
        rwa [lX] at this
      have HO:Hid (∀W,Calls prog 108 #[pv A,pv Z] W fun e w'=>e= .returned (pv T)∧Below W.heap.size W w'):=fun W=>QbH W A Z T (by rw[hZf,<-hA];exact HT.out)
      have HK:Hid (∀W,Below wr.heap.size wr W->(W.cell? ⟨w.heap.size,0,none⟩=some (.int .i64 k)∧W.cell? ⟨w2.heap.size,0,none⟩=some (.string (pA Z))∧W.cell? ⟨w2.heap.size,1,none⟩=some (.string (pB' Z))∧W.cell? ⟨w2.heap.size,2,none⟩=some (.bool Z.isSome))∧P3 W (w.heap.size+1) none):=fun W hb=>⟨⟨(HV.out W (Qa HBw.out hb)).1.1,(H3.out.next hb).cells⟩,hR.next hb⟩
      obtain⟨⟨k0,k1,k2,k3⟩,hR0⟩:=HK.out wr (Lc _ _);have hc9:=(Lc wr.heap.size wr).drew;clear hX hY lX lY hp hq hpc hqc hpn hqn hPr hZf hE hA HE HPr HBk' hR hR0 HT HV HBw hlt hj
      go_upto_region 11 with (fail)
      go_region_with (first
        | (go_at_call 109;with_reducible refine(HA.out _ hc9).mono ?_;rintro e w8 ⟨rfl,hb8⟩;replace hc9:=Qa hc9 hb8;obtain⟨⟨k0,k1,k2,k3⟩,hR0⟩:=HK.out _ hc9)
        | (go_at_call 108;with_reducible refine(HO.out _).mono ?_;rintro e w9 ⟨rfl,hb9⟩;replace hc9:=Qa hc9 hb9;obtain⟨_,hR9⟩:=HK.out _ hc9;obtain⟨r0,r1,r2⟩:=hR9.cells;have rf:=hR9.fz;simp only[pA,pB',Option.isSome_none] at r0 r1 r2))
      all_goals
        have hp:=hR9.put T;have hch:=JV w9 (w.heap.size+1) T;obtain⟨d0,d1,d2⟩:=hp.cells;go_wp2;refine LA (v:=pv T) (by simp[results,results61,go_sem,d0,d1,d2]) rfl ⟨rfl,?_⟩
        exact(Qa hbw hc9).trans (hch.below (by rintro b rfl;omega))
end
section
open Cv (zl cov)
structure Pb(B:Nat)(wr:World)(v u:Value)(P Q:List (Nat×Nat)):Prop where
 ov:Cv.Yp wr B v (zl P)
 ou:Cv.Yp wr B u (zl Q)
 ap:Apt v u
section
variable {B:Nat} {w w':World} {v u v':Value} {P Q P':List (Nat×Nat)}
theorem Pb.next(h:Pb B w v u P Q)(hb:Below w.heap.size w w'):Pb B w' v u P Q:=⟨QcG h.ov hb,QcG h.ou hb,h.ap⟩
theorem Pb.swap(h:Pb B w v u P Q):Pb B w u v Q P:=⟨h.ou,h.ov,fun g h1 h2=>h.ap g h2 h1⟩
theorem Pb.app(h:Pb B w v u P Q)(o:Cv.Yp w' B v' (zl P'))(g:w.grownBy w' v.ownBlock)(f:v'.ownBlock=v.ownBlock ∨ ∀b,v'.ownBlock=some b->w.heap.size<=b):Pb B w' v' u P' Q:=by
 refine⟨o,Qr h.ou fun b hb _=>g.block b (LX h.ou b hb).2 fun e=>h.ap b e.symm hb,fun b h1 h2=> ?_⟩
 rcases f with f|f
 ·exact h.ap b (f.symm.trans h1) h2
 ·have:=f b h1;have:=(LX h.ou b h2).2;omega
theorem QoU(B:Nat)(w:World):Pb B w (.slice none 0 0) (.slice none 0 0) [] []:=⟨Nj _ _ _ _,Nj _ _ _ _,fun g h _=>by cases h⟩
end
theorem Qfq(W:World)(B:Nat)(v0 v1:Value)(P Q:List (Nat×Nat))(o0:Cv.Yp W B v0 (zl P))(o1:Cv.Yp W B v1 (zl Q))(hl:P.length+Q.length<=1000000)(t:Nat) :
  Calls prog 106 #[.slice (Zp W.heap.size) 2 2] (W.alloc (.cells #[v0,v1] t)) fun e w'=> ∃v,e= .returned v∧Cv.Yp w' W.heap.size v (zl (P++Q))∧Below W.heap.size W w':=by
 have hb:=bal (Lc W.heap.size W) (.cells #[v0,v1] t);have hx:=Lr W (.cells #[v0,v1] t);have hc:CatB (W.alloc (.cells #[v0,v1] t)) W.heap.size [v0,v1] [zl P,zl Q]:=by
  refine Qob ?_ ?_ (Cv.OT (Cv.Qdz o0) hb) (Cv.OT (Cv.Qdz o1) hb)
  ·rw[cell_of_row _ _ 0 _ _ (0,0) hx];rfl
  ·rw[cell_of_row _ _ 1 _ _ (0,0) hx];rfl
 have hf:[zl P,zl Q].flatten=zl (P++Q):=by
  simp only[List.flatten_cons,List.flatten_nil,List.append_nil,zl,List.map_append]
 refine(QiX _ _ 2 _ _ hc (by simp) (by rw[hf,Cv.Yd,Lh];omega) _ hf).mono fun e w' ⟨v,e1,e2,e3⟩=>⟨v,e1,?_,Qa hb e3⟩
 exact World.ownsRow.mono e2 (by simp)
def ots(i:Nat)(M:List (Nat×Nat)):List (Nat×Nat):=M.filter fun m=>decide (i/2^m.1≠m.2)
def sbs(i:Nat)(M:List (Nat×Nat)):List (Nat×Nat):=M.flatMap fun m=>if i/2^m.1=m.2 then bes i m.1 else []
theorem QaQ(i:Nat)(A B:List (Nat×Nat)):ots i (A++B)=ots i A++ots i B:=Wa ..
theorem QaW(i:Nat)(A B:List (Nat×Nat)):sbs i (A++B)=sbs i A++sbs i B:=List.flatMap_append ..
theorem Qpj{n i H:Nat}{A B:List (Nat×Nat)}(h:Wy n i A H B):ots i (Cv.dnL 41 0 n)=A++B:=by
 rw[h.all,QaQ];have h1:ots i A=A:=List.filter_eq_self.2 fun a ha=>LS (by have:=h.no_left ha;omega)
 have h2:ots i B=B:=List.filter_eq_self.2 fun a ha=>LS (by have:=h.no_right ha;omega)
 rw[h1,ots,Nv (by simp)]
 rw[show List.filter (fun m=>decide (i/2^m.1≠m.2)) B=B from h2]
theorem Qpl{n i H:Nat}{A B:List (Nat×Nat)}(h:Wy n i A H B):sbs i (Cv.dnL 41 0 n)=bes i H:=by
 rw[h.all,QaW];have h1:sbs i A=[]:=List.flatMap_eq_nil_iff.2 fun a ha=>Le (by have:=h.no_left ha;omega)
 have h2:sbs i B=[]:=List.flatMap_eq_nil_iff.2 fun a ha=>Le (by have:=h.no_right ha;omega)
 rw[h1,NE,sbs,Iu,Lo rfl];rw[show B.flatMap (fun m=>if i/2^m.1=m.2 then bes i m.1 else [])=[] from h2,L7]
theorem Qjd(w:World){n i H:Nat}{A B:List (Nat×Nat)}(h:Wy n i A H B)(hn:n<=2^40)(hi:i<n) :
  Calls prog 104 #[.int .u64 n,.int .u64 i] w fun e w'=> ∃v,e= .returned v∧Cv.Yp w' w.heap.size v (zl (wyB i H A B))∧Below w.heap.size w w':=by
 obtain⟨M,hM⟩:∃M,Cv.dnL 41 0 n=M:=⟨_,rfl⟩;have HMt:Hid (∀W,Calls prog 44 #[.int .u64 n] W fun e w'=> ∃ao g cap,e= .returned (.tuple #[.slice ao M.length cap,.int .i64 0])∧RdB w' ao g 0 M.length (zl M)∧Below W.heap.size W w'):=fun W=>Qcu n hn M hM W
 have hMl:M.length<=41:=by rw[<-hM];exact Cv.Jv 41 0 n
 have hM40:∀b∈M,b.1<=40:=by
  have hin:=Qcm n hn;rw[hM] at hin;exact fun b hb=>Cv.pw40 (Lt (by have:=LT (Pl.pw b.1) (show 1<=b.2+1 by omega);rw[Na] at this;exact this) (Lt (hin b hb) hn))
 have HE:Hid (sbs i M++ots i M=wyB i H A B∧(sbs i M).length+(ots i M).length<=1000):=by
  have e1:=Qpj h;have e2:=Qpl h;rw[hM] at e1 e2;have:=h.len;have:=h.hH;exact⟨by rw[e1,e2];rfl,by rw[e1,e2,UU,Lh];omega⟩
 have hz:(M.length:Int)<=41:=by omega
 clear hM h
 go_enter func104,ntmps104
 go_upto_region 3 with (go_at_call 44;with_reducible refine(HMt.out _).mono ?_;rintro e w2 ⟨ao,gM,capM,rfl,hrB,hb2⟩)
 clear HMt;have HV:Hid (∀W,Below w2.heap.size w2 W->RdB W ao gM 0 M.length (zl M)∧Below w.heap.size w W):=fun W hb=>⟨hrB.below hb,Qa hb2 hb⟩
 go_wp2
 go_loopg [7,8,19] M.length (fun g v u i' wr=> ∃j:Nat,g=M.length-j∧j<=M.length∧i'= .int .i64 j∧Hid (Pb w2.heap.size wr v u (sbs i (M.take j)) (ots i (M.take j)))∧Hid (Below w2.heap.size w2 wr))
 case atStart=>go_light;exact⟨0,rfl,Lm _,rfl,QoU _ _,Lc _ _⟩
 case round=>
  obtain⟨j,rfl,hj,rfl,HPb,HBw⟩:=hrel
  by_cases hlt:j<M.length
  ·have z0:(0:Int)<=(j:Int):=Lf _;have z1:(j:Int)<(M.length:Int):=by omega
   obtain⟨hrd,hbw⟩:=HV.out wr HBw.out;obtain rfl:=hrd.addr (by omega)
   obtain⟨b,hbb⟩:∃b,M.getD j (0,0)=b:=⟨_,rfl⟩;have hbm:b∈M:=by rw[<-hbb,La,Ld hlt];exact LN _
   obtain⟨k0,k1⟩:=hrd.cell j hlt;have hzl:(zl M).getD j (0,0)=((b.1:Int),b.2):=by
    rw[<-hbb,La,La,zl,No,Ld hlt];rfl
   rw[hzl] at k0 k1;simp only at k0 k1;rw[Lp] at k0 k1;have h40:=hM40 b hbm;have htk:M.take (j+1)=M.take j++[b]:=by rw[LQ hlt,<-hbb,La,Ld hlt];rfl
   obtain⟨bh,bk⟩:=b;simp only at k0 k1 h40;clear hrd hzl hbb hbm;obtain⟨W1,hW1⟩:∃W1,wr.alloc (.cells #[.int .i64 bh,.int .u64 bk] 131)=W1:=⟨_,rfl⟩;have hb1:Below wr.heap.size wr W1:=by rw[<-hW1];exact bal (Lc _ _) _
   have t1:W1.heap[wr.heap.size]? = some (.cells #[.int .i64 bh,.int .u64 bk] 131 (0,0)):=by rw[<-hW1];exact Lr wr _
   have d0:W1.cell? ⟨wr.heap.size,0,none⟩=some (.int .i64 bh):=by rw[cell_of_row W1 wr.heap.size 0 _ _ (0,0) t1];rfl
   have d1:W1.cell? ⟨wr.heap.size,1,none⟩=some (.int .u64 bk):=by rw[cell_of_row W1 wr.heap.size 1 _ _ (0,0) t1];rfl
   have y0:(0:Int)<=(bh:Int):=Lf _;have y1:(bh:Int)<=40:=by omega
   go_upto_region 6 with (fail)
   try rw[hW1]
   clear k0 k1 hW1 t1;obtain⟨p,hp⟩:∃p,i/2^bh=p:=⟨_,rfl⟩;have hpi:(i:Int)/2^bh=(p:Int):=by rw[<-hp];simp
   have HPx:=Qc (Lx hp htk);have hb1N:∀t,Below wr.heap.size wr (W1.drewN t):=fun t=>Qi hb1 t
   have HB1:=Qc hb1N;clear hp htk hb1N hb1
   by_cases hq:p=bk
   ·subst hq
    go_quiet (fail)
    clear hpi;have hb1:=HB1.out nq;have d0':(W1.drewN nq).cell? ⟨wr.heap.size,0,none⟩=some (.int .i64 bh):=d0;obtain⟨W2,hW2⟩:∃W2,W1.drewN nq=W2:=⟨_,rfl⟩;rw[hW2] at hb1 d0'
    try rw[hW2]
    clear hW2 d0 d1;have hbW:=Qa HBw.out hb1;have HP1:Hid (Pb w2.heap.size W2 u7 u8 (sbs i (M.take j)++bes i 0) (ots i (M.take j))∧(sbs i (M.take j)).length<=2000∧ots i (M.take (j+1))=ots i (M.take j)∧sbs i (M.take (j+1))=sbs i (M.take j)++bes i bh∧Below w2.heap.size w2 W2):=by
     have hz2:(sbs i (M.take j)).length<=2000:=by
      have h1:sbs i M=sbs i (M.take j)++sbs i (M.drop j):=by rw[<-QaW,Nu]
      have h2:=HE.out.2;rw[h1,Lh] at h2;omega
     refine⟨?_,hz2,?_,?_,hbW⟩
     ·have:=HPb.out.next hb1
      simpa [bes] using this
     ·rw[HPx.out.2,QaQ];have:ots i [(bh,p)]=[]:=by
       unfold ots;rw[Nv (by simp[HPx.out.1])]
       rfl
      rw[this,L7]
     ·rw[HPx.out.2,QaW]
      congr 1
      simp[sbs,HPx.out.1]
    clear HPb;go_wp2
    go_loopg [7,36] bh (fun g v x wi=> ∃t:Nat,g=bh-t∧t<=bh∧x= .int .i64 t∧Hid (Pb w2.heap.size wi v u8 (sbs i (M.take j)++bes i t) (ots i (M.take j)))∧Hid (Below w2.heap.size w2 wi))
    case atStart=>go_light;exact⟨0,rfl,Lm _,rfl,HP1.out.1,hbW⟩
    case round=>
     clear hbW hb1 d0';obtain⟨t,rfl,htb,rfl,HPt,HBt⟩:=hrel
     by_cases hlt2:t<bh
     ·have x0:(t:Int)<(bh:Int):=by omega
      have x1:(0:Int)<=(t:Int):=Lf _;obtain⟨q,hq⟩:∃q,i/2^t=q:=⟨_,rfl⟩;have hqi:(i:Int)/2^t=(q:Int):=by rw[<-hq];simp
      have hq40:q<2^40:=by have:=NI i (2^t);omega
      have ex:bits .xor .u64 (q:Int) 1=((sb q:Nat):Int):=by rw[<-QkI];exact bits_xor_u64_nat q 1 (by omega) (by decide)
      have hsb:bes i (t+1)=bes i t++[(t,sb q)]:=by rw[Qd7,hq]
      have HSb:=Qc hsb;obtain⟨sq,hsq⟩:∃sq,sb q=sq:=⟨_,rfl⟩;rw[hsq] at ex HSb;clear hsq hq hq40 hsb
      go_wp2_with (at_builtin;refine Cv.Q7 _ rfl _ _ rfl w2.heap.size u7 (zl (sbs i (M.take j)++bes i t)) rfl (Pb.next HPt.out (bal (Lc _ _) _)).ov (.slice (Zp wr.heap.size) 1 1) [((t:Int),sq)] rfl (Cv.UN wr (t:Int) sq 131) ?e2 ?e3 ?_)
      case e2=>have:=HP1.out.2.1;rw[Cv.Yd,Lh,UU];simp;omega
      case e3=>have:=HBt.out.size;simp;omega
      intro v' w3 r1 r2 r3;have hN:Pb w2.heap.size w3 v' u8 (sbs i (M.take j)++bes i (t+1)) (ots i (M.take j))∧Below w2.heap.size w2 w3:=by
       have hP2:=HPt.out.next (bal (Lc wr.heap.size wr) (.cells #[.int .i64 t,.int .u64 sq] 131));refine⟨hP2.app ?_ r2 (by rw[LK] ;exact r3),(bal HBt.out _).trans ((Lc _ _).grown r2 (by have:=HBt.out.size;simp;omega) fun b hb=>(LX hP2.ov b hb).1)⟩
       rw[HSb.out,<-LP,Cv.Qav];exact r1
      have HN:=Qc hN;obtain⟨va,vn,vc,rfl⟩:=Cv.Qs r1;clear hN r1 r2 r3 HPt;go_wp2
      go_roundg (bh-(t+1))
      case rel=>go_light;exact⟨t+1,rfl,by omega,by go_num,HN.out.1,HN.out.2⟩
      case measure=>go_light;omega
     ·obtain rfl:t=bh:=by omega
      have x0:¬(t:Int)<(t:Int):=by omega
      have HN:Hid (Pb w2.heap.size wr u7 u8 (sbs i (M.take (j+1))) (ots i (M.take (j+1)))):=by
       show Pb _ _ _ _ _ _
       rw[HP1.out.2.2.2.1,HP1.out.2.2.1];exact HPt.out
      clear HPt HP1 hlt2 htb;go_wp2
      go_roundg (M.length-(j+1))
      case rel=>go_light;exact⟨j+1,rfl,by omega,by go_num,HN.out,HBt.out⟩
      case measure=>go_light;omega
   ·have hqi:¬(p:Int)=(bk:Int):=by omega
    have hqb:((p:Int) != (bk:Int))=true:=by simpa using hqi
    go_quiet (fail)
    clear hpi;have hb1:=HB1.out nq;have d0':(W1.drewN nq).cell? ⟨wr.heap.size,0,none⟩=some (.int .i64 bh):=d0;have d1':(W1.drewN nq).cell? ⟨wr.heap.size,1,none⟩=some (.int .u64 bk):=d1;obtain⟨W2,hW2⟩:∃W2,W1.drewN nq=W2:=⟨_,rfl⟩;rw[hW2] at hb1 d0' d1'
    try rw[hW2]
    clear hW2 d0 d1 hqb hqi;have hPb:=(HPb.out.next hb1);have hbW:=Qa HBw.out hb1
    go_wp2_with (at_builtin;refine Cv.Q7 _ rfl _ _ rfl w2.heap.size u8 (zl (ots i (M.take j))) rfl (Pb.next hPb (bal (Lc _ _) _)).ou (.slice (Zp W2.heap.size) 1 1) [((bh:Int),bk)] rfl (Cv.UN W2 (bh:Int) bk 131) ?c2 ?c3 ?_)
    case c2=>
     have h1:ots i M=ots i (M.take j)++ots i (M.drop j):=by rw[<-QaQ,Nu]
     have h2:=HE.out.2;rw[h1,Lh] at h2;rw[Cv.Yd];simp;omega
    case c3=>have:=hbW.size;simp;omega
    intro v' w3 r1 r2 r3;have hN:Pb w2.heap.size w3 u7 v' (sbs i (M.take (j+1))) (ots i (M.take (j+1)))∧Below w2.heap.size w2 w3:=by
     have e1:ots i (M.take (j+1))=ots i (M.take j)++[(bh,bk)]:=by
      rw[HPx.out.2,QaQ]
      congr 1
      unfold ots;rw[NP (by simp[HPx.out.1,hq])]
      rfl
     have e2:sbs i (M.take (j+1))=sbs i (M.take j):=by
      rw[HPx.out.2,QaW];have:sbs i [(bh,bk)]=[]:=by simp[sbs,HPx.out.1,hq]
      rw[this,L7]
     have hP2:=hPb.next (bal (Lc W2.heap.size W2) (.cells #[.int .i64 bh,.int .u64 bk] 131));refine⟨?_,?_⟩
     ·rw[e1,e2];refine(hP2.swap.app ?_ r2 (by rw[LK] ;exact r3)).swap
      rw[Cv.Qav];exact r1
     ·exact(bal hbW _).trans ((Lc _ _).grown r2 (by have:=hbW.size;simp;omega) fun b hb=>(LX hP2.ou b hb).1)
    have HN:=Qc hN;obtain⟨va,vn,vc,rfl⟩:=Cv.Qs r1;clear hN r1 r2 r3 hPb hbW d0' d1' HPb;go_wp2
    go_roundg (M.length-(j+1))
    case rel=>go_light;exact⟨j+1,rfl,by omega,by go_num,HN.out.1,HN.out.2⟩
    case measure=>go_light;omega
  ·obtain rfl:j=M.length:=by omega
   have hz1:¬(M.length:Int)<(M.length:Int):=by omega
   have hP:=HPb.out;rw[NA] at hP;have hbw:=(HV.out wr HBw.out).2;obtain⟨sa,sn,sc,rfl⟩:=Cv.Qs hP.ov;obtain⟨oa,on,oc,rfl⟩:=Cv.Qs hP.ou;have HC:=Qfq wr w2.heap.size _ _ _ _ hP.ov hP.ou (by have:=HE.out.2;omega)
   rw[HE.out.1] at HC;have HC:=Qc HC;clear hP HPb HV hlt hj
   go_wp2_with (go_at_call 106;with_reducible refine(HC.out _).mono ?_;rintro e w3 ⟨v,rfl,h3,hb3⟩)
   obtain⟨a3,n3,c3,rfl⟩:=Cv.Qs h3
   go_ret
   exact⟨_,rfl,World.ownsRow.mono h3 hbw.size,Qa hbw hb3⟩
theorem Qlx(w:World)(k:Int)(old:Nat){n i H:Nat}{A B:List (Nat×Nat)}(h:Wy n i A H B)(hn:n<=2^40)(hi:i<n)(sa:OA)(sb so sc:Nat)(hs:RdU w sa sb so 1 [i])(vd:Value) :
  Calls prog 60 #[vP 1 k old n (.slice sa 1 sc) vd] w fun e w'=> ∃v,e= .returned v∧Cv.Yp w' w.heap.size v (zl (wyB i H A B))∧Below w.heap.size w w':=by
 obtain⟨F,hFe,h6,hb,_⟩:=Us w (.int .i64 1) (.int .i64 k) (.int .u64 old) (.int .u64 n) (.slice sa 1 sc) vd;obtain rfl:=hs.ptr (by omega)
 have HE:Hid (∀W,Calls prog 104 #[.int .u64 n,.int .u64 i] W fun e w'=> ∃v,e= .returned v∧Cv.Yp w' W.heap.size v (zl (wyB i H A B))∧Below W.heap.size W w'):=fun W=>Qjd W h hn hi
 obtain⟨c0,c1,c2,c3,c4,c5⟩:=h6.cells;have ci:F.cell? ⟨sb,so,none⟩=some (.int .u64 i):=(hs.next hb).at (j:=0) (by omega)
 unfold vP;clear h hn hi hs h6
 go_enter func60,ntmps60
 go_upto_region 1 with (fail)
 try rw[hFe]
 clear hFe
 go_upto_region 3 with (fail)
 go_region_with (go_at_call 104;with_reducible refine(HE.out _).mono ?_;rintro e w3 ⟨v,rfl,h3,hb3⟩;obtain⟨a3,n3,c3,rfl⟩:=Cv.Qs h3)
 all_goals
  go_wp2
  go_ret
  exact⟨_,rfl,World.ownsRow.mono h3 (hb.drew.size),Qa hb.drew hb3⟩
theorem QiL(w:World)(k:Int)(old n:Nat)(S:List Nat)(he:Cv.Ya n S=0)(hS:S.length<=5000)(sa:OA)(sb so sc:Nat)(hs:RdU w sa sb so S.length S)(vd:Value) :
  Calls prog 60 #[vP 2 k old n (.slice sa S.length sc) vd] w fun e w'=> ∃v,e= .returned v∧Cv.Yp w' w.heap.size v (zl (Cv.rst 0 n S))∧Below w.heap.size w w':=by
 obtain⟨F,hFe,h6,hb,_⟩:=Us w (.int .i64 2) (.int .i64 k) (.int .u64 old) (.int .u64 n) (.slice sa S.length sc) vd;have HE:Hid (Calls prog 105 #[.int .u64 n,.slice sa S.length sc] F fun x w'=> ∃v,x= .returned (.tuple #[v,.int .i64 0])∧Cv.Yp w' F.heap.size v (zl (Cv.rst 0 n S))∧Below F.heap.size F w'):=Cv.QmZ n F sa sb so S.length sc S (Qkv (hs.next hb)) hS he
 obtain⟨c0,c1,c2,c3,c4,c5⟩:=h6.cells;unfold vP;clear hs h6 he hS
 go_enter func60,ntmps60
 go_upto_region 1 with (fail)
 try rw[hFe]
 clear hFe
 go_wp2_with (go_at_call 105;with_reducible refine HE.out.mono ?_;rintro e w3 ⟨v,rfl,h3,hb3⟩;obtain⟨a3,n3,c3,rfl⟩:=Cv.Qs h3)
 go_ret
 exact⟨_,rfl,World.ownsRow.mono h3 hb.size,Qa hb hb3⟩
end
theorem Qck(w:World)(k:Int)(la:OA)(ln lc:Nat)(hn:ln<=8796093022208)(o:Nat)(c:BA)(e0:Int)
  (HR:Hid (∀W,Below w.heap.size w W->Calls prog 56 #[.int .i64 k,.slice la ln lc,.int .u64 ln] W fun e w'=>e= .returned (.tuple #[.agg #[.int .u64 o,.string c],.int .i64 e0])∧Below W.heap.size W w')) :
  Calls prog 26 #[.int .i64 k,.slice la ln lc] w fun e w'=>e= .returned (.agg #[.int .u64 o,.string c])∧Below w.heap.size w w':=by
 have hb0:=bal (Lc w.heap.size w) (.cells #[.int .u64 0,.string ⟨#[]⟩] 33);have h0:Rh (w.alloc (.cells #[.int .u64 0,.string ⟨#[]⟩] 33)) w.heap.size 0 ⟨#[]⟩:=Qky w 0 ⟨#[]⟩;have z1:(ln:Int)<=8796093022208:=by omega
 obtain⟨W0,hW0⟩:∃W0,w.alloc (.cells #[.int .u64 0,.string ⟨#[]⟩] 33)=W0:=⟨_,rfl⟩;rw[hW0] at hb0 h0;clear hn
 go_enter func26,ntmps26
 go_upto_region 1 with (fail)
 try rw[hW0]
 clear hW0
 go_upto_region 2 with (go_at_call 56;with_reducible refine(HR.out _ hb0).mono ?_;rintro e w1 ⟨rfl,hb1⟩)
 obtain⟨F,hFe,hr,hb2⟩:∃W,w1.alloc (.cells #[.int .u64 o,.string c] 33)=W∧Rh W w1.heap.size o c∧Below w1.heap.size w1 W:=⟨_,rfl,Qky w1 o c,bal (Lc _ _) _⟩
 try rw[hFe]
 clear hFe;have hx:=h0.next (Qa hb1 hb2);obtain⟨c0,c1⟩:=hr.cells;obtain⟨d0,d1⟩:=hx.cells;have df:=hx.fz;have hp:=hx.put o c;have hch:=Qdy F w.heap.size o c;unfold putR at hp hch;obtain⟨s0,s1⟩:=hp.cells;clear h0 hx hr;go_wp2;refine LA (v := .agg #[.int .u64 o,.string c]) (by simp[results,results26,go_sem,s0,s1]) rfl ⟨rfl,?_⟩
 exact(Qa (Qa hb0 hb1) hb2).trans (hch.below (by rintro b rfl;exact Lb _))
theorem QlL(w:World)(ht:Tb w)(k:Int)(k1:1<=k)(k2:k<=32)(la:OA)(lb lo lc:Nat)(L:LB)(hr:RdS w la lb lo L.length L)(hsz:∀s∈L,s.size<=140737488351232)(hm:L.length<=1099511627776)(hlc:L.length<=lc)(c:BA)(hc:rtD (clk k) L L.length=c) :
  Calls prog 26 #[.int .i64 k,.slice la L.length lc] w fun e w'=>e= .returned (.agg #[.int .u64 L.length,.string c])∧Below w.heap.size w w' :=
 Qck w k la L.length lc (by omega) L.length c 0 fun W hb=>Qks W (ht.next hb) k k1 k2 la lb lo L.length lc L (hr.next hb (Lb _)) hsz (by omega) hlc L.length (Lb _) c hc
theorem QiW(w:World)(k:Int)(hk:k<1∨32<k)(la:OA)(ln lc:Nat)(hn:ln<=1099511627776) :
  Calls prog 26 #[.int .i64 k,.slice la ln lc] w fun e w'=>e= .returned (.agg #[.int .u64 ((0:Nat):Int),.string ⟨#[]⟩])∧Below w.heap.size w w' :=
 Qck w k la ln lc (by omega) 0 ⟨#[]⟩ 70 fun W _=>Qh8 W k hk la ln lc ln
def soC(L:LB)(l:List (Nat×BA)):Prop := ∀c∈l,L.getD c.1 ByteArray.empty=c.2
instance (L:LB) (l:List (Nat×BA)):Decidable (soC L l):=by unfold soC;infer_instance
theorem Qb9(w:World)(ca:OA)(cb co cc:Nat)(l:List (Nat×BA))(hc:RdK w ca cb co l.length l)(hcm:l.length<=1099511627776)(la:OA)(lb lo lc:Nat)(L:LB)(hr:RdS w la lb lo L.length L)(hm:L.length<=1099511627776)(hin:∀c∈l,c.1<L.length)(r:Bool)(hq:decide (soC L l)=r) :
  Calls prog 27 #[.slice ca l.length cc,.slice la L.length lc] w fun e w'=>e= .returned (.bool r)∧Below w.heap.size w w':=by
 have HC:Hid (∀W,Below w.heap.size w W->RdK W ca cb co l.length l∧RdS W la lb lo L.length L):=fun W hb=>⟨hc.next hb,hr.next hb (Lb _)⟩
 have z1:(l.length:Int)<=1099511627776:=by omega
 have z2:(L.length:Int)<=1099511627776:=by omega
 have HIn:=Qc hin;have HQ:=Qc hq;clear hc hr hcm hm hin hq
 go_enter func27,ntmps27;go_wp2
 go_loopg [9] l.length (fun g i wr=> ∃j:Nat,j<=l.length∧g=l.length-j∧i= .int .i64 j∧Hid (∀t,t<j->L.getD (l.getD t noC).1 ByteArray.empty=(l.getD t noC).2)∧Hid (Below w.heap.size w wr))
 case atStart=>go_light;exact⟨0,Lm _,rfl,rfl,fun t ht=>absurd ht (NS _),Lc _ _⟩
 case round=>
  obtain⟨j,hj,rfl,rfl,HAl,HBw⟩:=hrel
  by_cases hlt:j<l.length
  ·have y0:(0:Int)<=(j:Int):=Lf _;have y1:(j:Int)<(l.length:Int):=by omega
   obtain⟨hk,hs⟩:=HC.out wr HBw.out;obtain rfl:=hk.ptr (by omega)
   obtain⟨c0,c1⟩:=hk.at hlt;have hmem:l.getD j noC∈l:=by rw[La,Ld hlt];exact LN _
   have hi:=HIn.out _ hmem;obtain⟨a,ha⟩:∃a,(l.getD j noC).1=a:=⟨_,rfl⟩;obtain⟨x,hx⟩:∃x,(l.getD j noC).2=x:=⟨_,rfl⟩;rw[ha] at c0 hi;rw[hx] at c1;obtain⟨W1,hW1⟩:∃W1,wr.alloc (.cells #[.int .u64 a,.string x] 41)=W1:=⟨_,rfl⟩;have hb1:Below wr.heap.size wr W1:=by rw[<-hW1];exact bal (Lc _ _) _
   have t1:W1.heap[wr.heap.size]? = some (.cells #[.int .u64 a,.string x] 41 (0,0)):=by rw[<-hW1];exact Lr wr _
   have d0:W1.cell? ⟨wr.heap.size,0,none⟩=some (.int .u64 a):=by rw[cell_of_row W1 wr.heap.size 0 _ _ (0,0) t1];rfl
   have d1:W1.cell? ⟨wr.heap.size,1,none⟩=some (.string x):=by rw[cell_of_row W1 wr.heap.size 1 _ _ (0,0) t1];rfl
   have hs1:=hs.next hb1 (Lb _);obtain rfl:=hs1.ptr (by omega)
   have ci:=hs1.at hi;obtain⟨y,hy⟩:∃y,L.getD a ByteArray.empty=y:=⟨_,rfl⟩;rw[hy] at ci;have q0:(0:Int)<=(a:Int):=Lf _;have q1:(a:Int)<(L.length:Int):=by omega
   have HW1:Hid (∀t,Below w.heap.size w (W1.drewN t)):=fun t=>Qi (Qa HBw.out hb1) t
   by_cases he:y=x
   ·subst he;have HN:Hid (∀t,t<j+1->L.getD (l.getD t noC).1 ByteArray.empty=(l.getD t noC).2):=fun t ht=>by
     rcases Ic (Iz ht) with h|rfl
     ·exact HAl.out t h
     ·rw[ha,hx];exact hy
    clear hk hs hs1 hmem ha hx hy t1 HAl hi hb1
    go_upto_region 4 with (fail)
    try rw[hW1]
    clear hW1 c0 c1
    go_quiet (fail)
    go_wp2
    go_roundg (l.length-(j+1))
    case rel=>go_light;exact⟨j+1,by omega,rfl,by go_num,HN,HW1.out _⟩
    case measure=>go_light;omega
   ·have hzb:=UE he;have hz:=OJ he;obtain rfl:false=r:=by
     rw[<-HQ.out];refine(LC fun h=>he ?_).symm
     have:=h _ hmem;rw[ha,hx,hy] at this;exact this
    clear hk hs hs1 hmem ha hx hy t1 HAl hi hb1 he
    go_upto_region 4 with (fail)
    try rw[hW1]
    clear hW1 c0 c1
    go_quiet (fail)
    go_wp2
    go_ret
    exact⟨rfl,HW1.out _⟩
  ·obtain rfl:j=l.length:=by omega
   have hz:¬(l.length:Int)<(l.length:Int):=by omega
   obtain rfl:true=r:=by
    rw[<-HQ.out];refine(LS fun c hc=> ?_).symm
    obtain⟨t,ht,rfl⟩:=L8 hc;have:=HAl.out t ht;rw[La (l:=l),Ld ht] at this;exact this
   have hB:=HBw.out;clear hlt hj;go_wp2
   go_ret
   exact⟨rfl,hB⟩
section
open Pl (pw QA)
open Cv (Row All Til But cov zl)
theorem Qe4{A:Nat->Prop}{q:Nat} : ∀ {L:List (Nat×Nat)} {p:Nat},Til A q p L->L.length+p<=q
 | [],_,h=>by have:=h.1;simp;omega
 | b::L,p,h=>by
  have:=Qe4 h.2.2.2.2.2;have h1:=h.1;have h2:=Cv.Yx b.1 b.2;rw[LJ];omega
theorem Qmc{i:Nat} : ∀ {l:List (Nat×BA)},[i]=ixs l -> ∃x,l=[(i,x)]
 | [(a,x)],hS=>by
  simp only[List.map_cons,List.map_nil] at hS;injection hS with hS _
  exact⟨x,by rw[hS]⟩
theorem Ql2(i:Nat):(fun t:Nat=>t=i)=fun t=>t∈[i]:=by funext t;simp
structure AccT(k:Int)(o1:Nat)(c1:BA)(l:List (Nat×BA))(P:PV)(Bs:List (Nat×Nat))(K:List He)(R:LB):Prop where
 tre:Tre (clk k) o1 Bs P.D (vlC l) (fun i=>i∈ixs l) K R
 root:dg (clk k) (QO o1 (Qx (clk k) R))=c1
 free:∀i∈ixs l,i<o1 ∧ ∀t,ixM Bs t (i/2^t)=none
 asc:Asc (ixs l)
 len:Bs.length<=2*o1+200
 call:∀W sa sb sc da db dc,o1<=5000->RdF W sa sb sc da db dc P->Calls prog 60 #[vP P.kd k P.old P.size (.slice sa P.S.length sc) (.slice da P.D.length dc)] W fun e w'=> ∃v,e= .returned v∧Cv.Yp w' W.heap.size v (zl Bs)∧Below W.heap.size W w'
theorem Qgp{n:Nat} : ∀ {S:List Nat} {x:Nat},Cv.Yf x S n->x<=n->S.length+x<=n
 | [],_,_,hx=>by simpa using hx
 | a::S,x,h,hx=>by
  have h1:x<=a:=(Cv.YL h a (Nt ..)).1;have h2:a<n:=(Cv.YL h a (Nt ..)).2;have:=Qgp h.2 h2;rw[LJ];omega
theorem Qhl{n:Nat}{S:List Nat}(hp:Asc S)(hb:∀i∈S,i<n):S.length<=n:=by
 have key:∀(S:List Nat) (x:Nat),Asc S->(∀i∈S,x<=i∧i<n)->x<=n->S.length+x<=n:=by
  intro S
  induction S with
  | nil=>intro x _ _ hx;simpa using hx
  | cons a S ih=>
   intro x hp hb hx;obtain⟨h1,h2⟩:=List.pairwise_cons.1 hp;have ha:=hb a (Nt ..);have:=ih (a+1) h2 (fun i hi=>⟨h1 i hi,(hb i (LR _ hi)).2⟩) (by omega)
   rw[LJ];omega
 have:=key S 0 hp (fun i hi=>⟨Lm _,hb i hi⟩) (Lm _)
 omega
theorem Qiv{k:Int}{o1:Nat}{c1:BA}{l:List (Nat×BA)}{s:BA}{P:PV}(A:Acc k o1 c1 l s P):∃Bs K R,AccT k o1 c1 l P Bs K R:=by
 have hS:=A.hS;have hsz:=A.size;have hold:=A.old
 rcases A.how with ⟨h1,i,A',H,B,hSi,wy,hi,hf,hr⟩|⟨h2,hok,hr⟩
 ·rw[hSi] at hS;obtain⟨x,hlx⟩:=Qmc hS;have hvx:vlC l i=x:=by rw[hlx];simp[vlC]
  have hx0:(vls l).getD 0 ByteArray.empty=x:=by rw[hlx];rfl
  rw[hx0] at hr;have ht:=Qk6 wy A.n40 ⟨A.k1,A.k2⟩ hf (V:=vlC l) x hvx;rw[Ql2 i,hS] at ht;refine⟨_,_,_,ht,hr,fun t ht=> ?_,?_,?_,fun W sa sb sc da db dc _ hF=> ?_⟩
  ·rw[<-hS] at ht;have ht:t=i:=by simpa using ht
   subst ht;exact⟨hi,fun t=>OF.2 (wy.free t)⟩
  ·rw[<-hS];exact List.pairwise_singleton _ _
  ·have:=wy.len;have:=wy.hH;rw[Qd0];omega
  ·have hrs:=hF.p.rs;rw[hSi] at hrs ⊢;rw[h1,hsz];exact Qlx W k P.old wy A.n40 hi sa sb 0 sc hrs _
 ·rw[hS] at hok hr;obtain⟨h40,_,_,hc⟩:=Cv.Yt hok.2.1;refine⟨_,_,_,Qiq hok,hr,fun t ht=>⟨(Cv.YL hc t ht).2,Qfg hok ht⟩,Y9 hc,?_,fun W sa sb sc da db dc h5 hF=> ?_⟩
  ·have:=Qe4 (Cv.Jd o1 (ixs l) h40 hc);omega
  ·have hrs:=hF.p.rs;rw[hS] at hrs ⊢;rw[h2,hsz];exact QiL W k P.old o1 (ixs l) hok.2.1 (by have:=Qgp hc (Lm _);omega) sa sb 0 sc hrs _
theorem Qo1{c:Nat}{L:LB}(hL:L.length<=2^40):rtD c L L.length=dg c (QO L.length (Qx c ((Cv.dnL 41 0 L.length).map fun b=>nd c L b.1 b.2))):=by
 have:=(Qaf c L L.length (Lb _) hL).1;rw[Cv.Yh L.length hL] at this;rw[rtD,this]
theorem QcW{k:Int}{L:LB}{l:List (Nat×BA)}{s:BA}{P:PV}{Bs:List (Nat×Nat)}{K:List He}{R:LB}(A:Acc k L.length (rtD (clk k) L L.length) l s P)(T:AccT k L.length (rtD (clk k) L L.length) l P Bs K R) :
  (∃q,wk (clk k) L.length L (ixM Bs) P.D (vlC l) (Cv.dnL 41 0 L.length)=some q∧Clx (clk k) q)∨soC L l:=by
 have he:=T.root;rw[Qo1 A.n40,<-T.tre.pk] at he
 rcases Qle (Qn k) T.tre.lt T.tre.dsz he.symm with h|⟨_,h⟩
 ·exact .inl h
 ·refine .inr fun c hc=> ?_
  have hm:c.1∈ixs l:=List.mem_map.2 ⟨c,hc,rfl⟩;obtain⟨hi,hfree⟩:=T.free c.1 hm;obtain⟨A',H,B,wy⟩:=QnT L.length c.1 A.n40 hi;obtain⟨h1,h2⟩:=h _ wy.top;have:=(Qjn (Qn k) T.tre.lt T.tre.dsz H (c.1/2^H) h1 h2 0 c.1 (Lm _) rfl (fun t _ _=>hfree t)).2 rfl (by have:=hfree 0;rwa [ND,IR] at this)
  rw[this];obtain⟨j,hj,rfl⟩:=L8 hc;have e:=Qla T.asc hj;rw[La,Ld hj] at e;exact e
end
structure SdP(w:World)(k:Int)(L:LB)(M:Nat->Nat->Option Nat)(D:LB)(V:Nat->BA)(Q:Nat->Prop)(v1 v2:Value):Prop where
 tb:Tb w
 e1:∀W h i,Below w.heap.size w W->h<=40->(i+1)*2^h<=L.length->Calls prog 297 #[v1,bkV h i] W fun e w'=>e= .returned (lsE (clk k) L M h i)∧Below W.heap.size W w'
 e2:∀W h i,Below w.heap.size w W->h<=40->(i+1)*2^h<=L.length->(h=0->M h i=none->Q i)->Calls prog 299 #[v2,bkV h i] W fun e w'=>e= .returned (prE D V M h i)∧Below W.heap.size W w'
 szL:∀s∈L,s.size<=140737488351232
 szV:∀i,Q i->(V i).size<2305843009213693952
 hM:∀h i j,M h i=some j->j<D.length
 hD:∀d∈D,d.size=clk k
 hL:L.length<=1099511627776
theorem Qfi{w:World}{k:Int}{L:LB}{M:Nat->Nat->Option Nat}{D:LB}{V:Nat->BA}{Q:Nat->Prop}{v1 v2:Value}(S:SdP w k L M D V Q v1 v2):∀(h i:Nat),h<=40->(i+1)*2^h<=L.length->Vis M Q h i -> ∀W,Below w.heap.size w W ->
  Calls prog 107 #[wkV k v1 135 v2,bkV h i] W fun e w'=>e= .returned (snV (nd (clk k) L h i) (xd (clk k) M D V h i) (fp (clk k) L M D V h i))∧Below W.heap.size W w':=by
 have hc:=Qn k;have cut:∀(h i j:Nat),h<=40->(i+1)*2^h<=L.length->M h i=some j -> ∀W,Below w.heap.size w W->Calls prog 107 #[wkV k v1 135 v2,bkV h i] W fun e w'=>e= .returned (snV (nd (clk k) L h i) (xd (clk k) M D V h i) (fp (clk k) L M D V h i))∧Below W.heap.size W w':=fun h i j hh hi e W hb=>by
  rw[Qel e,Qhh e];refine block_cutP W k v1 v2 h i _ _ none (Qnq _) (fun W' hb'=> ?_) (fun W' hb'=> ?_)
  ·have:=S.e1 W' h i (Qa hb hb') hh hi
   rwa [lsE,e,Option.isSome_some,Lo rfl] at this
  ·have:=S.e2 W' h i (Qa hb hb') hh hi (fun _ h0=>by rw[e] at h0;cases h0)
   rwa [prE,e,Option.isSome_some,Lo rfl] at this
 intro h
 induction h with
 | zero=>
  intro i hh hi hv W hb
  cases e:M 0 i with
  | some j=>exact cut 0 i j hh hi e W hb
  | none=>
   have hq:=hv e;rw[QaK e,QaZ e,nd];have hiL:i<L.length:=Qbs hi;have hs:=S.szL _ (QI hiL);have hs2:=S.szV i hq;refine block_leafP W k v1 v2 0 i (S.tb.next hb) _ _ (by rw[YN];omega) (by rw[YN];omega) _ _ rfl rfl _ rfl (fun W' hb'=> ?_) (fun W' hb'=> ?_)
   ·have:=S.e1 W' 0 i (Qa hb hb') hh hi
    rwa [lsE,e,IP,Le (by simp),Le (by simp)] at this
   ·have:=S.e2 W' 0 i (Qa hb hb') hh hi (fun _ _=>hq)
    rwa [prE,e,IP,Le (by simp),Le (by simp)] at this
 | succ h ih=>
  intro i hh hi hv W hb
  cases e:M (h+1) i with
  | some j=>exact cut (h+1) i j hh hi e W hb
  | none=>
   obtain⟨vl,vr⟩:=hv e;obtain⟨i1,i2⟩:=Ql6 hi;rw[QaL e,O8 e,nd];have hiL:i<L.length:=Qbs hi;have hLL:=S.hL;have z1:∀a b,(nd (clk k) L a b).size<=32:=fun a b=>by rw[QG hc];exact hc
   have z2:∀a b,(xd (clk k) M D V a b).size<=32:=fun a b=>by rw[Uq hc S.hM S.hD];exact hc
   refine block_nodeP W k v1 v2 (h+1) h i (2*i) (2*i+1) rfl hh rfl rfl (by omega) (S.tb.next hb) (nd (clk k) L h (2*i)) (xd (clk k) M D V h (2*i)) (nd (clk k) L h (2*i+1)) (xd (clk k) M D V h (2*i+1)) _ _ ⟨z1 _ _,z2 _ _,z1 _ _,z2 _ _⟩ _ _ rfl rfl _ _ rfl rfl _ _ _ rfl rfl rfl (fun W' hb'=> ?_) (fun W' hb'=> ?_) (fun W' hb'=>ih (2*i) (by omega) i1 vl W' (Qa hb hb')) (fun W' hb'=>ih (2*i+1) (by omega) i2 vr W' (Qa hb hb'))
   ·have:=S.e1 W' (h+1) i (Qa hb hb') hh hi
    rwa [lsE,e,IP,Le (by simp),Lo (by omega)] at this
   ·have:=S.e2 W' (h+1) i (Qa hb hb') hh hi (fun h0=>by omega)
    rwa [prE,e,IP,Le (by simp),Lo (by omega)] at this
theorem Qis{w:World}{k:Int}{L:LB}{M:Nat->Nat->Option Nat}{D:LB}{V:Nat->BA}{Q:Nat->Prop}{v1 v2:Value}(S:SdP w k L M D V Q v1 v2)(n:Nat)(hn:n<=L.length)(B:List (Nat×Nat))(hB:Cv.dnL 41 0 n=B)(hv:∀b∈B,Vis M Q b.1 b.2)(T:Pq)(hT:wk (clk k) n L M D V B=T) :
  Calls prog 61 #[wkV k v1 135 v2,.int .u64 n] w fun e w'=>e= .returned (pv T)∧Below w.heap.size w w':=by
 have hc:=Qn k;have h40:n<=2^40:=Lt hn S.hL;have hin:=Qcm n h40;rw[hB] at hin;refine all_any w S.tb k v1 _ v2 n h40 B hB (fun b=>nd (clk k) L b.1 b.2) (fun b=>xd (clk k) M D V b.1 b.2) (fun b=>by rw[QG hc];exact hc) (fun b=>by rw[Uq hc S.hM S.hD];exact hc) (fp (clk k) L M D V) (fun W b hb hbm=> ?_) T hT
 have hb40:b.1<=40:=Cv.pw40 (Lt (by have:=LT (Pl.pw b.1) (show 1<=b.2+1 by omega);rw[Na] at this;exact this) (Lt (hin b hbm) h40))
 exact Qfi S b.1 b.2 hb40 (Lt (hin b hbm) hn) (hv b hbm) W hb
end Go.Proofs.YtoblgjledefdbabGreatDoor
