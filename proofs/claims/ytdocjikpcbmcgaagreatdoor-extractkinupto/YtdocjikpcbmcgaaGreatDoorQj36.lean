/- Own work. -/
import Derived.Test.YtdocjikpcbmcgaaGreatDoorQj15
import Derived.Test.YtdocjikpcbmcgaaGreatDoorQj35
set_option maxRecDepth 100000
set_option maxHeartbeats 4000000
namespace Go.Proofs.YtdocjikpcbmcgaaGreatDoor
open Go.RowKit
attribute [local go_sem ↓] Go.wp_at_zero Go.wp_at_succ
theorem Qcc(w:World){ops:Array Oper}{o:Oper}{a:Act}{K:Act->World->Prop}{Q:Exit->Act->World->Prop}{E:Prop}(hgd:o.guard=none)
  (s x:Operand) (hop:o.op=Op.call { callee:=Callee.builtin Builtin.append,args:=#[s,x],argTypes:=#[22,22] })
  (B:Nat) (v:Value) (P:LB) (hs:a.eval s=v) (hown:Qk w B v P) (g:Nat) (d:BA) (hx:a.eval x = .slice (some ⟨g,0,none⟩) 1 1) (hc:w.cell? ⟨g,0,none⟩=some (.string d)) (hl:P.length<=1000) (hB:B<=w.heap.size)
  (hK : ∀v' w',Qk w' B v' (P++[d])->w.grownBy w' v.ownBlock->(v'.ownBlock=v.ownBlock ∨ ∀b,v'.ownBlock=some b->w.heap.size<=b)->K (a.put o.dst v') w'):if Region.wanted o (yielded ops a.tmps)=true then Oper.wp Tryz.prog o a w K Q else E:=by
 have hw:Region.wanted o (yielded ops a.tmps)=true:=by simp[Region.wanted,hgd]
 rw[if_pos hw];obtain⟨i0,hi,hz0,hz1,hz2⟩:=info_parts Tryz.infoS;have hcells : ∀j c,[Value.string d][j]? = some c->w.cell? ((⟨g,0,none⟩:Addr).add j)=some c:=fun j c hj=>by
  match j,hj with
  | 0,hj=>simp at hj;subst hj;simpa [Addr.add] using hc
 have h1c : ∀u∈[Value.string d],u.oneCell'=true:=by intro u hu;simp at hu;subst hu;rfl
 have key : ∃v' w',(Builtin.append_ #[22,22] o.type #[v,.slice (some ⟨g,0,none⟩) 1 1]).run Tryz.prog w = .ok v' w'∧w'.ownsRow B 9 1 v' (P.length+1) (P.map Value.string++[.string d])∧w.grownBy w' v.ownBlock∧(v'.ownBlock=v.ownBlock ∨ ∀b,v'.ownBlock=some b->w.heap.size<=b):=by
  have hown0:=hown;obtain⟨g1,g2⟩:=hown
  rcases g2 with ⟨rfl,h0⟩|⟨q,cp,cur,rfl,hgb,hh,hc'⟩
  ·have hP:P=[]:=LG.1 h0;subst hP;obtain⟨v',w',hrun,r1,r2,_⟩:=run_append_own (P:=Tryz.prog) w w.heap.size 22 o.type 9 i0 (.string ByteArray.empty) 1 16 Tryz.underlying22 hi hz0 hz1 hz2 rfl (by decide) _ 0 [] (Lz _ _ _ _) ⟨g,0,none⟩ 1 1 [.string d] rfl hcells h1c (by unfold maxLen;omega) (by omega) (Lb _)
   exact⟨v',w',hrun,r1.mono hB,r2,.inr fun k hk=>(r1.lt k hk).1⟩
  ·by_cases hfit:P.length+1<=cp
   ·obtain⟨w',hrun,r1,r2⟩:=run_append_fits (P:=Tryz.prog) w B 22 o.type 9 i0 1 Tryz.underlying22 hi hz1 q P.length cp _ hown0 ⟨g,0,none⟩ 1 1 [.string d] rfl hcells h1c hfit;exact⟨_,w',hrun,r1,r2,.inl rfl⟩
   ·obtain⟨v',w',hrun,r1,r2⟩:=run_append_arg_grows (P:=Tryz.prog) w 22 o.type 9 i0 (.string ByteArray.empty) 1 16 Tryz.underlying22 hi hz0 hz1 hz2 rfl (by decide) ⟨q,0,none⟩ P.length cp _ g1 (hown0.cells rfl) ⟨g,0,none⟩ 1 1 [.string d] rfl hcells (by omega) (by unfold maxLen;omega) (by omega)
    exact⟨v',w',hrun,r1.mono hB,⟨r2.os,r2.tape,r2.output,r2.size,fun k hk _=>r2.block k hk (by simp)⟩,.inr fun k hk=>(r1.lt k hk).1⟩
 obtain⟨v',w',hrun,r1,r2,r3⟩:=key;unfold Oper.wp;simp[execOp,hop,resolve,invoke,builtin,hs,hx,hrun,Result.andThen];refine hK v' w' ?_ r2 r3
 rw[Qk,LK,Ld];exact r1
def Apt(v u:Value):Prop := ∀g,v.ownBlock=some g->u.ownBlock=some g->False
structure Pr(B:Nat)(wr:World)(v u:Value)(P Q:LB):Prop where
 ov:Qk wr B v P
 ou:Qk wr B u Q
 ap:Apt v u
section
variable {B:Nat} {w w':World} {v u v':Value} {P Q P':LB}
theorem Pr.next(h:Pr B w v u P Q)(hb:Zb w w'):Pr B w' v u P Q:=⟨QC h.ov hb (Lb _),QC h.ou hb (Lb _),h.ap⟩
theorem Pr.swap(h:Pr B w v u P Q):Pr B w u v Q P:=⟨h.ou,h.ov,fun g h1 h2=>h.ap g h2 h1⟩
theorem Pr.app(h:Pr B w v u P Q)(o:Qk w' B v' P')(g:w.grownBy w' v.ownBlock)(f:v'.ownBlock=v.ownBlock ∨ ∀b,v'.ownBlock=some b->w.heap.size<=b):Pr B w' v' u P' Q:=by
 refine⟨o,Qj h.ou fun b hb _=>g.block b (Lq h.ou b hb).2 fun e=>h.ap b e.symm hb,fun b h1 h2 => ?_⟩
 rcases f with f|f
 ·exact h.ap b (f.symm.trans h1) h2
 ·have:=f b h1;have:=(Lq h.ou b h2).2;omega
theorem Qdy(B:Nat)(w:World):Pr B w (.slice none 0 0) (.slice none 0 0) [] []:=⟨Lz _ _ _ _,Lz _ _ _ _,fun g h _=>by cases h⟩
end
section
open Cv (zl)
theorem QcC(n:Nat)(h40:n<=2^40)(M:List (Nat×Nat))(hM:Cv.dnL 41 0 n=M)(W:World):Calls Tryz.prog 75 #[.int .u64 (n:Int)] W fun e w' => ∃ao g cap,e = .returned (.tuple #[.slice ao M.length cap,.int .i64 0])∧RdB w' ao g 0 M.length (zl M)∧Zb W w':=by
 have hMin : ∀b∈M,(b.2+1)*2^b.1<=n:=by rw[<-hM];exact JG n h40
 have h:=Cv.Yq n W;rw[(UM n h40).1,(UM n h40).2,hM] at h;refine h.mono fun e w' ⟨v,e1,e2,e3⟩ => ?_
 obtain⟨ao,g,n',cap,rfl,hr',_⟩:=Uc e2 (fun b hb=>by
  obtain⟨b0,hb0,rfl⟩:=LE.1 hb;exact(Oq (hMin b0 hb0) h40).1)
 have hl:=hr'.len;rw[Cv.Qq] at hl;subst hl;exact⟨ao,g,cap,e1,hr',e3⟩
theorem Qkr(F:Nat->Nat->Pq)(B:List (Nat×Nat)){j:Nat}(hj:j<B.length):fm F (B.drop j)=(F (B.getD j (0,0)).1 (B.getD j (0,0)).2).or (fm F (B.drop (j+1))):=by
 rw[LC hj,fm,La,Lc hj]
 rfl
theorem Ot(f:Nat×Nat->BA)(B:List (Nat×Nat)){j:Nat}(hj:j<B.length):(B.take (j+1)).map f=(B.take j).map f++[f (B.getD j (0,0))]:=by
 rw[LQ hj,LK,La,Lc hj]
 rfl
theorem cn1(w:World)(d:BA)(T:Nat):(w.alloc (.cells #[.string d] T)).cell? ⟨w.heap.size,0,none⟩=some (.string d):=cell_of_one (heap_alloc_new w _)
theorem cn2(w:World)(d:BA)(T:Nat)(o:Obj):((w.alloc (.cells #[.string d] T)).alloc o).cell? ⟨w.heap.size,0,none⟩=some (.string d) :=
 cell_of_one (((bal (Below.refl _ (w.alloc (.cells #[.string d] T))) o).block w.heap.size (by rw[Lp];omega)).trans (heap_alloc_new w _))
theorem cn3(w:World)(d:BA)(T:Nat)(o:Obj):((w.alloc o).alloc (.cells #[.string d] T)).cell? ⟨w.heap.size+1,0,none⟩=some (.string d):=by
 have:=cn1 (w.alloc o) d T
 rwa [Lp] at this
theorem Qno{W w':World}{ob:Option Nat}{g N:Nat}{c:Value}(h6:W.grownBy w' ob)(ho : ∀b,ob=some b->b<N)(hN:N<=g)(h:W.cell? ⟨g,0,none⟩=some c):w'.cell? ⟨g,0,none⟩=some c :=
 (Lr (a:=⟨g,0,none⟩) (h6.block g (Lh W _ h) fun e=>by have:=ho g e.symm;omega)).trans h
theorem Qmm{W w':World}{ob:Option Nat}{g N:Nat}{c:Obj}(h6:W.grownBy w' ob)(ho : ∀b,ob=some b->b<N)(hN:N<=g)(h:W.heap[g]? = some c):w'.heap[g]? = some c :=
 (h6.block g (Lg.1 h).1 fun e=>by have:=ho g e.symm;omega).trans h
theorem Qkv{W w':World}{ob:Option Nat}{g N:Nat}{c:Obj}(h6:W.grownBy w' ob)(ho : ∀b,ob=some b->N<=b)(hN:g<N)(h:W.heap[g]? = some c):w'.heap[g]? = some c :=
 (h6.block g (Lg.1 h).1 fun e=>by have:=ho g e.symm;omega).trans h
structure Aw(N g5 gz:Nat)(F V:World)(v u:Value)(P Q:LB)(Z:Pq)(x y:BA)(q:Pq):Prop where
 pr:Pr (N+1) V v u P Q
 p3:P3 V N Z
 s5:S5 V g5 x y q
 be:Below (N+1) F V
 sz:N+1<=V.heap.size
section
variable {N g5 gz:Nat} {F V W:World} {v u v':Value} {P Q P':LB} {Z:Pq} {x y:BA} {q:Pq}
theorem Aw.next(h:Aw N g5 gz F V v u P Q Z x y q)(hb:Zb V W):Aw N g5 gz F W v u P Q Z x y q:=⟨h.pr.next hb,h.p3.next hb,h.s5.next hb,h.be.trans (hb.mono h.sz),Lm h.sz hb.size⟩
theorem Aw.swap(h:Aw N g5 gz F V v u P Q Z x y q):Aw N g5 gz F V u v Q P Z x y q:=⟨h.pr.swap,h.p3,h.s5,h.be,h.sz⟩
theorem Aw.app(h:Aw N g5 gz F V v u P Q Z x y q)(o:Qk W (N+1) v' P')(g:V.grownBy W v.ownBlock)(f:v'.ownBlock=v.ownBlock ∨ ∀b,v'.ownBlock=some b->V.heap.size<=b)(lo : ∀b,v.ownBlock=some b->N+1<=b∧b<gz)(hg:gz<=g5):Aw N g5 gz F W v' u P' Q Z x y q:=by
 have hb:Below (N+1) V W:=(Below.refl _ _).grown g h.sz fun b hb=>(lo b hb).1
 exact⟨h.pr.app o g f,Qkv g (fun b hb=>(lo b hb).1) (by omega) h.p3,Qmm g (fun b hb=>(lo b hb).2) hg h.s5,h.be.trans hb,Lm h.sz hb.size⟩
theorem Aw.seen(h:Aw N g5 gz F V v u P Q Z x y q):V.cell? ⟨g5,0,none⟩=some (.string x)∧V.cell? ⟨g5,1,none⟩=some (.string y):=⟨h.s5.cells.1,h.s5.cells.2.1⟩
end
theorem all_any (w:World) (ht:Tb w) (k:Int) (v1:Value) (T2:Nat) (v2:Value) (n:Nat) (h40:n<=2^40) (M:List (Nat×Nat)) (hM:Cv.dnL 41 0 n=M) (X Y:Nat×Nat->BA) (hX : ∀b,(X b).size<=32) (hY : ∀b,(Y b).size<=32) (F:Nat->Nat->Pq)
    (HBk : ∀W b,Zb w W->b∈M->Zr 76 #[wkV k v1 T2 v2,bkV b.1 b.2] W (snV (X b) (Y b) (F b.1 b.2)))
    (T:Pq) (hT:(tp (clk k) n (M.map X) (M.map Y)).or (fm F M)=T) :
    Zr 35 #[wkV k v1 T2 v2,.int .u64 (n:Int)] w (pv T):=by
  have HMt:Hid (∀W,Calls Tryz.prog 75 #[.int .u64 (n:Int)] W fun e w' => ∃ao g cap,e = .returned (.tuple #[.slice ao M.length cap,.int .i64 0])∧RdB w' ao g 0 M.length (zl M)∧Zb W w'):=fun W=>QcC n h40 M hM W
  have hMl:M.length<=41:=by rw[<-hM];exact Cv.YI 41 0 n
  have HBk':=Qc HBk;clear HBk;have hb0:=bal (bal (Below.refl w.heap.size w) (.cells #[.int .i64 k,.iface 69 v1,.iface T2 v2] 73)) (.cells #[.string ⟨#[]⟩,.string ⟨#[]⟩,.bool false] 59);have hz:(M.length:Int)<=41:=by omega
  have HT:=Qc hT;clear hM h40 hT
  go_enter Tryz.func35,Tryz.ntmps35
  go_upto_region 4 with (go_at_call 75;with_reducible refine(HMt.out _).mono ?_;rintro e w2 ⟨ao,gM,capM,rfl,hrB,hb2⟩)
  obtain⟨F0,hFe,h30,hb30⟩:=Jp w2
  try rw[hFe]
  clear hFe;have HV:Hid (∀W,Zb w2 W->(W.cell? ⟨w.heap.size,0,none⟩=some (.int .i64 k)∧W.cell? ⟨w.heap.size,1,none⟩=some (.iface 69 v1)∧W.cell? ⟨w.heap.size,2,none⟩=some (.iface T2 v2))∧P3 W (w.heap.size+1) none∧RdB W ao gM 0 M.length (zl M)∧Zb w W):=fun W hb=>by
    obtain⟨Z,hZ⟩:=Ze ((w.alloc (.cells #[.int .i64 k,.iface 69 v1,.iface T2 v2] 73)).alloc (.cells #[.string ⟨#[]⟩,.string ⟨#[]⟩,.bool false] 59));have hzz:Z.heap.size=w.heap.size+2:=by rw[<-hZ,Lp,Lp]
    have q1:Z.heap[w.heap.size]? = some (.cells #[.int .i64 k,.iface 69 v1,.iface T2 v2] 73 (0,0)):=by
      rw[<-hZ];exact((bal (Below.refl _ (w.alloc (.cells #[.int .i64 k,.iface 69 v1,.iface T2 v2] 73))) _).block _ (by rw[Lp];omega)).trans (heap_alloc_new w _)
    have q2:P3 Z (w.heap.size+1) none:=by
      have:=heap_alloc_new (w.alloc (.cells #[.int .i64 k,.iface 69 v1,.iface T2 v2] 73)) (.cells #[.string ⟨#[]⟩,.string ⟨#[]⟩,.bool false] 59);rw[Lp,hZ] at this;exact this
    rw[hZ] at hb0 hb2;have hbZ:=Qa hb2 hb;have q3:W.heap[w.heap.size]? = _:=(hbZ.block w.heap.size (by omega)).trans q1
    exact⟨⟨by rw[cell_of_row W w.heap.size 0 _ _ (0,0) q3];rfl,by rw[cell_of_row W w.heap.size 1 _ _ (0,0) q3];rfl,by rw[cell_of_row W w.heap.size 2 _ _ (0,0) q3];rfl⟩,q2.next hbZ,hrB.below hb,Qa (Qa hb0 hb2) hb⟩
  have H30:=Qc (And.intro h30 hb30);have hz5:w.heap.size+1<w2.heap.size:=(HV.out w2 (Below.refl _ _)).2.1.lt;have HE0:Hid ((none:Pq).or (fm F (M.drop 0))=fm F M):=rfl;clear hb0 hb2 hrB h30 hb30 HMt;go_wp2
  go_loopg [7,8,21] M.length (fun g v u i wr => ∃(j:Nat) (Z:Pq),g=M.length - j∧j<=M.length∧i = .int .i64 (j:Int)∧Hid (Z.or (fm F (M.drop j))=fm F M)∧Hid (P3 wr w2.heap.size Z)∧Hid (Pr (w2.heap.size+1) wr v u ((M.take j).map X) ((M.take j).map Y))∧Hid (Zb w2 wr))
  case atStart =>
    go_light;exact⟨0,none,rfl,Lf _,rfl,HE0,H30.out.1,Qdy _ _,H30.out.2⟩
  case round =>
    clear H30 HE0;obtain⟨j,Z,rfl,hj,rfl,HE,H3,HPr,HBw⟩:=hrel
    by_cases hlt:j<M.length
    · have z0:(0:Int)<=(j:Int):=Le _;have z1:(j:Int)<(M.length:Int):=by omega
      obtain⟨⟨c0,c1,c2⟩,_,hrd,hbw⟩:=HV.out wr HBw.out;obtain rfl:=hrd.addr (by omega)
      obtain⟨b,hbb⟩:=Ze (M.getD j (0,0));have hbm:b∈M:=by rw[<-hbb,La,Lc hlt];exact LO _
      obtain⟨k0,k1⟩:=hrd.cell j hlt;have hzl:(zl M).getD j (0,0)=((b.1:Int),b.2):=by
        rw[<-hbb,La,La,zl,Nn,Lc hlt];rfl
      rw[hzl] at k0 k1;simp only at k0 k1;rw[Ll] at k0 k1;obtain⟨x,hx⟩:=Ze (X b);obtain⟨y,hy⟩:=Ze (Y b);obtain⟨q,hq⟩:=Ze (F b.1 b.2);obtain⟨Z',hZ'⟩ : ∃Z',Z.or q=Z':=⟨_,rfl⟩;have HOr:Hid (∀W,Zr 73 #[pv Z,pv q] W (pv Z')):=fun W=>JR W Z q Z' hZ'
      have HN:Hid (Z'.or (fm F (M.drop (j+1)))=fm F M∧(M.take (j+1)).map X=(M.take j).map X++[x]∧(M.take (j+1)).map Y=(M.take j).map Y++[y]∧((M.take j).map X).length<=1000∧((M.take j).map Y).length<=1000):=by
        refine⟨?_,by rw[Ot X M hlt,hbb,hx],by rw[Ot Y M hlt,hbb,hy],by rw[Ln,Lv];omega,by rw[Ln,Lv];omega⟩
        have:=HE.out;rw[Qkr F M hlt,hbb,hq] at this;rw[<-this,<-hZ']
        cases Z <;> rfl
      have HB1:Hid (∀W,Zb w W->Zr 76 #[wkV k v1 T2 v2,bkV b.1 b.2] W (snV x y q)):=fun W hb=>by
        have:=HBk'.out W b hb hbm;rw[hx,hy,hq] at this;exact this
      obtain⟨bh,bk⟩:=b;simp only at k0 k1;clear hrd hzl hbb hbm hx hy hq hZ' HE
      go_upto_region 7 with (fail)
      obtain⟨W1,hW1⟩:=Ze (wr.alloc (.cells #[.int .i64 (bh:Int),.int .u64 (bk:Int)] 83));have hb1:Zb wr W1:=by rw[<-hW1];exact bal (Below.refl _ _) _
      have t1:W1.heap[wr.heap.size]? = some (.cells #[.int .i64 (bh:Int),.int .u64 (bk:Int)] 83 (0,0)):=by rw[<-hW1];exact heap_alloc_new wr _
      have d0:W1.cell? ⟨wr.heap.size,0,none⟩=some (.int .i64 (bh:Int)):=by rw[cell_of_row W1 wr.heap.size 0 _ _ (0,0) t1];rfl
      have d1:W1.cell? ⟨wr.heap.size,1,none⟩=some (.int .u64 (bk:Int)):=by rw[cell_of_row W1 wr.heap.size 1 _ _ (0,0) t1];rfl
      try rw[hW1]
      obtain⟨⟨c0',c1',c2'⟩,_,_,hbw1⟩:=HV.out W1 (Qa HBw.out hb1);clear hW1 t1 c0 c1 c2 k0 k1
      go_upto_region 8 with (go_at_call 76;with_reducible refine(HB1.out _ hbw1).mono ?_;rintro e w4 ⟨rfl,hb4⟩)
      obtain⟨F5,hFe,s5,hb5,hsz5⟩:=Qb7 w4 x y q
      try rw[hFe]
      clear hFe;have hbR:=Qa (Qa hb1 hb4) hb5;have hPr:=HPr.out.next hbR;have h3:=H3.out.next hbR;have hlw:wr.heap.size<=w4.heap.size:=Lm hb1.size hb4.size;have hl2:w2.heap.size<wr.heap.size:=H3.out.lt;obtain⟨e0,e1,e2,e3,e4⟩:=s5.cells
      -- the lists lie ahead of what is seen
      have lo1 : ∀g,u7.ownBlock=some g->w2.heap.size+1<=g∧g<wr.heap.size:=fun g hg=>Lq HPr.out.ov g hg
      have lo2 : ∀g,u8.ownBlock=some g->w2.heap.size+1<=g∧g<wr.heap.size:=fun g hg=>Lq HPr.out.ou g hg
      have HS:Hid (∀V,Zb F5 V->V.cell? ⟨w4.heap.size,0,none⟩=some (.string x)∧V.cell? ⟨w4.heap.size,1,none⟩=some (.string y)):=fun V hb=>⟨(s5.next hb).cells.1,(s5.next hb).cells.2.1⟩
      have HQ:=Qc (And.intro hPr (And.intro h3 (And.intro s5 (And.intro lo1 lo2))));clear hPr h3 s5 lo1 lo2 c0' c1' c2' d0 d1 hb1 hb4 hb5 hbw1 hbw
      go_cut [7,8] from 28 to 37 (fun v u wx=>Hid (Aw w2.heap.size w4.heap.size wr.heap.size F5 wx v u ((M.take j).map X++[x]) ((M.take j).map Y++[y]) Z x y q))
      case first =>
        have HP:Hid (∀V,Zb F5 V->Aw w2.heap.size w4.heap.size wr.heap.size F5 V u7 u8 ((M.take j).map X) ((M.take j).map Y) Z x y q):=fun V hb=>⟨HQ.out.1.next hb,HQ.out.2.1.next hb,HQ.out.2.2.1.next hb,hb.mono (by have:=HQ.out.2.1.lt;omega),by have:=HQ.out.2.1.lt;have:=hb.size;omega⟩
        have lo1:=Qc HQ.out.2.2.2.1;have lo2:=Qc HQ.out.2.2.2.2;have HL:=Qc (And.intro hl2 (And.intro hlw (show w4.heap.size<F5.heap.size by omega)))
        clear HQ hl2 hlw hsz5 e0 e1 e2 e3 e4;have HN4:=Qc HN.out.2.2.2;obtain⟨e0,e1⟩:=HS.out F5 (Below.refl _ _)
        go_region_held3 (fun V=>V.cell? ⟨w4.heap.size,0,none⟩=some (.string x)∧V.cell? ⟨w4.heap.size,1,none⟩=some (.string y))
          (first|with_reducible exact hp7.out.seen|with_reducible exact(hp6.out.next (by repeat (first|with_reducible exact Below.refl _ _|refine Below.drew ?_|refine bal ?_ _))).seen|with_reducible exact HS.out _ (by repeat (first|with_reducible exact Below.refl _ _|refine Below.drew ?_|refine bal ?_ _)))
          (first
            | (refine Qcc _ (by rfl) _ _ (by rfl) (w2.heap.size+1) u8 ((M.take j).map Y) (by rfl) (hp6.out.next (by repeat (first|with_reducible exact Below.refl _ _|refine Below.drew ?_|refine bal ?_ _))).swap.pr.ov _ y (by rfl) (by first|exact cn1 _ _ _|exact Qno g6 (fun b hb=>(lo1.out b hb).2) (by have:=HL.out;omega) (by first|exact cn1 _ _ _|exact cn2 _ _ _ _|exact cn3 _ _ _ _)) HN4.out.2 (hp6.out.next (by repeat (first|with_reducible exact Below.refl _ _|refine Below.drew ?_|refine bal ?_ _))).sz ?_
               intro v7 w7 o7 g7 f7;have hp7:=Qc ((hp6.out.next (by repeat (first|with_reducible exact Below.refl _ _|refine Below.drew ?_|refine bal ?_ _))).swap.app o7 g7 f7 lo2.out HL.out.2.1))
            | (refine Qcc _ (by rfl) _ _ (by rfl) (w2.heap.size+1) u7 ((M.take j).map X) (by rfl) (HP.out _ (by repeat (first|with_reducible exact Below.refl _ _|refine Below.drew ?_|refine bal ?_ _))).pr.ov _ x (by rfl) (by first|exact cn1 _ _ _|exact cn2 _ _ _ _|exact cn3 _ _ _ _) HN4.out.1 (HP.out _ (by repeat (first|with_reducible exact Below.refl _ _|refine Below.drew ?_|refine bal ?_ _))).sz ?_
               intro v6 w6 o6 g6 f6;have hp6:=Qc ((HP.out _ (by repeat (first|with_reducible exact Below.refl _ _|refine Below.drew ?_|refine bal ?_ _))).app o6 g6 f6 lo1.out HL.out.2.1)))
        all_goals
          go_wp2
          go_meet
          case rel =>
            go_light;exact hp7.out.swap
      case rest =>
        have hA:=hcut.out;obtain⟨f0,f1,f2⟩:=hA.p3.cells;obtain⟨_,_,g2,g3,g4⟩:=hA.s5.cells;have HA:=Qc hA;have HQx:=Qc (And.intro hl2 (And.intro hlw hbR));clear hA hcut HQ HS e0 e1 e2 e3 e4 hsz5
        go_upto_region 10 with (go_at_call 73;with_reducible refine(HOr.out _).mono ?_;rintro e w8 ⟨rfl,hb8⟩;have hA8:=HA.out.next hb8;obtain⟨h0,h1,h2⟩:=hA8.p3.cells;have hf:=hA8.p3.fz)
        have hp:=hA8.p3.put Z';have hch:=Ud w8 w2.heap.size Z';obtain⟨W9,hW9⟩:=Ze (OC w8 w2.heap.size Z');rw[hW9] at hp hch;unfold OC at hW9
        try rw[hW9]
        have HF:Hid (P3 W9 w2.heap.size Z'∧Pr (w2.heap.size+1) W9 u7 u8 ((M.take (j+1)).map X) ((M.take (j+1)).map Y)∧Zb w2 W9):=by
          refine⟨hp,?_,?_⟩
          · rw[HN.out.2.1,HN.out.2.2.1];exact⟨Qj hA8.pr.ov fun b hb1 hb2=>hch.block b (by have:=(Lq hA8.pr.ov b hb1).1;omega),Qj hA8.pr.ou fun b hb1 hb2=>hch.block b (by have:=(Lq hA8.pr.ou b hb1).1;omega),hA8.pr.ap⟩
          · have b1:Zb w2 F5:=Qa HBw.out HQx.out.2.2;have b2:Below w2.heap.size F5 w8:=hA8.be.mono (by omega)
            exact(b1.trans b2).trans (hch.below (by rintro b rfl;exact Lb _))
        have HN1:=Qc HN.out.1;clear hW9 hp hch hA8 h0 h1 h2 hf f0 f1 f2 g2 g3 g4 hl2 hlw hbR;go_wp2
        go_roundg (M.length - (j+1))
        case rel =>
          go_light;exact⟨j+1,Z',rfl,by omega,by go_num,HN1,HF.out.1,HF.out.2.1,HF.out.2.2⟩
        case measure=>go_light;omega
    · obtain rfl:j=M.length:=by omega
      have hz1 : ¬(M.length:Int)<(M.length:Int):=by omega
      obtain⟨⟨c0,c1,c2⟩,hR,_,hbw⟩:=HV.out wr HBw.out;have hE:=HE.out;rw[IF,fm] at hE;have hZf:Z=fm F M:=by rw[<-hE];cases Z <;> rfl
      have hPr:=HPr.out;rw[LR] at hPr;obtain⟨pa,pb,pc,hv7,hp,hpc,hpn⟩:=Qn hPr.ov (fun s hs=>by obtain⟨b,_,rfl⟩:=LE.1 hs;have:=hX b;omega)
      obtain⟨qa,qb,qc,hv8,hq,hqc,hqn⟩:=Qn hPr.ou (fun s hs=>by obtain⟨b,_,rfl⟩:=LE.1 hs;have:=hY b;omega)
      have lX:(M.map X).length=M.length:=Ln ..;have lY:(M.map Y).length=M.length:=Ln ..;rw[lX] at hv7 hp hpc;rw[lY] at hv8 hq hqc;subst hv7 hv8;obtain⟨A,hA⟩:=Ze (tp (clk k) n (M.map X) (M.map Y));have HA:Hid (∀W,Zb wr W->Zr 34 #[.int .i64 k,.int .u64 (n:Int),.slice pa M.length pc,.slice qa M.length qc] W (pv A)):=fun W hb=>by
        have:=aboveall_any W (ht.next (Qa hbw hb)) k n pa pb 0 pc (M.map X) (by rw[lX];exact hp.next hb (Lb _)) (by omega) hpn qa qb 0 qc (M.map Y) (by rw[lX];exact hq.next hb (Lb _)) (by omega) hqn (by omega) (fun s hs=>by obtain⟨b,_,rfl⟩:=LE.1 hs;exact hX b) (fun s hs=>by obtain⟨b,_,rfl⟩:=LE.1 hs;exact hY b) A hA
        rwa [lX] at this
      have HO:Hid (∀W,Zr 73 #[pv A,pv Z] W (pv T)):=fun W=>JR W A Z T (by rw[hZf,<-hA];exact HT.out)
      have HK:Hid (∀W,Zb wr W->(W.cell? ⟨w.heap.size,0,none⟩=some (.int .i64 k)∧W.cell? ⟨w2.heap.size,0,none⟩=some (.string (pA Z))∧W.cell? ⟨w2.heap.size,1,none⟩=some (.string (pB' Z))∧W.cell? ⟨w2.heap.size,2,none⟩=some (.bool Z.isSome))∧P3 W (w.heap.size+1) none):=fun W hb=>⟨⟨(HV.out W (Qa HBw.out hb)).1.1,(H3.out.next hb).cells⟩,hR.next hb⟩
      obtain⟨⟨k0,k1,k2,k3⟩,hR0⟩:=HK.out wr (Below.refl _ _);have hc9:=(Below.refl wr.heap.size wr).drew;clear hX hY lX lY hp hq hpc hqc hpn hqn hPr hZf hE hA HE HPr HBk' hR hR0 HT HV HBw hlt hj
      go_upto_region 11 with (fail)
      go_region_with (first
        | (go_at_call 34;with_reducible refine(HA.out _ hc9).mono ?_;rintro e w8 ⟨rfl,hb8⟩;replace hc9:=Qa hc9 hb8;obtain⟨⟨k0,k1,k2,k3⟩,hR0⟩:=HK.out _ hc9)
        | (go_at_call 73;with_reducible refine(HO.out _).mono ?_;rintro e w9 ⟨rfl,hb9⟩;replace hc9:=Qa hc9 hb9;obtain⟨_,hR9⟩:=HK.out _ hc9;obtain⟨r0,r1,r2⟩:=hR9.cells;have rf:=hR9.fz;simp only[pA,pB',Option.isSome_none] at r0 r1 r2))
      all_goals
        have hp:=hR9.put T;have hch:=Ud w9 (w.heap.size+1) T;obtain⟨d0,d1,d2⟩:=hp.cells;go_wp2;refine bodyPost_ret (v:=pv T) (by simp[results,Tryz.results35,go_sem,d0,d1,d2]) rfl ⟨rfl,?_⟩
        exact(Qa hbw hc9).trans (hch.below (by rintro b rfl;omega))
end
section
open Cv (zl cov)
structure Pb(B:Nat)(wr:World)(v u:Value)(P Q:List (Nat×Nat)):Prop where
 ov:Cv.Qz wr B v (zl P)
 ou:Cv.Qz wr B u (zl Q)
 ap:Apt v u
section
variable {B:Nat} {w w':World} {v u v':Value} {P Q P':List (Nat×Nat)}
theorem Pb.next(h:Pb B w v u P Q)(hb:Zb w w'):Pb B w' v u P Q:=⟨Yf h.ov hb,Yf h.ou hb,h.ap⟩
theorem Pb.swap(h:Pb B w v u P Q):Pb B w u v Q P:=⟨h.ou,h.ov,fun g h1 h2=>h.ap g h2 h1⟩
theorem Pb.app(h:Pb B w v u P Q)(o:Cv.Qz w' B v' (zl P'))(g:w.grownBy w' v.ownBlock)(f:v'.ownBlock=v.ownBlock ∨ ∀b,v'.ownBlock=some b->w.heap.size<=b):Pb B w' v' u P' Q:=by
 refine⟨o,Qj h.ou fun b hb _=>g.block b (Lq h.ou b hb).2 fun e=>h.ap b e.symm hb,fun b h1 h2 => ?_⟩
 rcases f with f|f
 ·exact h.ap b (f.symm.trans h1) h2
 ·have:=f b h1;have:=(Lq h.ou b h2).2;omega
theorem QmI(B:Nat)(w:World):Pb B w (.slice none 0 0) (.slice none 0 0) [] []:=⟨Lz _ _ _ _,Lz _ _ _ _,fun g h _=>by cases h⟩
end
theorem Qbr(W:World)(B:Nat)(v0 v1:Value)(P Q:List (Nat×Nat))(o0:Cv.Qz W B v0 (zl P))(o1:Cv.Qz W B v1 (zl Q))(hl:P.length+Q.length<=1000000)(t:Nat) :
  Calls Tryz.prog 111 #[.slice (some ⟨W.heap.size,0,none⟩) 2 2] (W.alloc (.cells #[v0,v1] t)) fun e w' => ∃v,e = .returned v∧Cv.Qz w' W.heap.size v (zl (P++Q))∧Zb W w':=by
 have hb:=bal (Below.refl W.heap.size W) (.cells #[v0,v1] t);have hx:=heap_alloc_new W (.cells #[v0,v1] t);have hc:CatB (W.alloc (.cells #[v0,v1] t)) W.heap.size [v0,v1] [zl P,zl Q]:=by
  refine Qh6 ?_ ?_ (Cv.Je (Cv.Uo o0) hb) (Cv.Je (Cv.Uo o1) hb)
  ·rw[cell_of_row _ _ 0 _ _ (0,0) hx];rfl
  ·rw[cell_of_row _ _ 1 _ _ (0,0) hx];rfl
 have hf:[zl P,zl Q].flatten=zl (P++Q):=by
  simp only[List.flatten_cons,List.flatten_nil,List.append_nil,zl,List.map_append]
 refine(Qd9 _ _ 2 _ _ hc (by simp) (by rw[hf,Cv.Qq,Ld];omega) _ hf).mono fun e w' ⟨v,e1,e2,e3⟩=>⟨v,e1,?_,Qa hb e3⟩
 exact World.ownsRow.mono e2 (by simp)
def ots(i:Nat)(M:List (Nat×Nat)):List (Nat×Nat):=M.filter fun m=>decide (i / 2^m.1≠m.2)
def sbs(i:Nat)(M:List (Nat×Nat)):List (Nat×Nat):=M.flatMap fun m=>if i / 2^m.1=m.2 then bes i m.1 else []
theorem Qa0(i:Nat)(A B:List (Nat×Nat)):ots i (A++B)=ots i A++ots i B:=Iq ..
theorem Qbe(i:Nat)(A B:List (Nat×Nat)):sbs i (A++B)=sbs i A++sbs i B:=NR ..
theorem Qm6{n i H:Nat}{A B:List (Nat×Nat)}(h:Wy n i A H B):ots i (Cv.dnL 41 0 n)=A++B:=by
 rw[h.all,Qa0];have h1:ots i A=A:=List.filter_eq_self.2 fun a ha=>decide_eq_true (by have:=h.no_left ha;omega)
 have h2:ots i B=B:=List.filter_eq_self.2 fun a ha=>decide_eq_true (by have:=h.no_right ha;omega)
 rw[h1,ots,Nl (by simp)]
 rw[show List.filter (fun m=>decide (i / 2^m.1≠m.2)) B=B from h2]
theorem Qm8{n i H:Nat}{A B:List (Nat×Nat)}(h:Wy n i A H B):sbs i (Cv.dnL 41 0 n)=bes i H:=by
 rw[h.all,Qbe];have h1:sbs i A=[]:=I6.2 fun a ha=>if_neg (by have:=h.no_left ha;omega)
 have h2:sbs i B=[]:=I6.2 fun a ha=>if_neg (by have:=h.no_right ha;omega)
 rw[h1,NQ,sbs,NP,if_pos rfl];rw[show B.flatMap (fun m=>if i / 2^m.1=m.2 then bes i m.1 else [])=[] from h2,L6]
theorem Qix(w:World){n i H:Nat}{A B:List (Nat×Nat)}(h:Wy n i A H B)(hn:n<=2^40)(hi:i<n) :
  Calls Tryz.prog 108 #[.int .u64 (n:Int),.int .u64 (i:Int)] w fun e w' => ∃v,e = .returned v∧Cv.Qz w' w.heap.size v (zl (wyB i H A B))∧Zb w w':=by
 obtain⟨M,hM⟩:=Ze (Cv.dnL 41 0 n);have HMt:Hid (∀W,Calls Tryz.prog 75 #[.int .u64 (n:Int)] W fun e w' => ∃ao g cap,e = .returned (.tuple #[.slice ao M.length cap,.int .i64 0])∧RdB w' ao g 0 M.length (zl M)∧Zb W w'):=fun W=>QcC n hn M hM W
 have hMl:M.length<=41:=by rw[<-hM];exact Cv.YI 41 0 n
 have hM40 : ∀b∈M,b.1<=40:=by
  have hin:=JG n hn;rw[hM] at hin;exact fun b hb=>Cv.pw40 (Lm (by have:=Lo (Pl.pw b.1) (show 1<=b.2+1 by omega);rw[LP] at this;exact this) (Lm (hin b hb) hn))
 have HE:Hid (sbs i M++ots i M=wyB i H A B∧(sbs i M).length+(ots i M).length<=1000):=by
  have e1:=Qm6 h;have e2:=Qm8 h;rw[hM] at e1 e2;have:=h.len;have:=h.hH;exact⟨by rw[e1,e2];rfl,by rw[e1,e2,Jj,Ld];omega⟩
 have hz:(M.length:Int)<=41:=by omega
 clear hM h
 go_enter Tryz.func108,Tryz.ntmps108
 go_upto_region 3 with (go_at_call 75;with_reducible refine(HMt.out _).mono ?_;rintro e w2 ⟨ao,gM,capM,rfl,hrB,hb2⟩)
 clear HMt;have HV:Hid (∀W,Zb w2 W->RdB W ao gM 0 M.length (zl M)∧Zb w W):=fun W hb=>⟨hrB.below hb,Qa hb2 hb⟩
 go_wp2
 go_loopg [7,8,19] M.length (fun g v u i' wr => ∃j:Nat,g=M.length - j∧j<=M.length∧i' = .int .i64 (j:Int)∧Hid (Pb w2.heap.size wr v u (sbs i (M.take j)) (ots i (M.take j)))∧Hid (Zb w2 wr))
 case atStart =>
  go_light;exact⟨0,rfl,Lf _,rfl,QmI _ _,Below.refl _ _⟩
 case round =>
  obtain⟨j,rfl,hj,rfl,HPb,HBw⟩:=hrel
  by_cases hlt:j<M.length
  ·have z0:(0:Int)<=(j:Int):=Le _;have z1:(j:Int)<(M.length:Int):=by omega
   obtain⟨hrd,hbw⟩:=HV.out wr HBw.out;obtain rfl:=hrd.addr (by omega)
   obtain⟨b,hbb⟩:=Ze (M.getD j (0,0));have hbm:b∈M:=by rw[<-hbb,La,Lc hlt];exact LO _
   obtain⟨k0,k1⟩:=hrd.cell j hlt;have hzl:(zl M).getD j (0,0)=((b.1:Int),b.2):=by
    rw[<-hbb,La,La,zl,Nn,Lc hlt];rfl
   rw[hzl] at k0 k1;simp only at k0 k1;rw[Ll] at k0 k1;have h40:=hM40 b hbm;have htk:M.take (j+1)=M.take j++[b]:=by rw[LQ hlt,<-hbb,La,Lc hlt];rfl
   obtain⟨bh,bk⟩:=b;simp only at k0 k1 h40;clear hrd hzl hbb hbm;obtain⟨W1,hW1⟩:=Ze (wr.alloc (.cells #[.int .i64 (bh:Int),.int .u64 (bk:Int)] 83));have hb1:Zb wr W1:=by rw[<-hW1];exact bal (Below.refl _ _) _
   have t1:W1.heap[wr.heap.size]? = some (.cells #[.int .i64 (bh:Int),.int .u64 (bk:Int)] 83 (0,0)):=by rw[<-hW1];exact heap_alloc_new wr _
   have d0:W1.cell? ⟨wr.heap.size,0,none⟩=some (.int .i64 (bh:Int)):=by rw[cell_of_row W1 wr.heap.size 0 _ _ (0,0) t1];rfl
   have d1:W1.cell? ⟨wr.heap.size,1,none⟩=some (.int .u64 (bk:Int)):=by rw[cell_of_row W1 wr.heap.size 1 _ _ (0,0) t1];rfl
   have y0:(0:Int)<=(bh:Int):=Le _;have y1:(bh:Int)<=40:=by omega
   go_upto_region 6 with (fail)
   try rw[hW1]
   clear k0 k1 hW1 t1;obtain⟨p,hp⟩:=Ze (i / 2^bh);have hpi:(i:Int) / 2^bh=(p:Int):=by rw[<-hp];simp
   have HPx:=Qc (And.intro hp htk);have hb1N : ∀t,Zb wr (W1.drewN t):=fun t=>Qd hb1 t
   have HB1:=Qc hb1N;clear hp htk hb1N hb1
   by_cases hq:p=bk
   ·subst hq
    go_quiet (fail)
    clear hpi;have hb1:=HB1.out nq;have d0':(W1.drewN nq).cell? ⟨wr.heap.size,0,none⟩=some (.int .i64 (bh:Int)):=d0;obtain⟨W2,hW2⟩:=Ze (W1.drewN nq);rw[hW2] at hb1 d0'
    try rw[hW2]
    clear hW2 d0 d1;have hbW:=Qa HBw.out hb1;have HP1:Hid (Pb w2.heap.size W2 u7 u8 (sbs i (M.take j)++bes i 0) (ots i (M.take j))∧(sbs i (M.take j)).length<=2000∧ots i (M.take (j+1))=ots i (M.take j)∧sbs i (M.take (j+1))=sbs i (M.take j)++bes i bh∧Zb w2 W2):=by
     have hz2:(sbs i (M.take j)).length<=2000:=by
      have h1:sbs i M=sbs i (M.take j)++sbs i (M.drop j):=by rw[<-Qbe,L9]
      have h2:=HE.out.2;rw[h1,Ld] at h2;omega
     refine⟨?_,hz2,?_,?_,hbW⟩
     ·have:=HPb.out.next hb1
      simpa [bes] using this
     ·rw[HPx.out.2,Qa0];have:ots i [(bh,p)]=[]:=by
       unfold ots;rw[Nl (by simp[HPx.out.1])]
       rfl
      rw[this,L6]
     ·rw[HPx.out.2,Qbe]
      congr 1
      simp[sbs,HPx.out.1]
    clear HPb;go_wp2
    go_loopg [7,36] bh (fun g v x wi => ∃t:Nat,g=bh - t∧t<=bh∧x = .int .i64 (t:Int)∧Hid (Pb w2.heap.size wi v u8 (sbs i (M.take j)++bes i t) (ots i (M.take j)))∧Hid (Zb w2 wi))
    case atStart =>
     go_light;exact⟨0,rfl,Lf _,rfl,HP1.out.1,hbW⟩
    case round =>
     clear hbW hb1 d0';obtain⟨t,rfl,htb,rfl,HPt,HBt⟩:=hrel
     by_cases hlt2:t<bh
     ·have x0:(t:Int)<(bh:Int):=by omega
      have x1:(0:Int)<=(t:Int):=Le _;obtain⟨q,hq⟩:=Ze (i / 2^t);have hqi:(i:Int) / 2^t=(q:Int):=by rw[<-hq];simp
      have hq40:q<2^40:=by have:=Nv i (2^t);omega
      have ex:bits .xor .u64 (q:Int) 1=((sb q:Nat):Int):=by rw[<-QfN];exact bits_xor_u64_nat q 1 (by omega) (by decide)
      have hsb:bes i (t+1)=bes i t++[(t,sb q)]:=by rw[Qd0,hq]
      have HSb:=Qc hsb;obtain⟨sq,hsq⟩:=Ze (sb q);rw[hsq] at ex HSb;clear hsq hq hq40 hsb
      go_wp2_with (at_builtin;refine Cv.QO _ rfl _ _ rfl w2.heap.size u7 (zl (sbs i (M.take j)++bes i t)) rfl (Pb.next HPt.out (bal (Below.refl _ _) _)).ov (.slice (some ⟨wr.heap.size,0,none⟩) 1 1) [((t:Int),sq)] rfl (Cv.Ux wr (t:Int) sq 83) ?e2 ?e3 ?_)
      case e2=>have:=HP1.out.2.1;rw[Cv.Qq,Ld,Jj];simp;omega
      case e3=>have:=HBt.out.size;simp;omega
      intro v' w3 r1 r2 r3;have hN:Pb w2.heap.size w3 v' u8 (sbs i (M.take j)++bes i (t+1)) (ots i (M.take j))∧Zb w2 w3:=by
       have hP2:=HPt.out.next (bal (Below.refl wr.heap.size wr) (.cells #[.int .i64 (t:Int),.int .u64 (sq:Int)] 83));refine⟨hP2.app ?_ r2 (by rw[Lp] ;exact r3),(bal HBt.out _).trans ((Below.refl _ _).grown r2 (by have:=HBt.out.size;simp;omega) fun b hb=>(Lq hP2.ov b hb).1)⟩
       rw[HSb.out,<-Lt,Cv.YL];exact r1
      have HN:=Qc hN;obtain⟨va,vn,vc,rfl⟩:=Cv.Qh r1;clear hN r1 r2 r3 HPt;go_wp2
      go_roundg (bh - (t+1))
      case rel =>
       go_light;exact⟨t+1,rfl,by omega,by go_num,HN.out.1,HN.out.2⟩
      case measure=>go_light;omega
     ·obtain rfl:t=bh:=by omega
      have x0 : ¬(t:Int)<(t:Int):=by omega
      have HN:Hid (Pb w2.heap.size wr u7 u8 (sbs i (M.take (j+1))) (ots i (M.take (j+1)))):=by
       show Pb _ _ _ _ _ _
       rw[HP1.out.2.2.2.1,HP1.out.2.2.1];exact HPt.out
      clear HPt HP1 hlt2 htb;go_wp2
      go_roundg (M.length - (j+1))
      case rel =>
       go_light;exact⟨j+1,rfl,by omega,by go_num,HN.out,HBt.out⟩
      case measure=>go_light;omega
   ·have hqi : ¬(p:Int)=(bk:Int):=by omega
    have hqb:((p:Int) != (bk:Int))=true:=by simpa using hqi
    go_quiet (fail)
    clear hpi;have hb1:=HB1.out nq;have d0':(W1.drewN nq).cell? ⟨wr.heap.size,0,none⟩=some (.int .i64 (bh:Int)):=d0;have d1':(W1.drewN nq).cell? ⟨wr.heap.size,1,none⟩=some (.int .u64 (bk:Int)):=d1;obtain⟨W2,hW2⟩:=Ze (W1.drewN nq);rw[hW2] at hb1 d0' d1'
    try rw[hW2]
    clear hW2 d0 d1 hqb hqi;have hPb:=(HPb.out.next hb1);have hbW:=Qa HBw.out hb1
    go_wp2_with (at_builtin;refine Cv.QO _ rfl _ _ rfl w2.heap.size u8 (zl (ots i (M.take j))) rfl (Pb.next hPb (bal (Below.refl _ _) _)).ou (.slice (some ⟨W2.heap.size,0,none⟩) 1 1) [((bh:Int),bk)] rfl (Cv.Ux W2 (bh:Int) bk 83) ?c2 ?c3 ?_)
    case c2 =>
     have h1:ots i M=ots i (M.take j)++ots i (M.drop j):=by rw[<-Qa0,L9]
     have h2:=HE.out.2;rw[h1,Ld] at h2;rw[Cv.Qq];simp;omega
    case c3=>have:=hbW.size;simp;omega
    intro v' w3 r1 r2 r3;have hN:Pb w2.heap.size w3 u7 v' (sbs i (M.take (j+1))) (ots i (M.take (j+1)))∧Zb w2 w3:=by
     have e1:ots i (M.take (j+1))=ots i (M.take j)++[(bh,bk)]:=by
      rw[HPx.out.2,Qa0]
      congr 1
      unfold ots;rw[NG (by simp[HPx.out.1,hq])]
      rfl
     have e2:sbs i (M.take (j+1))=sbs i (M.take j):=by
      rw[HPx.out.2,Qbe];have:sbs i [(bh,bk)]=[]:=by simp[sbs,HPx.out.1,hq]
      rw[this,L6]
     have hP2:=hPb.next (bal (Below.refl W2.heap.size W2) (.cells #[.int .i64 (bh:Int),.int .u64 (bk:Int)] 83));refine⟨?_,?_⟩
     ·rw[e1,e2];refine(hP2.swap.app ?_ r2 (by rw[Lp] ;exact r3)).swap
      rw[Cv.YL];exact r1
     ·exact(bal hbW _).trans ((Below.refl _ _).grown r2 (by have:=hbW.size;simp;omega) fun b hb=>(Lq hP2.ou b hb).1)
    have HN:=Qc hN;obtain⟨va,vn,vc,rfl⟩:=Cv.Qh r1;clear hN r1 r2 r3 hPb hbW d0' d1' HPb;go_wp2
    go_roundg (M.length - (j+1))
    case rel =>
     go_light;exact⟨j+1,rfl,by omega,by go_num,HN.out.1,HN.out.2⟩
    case measure=>go_light;omega
  ·obtain rfl:j=M.length:=by omega
   have hz1 : ¬(M.length:Int)<(M.length:Int):=by omega
   have hP:=HPb.out;rw[LR] at hP;have hbw:=(HV.out wr HBw.out).2;obtain⟨sa,sn,sc,rfl⟩:=Cv.Qh hP.ov;obtain⟨oa,on,oc,rfl⟩:=Cv.Qh hP.ou;have HC:=Qbr wr w2.heap.size _ _ _ _ hP.ov hP.ou (by have:=HE.out.2;omega)
   rw[HE.out.1] at HC;have HC:=Qc HC;clear hP HPb HV hlt hj
   go_wp2_with (go_at_call 111;with_reducible refine(HC.out _).mono ?_;rintro e w3 ⟨v,rfl,h3,hb3⟩)
   obtain⟨a3,n3,c3,rfl⟩:=Cv.Qh h3
   go_ret
   exact⟨_,rfl,World.ownsRow.mono h3 hbw.size,Qa hbw hb3⟩
end
end Go.Proofs.YtdocjikpcbmcgaaGreatDoor
