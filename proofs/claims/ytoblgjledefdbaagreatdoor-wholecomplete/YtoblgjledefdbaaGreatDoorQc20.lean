/- Own work. -/
import Derived.Test.YtoblgjledefdbaaGreatDoorQc19
set_option maxRecDepth 100000
set_option maxHeartbeats 2000000
namespace Go.Proofs.YtoblgjledefdbaaGreatDoor
open Go.RowKit
attribute [local go_sem ↓] Go.wp_at_zero Go.wp_at_succ
open Go.Proofs.Tryz
section
variable {w W w1:World} {a p:Nat} {U:Nat->Prop} {D D':St.DV} {S S':St.SV} {L L':LB} {g:Int}
theorem J8(w:World)(x0 x1 x2 x3:Int)(sa:OA)(sl sc:Nat)(da:OA)(dl dc:Nat)(e0:Int)(h0:e0≠0) :
  Calls prog 77 #[.agg #[.int .i64 x0,.int .i64 x1,.int .u64 x2,.int .u64 x3,.slice sa sl sc,.slice da dl dc],.int .i64 e0] w fun e w'=>e= .returned (.tuple #[.string ⟨#[]⟩,.int .i64 e0])∧Below w.heap.size w w':=by
 have h0b:(e0 != (0:Int))=true:=by simpa using h0
 have hb:=bal (Lb w.heap.size w) (.cells #[.int .i64 x0,.int .i64 x1,.int .u64 x2,.int .u64 x3,.slice sa sl sc,.slice da dl dc] 138)
 go_enter func77,ntmps77;go_wp2
 go_ret2
 exact⟨rfl,hb⟩
theorem Jt(w:World){sa:OA}{sb so sc:Nat}{da:OA}{db dO dc:Nat}{P:PV}(hp:RdPC w sa sb so sc da db dO dc P)(h:Uu P)(t:BA)(ht:⟨(enc P).toArray⟩=t) :
  Calls prog 77 #[pvP P sa sc da dc,.int .i64 0] w fun e w'=>e= .returned (.tuple #[.string t,.int .i64 0])∧Below w.heap.size w w':=by
 have hb:=bal (Lb w.heap.size w) (.cells #[.int .i64 P.kd,.int .i64 P.k,.int .u64 P.old,.int .u64 P.size,.slice sa P.S.length sc,.slice da P.D.length dc] 138);have HE:Hid (∀W,Below w.heap.size w W->Calls prog 131 #[pvP P sa sc da dc] W fun e w'=>e= .returned (.tuple #[.string t,.int .i64 0])∧Below w.heap.size w w'):=fun W hW=>(Qfn W sa sb so sc da db dO dc P (hp.next hW) h).mono fun e w' z=>⟨by rw[<-ht];exact z.1,Qa hW z.2⟩
 unfold pvP at HE ⊢;clear hp h
 go_enter func77,ntmps77
 go_wp2_with (go_at_call 131;(with_reducible refine(HE.out _ hb).mono ?_);rintro e w1 ⟨rfl,u1⟩)
 go_ret2
 exact⟨rfl,u1⟩
theorem Qih(w:World)(ht:Tb w)(h:Lg w 1 a p U D S L)(bl bn:Nat)(cl:w.cell? ⟨bl,0,none⟩=some (Pq a))(n:Nat)(cn:w.cell? ⟨bn,0,none⟩=some (.int .u64 n))(x:Int)(r:BA)(e0:Int)
  (HR:∀W m,Tb W->Frs W m (S.k:Int) L->Calls prog 57 #[.pointer (some ⟨m+1,0,none⟩),.int .u64 n] W fun e w'=>e= .returned (.tuple #[.agg #[.int .u64 x,.string r],.int .i64 e0])∧Below W.heap.size W w') :
  Calls prog 56 #[Pq bl,Pq bn] w fun e w'=>e= .returned (.tuple #[.agg #[.int .u64 x,.string r],.int .i64 e0])∧Below w.heap.size w w':=by
 obtain⟨q,m,r0,vs,hrow,hF,_⟩:=h.row;obtain⟨_,_,c3,_,_,_⟩:=Yo hrow;obtain⟨w1,hw1⟩:∃W,w.alloc (.cells #[.int .u64 0,.string ⟨#[]⟩] 50)=W:=⟨_,rfl⟩;have u1:Below w.heap.size w w1:=by rw[<-hw1];exact bal (Lb _ _) _
 have k1:w1.heap[w.heap.size]? = some (.cells #[.int .u64 0,.string ⟨#[]⟩] 50 (0,0)):=by rw[<-hw1];exact Lt w _
 have hz1:=(Array.getElem?_eq_some_iff.1 k1).1
 have ha:=Lf _ _ c3;have hl:=Lf _ _ cl;have hn:=Lf _ _ cn;have HC:Hid (∀W,Below w1.heap.size w1 W->W.cell? ⟨bl,0,none⟩=some (Pq a)∧W.cell? ⟨a,3,none⟩=some (.pointer (some ⟨m+1,0,none⟩))∧W.cell? ⟨bn,0,none⟩=some (.int .u64 n)):=fun W hW=>⟨((Qa u1 hW).cell (p:=⟨bl,0,none⟩) hl).trans cl,((Qa u1 hW).cell (p:=⟨a,3,none⟩) ha).trans c3,((Qa u1 hW).cell (p:=⟨bn,0,none⟩) hn).trans cn⟩
 have HK:Hid (∀W,Below w1.heap.size w1 W->W.heap[w.heap.size]? = some (.cells #[.int .u64 0,.string ⟨#[]⟩] 50 (0,0))):=fun W hW=>(hW.block _ hz1).trans k1
 have HRt:Hid (∀W,Below w1.heap.size w1 W->Calls prog 57 #[.pointer (some ⟨m+1,0,none⟩),.int .u64 n] W fun e w'=>e= .returned (.tuple #[.agg #[.int .u64 x,.string r],.int .i64 e0])∧Below w1.heap.size w1 w'):=fun W hW=>(HR W m (ht.next (Qa u1 hW)) (hF.next (Qa u1 hW) (La _))).mono fun e w' z=>⟨z.1,Qa hW z.2⟩
 have HU:=Qd u1;obtain⟨d1,d2,d3⟩:=HC.out w1 (Lb _ _);have u:Below w1.heap.size w1 w1.drew:=(Lb _ _).drew;obtain⟨b0,hb0⟩:∃b,w.heap.size=b:=⟨_,rfl⟩;have HB0:=Qd hb0;have HW1:=Qd hw1;rw[hb0] at HK;clear ht h HR hF hrow c3 cl cn ha hl hn k1 hz1 u1 hw1 hb0
 go_enter func56,ntmps56
 go_upto_region 1 with (fail)
 rw[HW1.out,HB0.out]
 go_region_with (go_at_call 57;(with_reducible refine(HRt.out _ u).mono ?_);rintro e w2 ⟨rfl,u2⟩;have k2:=HK.out _ u2;have e1:w2.cell? ⟨b0,0,none⟩=some (.int .u64 0):=(by rw[cell_of_row w2 _ 0 _ _ (0,0) k2];rfl);have e2:w2.cell? ⟨b0,1,none⟩=some (.string ⟨#[]⟩):=(by rw[cell_of_row w2 _ 1 _ _ (0,0) k2];rfl);have e3:=frozen_of_row w2 b0 0 _ _ k2;have e4:=frozen_of_row w2 b0 1 _ _ k2)
 all_goals
  have HZ:Hid (Below w.heap.size w ((w2.setCell ⟨b0,0,none⟩ (.int .u64 x)).setCell ⟨b0,1,none⟩ (.string r))):=by
   have hb:Below w.heap.size w w2:=Qa HU.out u2;exact(hb.setCell (p:=⟨b0,0,none⟩) (If HB0.out) _).setCell (p:=⟨b0,1,none⟩) (If HB0.out) _
  have q:=Lp _ b0 1 _ _ (.string r) (Lp w2 b0 0 _ _ (.int .u64 x) k2);have q0:=cell_of_row _ b0 0 _ _ (0,0) q;have q1:=cell_of_row _ b0 1 _ _ (0,0) q;simp at q0 q1;clear k2 q HK HC HRt d1 d2 d3 u2;go_wp2;generalize (w2.setCell ⟨b0,0,none⟩ (.int .u64 x)).setCell ⟨b0,1,none⟩ (.string r)=W9 at *;exact LK (v := .tuple #[.agg #[.int .u64 x,.string r],.int .i64 e0]) (by simp[results,results56,go_sem,q0,q1]) rfl ⟨rfl,HZ.out⟩
theorem Qej(w:World)(ht:Tb w)(h:Lg w 0 a p U D S L)(n:Nat)(x:Int)(r:BA)(e0:Int)
  (HR:∀W m,Tb W->Frs W m (S.k:Int) L->Calls prog 57 #[.pointer (some ⟨m+1,0,none⟩),.int .u64 n] W fun e w'=>e= .returned (.tuple #[.agg #[.int .u64 x,.string r],.int .i64 e0])∧Below W.heap.size W w') :
  Calls prog 20 #[Pq a,.int .u64 n] w fun e w'=>e= .returned (.tuple #[.agg #[.int .u64 x,.string r],.int .i64 e0])∧Below w.heap.size w w':=by
 obtain⟨w1,hw1⟩:∃W,((w.alloc (.cells #[Pq a] 27)).alloc (.cells #[.int .u64 n] 48)).alloc (.cells #[.int .u64 0,.string ⟨#[]⟩] 50)=W:=⟨_,rfl⟩;have u1:Below w.heap.size w w1:=by rw[<-hw1];exact bal (bal (bal (Lb _ _) _) _) _
 have k0:w1.heap[w.heap.size]? = some (.cells #[Pq a] 27 (0,0)):=by rw[<-hw1,(MapKept.heap_alloc _ _).2 _ (by simp;omega)];exact St.new0 _ _ _
 have k1:w1.heap[w.heap.size+1]? = some (.cells #[.int .u64 n] 48 (0,0)):=by rw[<-hw1,(MapKept.heap_alloc _ _).2 _ (by simp)];exact St.new2 _ _ _
 have k2:w1.heap[w.heap.size+2]? = some (.cells #[.int .u64 0,.string ⟨#[]⟩] 50 (0,0)):=by
  rw[<-hw1];have:=Lt ((w.alloc (.cells #[Pq a] 27)).alloc (.cells #[.int .u64 n] 48)) (.cells #[.int .u64 0,.string ⟨#[]⟩] 50)
  simpa using this
 have hz2:=(Array.getElem?_eq_some_iff.1 k2).1
 have b0:w1.cell? ⟨w.heap.size,0,none⟩=some (Pq a):=by rw[cell_of_row _ _ 0 _ _ (0,0) k0];rfl
 have b1:w1.cell? ⟨w.heap.size+1,0,none⟩=some (.int .u64 n):=by rw[cell_of_row _ _ 0 _ _ (0,0) k1];rfl
 have h1:=h.next u1;obtain⟨q,m,r0,vs,hrow,_⟩:=h1.row;have hax:=h.lt h.own;have HW:Hid (Calls prog 55 #[Pq a,.func (.func 56) #[] #[Pq w.heap.size,.pointer (some ⟨w.heap.size+1,0,none⟩)]] w1 fun e w'=>e= .returned (.tuple #[.agg #[.int .u64 x,.string r],.int .i64 e0])∧Below w1.heap.size w1 w') :=
  Qgc w1 a _ _ hrow _ _ _ fun W hW=>Qih W ((ht.next u1).lkd h1 hW) (h1.lkd hW) w.heap.size (w.heap.size+1) (hW.cell b0 (by omega)) n (hW.cell b1 (by omega)) x r e0 HR
 have HK:Hid (∀W,Below w1.heap.size w1 W->W.heap[w.heap.size+2]? = some (.cells #[.int .u64 0,.string ⟨#[]⟩] 50 (0,0))):=fun W hW=>(hW.block _ hz2).trans k2
 have HU:=Qd u1;clear ht h h1 hrow u1 k0 k1 k2 hz2 b1 hax HR;have HW1:=Qd hw1;clear hw1
 go_enter func20,ntmps20
 go_upto_region 1 with (fail)
 rw[HW1.out]
 go_wp2_with (go_at_call 55;(with_reducible refine HW.out.mono ?_);rintro e w2 ⟨rfl,u2⟩;have k2:=HK.out _ u2;have e1:w2.cell? ⟨w.heap.size+2,0,none⟩=some (.int .u64 0):=(by rw[cell_of_row w2 _ 0 _ _ (0,0) k2];rfl);have e2:w2.cell? ⟨w.heap.size+2,1,none⟩=some (.string ⟨#[]⟩):=(by rw[cell_of_row w2 _ 1 _ _ (0,0) k2];rfl);have e3:=frozen_of_row w2 (w.heap.size+2) 0 _ _ k2;have e4:=frozen_of_row w2 (w.heap.size+2) 1 _ _ k2)
 have HZ:Hid (Below w.heap.size w ((w2.setCell ⟨w.heap.size+2,0,none⟩ (.int .u64 x)).setCell ⟨w.heap.size+2,1,none⟩ (.string r))):=by
  have hb:Below w.heap.size w w2:=Qa HU.out u2;exact(hb.setCell (p:=⟨w.heap.size+2,0,none⟩) (IY _ _) _).setCell (p:=⟨w.heap.size+2,1,none⟩) (IY _ _) _
 have q:=Lp _ (w.heap.size+2) 1 _ _ (.string r) (Lp w2 (w.heap.size+2) 0 _ _ (.int .u64 x) k2);have q0:=cell_of_row _ (w.heap.size+2) 0 _ _ (0,0) q;have q1:=cell_of_row _ (w.heap.size+2) 1 _ _ (0,0) q;simp at q0 q1;generalize (w2.setCell ⟨w.heap.size+2,0,none⟩ (.int .u64 x)).setCell ⟨w.heap.size+2,1,none⟩ (.string r)=W9 at *;exact LK (v := .tuple #[.agg #[.int .u64 x,.string r],.int .i64 e0]) (by simp[results,results20,go_sem,q0,q1]) rfl ⟨rfl,HZ.out⟩
theorem Qek(w:World)(ht:Tb w)(h:Lg w 0 a p U D S L)(n:Nat)(hn:n<=L.length)(r:BA)(hq:rtD S.k L n=r) :
  Calls prog 20 #[Pq a,.int .u64 n] w fun e w'=>e= .returned (.tuple #[.agg #[.int .u64 n,.string r],.int .i64 0])∧Below w.heap.size w w' :=
 Qej w ht h n n r 0 fun W m hT hF=>QjA W hT m S.k L hF n hn r (by
  have:=YP hF.k1 hF.k2;rw[show clk (S.k:Int)=S.k by omega];exact hq)
theorem Qj5(w:World)(ht:Tb w)(h:Lg w 0 a p U D S L)(n:Nat)(hn:L.length<n) :
  Calls prog 20 #[Pq a,.int .u64 n] w fun e w'=>e= .returned (.tuple #[.agg #[.int .u64 0,.string ⟨#[]⟩],.int .i64 30])∧Below w.heap.size w w' :=
 Qej w ht h n 0 ⟨#[]⟩ 30 fun W m _ hF=>Qjz W m S.k L hF n hn
end
def PrQ2(w:World)(t:BA)(e1:Int)(e:Ending)(w':World):Prop :=
 ∃v e2,e= .returned (.tuple #[v,.int .i64 e2])∧Below w.heap.size w w' ∧ ∀W',Below w'.heap.size w' W'->Calls prog 77 #[v,.int .i64 e2] W' fun e w''=>e= .returned (.tuple #[.string t,.int .i64 e1])∧Below W'.heap.size W' w''
section
variable {a p:Nat} {U:Nat->Prop} {D:St.DV} {S:St.SV} {L:LB}
theorem QkO(w:World)(ht:Tb w)(h:Lg w 1 a p U D S L)(bl b1 b2:Nat)(x1:Int)(x2:Int)(cl:w.cell? ⟨bl,0,none⟩=some (Pq a))(c1:w.cell? ⟨b1,0,none⟩=some (.int .u64 x1))(c2:w.cell? ⟨b2,0,none⟩=some (.int .u64 x2))(t:BA)(e1:Int)
  (HP:∀W m,Tb W->Below w.heap.size w W->Frs W m (S.k:Int) L->Calls prog 87 #[.pointer (some ⟨m+1,0,none⟩),.int .u64 x1,.int .u64 x2] W (PrQ2 W t e1)) :
  Calls prog 86 #[Pq bl,Pq b1,Pq b2] w fun e w'=>e= .returned (.tuple #[.string t,.int .i64 e1])∧Below w.heap.size w w':=by
 obtain⟨q,m,r0,vs,hrow,hF,_⟩:=h.row;obtain⟨_,_,c3,_,_,_⟩:=Yo hrow;have ha:=Lf _ _ c3;have hl:=Lf _ _ cl;have h1:=Lf _ _ c1;have h2:=Lf _ _ c2;have HC:Hid (∀W,Below w.heap.size w W->W.cell? ⟨bl,0,none⟩=some (Pq a)∧W.cell? ⟨a,3,none⟩=some (.pointer (some ⟨m+1,0,none⟩))∧W.cell? ⟨b1,0,none⟩=some (.int .u64 x1)∧W.cell? ⟨b2,0,none⟩=some (.int .u64 x2)):=fun W hW=>⟨(hW.cell (p:=⟨bl,0,none⟩) hl).trans cl,(hW.cell (p:=⟨a,3,none⟩) ha).trans c3,(hW.cell (p:=⟨b1,0,none⟩) h1).trans c1,(hW.cell (p:=⟨b2,0,none⟩) h2).trans c2⟩
 have HPr:Hid (∀W,Below w.heap.size w W->Calls prog 87 #[.pointer (some ⟨m+1,0,none⟩),.int .u64 x1,.int .u64 x2] W fun e w'=> ∃v e2,e= .returned (.tuple #[v,.int .i64 e2])∧Below w.heap.size w w'∧Hid (∀W',Below w'.heap.size w' W'->Calls prog 77 #[v,.int .i64 e2] W' fun e w''=>e= .returned (.tuple #[.string t,.int .i64 e1])∧Below w.heap.size w w'')):=fun W hW=>(HP W m (ht.next hW) hW (hF.next hW (La _))).mono fun e w' z=>by
  obtain⟨v,e2,z1,z2,z3⟩:=z;exact⟨v,e2,z1,Qa hW z2,fun W' hW'=>(z3 W' hW').mono fun e w'' y=>⟨y.1,Qa (Qa (Qa hW z2) hW') y.2⟩⟩
 obtain⟨d1,d2,d3,d4⟩:=HC.out w (Lb _ _);have u:Below w.heap.size w w.drew:=(Lb _ _).drew;clear ht h HP hF hrow c3 cl c1 c2 ha hl h1 h2
 go_enter func86,ntmps86
 go_upto_region 1 with (fail)
 go_region_held3 (fun Z=>Z.cell? ⟨bl,0,none⟩=some (Pq a)∧Z.cell? ⟨a,3,none⟩=some (.pointer (some ⟨m+1,0,none⟩))∧Z.cell? ⟨b1,0,none⟩=some (.int .u64 x1)∧Z.cell? ⟨b2,0,none⟩=some (.int .u64 x2)) (first|assumption|(with_reducible exact HC.out _ u)) (first
  | (go_at_call 87;(with_reducible refine(HPr.out _ u).mono ?_);rintro e w1 ⟨v,e2,rfl,u,HE⟩)
  | (go_at_call 77;(with_reducible refine(HE.out _ (Lb _ _)).mono ?_);rintro e w2 ⟨rfl,u⟩))
 all_goals
  go_wp2
  go_ret2
  exact⟨rfl,u⟩
theorem QpB(w:World)(ht:Tb w)(h:Lg w 0 a p U D S L)(x1:Int)(x2:Int)(t:BA)(e1:Int)
  (HP:∀W m,Tb W->(∀b,b<w.heap.size->b≠a->W.heap[b]? = w.heap[b]?)->Frs W m (S.k:Int) L->Calls prog 87 #[.pointer (some ⟨m+1,0,none⟩),.int .u64 x1,.int .u64 x2] W (PrQ2 W t e1)) :
  Calls prog 40 #[Pq a,.int .u64 x1,.int .u64 x2] w fun e w'=>e= .returned (.tuple #[.string t,.int .i64 e1])∧Below w.heap.size w w':=by
 obtain⟨w1,hw1⟩:∃W,((w.alloc (.cells #[Pq a] 27)).alloc (.cells #[.int .u64 x1] 48)).alloc (.cells #[.int .u64 x2] 48)=W:=⟨_,rfl⟩;have u1:Below w.heap.size w w1:=by rw[<-hw1];exact bal (bal (bal (Lb _ _) _) _) _
 have k0:w1.heap[w.heap.size]? = some (.cells #[Pq a] 27 (0,0)):=by rw[<-hw1,(MapKept.heap_alloc _ _).2 _ (by simp;omega)];exact St.new0 _ _ _
 have k1:w1.heap[w.heap.size+1]? = some (.cells #[.int .u64 x1] 48 (0,0)):=by rw[<-hw1,(MapKept.heap_alloc _ _).2 _ (by simp)];exact St.new2 _ _ _
 have k2:w1.heap[w.heap.size+2]? = some (.cells #[.int .u64 x2] 48 (0,0)):=by
  rw[<-hw1];have:=Lt ((w.alloc (.cells #[Pq a] 27)).alloc (.cells #[.int .u64 x1] 48)) (.cells #[.int .u64 x2] 48)
  simpa using this
 have b0:w1.cell? ⟨w.heap.size,0,none⟩=some (Pq a):=by rw[cell_of_row _ _ 0 _ _ (0,0) k0];rfl
 have b1:w1.cell? ⟨w.heap.size+1,0,none⟩=some (.int .u64 x1):=by rw[cell_of_row _ _ 0 _ _ (0,0) k1];rfl
 have b2:w1.cell? ⟨w.heap.size+2,0,none⟩=some (.int .u64 x2):=by rw[cell_of_row _ _ 0 _ _ (0,0) k2];rfl
 have h1:=h.next u1;obtain⟨q,m,r0,vs,hrow,_⟩:=h1.row;have hax:=h.lt h.own;have HW:Hid (Calls prog 75 #[Pq a,.func (.func 86) #[] #[Pq w.heap.size,.pointer (some ⟨w.heap.size+1,0,none⟩),.pointer (some ⟨w.heap.size+2,0,none⟩)]] w1 fun e w'=>e= .returned (.tuple #[.string t,.int .i64 e1])∧Below w.heap.size w w') :=
  (Jj w1 a _ _ _ (.inr (.inl rfl)) hrow _ _ fun W hW=>QkO W ((ht.next u1).lkd h1 hW) (h1.lkd hW) w.heap.size (w.heap.size+1) (w.heap.size+2) x1 x2 (hW.cell b0 (by omega)) (hW.cell b1 (by omega)) (hW.cell b2 (by omega)) t e1 fun W2 m2 hT hb hF=>HP W2 m2 hT (fun b hb1 hb2=>(hb.block b (Lv (Lv hb1 u1.size) hW.size)).trans ((hW.oth b (Lv hb1 u1.size) hb2).trans (u1.block b hb1))) hF).mono fun e w' z=>⟨z.1,Qa u1 z.2⟩
 clear ht h h1 hrow u1 k0 k1 k2 b1 b2 hax HP;have HW1:=Qd hw1;clear hw1
 go_enter func40,ntmps40
 go_upto_region 1 with (fail)
 rw[HW1.out]
 go_wp2_with (go_at_call 75;(with_reducible refine HW.out.mono ?_);rintro e w2 ⟨rfl,t2⟩)
 go_ret2
 exact⟨rfl,t2⟩
theorem QkK(w:World)(ht:Tb w)(h:Lg w 1 a p U D S L)(bl b1 b2:Nat)(x1:Int)(sa:OA)(sl sc:Nat)(cl:w.cell? ⟨bl,0,none⟩=some (Pq a))(c1:w.cell? ⟨b1,0,none⟩=some (.int .u64 x1))(c2:w.cell? ⟨b2,0,none⟩=some (.slice sa sl sc))(t:BA)(e1:Int)
  (HP:∀W m,Tb W->Below w.heap.size w W->Frs W m (S.k:Int) L->Calls prog 82 #[.pointer (some ⟨m+1,0,none⟩),.int .u64 x1,.slice sa sl sc] W (PrQ2 W t e1)) :
  Calls prog 81 #[Pq bl,Pq b1,Pq b2] w fun e w'=>e= .returned (.tuple #[.string t,.int .i64 e1])∧Below w.heap.size w w':=by
 obtain⟨q,m,r0,vs,hrow,hF,_⟩:=h.row;obtain⟨_,_,c3,_,_,_⟩:=Yo hrow;have ha:=Lf _ _ c3;have hl:=Lf _ _ cl;have h1:=Lf _ _ c1;have h2:=Lf _ _ c2;have HC:Hid (∀W,Below w.heap.size w W->W.cell? ⟨bl,0,none⟩=some (Pq a)∧W.cell? ⟨a,3,none⟩=some (.pointer (some ⟨m+1,0,none⟩))∧W.cell? ⟨b1,0,none⟩=some (.int .u64 x1)∧W.cell? ⟨b2,0,none⟩=some (.slice sa sl sc)):=fun W hW=>⟨(hW.cell (p:=⟨bl,0,none⟩) hl).trans cl,(hW.cell (p:=⟨a,3,none⟩) ha).trans c3,(hW.cell (p:=⟨b1,0,none⟩) h1).trans c1,(hW.cell (p:=⟨b2,0,none⟩) h2).trans c2⟩
 have HPr:Hid (∀W,Below w.heap.size w W->Calls prog 82 #[.pointer (some ⟨m+1,0,none⟩),.int .u64 x1,.slice sa sl sc] W fun e w'=> ∃v e2,e= .returned (.tuple #[v,.int .i64 e2])∧Below w.heap.size w w'∧Hid (∀W',Below w'.heap.size w' W'->Calls prog 77 #[v,.int .i64 e2] W' fun e w''=>e= .returned (.tuple #[.string t,.int .i64 e1])∧Below w.heap.size w w'')):=fun W hW=>(HP W m (ht.next hW) hW (hF.next hW (La _))).mono fun e w' z=>by
  obtain⟨v,e2,z1,z2,z3⟩:=z;exact⟨v,e2,z1,Qa hW z2,fun W' hW'=>(z3 W' hW').mono fun e w'' y=>⟨y.1,Qa (Qa (Qa hW z2) hW') y.2⟩⟩
 obtain⟨d1,d2,d3,d4⟩:=HC.out w (Lb _ _);have u:Below w.heap.size w w.drew:=(Lb _ _).drew;clear ht h HP hF hrow c3 cl c1 c2 ha hl h1 h2
 go_enter func81,ntmps81
 go_upto_region 1 with (fail)
 go_region_held3 (fun Z=>Z.cell? ⟨bl,0,none⟩=some (Pq a)∧Z.cell? ⟨a,3,none⟩=some (.pointer (some ⟨m+1,0,none⟩))∧Z.cell? ⟨b1,0,none⟩=some (.int .u64 x1)∧Z.cell? ⟨b2,0,none⟩=some (.slice sa sl sc)) (first|assumption|(with_reducible exact HC.out _ u)) (first
  | (go_at_call 82;(with_reducible refine(HPr.out _ u).mono ?_);rintro e w1 ⟨v,e2,rfl,u,HE⟩)
  | (go_at_call 77;(with_reducible refine(HE.out _ (Lb _ _)).mono ?_);rintro e w2 ⟨rfl,u⟩))
 all_goals
  go_wp2
  go_ret2
  exact⟨rfl,u⟩
theorem QnV(w:World)(ht:Tb w)(h:Lg w 0 a p U D S L)(x1:Int)(sa:OA)(sl sc:Nat)(t:BA)(e1:Int)
  (HP:∀W m,Tb W->(∀b,b<w.heap.size->b≠a->W.heap[b]? = w.heap[b]?)->Frs W m (S.k:Int) L->Calls prog 82 #[.pointer (some ⟨m+1,0,none⟩),.int .u64 x1,.slice sa sl sc] W (PrQ2 W t e1)) :
  Calls prog 38 #[Pq a,.int .u64 x1,.slice sa sl sc] w fun e w'=>e= .returned (.tuple #[.string t,.int .i64 e1])∧Below w.heap.size w w':=by
 obtain⟨w1,hw1⟩:∃W,((w.alloc (.cells #[Pq a] 27)).alloc (.cells #[.int .u64 x1] 48)).alloc (.cells #[.slice sa sl sc] 66)=W:=⟨_,rfl⟩;have u1:Below w.heap.size w w1:=by rw[<-hw1];exact bal (bal (bal (Lb _ _) _) _) _
 have k0:w1.heap[w.heap.size]? = some (.cells #[Pq a] 27 (0,0)):=by rw[<-hw1,(MapKept.heap_alloc _ _).2 _ (by simp;omega)];exact St.new0 _ _ _
 have k1:w1.heap[w.heap.size+1]? = some (.cells #[.int .u64 x1] 48 (0,0)):=by rw[<-hw1,(MapKept.heap_alloc _ _).2 _ (by simp)];exact St.new2 _ _ _
 have k2:w1.heap[w.heap.size+2]? = some (.cells #[.slice sa sl sc] 66 (0,0)):=by
  rw[<-hw1];have:=Lt ((w.alloc (.cells #[Pq a] 27)).alloc (.cells #[.int .u64 x1] 48)) (.cells #[.slice sa sl sc] 66)
  simpa using this
 have b0:w1.cell? ⟨w.heap.size,0,none⟩=some (Pq a):=by rw[cell_of_row _ _ 0 _ _ (0,0) k0];rfl
 have b1:w1.cell? ⟨w.heap.size+1,0,none⟩=some (.int .u64 x1):=by rw[cell_of_row _ _ 0 _ _ (0,0) k1];rfl
 have b2:w1.cell? ⟨w.heap.size+2,0,none⟩=some (.slice sa sl sc):=by rw[cell_of_row _ _ 0 _ _ (0,0) k2];rfl
 have h1:=h.next u1;obtain⟨q,m,r0,vs,hrow,_⟩:=h1.row;have hax:=h.lt h.own;have HW:Hid (Calls prog 75 #[Pq a,.func (.func 81) #[] #[Pq w.heap.size,.pointer (some ⟨w.heap.size+1,0,none⟩),.pointer (some ⟨w.heap.size+2,0,none⟩)]] w1 fun e w'=>e= .returned (.tuple #[.string t,.int .i64 e1])∧Below w.heap.size w w') :=
  (Jj w1 a _ _ _ (.inr (.inr (.inl rfl))) hrow _ _ fun W hW=>QkK W ((ht.next u1).lkd h1 hW) (h1.lkd hW) w.heap.size (w.heap.size+1) (w.heap.size+2) x1 sa sl sc (hW.cell b0 (by omega)) (hW.cell b1 (by omega)) (hW.cell b2 (by omega)) t e1 fun W2 m2 hT hb hF=>HP W2 m2 hT (fun b hb1 hb2=>(hb.block b (Lv (Lv hb1 u1.size) hW.size)).trans ((hW.oth b (Lv hb1 u1.size) hb2).trans (u1.block b hb1))) hF).mono fun e w' z=>⟨z.1,Qa u1 z.2⟩
 clear ht h h1 hrow u1 k0 k1 k2 b1 b2 hax HP;have HW1:=Qd hw1;clear hw1
 go_enter func38,ntmps38
 go_upto_region 1 with (fail)
 rw[HW1.out]
 go_wp2_with (go_at_call 75;(with_reducible refine HW.out.mono ?_);rintro e w2 ⟨rfl,t2⟩)
 go_ret2
 exact⟨rfl,t2⟩
theorem QkL(w:World)(ht:Tb w)(h:Lg w 1 a p U D S L)(bl b1 b2:Nat)(x1:Int)(x2:Int)(cl:w.cell? ⟨bl,0,none⟩=some (Pq a))(c1:w.cell? ⟨b1,0,none⟩=some (.int .u64 x1))(c2:w.cell? ⟨b2,0,none⟩=some (.int .u64 x2))(t:BA)(e1:Int)
  (HP:∀W m,Tb W->Below w.heap.size w W->Frs W m (S.k:Int) L->Calls prog 78 #[.pointer (some ⟨m+1,0,none⟩),.int .u64 x1,.int .u64 x2] W (PrQ2 W t e1)) :
  Calls prog 76 #[Pq bl,Pq b1,Pq b2] w fun e w'=>e= .returned (.tuple #[.string t,.int .i64 e1])∧Below w.heap.size w w':=by
 obtain⟨q,m,r0,vs,hrow,hF,_⟩:=h.row;obtain⟨_,_,c3,_,_,_⟩:=Yo hrow;have ha:=Lf _ _ c3;have hl:=Lf _ _ cl;have h1:=Lf _ _ c1;have h2:=Lf _ _ c2;have HC:Hid (∀W,Below w.heap.size w W->W.cell? ⟨bl,0,none⟩=some (Pq a)∧W.cell? ⟨a,3,none⟩=some (.pointer (some ⟨m+1,0,none⟩))∧W.cell? ⟨b1,0,none⟩=some (.int .u64 x1)∧W.cell? ⟨b2,0,none⟩=some (.int .u64 x2)):=fun W hW=>⟨(hW.cell (p:=⟨bl,0,none⟩) hl).trans cl,(hW.cell (p:=⟨a,3,none⟩) ha).trans c3,(hW.cell (p:=⟨b1,0,none⟩) h1).trans c1,(hW.cell (p:=⟨b2,0,none⟩) h2).trans c2⟩
 have HPr:Hid (∀W,Below w.heap.size w W->Calls prog 78 #[.pointer (some ⟨m+1,0,none⟩),.int .u64 x1,.int .u64 x2] W fun e w'=> ∃v e2,e= .returned (.tuple #[v,.int .i64 e2])∧Below w.heap.size w w'∧Hid (∀W',Below w'.heap.size w' W'->Calls prog 77 #[v,.int .i64 e2] W' fun e w''=>e= .returned (.tuple #[.string t,.int .i64 e1])∧Below w.heap.size w w'')):=fun W hW=>(HP W m (ht.next hW) hW (hF.next hW (La _))).mono fun e w' z=>by
  obtain⟨v,e2,z1,z2,z3⟩:=z;exact⟨v,e2,z1,Qa hW z2,fun W' hW'=>(z3 W' hW').mono fun e w'' y=>⟨y.1,Qa (Qa (Qa hW z2) hW') y.2⟩⟩
 obtain⟨d1,d2,d3,d4⟩:=HC.out w (Lb _ _);have u:Below w.heap.size w w.drew:=(Lb _ _).drew;clear ht h HP hF hrow c3 cl c1 c2 ha hl h1 h2
 go_enter func76,ntmps76
 go_upto_region 1 with (fail)
 go_region_held3 (fun Z=>Z.cell? ⟨bl,0,none⟩=some (Pq a)∧Z.cell? ⟨a,3,none⟩=some (.pointer (some ⟨m+1,0,none⟩))∧Z.cell? ⟨b1,0,none⟩=some (.int .u64 x1)∧Z.cell? ⟨b2,0,none⟩=some (.int .u64 x2)) (first|assumption|(with_reducible exact HC.out _ u)) (first
  | (go_at_call 78;(with_reducible refine(HPr.out _ u).mono ?_);rintro e w1 ⟨v,e2,rfl,u,HE⟩)
  | (go_at_call 77;(with_reducible refine(HE.out _ (Lb _ _)).mono ?_);rintro e w2 ⟨rfl,u⟩))
 all_goals
  go_wp2
  go_ret2
  exact⟨rfl,u⟩
theorem Qj2(w:World)(ht:Tb w)(h:Lg w 0 a p U D S L)(x1:Int)(x2:Int)(t:BA)(e1:Int)
  (HP:∀W m,Tb W->(∀b,b<w.heap.size->b≠a->W.heap[b]? = w.heap[b]?)->Frs W m (S.k:Int) L->Calls prog 78 #[.pointer (some ⟨m+1,0,none⟩),.int .u64 x1,.int .u64 x2] W (PrQ2 W t e1)) :
  Calls prog 35 #[Pq a,.int .u64 x1,.int .u64 x2] w fun e w'=>e= .returned (.tuple #[.string t,.int .i64 e1])∧Below w.heap.size w w':=by
 obtain⟨w1,hw1⟩:∃W,((w.alloc (.cells #[Pq a] 27)).alloc (.cells #[.int .u64 x1] 48)).alloc (.cells #[.int .u64 x2] 48)=W:=⟨_,rfl⟩;have u1:Below w.heap.size w w1:=by rw[<-hw1];exact bal (bal (bal (Lb _ _) _) _) _
 have k0:w1.heap[w.heap.size]? = some (.cells #[Pq a] 27 (0,0)):=by rw[<-hw1,(MapKept.heap_alloc _ _).2 _ (by simp;omega)];exact St.new0 _ _ _
 have k1:w1.heap[w.heap.size+1]? = some (.cells #[.int .u64 x1] 48 (0,0)):=by rw[<-hw1,(MapKept.heap_alloc _ _).2 _ (by simp)];exact St.new2 _ _ _
 have k2:w1.heap[w.heap.size+2]? = some (.cells #[.int .u64 x2] 48 (0,0)):=by
  rw[<-hw1];have:=Lt ((w.alloc (.cells #[Pq a] 27)).alloc (.cells #[.int .u64 x1] 48)) (.cells #[.int .u64 x2] 48)
  simpa using this
 have b0:w1.cell? ⟨w.heap.size,0,none⟩=some (Pq a):=by rw[cell_of_row _ _ 0 _ _ (0,0) k0];rfl
 have b1:w1.cell? ⟨w.heap.size+1,0,none⟩=some (.int .u64 x1):=by rw[cell_of_row _ _ 0 _ _ (0,0) k1];rfl
 have b2:w1.cell? ⟨w.heap.size+2,0,none⟩=some (.int .u64 x2):=by rw[cell_of_row _ _ 0 _ _ (0,0) k2];rfl
 have h1:=h.next u1;obtain⟨q,m,r0,vs,hrow,_⟩:=h1.row;have hax:=h.lt h.own;have HW:Hid (Calls prog 75 #[Pq a,.func (.func 76) #[] #[Pq w.heap.size,.pointer (some ⟨w.heap.size+1,0,none⟩),.pointer (some ⟨w.heap.size+2,0,none⟩)]] w1 fun e w'=>e= .returned (.tuple #[.string t,.int .i64 e1])∧Below w.heap.size w w') :=
  (Jj w1 a _ _ _ (.inr (.inr (.inr rfl))) hrow _ _ fun W hW=>QkL W ((ht.next u1).lkd h1 hW) (h1.lkd hW) w.heap.size (w.heap.size+1) (w.heap.size+2) x1 x2 (hW.cell b0 (by omega)) (hW.cell b1 (by omega)) (hW.cell b2 (by omega)) t e1 fun W2 m2 hT hb hF=>HP W2 m2 hT (fun b hb1 hb2=>(hb.block b (Lv (Lv hb1 u1.size) hW.size)).trans ((hW.oth b (Lv hb1 u1.size) hb2).trans (u1.block b hb1))) hF).mono fun e w' z=>⟨z.1,Qa u1 z.2⟩
 clear ht h h1 hrow u1 k0 k1 k2 b1 b2 hax HP;have HW1:=Qd hw1;clear hw1
 go_enter func35,ntmps35
 go_upto_region 1 with (fail)
 rw[HW1.out]
 go_wp2_with (go_at_call 75;(with_reducible refine HW.out.mono ?_);rintro e w2 ⟨rfl,t2⟩)
 go_ret2
 exact⟨rfl,t2⟩
end
theorem QbN(x n:Int)(w:World)(hn:0<n)(hn':n<32) :
  Calls prog 364 #[.int .u32 x,.int .i64 n] w fun e w'=>e= .returned (.int .u32 (Uo x n)) ∧ ∃k,w'=w.drewN k:=by
 have e1:IntKind.i64.wrap (32-n)=32-n:=Q6 _ (by omega) (by omega)
 have b0:(0:Int)<=n:=by omega
 have b1:(0:Int)<=32-n:=by omega
 have hm:min n.toNat 32=n.toNat:=by omega
 have hm2:min (32-n).toNat 32=(32-n).toNat:=by omega
 go_enter func364,ntmps364;go_wp2
 go_region_held3 (fun _=>True) (trivial) (fail)
 go_wp2
 go_ret
 refine⟨?_,1,rfl⟩
 show Ending.returned (Value.int .u32 _)=_
 unfold Uo
 rfl
def horI(blk:List Int)(t:Nat):Nat->Int
 | 0=>0
 | i+1=>IntKind.u32.wrap (IntKind.u32.wrap (horI blk t i*256)+IntKind.u32.wrap (blk.getD (4*t+i) 0))
def O0(blk:List Int):Nat->List Int
 | 0=>[]
 | k+1=>O0 blk k++[horI blk k 4]
theorem Qcn(blk:List Int)(k:Nat):(O0 blk k).length=k:=by
 induction k with
 | zero=>rfl
 | succ k ih=>simp[O0,ih]
def Yp(blk:List Int):Nat->List Int
 | 0=>O0 blk 16
 | k+1=>Yp blk k++[QgP ((Yp blk k).getD k 0) ((Yp blk k).getD (k+1) 0) ((Yp blk k).getD (k+9) 0) ((Yp blk k).getD (k+14) 0)]
theorem QeT(blk:List Int)(k:Nat):(Yp blk k).length=16+k:=by
 induction k with
 | zero=>exact Qcn _ _
 | succ k ih=>simp only[Yp,List.length_append,ih,List.length_cons,List.length_nil];omega
theorem QhH{w:World}{b i j:Nat}{v u:Value}(h:w.cell? ⟨b,i,none⟩=some u)(hne:i≠j):(w.setCell ⟨b,j,none⟩ v).cell? ⟨b,i,none⟩=some u:=by
 rw[Lq _ _ _ _ (fun e=>hne (by have:=LW Addr.off e;simpa using this.symm))];exact h
theorem Qez{l:List Int}(h:l.length<64):pad (l++[0])=pad l:=by
 rw[<-QaT h 0]
 apply List.ext_getElem?
 intro i
 by_cases e:i=l.length
 ·subst e;rw[List.getElem?_set_self (by rw[Ud (by omega)];omega)]
  have:=Yg l l.length;rw[Lc,Ll (by rw[Ud (by omega)];omega),Lc,NQ (l:=l) (by omega)] at this
  rw[Ll (by rw[Ud (by omega)];omega)]
  simpa using this.symm
 ·rw[IF (fun h=>e h.symm)]
theorem Qmm(b:BA)(m:Nat)(hm:m<b.size)(w:World):(Instr.index 9 (.string b) (.int .i64 m)).run prog w= .ok (.int .u8 ((tB b).getD m 0)) w:=by
 have e:(tB b).getD m 0=(b[m].toNat:Int):=by
  have:b.data.toList[m]? = some b[m]:=by
   rw[NF,Nh (by simpa using hm)];rfl
  simp[tB,List.getD_eq_getElem?_getD,this]
 have h2:b[m]? = some b[m]:=getElem?_pos b m hm
 rw[e];simp[Instr.index,asIntOf,run_underlying underlying9,h2]
structure Pl(w wr:World)(ws:List Int):Prop where
 below:Below w.heap.size w wr
 res:wr.there w.heap.size 0 64
 ws:wr.rangeAt (w.heap.size+1) 0 (cW (pad ws))
 wst:wr.there (w.heap.size+1) 0 64
theorem Pl.set{w wr:World}{ws:List Int}{y:Int}(h:Pl w wr (ws++[y])){m:Nat}(hm:ws.length=m)(hl:m<64)(v:Int):Pl w (wr.setCell ⟨w.heap.size+1,m,none⟩ (.int .u32 v)) (ws++[v]):=by
 subst hm;refine⟨h.below.setCell (by show w.heap.size<=w.heap.size+1;omega) _,QM h.res _ _,?_,QM h.wst _ _⟩
 have:=YG h.ws ws.length (.int .u32 v);rw[Lo,Qfe,<-QaT hl y,List.set_set,QaT hl] at this;exact this
theorem Pl.step{w wr:World}{ws:List Int}(h:Pl w wr ws){m:Nat}(hm:ws.length=m)(hl:m<64)(v:Int):Pl w (wr.setCell ⟨w.heap.size+1,m,none⟩ (.int .u32 v)) (ws++[v]) :=
 Pl.set (y:=0) ⟨h.below,h.res,by rw[Qez (by omega)];exact h.ws,h.wst⟩ hm hl v
theorem Pl.same{w X Y:World}{ws:List Int}(h:Pl w X ws)(e1:Y.heap=X.heap)(e2:Y.os=X.os)(e3:Y.tape=X.tape)(e4:Y.output=X.output):Pl w Y ws:=by
 have hc:∀a,Y.cell? a=X.cell? a:=fun a=>LI (w:=X) (by rw[e1])
 have hf:∀a,Y.frozen? a=X.frozen? a:=fun a=>N5 (w:=X) (by rw[e1])
 exact⟨⟨e2.trans h.below.os,e3.trans h.below.tape,e4.trans h.below.output,by rw[e1];exact h.below.size,fun k hk=>by rw[e1];exact h.below.block k hk⟩,
  fun j hj=>by rw[hc,hf];exact h.res j hj,fun j v hv=>by rw[hc];exact h.ws j v hv,fun j hj=>by rw[hc,hf];exact h.wst j hj⟩
theorem Pl.start(w:World)(z1 z2:Array Value)(t1 t2:TypeId)(h1:z1.size=64)(h2:z2=(cW (pad [])).toArray):Pl w ((w.alloc (.cells z1 t1)).alloc (.cells z2 t2)) []:=by
 subst h2;have q1:=Qo w z1 t1 64 (by omega)
 have r2:=Qp (w.alloc (.cells z1 t1)) (cW (pad [])) t2;have q2:=Qo (w.alloc (.cells z1 t1)) (cW (pad [])).toArray t2 64 (by simp[Qn,pad])
 simp only[World.size_alloc] at r2 q2;exact⟨((Lb _ _).alloc (La _) _).alloc (by simp) _,World.there_alloc q1 _,r2,q2⟩
theorem QkJ(b:BA)(hb:b.size=64)(w:World) :
  Calls prog 363 #[.string b] w fun e w'=>e= .returned (.agg (cW (Yp (tB b) 48)).toArray)∧Below w.heap.size w w':=by
 go_enter func363,ntmps363;go_wp2
 go_loopg [4] 16 (fun g i wr=> ∃k:Nat,k<=16∧g=16-k∧i= .int .i64 k∧Pl w wr (O0 (tB b) k))
 case atStart=>go_light;exact⟨0,Ln _,rfl,rfl,Pl.start w _ _ _ _ rfl rfl⟩
 case round=>
  obtain⟨k,hk,rfl,rfl,hs⟩:=hrel
  by_cases hlt:k<16
  ·have hk0:(0:Int)<=(k:Int):=Lh _;have hk8:(k:Int)<16:=by omega
   have dk:(k:Int)<64:=by omega
   have hlen:=Qcn (tB b) k;go_wp2
   go_loopg [5] 4 (fun g i wi=> ∃j:Nat,j<=4∧g=4-j∧i= .int .i64 j∧Pl w wi (O0 (tB b) k++[horI (tB b) k j]))
   case atStart=>
    go_light;refine⟨0,Ln _,rfl,rfl,?_⟩
    exact⟨hs.below,hs.res,by rw[show horI (tB b) k 0=0 from rfl,Qez (by omega)];exact hs.ws,hs.wst⟩
   case round=>
    clear hs;obtain⟨j,hj,rfl,rfl,hs⟩:=hrel
    by_cases hjl:j<4
    ·have hj0:(0:Int)<=(j:Int):=Lh _;have hj4:(j:Int)<4:=by omega
     obtain⟨m,hm⟩:∃m:Nat,4*k+j=m:=⟨_,rfl⟩;obtain⟨m4,hm4⟩:∃m4:Nat,4*k=m4:=⟨_,rfl⟩;have e0:IntKind.i64.wrap (4*(k:Int))=(m4:Int):=by rw[Q6 _ (by omega) (by omega)];omega
     have e1:IntKind.i64.wrap ((m4:Int)+(j:Int))=(m:Int):=by rw[Q6 _ (by omega) (by omega)];omega
     have hidx:=fun w'=>Qmm b m (by omega) w'
     have c0:wr.cell? ⟨w.heap.size+1,k,none⟩=some (.int .u32 (horI (tB b) k j)):=by
      have:=Qc hs.ws (i:=k) (by rw[Ud (by simp[hlen];omega)];omega)
      rw[Yg,Lc,LQ (by omega),hlen,NH] at this
      exact this
     have f0:wr.frozen? ⟨w.heap.size+1,k,none⟩=false:=by have:=(hs.wst k (by omega)).2;rwa [Lo] at this
     have HF:Hid (∀v,Pl w (wr.setCell ⟨w.heap.size+1,k,none⟩ (.int .u32 v)) (O0 (tB b) k++[v])):=fun v=>hs.set hlen (by omega) v
     have HV:Hid (horI (tB b) k (j+1)=IntKind.u32.wrap (IntKind.u32.wrap (horI (tB b) k j*256)+IntKind.u32.wrap ((tB b).getD m 0))):=by
      show _=_
      rw[horI,hm]
     clear hs hm hm4;generalize horI (tB b) k j=x at *;generalize (tB b).getD m 0=y at *;go_wp2
     go_region
     all_goals
      go_wp2
      go_roundg (4-(j+1))
      case rel=>
       go_light;refine⟨j+1,by omega,rfl,by go_num,?_⟩
       have e:IntKind.u32.wrap (IntKind.u32.wrap (x*256)+IntKind.u32.wrap y)=(x*256+y)%4294967296:=by simp only[IntKind.wrap_u32'];omega
       rw[HV.out,e];exact(HF.out _).same rfl rfl rfl rfl
      case measure=>go_light;omega
    ·obtain rfl:j=4:=by omega
     go_wp2
     go_roundg (16-(k+1))
     case rel=>go_light;exact⟨k+1,by omega,rfl,by go_num,hs⟩
     case measure=>go_light;omega
  ·obtain rfl:k=16:=by omega
   clear hk hlt;go_wp2
   go_loopg [6] 48 (fun g i wr=> ∃k:Nat,k<=48∧g=48-k∧i= .int .i64 ((16+k:Nat):Int)∧Pl w wr (Yp (tB b) k))
   case atStart=>go_light;exact⟨0,Ln _,rfl,rfl,hs⟩
   case round=>
    clear hs;obtain⟨k,hk,rfl,rfl,hs⟩:=hrel
    by_cases hlt:k<48
    ·obtain⟨t,ht⟩:∃t:Nat,16+k=t:=⟨_,rfl⟩;obtain⟨k1,hk1⟩:∃k1:Nat,k+1=k1:=⟨_,rfl⟩;obtain⟨k9,hk9⟩:∃k9:Nat,k+9=k9:=⟨_,rfl⟩;obtain⟨k14,hk14⟩:∃k14:Nat,k+14=k14:=⟨_,rfl⟩;rw[ht];have e0:IntKind.i64.wrap ((t:Int)-16)=(k:Int):=by rw[Q6 _ (by omega) (by omega)];omega
     have e2:IntKind.i64.wrap ((t:Int)-7)=(k9:Int):=by rw[Q6 _ (by omega) (by omega)];omega
     have e1:(t:Int)-15=(k1:Int):=by omega
     have e3:(t:Int)-2=(k14:Int):=by omega
     have b0:(0:Int)<=(k:Int):=Lh _;have b1:(0:Int)<=(k1:Int):=Lh _;have b2:(0:Int)<=(k9:Int):=Lh _;have b3:(0:Int)<=(k14:Int):=Lh _;have bt:(0:Int)<=(t:Int):=Lh _;have d0:(k:Int)<64:=by omega
     have d1:(k1:Int)<64:=by omega
     have d2:(k9:Int)<64:=by omega
     have d3:(k14:Int)<64:=by omega
     have dt:(t:Int)<64:=by omega
     have hlen:=QeT (tB b) k;have hpl:(pad (Yp (tB b) k)).length=64:=Ud (by omega)
     have c0:wr.cell? ⟨w.heap.size+1,k,none⟩=some (.int .u32 ((Yp (tB b) k).getD k 0)):=by rw[<-Yg];exact Qc hs.ws (by omega)
     have c1:wr.cell? ⟨w.heap.size+1,k1,none⟩=some (.int .u32 ((Yp (tB b) k).getD k1 0)):=by rw[<-Yg];exact Qc hs.ws (by omega)
     have c2:wr.cell? ⟨w.heap.size+1,k9,none⟩=some (.int .u32 ((Yp (tB b) k).getD k9 0)):=by rw[<-Yg];exact Qc hs.ws (by omega)
     have c3:wr.cell? ⟨w.heap.size+1,k14,none⟩=some (.int .u32 ((Yp (tB b) k).getD k14 0)):=by rw[<-Yg];exact Qc hs.ws (by omega)
     have st:wr.cell? ⟨w.heap.size+1,t,none⟩=some (.int .u32 ((Yp (tB b) k).getD t 0)):=by rw[<-Yg];exact Qc hs.ws (by omega)
     have sf:wr.frozen? ⟨w.heap.size+1,t,none⟩=false:=by have:=(hs.wst t (by omega)).2;rwa [Lo] at this
     have HF:Hid (∀v,Pl w (wr.setCell ⟨w.heap.size+1,t,none⟩ (.int .u32 v)) (Yp (tB b) k++[v])):=fun v=>hs.step (by omega) (by omega) v
     have HV:Hid (Yp (tB b) (k+1)=Yp (tB b) k++[QgP ((Yp (tB b) k).getD k 0) ((Yp (tB b) k).getD k1 0) ((Yp (tB b) k).getD k9 0) ((Yp (tB b) k).getD k14 0)]):=by
      show _=_
      subst hk1 hk9 hk14;rfl
     have HT:Hid (16+k=t):=ht;have N0:k≠t:=by omega
     have N2:k9≠t:=by omega
     clear hs ht hk1 hk9 hk14 hlen hpl hb;generalize (Yp (tB b) k).getD k 0=x0 at *;generalize (Yp (tB b) k).getD k1 0=x1 at *;generalize (Yp (tB b) k).getD k9 0=x2 at *;generalize (Yp (tB b) k).getD k14 0=x3 at *;generalize (Yp (tB b) k).getD t 0=z at *;go_wp2
     go_region_held3 (fun w'=>w'.cell? ⟨w.heap.size+1,k,none⟩=some (.int .u32 x0)∧w'.cell? ⟨w.heap.size+1,k9,none⟩=some (.int .u32 x2)) (first|assumption|(refine⟨?_,?_⟩ <;> first|assumption|(refine QhH ?_ ?_ <;> assumption))) (first|(go_at_call 364;refine(QbN _ _ _ (by decide) (by decide)).mono ?_;rintro e w' ⟨rfl,q,rfl⟩))
     go_wp2
     go_roundg (48-(k+1))
     case rel=>
      go_light;refine⟨k+1,by omega,rfl,?_,?_⟩
      ·have:=HT.out;go_num
      rw[HV.out];exact(HF.out _).same rfl rfl rfl rfl
     case measure=>go_light;omega
    ·obtain rfl:k=48:=by omega
     have hlen:=QeT (tB b) 48;have hws:=hs.ws;rw[Qey hlen] at hws;have hbel:=hs.below;have hi:(prog.info? 403).map (·.size)=some (cW (Yp (tB b) 48)).length:=by rw[Qn,hlen];exact Qdw
     have hi2:(prog.info? 403).map (·.size)=some (cW (Yp (tB b) 48)).toArray.size:=by simpa using hi
     have hre2:wr.there w.heap.size 0 (cW (Yp (tB b) 48)).toArray.size:=by
      have hsz:(cW (Yp (tB b) 48)).toArray.size=64:=by simp[Qn,hlen]
      rw[hsz];exact hs.res
     clear hs hk hlt hlen hb;generalize hE:Yp (tB b) 48=ws at *;have HE:Hid (Yp (tB b) 48=ws):=hE;clear hE
     go_wp2_with (first|(refine wpList_load_mid rfl 403 _ rfl (w.heap.size+1) 0 rfl (cW ws) _ hws underlying403 rfl hi ?_)|(refine wpList_store_mid rfl 403 _ _ rfl w.heap.size 0 (cW ws).toArray rfl rfl hre2 hi2 (all_oneCell_toArray (Uj ws)) ?_))
     refine LK (v := .agg (cW ws).toArray) ?_ rfl ⟨by rw[HE.out],?_⟩
     ·refine Q9 results363 _ _ w.heap.size 0 (cW ws) (.array 64 110) ?_ ?_ underlying403 rfl hi
      ·rfl
      ·go_light
       simpa using World.rangeAt_setCells_same _ _ _ _ (by simpa using hre2)
     ·go_light;exact Qq hbel (La _) _ _
theorem QnK(a b c d:Int)(ha:0<=a∧a<256)(hb:0<=b∧b<256)(hc:0<=c∧c<256)(hd:0<=d∧d<256) :
  Qe3 a b c d=a*16777216+b*65536+c*256+d:=by
 obtain⟨a,rfl⟩:=NS ha.1;obtain⟨b,rfl⟩:=NS hb.1;obtain⟨c,rfl⟩:=NS hc.1;obtain⟨d,rfl⟩:=NS hd.1;have h1:a<256:=by omega
 have h2:b<256:=by omega
 have h3:c<256:=by omega
 have h4:d<256:=by omega
 have e1:IntKind.u32.wrap (IntKind.u32.wrap (a:Int)*16777216)=((a*16777216:Nat):Int):=by simp only[IntKind.wrap_u32'];omega
 have e2:IntKind.u32.wrap (IntKind.u32.wrap (b:Int)*65536)=((b*65536:Nat):Int):=by simp only[IntKind.wrap_u32'];omega
 have e3:IntKind.u32.wrap (IntKind.u32.wrap (c:Int)*256)=((c*256:Nat):Int):=by simp only[IntKind.wrap_u32'];omega
 have e4:IntKind.u32.wrap (d:Int)=((d:Nat):Int):=by simp only[IntKind.wrap_u32'];omega
 have j1:a*16777216 ||| b*65536=a*16777216+b*65536:=nat_join 24 _ _ (by omega) (by omega)
 have j2:(a*16777216+b*65536) ||| c*256=a*16777216+b*65536+c*256:=nat_join 16 _ _ (by omega) (by omega)
 have j3:(a*16777216+b*65536+c*256) ||| d=a*16777216+b*65536+c*256+d:=nat_join 8 _ _ (by omega) (by omega)
 unfold Qe3;rw[e1,e2,e3,e4,u32_or_nat _ _ (by omega) (by omega),j1,u32_or_nat _ _ (by omega) (by omega),j2,u32_or_nat _ _ (by omega) (by omega),j3]
 omega
def Bytes(l:List Int):Prop := ∀x∈l,0<=x∧x<256
theorem Bytes.getD{l:List Int}(h:Bytes l)(i:Nat):0<=l.getD i 0∧l.getD i 0<256:=by
 rw[Lc]
 cases e:l[i]? with
 | none=>exact⟨by decide,by decide⟩
 | some x=>exact h x (Nt e)
theorem QoB{blk:List Int}(h:Bytes blk)(k:Nat):horI blk k 4=Qe3 (blk.getD (4*k) 0) (blk.getD (4*k+1) 0) (blk.getD (4*k+2) 0) (blk.getD (4*k+3) 0):=by
 have h0:=h.getD (4*k);have h1:=h.getD (4*k+1);have h2:=h.getD (4*k+2);have h3:=h.getD (4*k+3);rw[QnK _ _ _ _ h0 h1 h2 h3];simp only[horI,IntKind.wrap_u32',Nat.add_zero];omega
theorem Qni{blk:List Int}(h:Bytes blk)(k:Nat):Yp blk k=Yd blk k:=by
 have h0:∀k,O0 blk k=sch0 blk k:=fun k=>by
  induction k with
  | zero=>rfl
  | succ k ih=>rw[O0,sch0,ih,QoB h]
 induction k with
 | zero=>exact h0 16
 | succ k ih=>rw[Yp,Yd,ih]
theorem Qlh(s:BA):Bytes (tB s):=by
 intro x hx;obtain⟨y,_,rfl⟩:=List.mem_map.1 hx;have:=y.toNat_lt;omega
end Go.Proofs.YtoblgjledefdbaaGreatDoor
