/-
  Own work: ESound, EWkH, EWkK, EWkM.
-/
import Derived.BigQuiet
import Derived.Test.YtdocjikpcbmcgaaGreatDoorQs34
import Derived.Test.YtdocjikpcbmcgaaGreatDoorQs39
namespace Go.Proofs.YtdocjikpcbmcgaaGreatDoor
open Go.RowKit
open Pl (pw pw_pos)
open Cv (Row All Til But cov zl)
theorem tilX_len {A : Nat → Prop} {q : Nat} : ∀ {L : List (Nat × Nat)} {p : Nat}, Til A q p L → L.length + p ≤ q
  | [], _, h => by have := h.1; simp; omega
  | b :: L, p, h => by
    have := tilX_len h.2.2.2.2.2
    have h1 := h.1
    have h2 := Cv.blk_lt b.1 b.2
    rw [List.length_cons]; omega
theorem ixs_one {i : Nat} : ∀ {l : List (Nat × ByteArray)}, [i] = ixs l → ∃ x, l = [(i, x)]
  | [(a, x)], hS => by
    simp only [List.map_cons, List.map_nil] at hS
    injection hS with hS _
    exact ⟨x, by rw [hS]⟩
theorem fun_mem (i : Nat) : (fun t : Nat => t = i) = fun t => t ∈ [i] := by funext t; simp
structure AccT (k : Int) (o1 : Nat) (c1 : ByteArray) (l : List (Nat × ByteArray)) (P : PV) (Bs : List (Nat × Nat)) (K : List He) (R : List ByteArray) : Prop where
  tre : Tre (clk k) o1 Bs P.D (vlC l) (fun i => i ∈ ixs l) K R
  root : dg (clk k) (rootT o1 (bagL (clk k) R)) = c1
  free : ∀ i ∈ ixs l, i < o1 ∧ ∀ t, ixM Bs t (i / 2 ^ t) = none
  asc : Asc (ixs l)
  len : Bs.length ≤ 2 * o1 + 200
  call : ∀ W sa sb sc da db dc, o1 ≤ 5000 → RdF W sa sb sc da db dc P → Calls Tryz.prog 60 #[vP P.kd k P.old P.size (.slice sa P.S.length sc) (.slice da P.D.length dc)] W fun e w' => ∃ v, e = .returned v ∧ Cv.OwnB w' W.heap.size v (zl Bs) ∧ Below W.heap.size W w'
theorem asc_len {n : Nat} : ∀ {S : List Nat} {x : Nat}, Cv.Chain x S n → x ≤ n → S.length + x ≤ n
  | [], _, _, hx => by simpa using hx
  | a :: S, x, h, hx => by
    have h1 : x ≤ a := (Cv.chain_mem h a (List.mem_cons_self ..)).1
    have h2 : a < n := (Cv.chain_mem h a (List.mem_cons_self ..)).2
    have := asc_len h.2 h2
    rw [List.length_cons]; omega
theorem asc_below {n : Nat} {S : List Nat} (hp : Asc S) (hb : ∀ i ∈ S, i < n) : S.length ≤ n := by
  have key : ∀ (S : List Nat) (x : Nat), Asc S → (∀ i ∈ S, x ≤ i ∧ i < n) → x ≤ n → S.length + x ≤ n := by
    intro S
    induction S with
    | nil => intro x _ _ hx; simpa using hx
    | cons a S ih =>
      intro x hp hb hx
      obtain ⟨h1, h2⟩ := List.pairwise_cons.1 hp
      have ha := hb a (List.mem_cons_self ..)
      have := ih (a + 1) h2 (fun i hi => ⟨h1 i hi, (hb i (List.mem_cons_of_mem _ hi)).2⟩) (by omega)
      rw [List.length_cons]; omega
  have := key S 0 hp (fun i hi => ⟨Nat.zero_le _, hb i hi⟩) (Nat.zero_le _)
  omega
theorem acc_tree {k : Int} {o1 : Nat} {c1 : ByteArray} {l : List (Nat × ByteArray)} {s : ByteArray} {P : PV} (A : Acc k o1 c1 l s P) : ∃ Bs K R, AccT k o1 c1 l P Bs K R := by
  have hS := A.hS
  have hsz := A.size
  have hold := A.old
  rcases A.how with ⟨h1, i, A', H, B, hSi, wy, hi, hf, hr⟩ | ⟨h2, hok, hr⟩
  · rw [hSi] at hS
    obtain ⟨x, hlx⟩ := ixs_one hS
    have hvx : vlC l i = x := by rw [hlx]; simp [vlC]
    have hx0 : (vls l).getD 0 ByteArray.empty = x := by rw [hlx]; rfl
    rw [hx0] at hr
    have ht := tre_path wy A.n40 ⟨A.k1, A.k2⟩ hf (V := vlC l) x hvx
    rw [fun_mem i, hS] at ht
    refine ⟨_, _, _, ht, hr, fun t ht => ?_, ?_, ?_, fun W sa sb sc da db dc _ hF => ?_⟩
    · rw [← hS] at ht
      have ht : t = i := by simpa using ht
      subst ht
      exact ⟨hi, fun t => ixM_none.2 (wy.free t)⟩
    · rw [← hS]; exact List.pairwise_singleton _ _
    · have := wy.len
      have := wy.hH
      rw [wyB_len]; omega
    · have hrs := hF.p.rs
      rw [hSi] at hrs ⊢
      rw [h1, hsz]
      exact bo_path W k P.old wy A.n40 hi sa sb 0 sc hrs _
  · rw [hS] at hok hr
    obtain ⟨h40, _, _, hc⟩ := Cv.errS_ok hok.2.1
    refine ⟨_, _, _, tre_batch hok, hr, fun t ht => ⟨(Cv.chain_mem hc t ht).2, batch_free hok ht⟩, chain_asc hc, ?_, fun W sa sb sc da db dc h5 hF => ?_⟩
    · have := tilX_len (Cv.rst_but o1 (ixs l) h40 hc)
      omega
    · have hrs := hF.p.rs
      rw [hS] at hrs ⊢
      rw [h2, hsz]
      exact bo_batch W k P.old o1 (ixs l) hok.2.1 (by have := asc_len hc (Nat.zero_le _); omega) sa sb 0 sc hrs _
theorem rt_map {c : Nat} {L : List ByteArray} (hL : L.length ≤ 2 ^ 40) : rtD c L L.length = dg c (rootT L.length (bagL c ((Cv.dnL 41 0 L.length).map fun b => nd c L b.1 b.2))) := by
  have := (cov_peaks c L L.length (Nat.le_refl _) hL).1
  rw [Cv.cov_zero L.length hL] at this
  rw [rtD, this]
theorem claims_sound {k : Int} {L : List ByteArray} {l : List (Nat × ByteArray)} {s : ByteArray} {P : PV} {Bs : List (Nat × Nat)} {K : List He} {R : List ByteArray} (A : Acc k L.length (rtD (clk k) L L.length) l s P) (T : AccT k L.length (rtD (clk k) L L.length) l P Bs K R) :
    (∃ q, wk (clk k) L.length L (ixM Bs) P.D (vlC l) (Cv.dnL 41 0 L.length) = some q ∧ Clx (clk k) q) ∨ soC L l := by
  have he := T.root
  rw [rt_map A.n40, ← T.tre.pk] at he
  rcases wk_clash (clk_le k) T.tre.lt T.tre.dsz he.symm with h | ⟨_, h⟩
  · exact .inl h
  · refine .inr fun c hc => ?_
    have hm : c.1 ∈ ixs l := List.mem_map.2 ⟨c, hc, rfl⟩
    obtain ⟨hi, hfree⟩ := T.free c.1 hm
    obtain ⟨A', H, B, wy⟩ := wy_ex L.length c.1 A.n40 hi
    obtain ⟨h1, h2⟩ := h _ wy.top
    have := (fp_alike (clk_le k) T.tre.lt T.tre.dsz H (c.1 / 2 ^ H) h1 h2 0 c.1 (Nat.zero_le _) rfl (fun t _ _ => hfree t)).2 rfl (by have := hfree 0; rwa [Nat.pow_zero, Nat.div_one] at this)
    rw [this]
    obtain ⟨j, hj, rfl⟩ := List.getElem_of_mem hc
    have e := vlC_is T.asc hj
    rw [List.getD_eq_getElem?_getD, List.getElem?_eq_getElem hj] at e
    exact e
end Go.Proofs.YtdocjikpcbmcgaaGreatDoor
namespace Go.Proofs.YtdocjikpcbmcgaaGreatDoor
open Go.RowKit
structure SdP (w : World) (k : Int) (L : List ByteArray) (M : Nat → Nat → Option Nat) (D : List ByteArray) (V : Nat → ByteArray) (Q : Nat → Prop) (v1 v2 : Value) : Prop where
  tb : Tb w
  e1 : ∀ W h i, Below w.heap.size w W → h ≤ 40 → (i + 1) * 2 ^ h ≤ L.length → Calls Tryz.prog 214 #[v1, bkV h i] W fun e w' => e = .returned (lsE (clk k) L M h i) ∧ Below W.heap.size W w'
  e2 : ∀ W h i, Below w.heap.size w W → h ≤ 40 → (i + 1) * 2 ^ h ≤ L.length → (h = 0 → M h i = none → Q i) → Calls Tryz.prog 216 #[v2, bkV h i] W fun e w' => e = .returned (prE D V M h i) ∧ Below W.heap.size W w'
  szL : ∀ s ∈ L, s.size ≤ 140737488351232
  szV : ∀ i, Q i → (V i).size < 2305843009213693952
  hM : ∀ h i j, M h i = some j → j < D.length
  hD : ∀ d ∈ D, d.size = clk k
  hL : L.length ≤ 1099511627776
theorem block_anyP {w : World} {k : Int} {L : List ByteArray} {M : Nat → Nat → Option Nat} {D : List ByteArray} {V : Nat → ByteArray} {Q : Nat → Prop} {v1 v2 : Value} (S : SdP w k L M D V Q v1 v2) : ∀ (h i : Nat), h ≤ 40 → (i + 1) * 2 ^ h ≤ L.length → Vis M Q h i → ∀ W, Below w.heap.size w W →
    Calls Tryz.prog 76 #[wkV k v1 107 v2, bkV h i] W fun e w' => e = .returned (snV (nd (clk k) L h i) (xd (clk k) M D V h i) (fp (clk k) L M D V h i)) ∧ Below W.heap.size W w' := by
  have hc := clk_le k
  have cut : ∀ (h i j : Nat), h ≤ 40 → (i + 1) * 2 ^ h ≤ L.length → M h i = some j → ∀ W, Below w.heap.size w W → Calls Tryz.prog 76 #[wkV k v1 107 v2, bkV h i] W fun e w' => e = .returned (snV (nd (clk k) L h i) (xd (clk k) M D V h i) (fp (clk k) L M D V h i)) ∧ Below W.heap.size W w' := fun h i j hh hi e W hb => by
    rw [fp_in e, xd_in e]
    refine block_cutP W k v1 v2 h i _ _ none (un_self _) (fun W' hb' => ?_) (fun W' hb' => ?_)
    · have := S.e1 W' h i (bnext hb hb') hh hi
      rwa [lsE, e, Option.isSome_some, if_pos rfl] at this
    · have := S.e2 W' h i (bnext hb hb') hh hi (fun _ h0 => by rw [e] at h0; cases h0)
      rwa [prE, e, Option.isSome_some, if_pos rfl] at this
  intro h
  induction h with
  | zero =>
    intro i hh hi hv W hb
    cases e : M 0 i with
    | some j => exact cut 0 i j hh hi e W hb
    | none =>
      have hq := hv e
      rw [fp_leaf e, xd_leaf e, nd]
      have hiL : i < L.length := idx_lt hi
      have hs := S.szL _ (getD_mem hiL)
      have hs2 := S.szV i hq
      refine block_leafP W k v1 v2 0 i (S.tb.next hb) _ _ (by rw [leafT_size]; omega) (by rw [leafT_size]; omega) _ _ rfl rfl _ rfl (fun W' hb' => ?_) (fun W' hb' => ?_)
      · have := S.e1 W' 0 i (bnext hb hb') hh hi
        rwa [lsE, e, Option.isSome_none, if_neg (by simp), if_neg (by simp)] at this
      · have := S.e2 W' 0 i (bnext hb hb') hh hi (fun _ _ => hq)
        rwa [prE, e, Option.isSome_none, if_neg (by simp), if_neg (by simp)] at this
  | succ h ih =>
    intro i hh hi hv W hb
    cases e : M (h + 1) i with
    | some j => exact cut (h + 1) i j hh hi e W hb
    | none =>
      obtain ⟨vl, vr⟩ := hv e
      obtain ⟨i1, i2⟩ := half_in hi
      rw [fp_node e, xd_node e, nd]
      have hiL : i < L.length := idx_lt hi
      have hLL := S.hL
      have z1 : ∀ a b, (nd (clk k) L a b).size ≤ 32 := fun a b => by rw [nd_size hc]; exact hc
      have z2 : ∀ a b, (xd (clk k) M D V a b).size ≤ 32 := fun a b => by rw [xd_size hc S.hM S.hD]; exact hc
      refine block_nodeP W k v1 v2 (h + 1) h i (2 * i) (2 * i + 1) rfl hh rfl rfl (by omega) (S.tb.next hb) (nd (clk k) L h (2 * i)) (xd (clk k) M D V h (2 * i)) (nd (clk k) L h (2 * i + 1)) (xd (clk k) M D V h (2 * i + 1)) _ _ ⟨z1 _ _, z2 _ _, z1 _ _, z2 _ _⟩ _ _ rfl rfl _ _ rfl rfl _ _ _ rfl rfl rfl (fun W' hb' => ?_) (fun W' hb' => ?_) (fun W' hb' => ih (2 * i) (by omega) i1 vl W' (bnext hb hb')) (fun W' hb' => ih (2 * i + 1) (by omega) i2 vr W' (bnext hb hb'))
      · have := S.e1 W' (h + 1) i (bnext hb hb') hh hi
        rwa [lsE, e, Option.isSome_none, if_neg (by simp), if_pos (by omega)] at this
      · have := S.e2 W' (h + 1) i (bnext hb hb') hh hi (fun h0 => by omega)
        rwa [prE, e, Option.isSome_none, if_neg (by simp), if_pos (by omega)] at this
theorem walk_anyP {w : World} {k : Int} {L : List ByteArray} {M : Nat → Nat → Option Nat} {D : List ByteArray} {V : Nat → ByteArray} {Q : Nat → Prop} {v1 v2 : Value} (S : SdP w k L M D V Q v1 v2) (n : Nat) (hn : n ≤ L.length) (B : List (Nat × Nat)) (hB : Cv.dnL 41 0 n = B) (hv : ∀ b ∈ B, Vis M Q b.1 b.2) (T : Pq) (hT : wk (clk k) n L M D V B = T) :
    Calls Tryz.prog 35 #[wkV k v1 107 v2, .int .u64 (n : Int)] w fun e w' => e = .returned (pv T) ∧ Below w.heap.size w w' := by
  have hc := clk_le k
  have h40 : n ≤ 2 ^ 40 := Nat.le_trans hn S.hL
  have hin := dn_in n h40
  rw [hB] at hin
  refine all_any w S.tb k v1 _ v2 n h40 B hB (fun b => nd (clk k) L b.1 b.2) (fun b => xd (clk k) M D V b.1 b.2) (fun b => by rw [nd_size hc]; exact hc) (fun b => by rw [xd_size hc S.hM S.hD]; exact hc) (fp (clk k) L M D V) (fun W b hb hbm => ?_) T hT
  have hb40 : b.1 ≤ 40 := Cv.pw40 (Nat.le_trans (by have := Nat.mul_le_mul_right (Pl.pw b.1) (show 1 ≤ b.2 + 1 by omega); rw [Nat.one_mul] at this; exact this) (Nat.le_trans (hin b hbm) h40))
  exact block_anyP S b.1 b.2 hb40 (Nat.le_trans (hin b hbm) hn) (hv b hbm) W hb
end Go.Proofs.YtdocjikpcbmcgaaGreatDoor
namespace Go.Proofs.YtdocjikpcbmcgaaGreatDoor
open Go.RowKit
open Cv (zl)
attribute [local go_sem ↓] Go.wp_at_zero Go.wp_at_succ
theorem set_ch (w : World) (b : Nat) (o : Obj) : ChT (fun x => x = b) w (ChangeMaps.setBlock w b o) :=
  ⟨rfl, rfl, rfl, by simp [ChangeMaps.setBlock], fun q hq => by simp [ChangeMaps.setBlock, show ¬ b = q from fun e => hq e.symm]⟩
theorem mi_ext {w : World} {b : Nat} {f g : Int → Nat → Option Nat} (h : Mi w b f) (e : ∀ x y, Fitb x y → f x y = g x y) : Mi w b g := by
  obtain ⟨es, c, h1, h2, h3, h4⟩ := h
  exact ⟨es, c, h1, h2, h3, fun x y s hf => by rw [← e x y hf]; exact h4 x y s hf⟩
set_option maxRecDepth 100000 in
set_option maxHeartbeats 2000000 in
theorem ofproof_any (w : World) (kd k : Int) (old n : Nat) (vs : Value) (da : Option Addr) (dn dc : Nat) (la : Option Addr) (ln lc : Nat) (ca : Option Addr) (cn cc : Nat) (Bs : List (Nat × Nat)) (hBf : ∀ b ∈ Bs, b.1 ≤ 40 ∧ b.2 < 2 ^ 40) (hBl : Bs.length ≤ 100000) (hBn : Bs.Nodup)
    (HBo : ∀ W, Below w.heap.size w W → Calls Tryz.prog 60 #[vP kd k old n vs (.slice da dn dc)] W fun e w' => ∃ v, e = .returned v ∧ Cv.OwnB w' W.heap.size v (zl Bs) ∧ Below W.heap.size W w')
    (T : Pq) (HA : ∀ W mb, Below w.heap.size w W → Mi W mb (fun h i => if 0 ≤ h then ixM Bs h.toNat i else none) → Calls Tryz.prog 35 #[wkV k (lsV k la ln lc (some mb)) 107 (prV' da dn dc ca cn cc (some mb)), .int .u64 (n : Int)] W fun e w' => e = .returned (pv T) ∧ Below W.heap.size W w') :
    Calls Tryz.prog 26 #[vP kd k old n vs (.slice da dn dc), .slice la ln lc, .slice ca cn cc] w fun e w' => e = .returned (pv T) ∧ Below w.heap.size w w' := by
  have HBo' := hide HBo
  have HA' := hide HA
  unfold vP at HBo' ⊢
  obtain ⟨F, hFe, h6, hb, hsz⟩ := box6 w (.int .i64 kd) (.int .i64 k) (.int .u64 (old : Int)) (.int .u64 (n : Int)) vs (.slice da dn dc)
  obtain ⟨F1, hF1, hp3, hb1⟩ := p3_nil F
  obtain ⟨F2, hF2⟩ : ∃ F2, F1.alloc (.map #[] 0) = F2 := ⟨_, rfl⟩
  have hm2 : Mi F2 F1.heap.size (fun _ _ => none) := by rw [← hF2]; exact mi_new F1
  have hb2 : Below F1.heap.size F1 F2 := by rw [← hF2]; exact bal (Below.refl _ _) _
  have hs2 : F1.heap.size = w.heap.size + 1 + 1 := by rw [← hF1, World.size_alloc, hsz]
  have hx6 := h6.next (bnext hb1 hb2)
  have hx3 := hp3.next hb2
  obtain ⟨c0, c1, c2, c3, c4, c5⟩ := hx6.cells
  have hbF := bnext hb (bnext hb1 hb2)
  rw [hsz] at hx3
  rw [hs2] at hm2
  have HQ := hide (And.intro hx6 (And.intro hx3 hm2))
  clear HBo HA h6 hp3 hm2 hb hb1 hb2 hx6 hx3
  have hmm := @run_makeMap Tryz.prog
  go_enter Tryz.func26, Tryz.ntmps26
  go_upto_region 2 with (fail)
  try rw [hFe, hF1, hF2]
  try rw [hs2]
  clear hFe hF1 hF2 hmm
  go_upto_region 3 with (go_at_call 60; with_reducible refine (HBo'.out _ hbF).mono ?_; rintro e w3 ⟨v, rfl, h3, hb3⟩; obtain ⟨a3, n3, cp3, rfl⟩ := Cv.own_slice h3)
  obtain ⟨a3', gB, n3', cp3', hv3, hrB, hrn⟩ := own_rdB h3 (fun x hx => by
    obtain ⟨b0, hb0, rfl⟩ := List.mem_map.1 hx
    have := hBf b0 hb0
    exact ⟨⟨by simp only; omega, by simp only; omega⟩, by simp only; omega⟩)
  injection hv3 with e1 e2 e3
  subst e1 e2 e3
  have hnl : Bs.length = n3 := by have := hrB.len; rwa [Cv.zl_len] at this
  subst hnl
  have hgB : 0 < Bs.length → w.heap.size + 1 + 1 < gB ∧ gB < w3.heap.size := fun h0 => by
    obtain ⟨g, hg1, hg2, hg3⟩ := own_some h3 (by rw [Cv.zl_len]; exact h0)
    have := hrB.addr h0
    rw [hg1] at this
    injection this with this
    injection this with this _
    subst this
    have := HQ.out.2.2.lt
    exact ⟨by omega, hg3⟩
  have HQ3 : Hid (Six w3 w.heap.size (.int .i64 kd) (.int .i64 k) (.int .u64 (old : Int)) (.int .u64 (n : Int)) vs (.slice da dn dc) ∧ P3 w3 (w.heap.size + 1) none ∧ Below w.heap.size w w3) := ⟨HQ.out.1.next hb3, HQ.out.2.1.next hb3, bnext hbF hb3⟩
  have HM0 : Hid (Mi w3 (w.heap.size + 1 + 1) (fun h i => if 0 ≤ h then ixM (Bs.take 0) h.toNat i else none)) := by
    refine mi_ext (HQ.out.2.2.same (hb3.block _ HQ.out.2.2.lt)) fun x y _ => ?_
    split
    · rw [List.take_zero]; exact (ixM_none.2 (by simp)).symm
    · rfl
  have hz : (Bs.length : Int) ≤ 100000 := by omega
  have HG := hide hgB
  have HR := hide hrB
  clear HQ h3 hb3 hbF c0 c1 c2 c3 c4 c5 hrn hgB hrB hs2 hsz HBo'
  go_loopg [14] Bs.length (fun g i wr => ∃ j : Nat, g = Bs.length - j ∧ j ≤ Bs.length ∧ i = .int .i64 (j : Int) ∧ Hid (Mi wr (w.heap.size + 1 + 1) (fun h i => if 0 ≤ h then ixM (Bs.take j) h.toNat i else none)) ∧ Hid (Bx (w.heap.size + 1 + 1) w3 wr))
  case atStart =>
    go_light
    exact ⟨0, rfl, Nat.zero_le _, rfl, HM0, Bx.refl _ _⟩
  case round =>
    clear HM0
    obtain ⟨j, rfl, hj, rfl, HMi, HBx⟩ := hrel
    by_cases hlt : j < Bs.length
    · have z0 : (0 : Int) ≤ (j : Int) := Int.natCast_nonneg _
      have z1 : (j : Int) < (Bs.length : Int) := by omega
      have hrd := HR.out
      obtain rfl := hrd.addr (by omega)
      obtain ⟨b, hbb⟩ : ∃ b, Bs.getD j (0, 0) = b := ⟨_, rfl⟩
      have hbm : b ∈ Bs := by rw [← hbb, List.getD_eq_getElem?_getD, List.getElem?_eq_getElem hlt]; exact List.getElem_mem _
      obtain ⟨k0, k1⟩ := hrd.cell j hlt
      have hzl : (zl Bs).getD j (0, 0) = ((b.1 : Int), b.2) := by
        rw [← hbb, List.getD_eq_getElem?_getD, List.getD_eq_getElem?_getD, zl, List.getElem?_map, List.getElem?_eq_getElem hlt]; rfl
      rw [hzl] at k0 k1
      simp only at k0 k1
      rw [Nat.zero_add] at k0 k1
      have hgB := HG.out (by omega)
      have hblk := HBx.out.block gB hgB.2 (by omega)
      replace k0 := (World.cell?_of_block (a := ⟨gB, j * 2, none⟩) hblk).trans k0
      replace k1 := (World.cell?_of_block (a := ⟨gB, j * 2 + 1, none⟩) hblk).trans k1
      obtain ⟨f1, f2⟩ := hBf b hbm
      have htk : Bs.take (j + 1) = Bs.take j ++ [b] := by rw [List.take_succ_eq_append_getElem hlt, ← hbb, List.getD_eq_getElem?_getD, List.getElem?_eq_getElem hlt]; rfl
      have hnm : b ∉ Bs.take j := fun hm => by
        have h1 : (Bs.take (j + 1)).Nodup := hBn.sublist (List.take_sublist _ _)
        rw [htk] at h1
        exact (List.nodup_append.1 h1).2.2 b hm b (by simp) rfl
      have hlen : (Bs.take j).length = j := by rw [List.length_take]; omega
      obtain ⟨bh, bk⟩ := b
      simp only at k0 k1 f1 f2
      obtain ⟨W1, hW1⟩ : ∃ W1, wr.alloc (.cells #[.int .i64 (bh : Int), .int .u64 (bk : Int)] 83) = W1 := ⟨_, rfl⟩
      have hb1 : Below wr.heap.size wr W1 := by rw [← hW1]; exact bal (Below.refl _ _) _
      have t1 : W1.heap[wr.heap.size]? = some (.cells #[.int .i64 (bh : Int), .int .u64 (bk : Int)] 83 (0, 0)) := by rw [← hW1]; exact heap_alloc_new wr _
      have d0 : W1.cell? ⟨wr.heap.size, 0, none⟩ = some (.int .i64 (bh : Int)) := by rw [cell_of_row W1 wr.heap.size 0 _ _ (0, 0) t1]; rfl
      have d1 : W1.cell? ⟨wr.heap.size, 1, none⟩ = some (.int .u64 (bk : Int)) := by rw [cell_of_row W1 wr.heap.size 1 _ _ (0, 0) t1]; rfl
      have hf : Fitb (bh : Int) bk := ⟨⟨by omega, by omega⟩, by omega⟩
      have hM1 : Mi W1 (w.heap.size + 1 + 1) _ := HMi.out.same (hb1.block _ HMi.out.lt)
      obtain ⟨es, cl, hrun, hM2⟩ := hM1.write hf j
      unfold kv ni at hrun
      have hch := set_ch W1 (w.heap.size + 1 + 1) (.map es cl)
      obtain ⟨W2, hW2⟩ : ∃ W2, ChangeMaps.setBlock W1 (w.heap.size + 1 + 1) (.map es cl) = W2 := ⟨_, rfl⟩
      rw [hW2] at hrun hM2 hch
      have HN : Hid (Mi W2 (w.heap.size + 1 + 1) (fun h i => if 0 ≤ h then ixM (Bs.take (j + 1)) h.toNat i else none) ∧ Bx (w.heap.size + 1 + 1) w3 W2) := by
        refine ⟨mi_ext hM2 fun x y _ => ?_, (HBx.out.next hb1).put hch⟩
        show (if x = (bh : Int) ∧ y = bk then some j else if 0 ≤ x then ixM (Bs.take j) x.toNat y else none) = if 0 ≤ x then ixM (Bs.take (j + 1)) x.toNat y else none
        by_cases hx : 0 ≤ x
        · rw [if_pos hx, if_pos hx, htk, ixM_app hnm, hlen]
          by_cases he : x = (bh : Int) ∧ y = bk
          · obtain ⟨rfl, rfl⟩ := he
            rw [if_pos ⟨rfl, rfl⟩, if_pos (by rw [Int.toNat_natCast])]
          · rw [if_neg he, if_neg (fun e => he ?_)]
            injection e with e1 e2
            exact ⟨by omega, e2⟩
        · rw [if_neg hx, if_neg hx, if_neg (fun e : x = (bh : Int) ∧ y = bk => hx (by omega))]
      clear hrd hzl hbb hbm hblk hgB htk hnm hlen t1 hM1 hM2 hch hW2 hf f1 f2 HMi HBx
      go_upto_region 5 with (fail)
      try rw [hW1]
      clear hW1 k0 k1
      go_wp2
      go_roundg (Bs.length - (j + 1))
      case rel =>
        go_light
        exact ⟨j + 1, rfl, by omega, by go_num, HN.out.1, HN.out.2⟩
      case measure => go_light; omega
    · obtain rfl : j = Bs.length := by omega
      have hz1 : ¬ (Bs.length : Int) < (Bs.length : Int) := by omega
      have hMf := HMi.out
      rw [List.take_length] at hMf
      have x6 : Six wr w.heap.size (.int .i64 kd) (.int .i64 k) (.int .u64 (old : Int)) (.int .u64 (n : Int)) vs (.slice da dn dc) := (HBx.out.block _ HQ3.out.1.lt (by omega)).trans HQ3.out.1
      have x3 : P3 wr (w.heap.size + 1) none := (HBx.out.block _ HQ3.out.2.1.lt (by omega)).trans HQ3.out.2.1
      have hbw : Below w.heap.size w wr := HQ3.out.2.2.trans (HBx.out.below (by omega) (Nat.le_of_lt HQ3.out.1.lt))
      obtain ⟨c0, c1, c2, c3, c4, c5⟩ := x6.cells
      have HAW := hide (HA'.out wr (w.heap.size + 1 + 1) hbw hMf)
      have H3 := hide x3
      clear HMi HBx HQ3 x6 x3 hMf HA' HR HG hlt hj
      go_wp2_with (go_at_call 35; with_reducible refine HAW.out.mono ?_; rintro e w8 ⟨rfl, hb8⟩; have h3 := H3.out.next hb8; obtain ⟨r0, r1, r2⟩ := h3.cells; have rf := h3.fz; simp only [pA, pB', Option.isSome_none] at r0 r1 r2)
      have hp := h3.put T
      have hch := putP_ch w8 (w.heap.size + 1) T
      obtain ⟨d0, d1, d2⟩ := hp.cells
      refine bodyPost_ret (v := pv T) (by simp [results, Tryz.results26, go_sem, d0, d1, d2]) rfl ⟨rfl, ?_⟩
      exact (bnext hbw hb8).trans (hch.below (by rintro b rfl; omega))
end Go.Proofs.YtdocjikpcbmcgaaGreatDoor
namespace Go.Proofs.YtdocjikpcbmcgaaGreatDoor
open Go.RowKit
attribute [local go_sem ↓] Go.wp_at_zero Go.wp_at_succ
abbrev tri (T : Pq) : Value := .tuple #[.string (pA T), .string (pB' T), .bool T.isSome]
section
variable (w : World) (k : Int) (la : Option Addr) (ln lc : Nat) (ca : Option Addr) (cn cc : Nat) (s : ByteArray) (o : Nat) (c : ByteArray)
    (HCm : Hid (∀ W, Below w.heap.size w W → Calls Tryz.prog 23 #[.int .i64 k, .slice la ln lc] W fun e w' => e = .returned (.agg #[.int .u64 (o : Int), .string c]) ∧ Below W.heap.size W w'))
include HCm
set_option maxRecDepth 100000 in
set_option maxHeartbeats 1000000 in
theorem ecl_no (r : Int) (hr : r ≠ 0)
    (HL : Hid (∀ W, Below w.heap.size w W → Calls Tryz.prog 11 #[.int .i64 k, .agg #[.int .u64 (o : Int), .string c], .slice ca cn cc, .string s] W fun e w' => e = .returned (.int .i64 r) ∧ Below W.heap.size W w')) :
    Calls Tryz.prog 10 #[.int .i64 k, .slice la ln lc, .slice ca cn cc, .string s] w fun e w' => e = .returned (tri none) ∧ Below w.heap.size w w' := by
  have hz : (r != 0) = true := by simpa using hr
  have hz2 : ¬ r = 0 := hr
  clear hr
  go_enter Tryz.func10, Tryz.ntmps10
  go_wp2_with (first
    | (go_at_call 23; with_reducible refine (HCm.out _ (Below.refl _ _)).mono ?_; rintro e w1 ⟨rfl, hb1⟩)
    | (go_at_call 11; with_reducible refine (HL.out _ hb1).mono ?_; rintro e w2 ⟨rfl, hb2⟩))
  exact bodyPost_ret (v := tri none) (by simp [results, Tryz.results10, go_sem, pA, pB']) rfl ⟨rfl, bnext hb1 hb2⟩
set_option maxRecDepth 100000 in
set_option maxHeartbeats 1000000 in
theorem ecl_so
    (HL : Hid (∀ W, Below w.heap.size w W → Calls Tryz.prog 11 #[.int .i64 k, .agg #[.int .u64 (o : Int), .string c], .slice ca cn cc, .string s] W fun e w' => e = .returned (.int .i64 0) ∧ Below W.heap.size W w'))
    (HS : Hid (∀ W, Below w.heap.size w W → Calls Tryz.prog 24 #[.slice ca cn cc, .slice la ln lc] W fun e w' => e = .returned (.bool true) ∧ Below W.heap.size W w')) :
    Calls Tryz.prog 10 #[.int .i64 k, .slice la ln lc, .slice ca cn cc, .string s] w fun e w' => e = .returned (tri none) ∧ Below w.heap.size w w' := by
  go_enter Tryz.func10, Tryz.ntmps10
  go_wp2_with (first
    | (go_at_call 23; with_reducible refine (HCm.out _ (Below.refl _ _)).mono ?_; rintro e w1 ⟨rfl, hb1⟩)
    | (go_at_call 11; with_reducible refine (HL.out _ hb1).mono ?_; rintro e w2 ⟨rfl, hb2⟩)
    | (go_at_call 24; with_reducible refine (HS.out _ (bnext hb1 hb2)).mono ?_; rintro e w3 ⟨rfl, hb3⟩))
  exact bodyPost_ret (v := tri none) (by simp [results, Tryz.results10, go_sem, pA, pB']) rfl ⟨rfl, bnext (bnext hb1 hb2) hb3⟩
set_option maxRecDepth 100000 in
set_option maxHeartbeats 1000000 in
theorem ecl_not (P : PV) (T : Pq)
    (HL : Hid (∀ W, Below w.heap.size w W → Calls Tryz.prog 11 #[.int .i64 k, .agg #[.int .u64 (o : Int), .string c], .slice ca cn cc, .string s] W fun e w' => e = .returned (.int .i64 0) ∧ Below W.heap.size W w'))
    (HS : Hid (∀ W, Below w.heap.size w W → Calls Tryz.prog 24 #[.slice ca cn cc, .slice la ln lc] W fun e w' => e = .returned (.bool false) ∧ Below W.heap.size W w'))
    (HD : Hid (∀ W, Calls Tryz.prog 25 #[.string s] W fun e w' => ∃ sa sb sc da db dc, e = .returned (.tuple #[vP P.kd P.k P.old P.size (.slice sa P.S.length sc) (.slice da P.D.length dc), .int .i64 0]) ∧ RdF w' sa sb sc da db dc P ∧ Below W.heap.size W w'))
    (HO : Hid (∀ W sa sb sc da db dc, Below w.heap.size w W → RdF W sa sb sc da db dc P → Calls Tryz.prog 26 #[vP P.kd P.k P.old P.size (.slice sa P.S.length sc) (.slice da P.D.length dc), .slice la ln lc, .slice ca cn cc] W fun e w' => e = .returned (pv T) ∧ Below W.heap.size W w')) :
    Calls Tryz.prog 10 #[.int .i64 k, .slice la ln lc, .slice ca cn cc, .string s] w fun e w' => e = .returned (tri T) ∧ Below w.heap.size w w' := by
  obtain ⟨kd, kk, old, size, S, D⟩ := P
  simp only [vP] at HD HO
  go_enter Tryz.func10, Tryz.ntmps10
  go_upto_region 4 with (first
    | (go_at_call 23; with_reducible refine (HCm.out _ (Below.refl _ _)).mono ?_; rintro e w1 ⟨rfl, hb1⟩)
    | (go_at_call 11; with_reducible refine (HL.out _ hb1).mono ?_; rintro e w2 ⟨rfl, hb2⟩)
    | (go_at_call 24; with_reducible refine (HS.out _ (bnext hb1 hb2)).mono ?_; rintro e w3 ⟨rfl, hb3⟩)
    | (go_at_call 25; with_reducible refine (HD.out _).mono ?_; rintro e w4 ⟨sa, sb, sc, da, db, dc, rfl, hF, hb4⟩))
  obtain ⟨F, hFe, h6, hb5, _⟩ := box6 w4 (.int .i64 kd) (.int .i64 kk) (.int .u64 (old : Int)) (.int .u64 (size : Int)) (.slice sa S.length sc) (.slice da D.length dc)
  try rw [hFe]
  clear hFe
  obtain ⟨c0, c1, c2, c3, c4, c5⟩ := h6.cells
  have hbF := bnext (bnext (bnext (bnext hb1 hb2) hb3) hb4) hb5
  have hF5 := hF.next hb5
  clear hF hb1 hb2 hb3 hb4 hb5 h6
  go_upto_region 5 with (go_at_call 26; with_reducible refine (HO.out _ _ _ _ _ _ _ hbF hF5).mono ?_; rintro e w6 ⟨rfl, hb6⟩)
  obtain ⟨G, hGe, h3, hb7, _⟩ := p3_box w6 T
  try rw [hGe]
  clear hGe
  obtain ⟨e0, e1, e2⟩ := h3.cells
  have HB : Hid (∀ t, Below w.heap.size w (G.drewN t)) := fun t => below_drewN (bnext (bnext hbF hb6) hb7) t
  clear hbF hb6 hb7 h3 hF5 c0 c1 c2 c3 c4 c5
  go_quiet (fail)
  go_wp2
  exact bodyPost_ret (v := tri T) (by simp [results, Tryz.results10, go_sem]) rfl ⟨rfl, HB.out _⟩
end
end Go.Proofs.YtdocjikpcbmcgaaGreatDoor
