/-
  Own work: EWkA, EWkB.
-/
import Derived.Deep.RegionWith
import Derived.Deep.RegionHeld3
import Derived.Test.YtdocjikpcbmcgaaGreatDoorQs22
namespace Go.Proofs.YtdocjikpcbmcgaaGreatDoor
open Go.RowKit
attribute [local go_sem ↓] Go.wp_at_zero Go.wp_at_succ
def pA (x : Pq) : ByteArray := match x with | some q => q.1 | none => ⟨#[]⟩
def pB' (x : Pq) : ByteArray := match x with | some q => q.2 | none => ⟨#[]⟩
abbrev pv (x : Pq) : Value := .agg #[.string (pA x), .string (pB' x), .bool x.isSome]
def P3 (w : World) (g : Nat) (x : Pq) : Prop := w.heap[g]? = some (.cells #[.string (pA x), .string (pB' x), .bool x.isSome] 59 (0, 0))
theorem P3.cells {w : World} {g : Nat} {x : Pq} (h : P3 w g x) : w.cell? ⟨g, 0, none⟩ = some (.string (pA x)) ∧ w.cell? ⟨g, 1, none⟩ = some (.string (pB' x)) ∧ w.cell? ⟨g, 2, none⟩ = some (.bool x.isSome) := by
  refine ⟨?_, ?_, ?_⟩
  · rw [cell_of_row w g 0 _ _ (0, 0) h]; rfl
  · rw [cell_of_row w g 1 _ _ (0, 0) h]; rfl
  · rw [cell_of_row w g 2 _ _ (0, 0) h]; rfl
theorem P3.lt {w : World} {g : Nat} {x : Pq} (h : P3 w g x) : g < w.heap.size := (Array.getElem?_eq_some_iff.1 h).1
theorem P3.next {w W : World} {g : Nat} {x : Pq} (h : P3 w g x) (hb : Below w.heap.size w W) : P3 W g x := (hb.block g h.lt).trans h
theorem p3_box (w : World) (x : Pq) : ∃ W, w.alloc (.cells #[.string (pA x), .string (pB' x), .bool x.isSome] 59) = W ∧ P3 W w.heap.size x ∧ Below w.heap.size w W ∧ W.heap.size = w.heap.size + 1 :=
  ⟨_, rfl, heap_alloc_new w _, bal (Below.refl _ _) _, World.size_alloc ..⟩
theorem pv_un {a b : ByteArray} (h : a ≠ b) : pv (un a b) = .agg #[.string a, .string b, .bool true] := by rw [un, if_neg h]; rfl
theorem un_same {a b : ByteArray} (h : a = b) : un a b = none := if_pos h
set_option maxRecDepth 100000 in
theorem or_any (w : World) (x y : Pq) : Calls Tryz.prog 73 #[pv x, pv y] w fun e w' => e = .returned (pv (x.or y)) ∧ Below w.heap.size w w' := by
  cases x with
  | none =>
    go_enter Tryz.func73, Tryz.ntmps73
    go_wp2
    refine bodyPost_ret (v := pv y) (by simp [results, Tryz.results73, go_sem]) rfl ⟨rfl, ?_⟩
    exact bal (bal (bal (Below.refl _ _) _) _) _
  | some q =>
    go_enter Tryz.func73, Tryz.ntmps73
    go_wp2
    refine bodyPost_ret (v := pv (some q)) (by simp [results, Tryz.results73, go_sem]) rfl ⟨rfl, ?_⟩
    exact bal (bal (bal (Below.refl _ _) _) _) _
set_option maxRecDepth 100000 in
theorem unlike_any (w : World) (a b : ByteArray) : Calls Tryz.prog 70 #[.string a, .string b] w fun e w' => e = .returned (pv (un a b)) ∧ Below w.heap.size w w' := by
  by_cases h : a = b
  · subst h
    rw [un_same rfl]
    go_enter Tryz.func70, Tryz.ntmps70
    go_wp2
    refine bodyPost_ret (v := pv none) (by simp [results, Tryz.results70, go_sem, pA, pB']) rfl ⟨rfl, ?_⟩
    exact bal (Below.refl _ _) _
  · rw [pv_un h]
    have hz := list_ne h
    have hzb := list_beq h
    clear h
    go_enter Tryz.func70, Tryz.ntmps70
    go_wp2
    refine bodyPost_ret (v := .agg #[.string a, .string b, .bool true]) (by simp [results, Tryz.results70, go_sem]) rfl ⟨rfl, ?_⟩
    exact bal (Below.refl _ _) _
theorem or_is (w : World) (x y r : Pq) (hr : x.or y = r) : Calls Tryz.prog 73 #[pv x, pv y] w fun e w' => e = .returned (pv r) ∧ Below w.heap.size w w' := by subst hr; exact or_any w x y
theorem unlike_is (w : World) (a b : ByteArray) (r : Pq) (hr : un a b = r) : Calls Tryz.prog 70 #[.string a, .string b] w fun e w' => e = .returned (pv r) ∧ Below w.heap.size w w' := by subst hr; exact unlike_any w a b
abbrev wo (t : ByteArray) : Value := .iface 173 (.string t)
abbrev ba (d : ByteArray) : Value := .iface 207 (.string d)
theorem as_wo (t : ByteArray) (w : World) : (Instr.typeAssert (wo t) 171 173 true).run Tryz.prog w = .ok (.tuple #[.string t, .bool true]) w := by kernel_rfl
theorem as_ba (t : ByteArray) (w : World) : (Instr.typeAssert (ba t) 171 173 true).run Tryz.prog w = .ok (.tuple #[.string ⟨#[]⟩, .bool false]) w := by kernel_rfl
theorem as_ba2 (t : ByteArray) (w : World) : (Instr.typeAssert (ba t) 171 207 true).run Tryz.prog w = .ok (.tuple #[.string t, .bool true]) w := by kernel_rfl
set_option maxRecDepth 100000 in
theorem told_wo (w : World) (t : ByteArray) : Calls Tryz.prog 129 #[wo t] w fun e w' => e = .returned (.string t) ∧ Below w.heap.size w w' := by
  have h1 := as_wo t
  go_enter Tryz.func129, Tryz.ntmps129
  go_wp2
  go_ret
  exact ⟨rfl, Below.refl _ _⟩
set_option maxRecDepth 100000 in
theorem told_ba (w : World) (t : ByteArray) : Calls Tryz.prog 129 #[ba t] w fun e w' => e = .returned (.string ⟨#[]⟩) ∧ Below w.heap.size w w' := by
  have h1 := as_ba t
  have h2 := as_ba2 t
  go_enter Tryz.func129, Tryz.ntmps129
  go_wp2
  go_ret
  exact ⟨rfl, Below.refl _ _⟩
set_option maxRecDepth 100000 in
theorem wodig_any (w : World) (ht : Tb w) (k : Int) (t : ByteArray) (hs : t.size < 4611686018427387904) (r : ByteArray) (hr : dg (clk k) t = r) : Calls Tryz.prog 222 #[.string t, .int .i64 k] w fun e w' => e = .returned (.string r) ∧ Below w.heap.size w w' := by
  have HO := hof_any w ht k t hs r hr
  go_enter Tryz.func222, Tryz.ntmps222
  go_wp2_with (go_at_call 126; with_reducible refine HO.mono ?_; rintro e w1 ⟨rfl, hb1⟩)
  go_ret
  exact ⟨rfl, hb1⟩
set_option maxRecDepth 100000 in
theorem badig_any (w : World) (k : Int) (t : ByteArray) : Calls Tryz.prog 223 #[.string t, .int .i64 k] w fun e w' => e = .returned (.string t) ∧ Below w.heap.size w w' := by
  go_enter Tryz.func223, Tryz.ntmps223
  go_wp2
  go_ret
  exact ⟨rfl, Below.refl _ _⟩
end Go.Proofs.YtdocjikpcbmcgaaGreatDoor
namespace Go.Proofs.YtdocjikpcbmcgaaGreatDoor
open Go.RowKit
attribute [local go_sem ↓] Go.wp_at_zero Go.wp_at_succ
abbrev putP (w : World) (g : Nat) (y : Pq) : World := ((w.setCell ⟨g, 0, none⟩ (.string (pA y))).setCell ⟨g, 1, none⟩ (.string (pB' y))).setCell ⟨g, 2, none⟩ (.bool y.isSome)
theorem P3.put {w : World} {g : Nat} {x : Pq} (h : P3 w g x) (y : Pq) : P3 (putP w g y) g y := heap_setCell_same _ g 2 _ _ _ (heap_setCell_same _ g 1 _ _ _ (heap_setCell_same w g 0 _ _ _ h))
theorem putP_ch (w : World) (g : Nat) (y : Pq) : ChT (fun b => b = g) w (putP w g y) := (((ChT.refl (fun b => b = g) w).set g 0 _ rfl).set g 1 _ rfl).set g 2 _ rfl
theorem P3.fz {w : World} {g : Nat} {x : Pq} (h : P3 w g x) : ∀ j, w.frozen? ⟨g, j, none⟩ = false := fun j => frozen_of_row w g j _ _ h
set_option maxRecDepth 100000 in
set_option maxHeartbeats 1000000 in
theorem bagtext_any (w : World) (ht : Tb w) (k : Int) (b off n cap : Nat) (P : List ByteArray) (hr : RdS w (some ⟨b, off, none⟩) b off n P) (h2 : 2 ≤ n) (hn : n ≤ cap) (hnm : n ≤ 1000) (hsz : ∀ s ∈ P, s.size ≤ 32) (r : ByteArray) (hq : bagT (P.getD 0 ByteArray.empty) (bagL (clk k) (P.drop 1)) = r) :
    Calls Tryz.prog 74 #[.int .i64 k, .slice (some ⟨b, off, none⟩) n cap] w fun e w' => e = .returned (.string r) ∧ Below w.heap.size w w' := by
  have hl := hr.hl
  subst hl
  obtain ⟨x, hx⟩ : ∃ x, P.getD 0 ByteArray.empty = x := ⟨_, rfl⟩
  obtain ⟨y, hy⟩ : ∃ y, bagL (clk k) (P.drop 1) = y := ⟨_, rfl⟩
  have hxs : x.size ≤ 32 := by rw [← hx]; exact hsz _ (getD_mem (by omega))
  have hys : y.size ≤ 32 := by rw [← hy]; exact bagL_size (clk_le k) (Nat.le_refl _) _ (fun s hs => hsz s (List.mem_of_mem_drop hs))
  have hd := rds_drop (H := 1) (dc := cap) hr hn (by omega) (fun h => by cases h) (ax := some ⟨b, off + 1, none⟩) (by rw [if_neg (by omega)]; simp [Addr.add_mid])
  have HB : Hid (∀ W, Below w.heap.size w W → Calls Tryz.prog 72 #[.int .i64 k, .slice (some ⟨b, off + 1, none⟩) (P.length - 1) (cap - 1)] W fun e w' => e = .returned (.string y) ∧ Below W.heap.size W w') := fun W hb => by
    have := bagged_any W (ht.next hb) k (some ⟨b, off + 1, none⟩) b (off + 1) _ (cap - 1) _ (hd.1.next hb (Nat.le_refl _)) (fun s hs => Nat.le_trans (hsz s (List.mem_of_mem_drop hs)) (by decide)) (by rw [List.length_drop]; omega) y hy
    rwa [List.length_drop] at this
  have HT : Hid (∀ W, Calls Tryz.prog 127 #[.string x, .string y] W fun e w' => e = .returned (.string r) ∧ Below W.heap.size W w') := fun W => bagt_any W x y (by omega) (by omega) r (by rw [← hx, ← hy]; exact hq)
  have c0 : ∀ W, Below w.heap.size w W → W.cell? ⟨b, off, none⟩ = some (.string x) := fun W hb => by
    have := (hr.next hb (Nat.le_refl _)).at (k := 0) (by omega)
    rw [hx] at this; exact this
  have C0 := hide c0
  have cc := c0 w (Below.refl _ _)
  have hb0 := Below.refl w.heap.size w
  have z1 : (1 : Int) ≤ (P.length : Int) := by omega
  have z2 : (P.length : Int) ≤ (cap : Int) := by omega
  have z3 : ¬ cap = 1 := by omega
  have z4 : (0 : Int) < (P.length : Int) := by omega
  have z5 : (P.length : Int) ≤ 1000 := by omega
  clear hr hsz hq hx hy hd ht h2 hn hnm hxs hys c0
  go_enter Tryz.func74, Tryz.ntmps74
  go_upto_region 1 with (fail)
  go_region_with (first
    | (go_at_call 72; with_reducible refine (HB.out _ (Below.refl _ w).drew).mono ?_; rintro e w1 ⟨rfl, hb1⟩; have cc1 := C0.out _ (bnext (Below.refl _ w).drew hb1); have hb9 := bnext (Below.refl _ w).drew hb1)
    | (go_at_call 127; with_reducible refine (HT.out _).mono ?_; rintro e w2 ⟨rfl, hb2⟩))
  all_goals
    go_wp2
    go_ret
    exact ⟨rfl, bnext hb9 hb2⟩
theorem bg_step {c : Nat} {P Q : List ByteArray} (hl : P.length = Q.length) {i : Nat} (hi : i + 1 < P.length) : bg c (P.drop i) (Q.drop i) = (un (bagT ((P.drop i).getD 0 ByteArray.empty) (bagL c ((P.drop i).drop 1))) (bagT ((Q.drop i).getD 0 ByteArray.empty) (bagL c ((Q.drop i).drop 1)))).or (bg c (P.drop (i + 1)) (Q.drop (i + 1))) := by
  rw [List.drop_eq_getElem_cons (show i < P.length by omega), List.drop_eq_getElem_cons (show i < Q.length by omega), List.drop_eq_getElem_cons hi, List.drop_eq_getElem_cons (show i + 1 < Q.length by omega), bg]
  rfl
theorem bg_end {c : Nat} {P Q : List ByteArray} (hl : P.length = Q.length) {i : Nat} (hi : P.length ≤ i + 1) : bg c (P.drop i) (Q.drop i) = none := by
  by_cases h : i < P.length
  · rw [List.drop_eq_getElem_cons h, List.drop_eq_nil_of_le (show P.length ≤ i + 1 by omega)]
    simp [bg]
  · rw [List.drop_eq_nil_of_le (show P.length ≤ i by omega)]
    simp [bg]
set_option maxRecDepth 100000 in
set_option maxHeartbeats 2000000 in
theorem aboveall_any (w : World) (ht : Tb w) (k : Int) (n : Nat) (pa : Option Addr) (pb po pc : Nat) (P : List ByteArray) (hP : RdS w pa pb po P.length P) (hpc : P.length ≤ pc) (hpn : pa = none → pc = 0) (qa : Option Addr) (qb qo qc : Nat) (Q : List ByteArray) (hQ : RdS w qa qb qo P.length Q) (hqc : P.length ≤ qc) (hqn : qa = none → qc = 0) (hm : P.length ≤ 100) (hPs : ∀ s ∈ P, s.size ≤ 32) (hQs : ∀ s ∈ Q, s.size ≤ 32) (T : Pq) (hT : tp (clk k) n P Q = T) :
    Calls Tryz.prog 34 #[.int .i64 k, .int .u64 (n : Int), .slice pa P.length pc, .slice qa P.length qc] w fun e w' => e = .returned (pv T) ∧ Below w.heap.size w w' := by
  have hl : P.length = Q.length := hQ.hl.symm
  obtain ⟨x, hx⟩ : ∃ x, bagL (clk k) P = x := ⟨_, rfl⟩
  obtain ⟨y, hy⟩ : ∃ y, bagL (clk k) Q = y := ⟨_, rfl⟩
  obtain ⟨x1, hx1⟩ : ∃ x1, rootT n x = x1 := ⟨_, rfl⟩
  obtain ⟨y1, hy1⟩ : ∃ y1, rootT n y = y1 := ⟨_, rfl⟩
  have hxs : x.size ≤ 32 := by rw [← hx]; exact bagL_size (clk_le k) (Nat.le_refl _) _ hPs
  have hys : y.size ≤ 32 := by rw [← hy]; exact bagL_size (clk_le k) (Nat.le_refl _) _ hQs
  have HB1 : Hid (∀ W, Below w.heap.size w W → Calls Tryz.prog 72 #[.int .i64 k, .slice pa P.length pc] W fun e w' => e = .returned (.string x) ∧ Below W.heap.size W w') := fun W hb => bagged_any W (ht.next hb) k pa pb po _ pc P (hP.next hb (Nat.le_refl _)) (fun s hs => Nat.le_trans (hPs s hs) (by decide)) (by omega) x hx
  have HB2 : Hid (∀ W, Below w.heap.size w W → Calls Tryz.prog 72 #[.int .i64 k, .slice qa P.length qc] W fun e w' => e = .returned (.string y) ∧ Below W.heap.size W w') := fun W hb => bagged_any W (ht.next hb) k qa qb qo _ qc Q (hQ.next hb (Nat.le_refl _)) (fun s hs => Nat.le_trans (hQs s hs) (by decide)) (by omega) y hy
  have HR1 : Hid (∀ W, Calls Tryz.prog 71 #[.int .u64 (n : Int), .string x] W fun e w' => e = .returned (.string x1) ∧ Below W.heap.size W w') := fun W => roott_any W n x (by omega) x1 hx1
  have HR2 : Hid (∀ W, Calls Tryz.prog 71 #[.int .u64 (n : Int), .string y] W fun e w' => e = .returned (.string y1) ∧ Below W.heap.size W w') := fun W => roott_any W n y (by omega) y1 hy1
  have HE : Hid ((un x1 y1).or (bg (clk k) (P.drop 0) (Q.drop 0)) = T) := by rw [← hx1, ← hy1, ← hx, ← hy, List.drop_zero, List.drop_zero]; exact hT
  have HS : Hid (∀ i, i + 1 < P.length → ∃ s t : ByteArray, bg (clk k) (P.drop i) (Q.drop i) = (un s t).or (bg (clk k) (P.drop (i + 1)) (Q.drop (i + 1))) ∧ pa = some ⟨pb, po, none⟩ ∧ qa = some ⟨qb, qo, none⟩ ∧ (∀ W, Below w.heap.size w W → Calls Tryz.prog 74 #[.int .i64 k, .slice (some ⟨pb, po + i, none⟩) (P.length - i) (pc - i)] W fun e w' => e = .returned (.string s) ∧ Below W.heap.size W w') ∧ (∀ W, Below w.heap.size w W → Calls Tryz.prog 74 #[.int .i64 k, .slice (some ⟨qb, qo + i, none⟩) (P.length - i) (qc - i)] W fun e w' => e = .returned (.string t) ∧ Below W.heap.size W w')) := fun i hi => by
    have ea := hP.ptr (by omega)
    have eb := hQ.ptr (by omega)
    subst ea eb
    refine ⟨_, _, bg_step hl hi, rfl, rfl, fun W hb => ?_, fun W hb => ?_⟩
    · have hd := rds_drop (H := i) (dc := pc) (hP.next hb (Nat.le_refl _)) hpc (by omega) (fun h => by cases h) (ax := some ⟨pb, po + i, none⟩) (by rw [if_neg (by omega)]; simp [Addr.add_mid])
      have := bagtext_any W (ht.next hb) k pb (po + i) _ (pc - i) _ hd.1 (by rw [List.length_drop]; omega) (by rw [List.length_drop]; omega) (by rw [List.length_drop]; omega) (fun s hs => hPs s (List.mem_of_mem_drop hs)) _ rfl
      rwa [List.length_drop] at this
    · have hQ' := hQ
      rw [hl] at hQ'
      have hd := rds_drop (H := i) (dc := qc) (hQ'.next hb (Nat.le_refl _)) (by omega) (by omega) (fun h => by cases h) (ax := some ⟨qb, qo + i, none⟩) (by rw [if_neg (by omega)]; simp [Addr.add_mid])
      have := bagtext_any W (ht.next hb) k qb (qo + i) _ (qc - i) _ hd.1 (by rw [List.length_drop]; omega) (by rw [List.length_drop]; omega) (by rw [List.length_drop]; omega) (fun s hs => hQs s (List.mem_of_mem_drop hs)) _ rfl
      rwa [List.length_drop, ← hl] at this
  have HF : Hid (∀ i, P.length ≤ i + 1 → bg (clk k) (P.drop i) (Q.drop i) = none) := fun i hi => bg_end hl hi
  have HC : Hid (P.length ≤ pc ∧ P.length ≤ qc) := ⟨hpc, hqc⟩
  have z5 : (P.length : Int) ≤ 100 := by omega
  have hb0 := bal (Below.refl w.heap.size w) (.cells #[.string ⟨#[]⟩, .string ⟨#[]⟩, .bool false] 59)
  clear hx hy hx1 hy1 hxs hys ht hP hQ hPs hQs hT hpc hqc hpn hqn hl
  go_enter Tryz.func34, Tryz.ntmps34
  go_upto_region 1 with (fail)
  go_upto_region 2 with (first
    | (go_at_call 72; with_reducible refine (HB1.out _ hb0).mono ?_; rintro e w1 ⟨rfl, hb1⟩)
    | (go_at_call 72; with_reducible refine (HB2.out _ (bnext (bnext hb0 hb1) hb2)).mono ?_; rintro e w3 ⟨rfl, hb3⟩)
    | (go_at_call 71; with_reducible refine (HR1.out _).mono ?_; rintro e w2 ⟨rfl, hb2⟩)
    | (go_at_call 71; with_reducible refine (HR2.out _).mono ?_; rintro e w4 ⟨rfl, hb4⟩)
    | (go_at_call 70; with_reducible refine (unlike_any _ _ _).mono ?_; rintro e w5 ⟨rfl, hb5⟩))
  obtain ⟨F, hFe, h3, hb6, _⟩ := p3_box w5 (un x1 y1)
  try rw [hFe]
  clear hFe
  have hbF := bnext (bnext (bnext (bnext (bnext (bnext hb0 hb1) hb2) hb3) hb4) hb5) hb6
  have hR : F.heap[w.heap.size]? = some (.cells #[.string ⟨#[]⟩, .string ⟨#[]⟩, .bool false] 59 (0, 0)) := by
    have := heap_alloc_new w (.cells #[.string ⟨#[]⟩, .string ⟨#[]⟩, .bool false] 59)
    exact ((bnext (bnext (bnext (bnext (bnext hb1 hb2) hb3) hb4) hb5) hb6).block _ (by rw [World.size_alloc]; omega)).trans this
  obtain ⟨g5, hg5⟩ : ∃ g5, w5.heap.size = g5 := ⟨_, rfl⟩
  have hgw : w.heap.size < g5 := by
    have h1 := hb0.size; have h2 := hb1.size; have h3 := hb2.size; have h4 := hb3.size; have h5 := hb4.size; have h6 := hb5.size
    rw [World.size_alloc] at h2; omega
  rw [hg5] at h3
  try rw [hg5]
  clear hg5 hb0 hb1 hb2 hb3 hb4 hb5 hb6 HB1 HB2 HR1 HR2
  have H3 := hide h3
  have HR := hide hR
  clear h3 hR
  go_wp2
  go_loopg [25] P.length (fun g i wr => ∃ (j : Nat) (X : Pq), g = P.length - j ∧ j ≤ P.length ∧ i = .int .i64 (j : Int) ∧ Hid (X.or (bg (clk k) (P.drop j) (Q.drop j)) = T) ∧ Hid (P3 wr g5 X) ∧ Hid (Below w.heap.size w wr ∧ wr.heap[w.heap.size]? = some (.cells #[.string ⟨#[]⟩, .string ⟨#[]⟩, .bool false] 59 (0, 0))))
  case atStart =>
    go_light
    exact ⟨0, _, rfl, Nat.zero_le _, rfl, HE, H3, hide ⟨hbF, HR.out⟩⟩
  case round =>
    clear hbF HE H3 HR
    obtain ⟨j, X, rfl, hj, rfl, HE, H3, HW⟩ := hrel
    have h3 := H3.out
    obtain ⟨c0, c1, c2⟩ := h3.cells
    have fz := h3.fz
    by_cases hlt : j + 1 < P.length
    · have hz : (j : Int) < (P.length : Int) - 1 := by omega
      have z0 : (0 : Int) ≤ (j : Int) := Int.natCast_nonneg _
      obtain ⟨s, t, e1, rfl, rfl, HS1, HS2⟩ := HS.out j hlt
      have HS1 := hide HS1
      have HS2 := hide HS2
      have z1 : (j : Int) ≤ (P.length : Int) := by omega
      have z2 : (P.length : Int) ≤ (pc : Int) := by have := HC.out.1; omega
      have z3 : (P.length : Int) ≤ (qc : Int) := by have := HC.out.2; omega
      have z4 : ¬ pc = j := by have := HC.out.1; omega
      have z6 : ¬ qc = j := by have := HC.out.2; omega
      obtain ⟨U, hU⟩ : ∃ U, un s t = U := ⟨_, rfl⟩
      obtain ⟨Y, hY⟩ : ∃ Y, X.or U = Y := ⟨_, rfl⟩
      have HUn : Hid (∀ W, Calls Tryz.prog 70 #[.string s, .string t] W fun e w' => e = .returned (pv U) ∧ Below W.heap.size W w') := fun W => unlike_is W s t U hU
      have HOr : Hid (∀ W, Calls Tryz.prog 73 #[pv X, pv U] W fun e w' => e = .returned (pv Y) ∧ Below W.heap.size W w') := fun W => or_is W X U Y hY
      have HE2 : Hid (Y.or (bg (clk k) (P.drop (j + 1)) (Q.drop (j + 1))) = T) := by
        have := HE.out
        rw [e1, hU] at this
        rw [← this, ← hY]
        show _ = _
        cases X <;> rfl
      have hbw := HW.out.1
      have HK : Hid (∀ W, Below wr.heap.size wr W → W.cell? ⟨g5, 0, none⟩ = some (.string (pA X)) ∧ W.cell? ⟨g5, 1, none⟩ = some (.string (pB' X)) ∧ W.cell? ⟨g5, 2, none⟩ = some (.bool X.isSome) ∧ ∀ j, W.frozen? ⟨g5, j, none⟩ = false) := fun W hb => by
        have := H3.out.next hb
        obtain ⟨a, b, c⟩ := this.cells
        exact ⟨a, b, c, this.fz⟩
      have hc9 := (Below.refl wr.heap.size wr).drew
      clear e1 HE h3 hU hY
      go_upto_region 5 with (fail)
      go_region_with (first
        | (go_at_call 74; first
            | (with_reducible refine (HS1.out _ (bnext hbw hc9)).mono ?_)
            | (with_reducible refine (HS2.out _ (bnext hbw hc9)).mono ?_)
           rintro e w1 ⟨rfl, hb1⟩; replace hc9 := bnext hc9 hb1; obtain ⟨c0, c1, c2, fz⟩ := HK.out _ hc9)
        | (go_at_call 70; with_reducible refine (HUn.out _).mono ?_; rintro e w3 ⟨rfl, hb3⟩; replace hc9 := bnext hc9 hb3; obtain ⟨c0, c1, c2, fz⟩ := HK.out _ hc9)
        | (go_at_call 73; with_reducible refine (HOr.out _).mono ?_; rintro e w4 ⟨rfl, hb4⟩; replace hc9 := bnext hc9 hb4; obtain ⟨c0, c1, c2, fz⟩ := HK.out _ hc9))
      all_goals
        have hp := (H3.out.next hc9).put Y
        have hch := putP_ch w4 g5 Y
        have HP := hide hp
        have HCh := hide hch
        clear hp hch c0 c1 c2 fz
        go_wp2
        go_roundg (P.length - (j + 1))
        case rel =>
          go_light
          exact ⟨j + 1, Y, rfl, by omega, by go_num, HE2, HP, hide ⟨(bnext hbw hc9).trans (HCh.out.below (by rintro b rfl; omega)), (HCh.out.block _ (by omega)).trans ((hc9.block _ (by have := (Array.getElem?_eq_some_iff.1 HW.out.2).1; exact this)).trans HW.out.2)⟩⟩
        case measure => go_light; omega
    · have hz : ¬ (j : Int) < (P.length : Int) - 1 := by omega
      have e1 := HF.out j (by omega)
      have e2 : X = T := by
        have := HE.out
        rw [e1] at this
        rw [← this]
        cases X <;> rfl
      subst e2
      have hW := HW.out
      have r0 : wr.cell? ⟨w.heap.size, 0, none⟩ = some (.string ⟨#[]⟩) := by rw [cell_of_row wr w.heap.size 0 _ _ (0, 0) hW.2]; rfl
      have r1 : wr.cell? ⟨w.heap.size, 1, none⟩ = some (.string ⟨#[]⟩) := by rw [cell_of_row wr w.heap.size 1 _ _ (0, 0) hW.2]; rfl
      have r2 : wr.cell? ⟨w.heap.size, 2, none⟩ = some (.bool false) := by rw [cell_of_row wr w.heap.size 2 _ _ (0, 0) hW.2]; rfl
      have rf : ∀ j, wr.frozen? ⟨w.heap.size, j, none⟩ = false := fun j => frozen_of_row wr w.heap.size j _ _ hW.2
      have hp := P3.put (x := none) (show P3 wr w.heap.size none from hW.2) X
      have hch := putP_ch wr w.heap.size X
      obtain ⟨d0, d1, d2⟩ := hp.cells
      clear e1 HE HF HS hp
      go_wp2
      refine bodyPost_ret (v := pv X) (by simp [results, Tryz.results34, go_sem, d0, d1, d2]) rfl ⟨rfl, ?_⟩
      exact hW.1.trans (hch.below (by rintro b rfl; omega))
end Go.Proofs.YtdocjikpcbmcgaaGreatDoor
