/-
  Own work: TGrow, TWalkA.
-/
import Derived.Lib.AppendZeros
import Derived.Test.YtdocjikpcbmcgaaGreatDoorQs09
namespace Go.Proofs.YtdocjikpcbmcgaaGreatDoor
open Go.RowKit
open Cv (RdC Ap)
attribute [local go_sem ↓] Go.wp_at_zero Go.wp_at_succ
abbrev dn : Value := .slice none 0 0
abbrev cS (l : List ByteArray) : List Value := l.map Value.string
theorem cS_len (l : List ByteArray) : (cS l).length = l.length * 1 := by simp [cS]
theorem cS_app (l m : List ByteArray) : cS (l ++ m) = cS l ++ cS m := List.map_append
theorem cS_one (l : List ByteArray) : ∀ u ∈ cS l, u.oneCell' = true := by
  intro u hu; obtain ⟨y, _, rfl⟩ := List.mem_map.1 hu; rfl
theorem rds_rdc {w : World} {ao : Option Addr} {b off len cap : Nat} {ss : List ByteArray} (h : RdS w ao b off len ss) (hn : ao = none → cap = 0) : RdC w (.slice ao len cap) len (cS ss) := by
  refine ⟨ao, cap, rfl, fun e => ⟨?_, hn e⟩, fun ad ha j c hj => ?_⟩
  · apply Classical.byContradiction
    intro h0
    have := h.ptr (by omega)
    rw [e] at this
    cases this
  · have hj' : j < len := by have := (List.getElem?_eq_some_iff.1 hj).1; rw [List.length_map, h.hl] at this; exact this
    have := h.ptr (by omega)
    rw [ha] at this
    cases this
    rw [Addr.add_mid]
    exact h.rng j c hj
theorem below_drew_alloc (w : World) (o : Obj) : Below w.heap.size w (w.drew.alloc o) := (Below.refl w.heap.size w).drew.alloc (by simp) o
theorem take_succ_getD {α : Type} (d : α) (l : List α) (j : Nat) (h : j < l.length) : l.take (j + 1) = l.take j ++ [l.getD j d] := by
  rw [List.take_add_one, List.getD_eq_getElem?_getD, List.getElem?_eq_getElem h]; rfl
theorem catl_le {α : Type} (Ls : List (List α)) (j : Nat) : (Ls.take j).flatten.length ≤ Ls.flatten.length := by
  have := congrArg (fun x : List (List α) => x.flatten.length) (List.take_append_drop j Ls)
  simp only [List.flatten_append, List.length_append] at this
  omega
set_option maxRecDepth 100000 in
theorem grow_S (w : World) (n : Nat) (hn : n ≤ 8796093022208) :
    Calls Tryz.prog 165 #[.slice none 0 0, .int .i64 (n : Int)] w fun e w' => ∃ v, e = .returned v ∧ w'.ownsRow w.heap.size 9 1 v 0 [] ∧ Below w.heap.size w w' := by
  obtain ⟨i0, hi, hz0, hz1, hz2⟩ := info_parts Tryz.infoS
  by_cases h0 : n = 0
  · subst h0
    clear hn
    go_enter Tryz.func165, Tryz.ntmps165
    go_wp2
    go_ret
    exact ⟨_, rfl, World.ownsRow_nil _ _ _ _, Below.refl _ _⟩
  · have hr := fun ty => Lib.run_append_nil_zeros (P := Tryz.prog) w 22 3 ty 9 i0 _ .i64 .i64 Tryz.underlying22 Tryz.underlying3 hi hz0 n (by omega) (by rw [hz1]; decide) (by omega) (by rw [hz2]; omega)
    obtain ⟨G, hG⟩ : ∃ G, grownCap w n 0 9 = G := ⟨_, rfl⟩
    have hge := grownCap_ge w n 0 9
    have hle := grownCap_le_maxLen w n 0 9 (by unfold maxLen; omega)
    rw [hG] at hge hle hr
    have HO : Hid ((w.drew.alloc (.cells (Builtin.zeroCells (Value.cells (.string ByteArray.empty)) n ++ Builtin.zeroCells (Value.cells (.string ByteArray.empty)) (G - n)) 9)).ownsRow w.heap.size 9 1 (.slice (some ⟨w.heap.size, 0, none⟩) 0 G) 0 []) := by
      refine ⟨rfl, .inr ⟨w.heap.size, G, _, rfl, Nat.le_refl _, heap_alloc_new w.drew _, Nat.zero_le _, hle, ?_, by simp⟩⟩
      rw [Array.size_append, size_zeroCells, size_zeroCells, show (Value.cells (.string ByteArray.empty)).size = 1 from rfl, ← Nat.add_mul]
      congr 1
      omega
    have hG63 : G ≤ 9223372036854775807 := by unfold maxLen at hle; omega
    have hn0 : (0 : Int) < (n : Int) := by omega
    have hnz : ¬ (n : Int) < 0 := by omega
    clear hG hge hle hi hz0 hz1 hz2 h0
    go_enter Tryz.func165, Tryz.ntmps165
    go_wp2_with (at_builtin; refine Lib.wpList_append_run _ rfl _ _ _ _ rfl _ _ rfl rfl _ _ (hr _) ?_)
    go_ret
    exact ⟨_, rfl, HO.out, below_drew_alloc w _⟩
structure CatS (w : World) (g0 : Nat) (us : List Value) (Ls : List (List (ByteArray))) : Prop where
  len : us.length = Ls.length
  cell : ∀ j, j < us.length → w.cell? ⟨g0, j, none⟩ = some (us.getD j dn)
  rd : ∀ j, j < us.length → RdC w (us.getD j dn) (Ls.getD j []).length (cS (Ls.getD j []))
theorem CatS.next {w W : World} {g0 : Nat} {us : List Value} {Ls : List (List (ByteArray))} (h : CatS w g0 us Ls) (hb : Below w.heap.size w W) : CatS W g0 us Ls :=
  ⟨h.len, fun j hj => (hb.cell (World.block_lt_of_cell? w _ (h.cell j hj))).trans (h.cell j hj), fun j hj => Cv.rdc_keep (h.rd j hj) hb⟩
set_option maxRecDepth 100000 in
set_option maxHeartbeats 1000000 in
theorem concat_S (w : World) (g0 c0 : Nat) (us : List Value) (Ls : List (List (ByteArray))) (h : CatS w g0 us Ls) (hu : us.length ≤ 1000) (hm : Ls.flatten.length ≤ 8796093022208) (cl : List (ByteArray)) (hcl : Ls.flatten = cl) :
    Calls Tryz.prog 117 #[.slice (some ⟨g0, 0, none⟩) us.length c0] w fun e w' => ∃ v, e = .returned v ∧ w'.ownsRow w.heap.size 9 1 v cl.length (cS cl) ∧ Below w.heap.size w w' := by
  obtain ⟨i0, hi, hz0, hz1, hz2⟩ := info_parts Tryz.infoS
  have HC : Hid (∀ W, Below w.heap.size w W → CatS W g0 us Ls) := fun W hb => h.next hb
  have HX : Hid (us.length = Ls.length ∧ us.length ≤ 1000 ∧ Ls.flatten.length ≤ 8796093022208 ∧ Ls.flatten = cl) := ⟨h.len, hu, hm, hcl⟩
  have h63 : (us.length : Int) ≤ 1000 := by omega
  have hb0 := Below.refl w.heap.size w
  have HI : Hid (Tryz.prog.info? 9 = some i0 ∧ i0.zero = some (.string ByteArray.empty) ∧ i0.size = 1 ∧ i0.bytes = 16) := ⟨hi, hz0, hz1, hz2⟩
  clear h hu hm hcl hi hz0 hz1 hz2
  go_enter Tryz.func117, Tryz.ntmps117
  go_wp2
  go_loopg [3, 11] us.length (fun g s i wr => ∃ j : Nat, j ≤ us.length ∧ g = us.length - j ∧ i = .int .i64 (j : Int) ∧ s = .int .i64 ((Ls.take j).flatten.length : Int) ∧ Below w.heap.size w wr)
  case atStart =>
    go_light
    exact ⟨0, Nat.zero_le _, rfl, rfl, rfl, hb0⟩
  case round =>
    clear hb0
    obtain ⟨j, hj, rfl, rfl, rfl, hb⟩ := hrel
    by_cases hlt : j < us.length
    · have hz : (j : Int) < (us.length : Int) := by omega
      have hz0 : (0 : Int) ≤ (j : Int) := Int.natCast_nonneg _
      have cj := (HC.out wr hb).cell j hlt
      obtain ⟨ao, cap, hv, _, _⟩ := (HC.out wr hb).rd j hlt
      rw [hv] at cj
      obtain ⟨m, hmm⟩ : ∃ m, (Ls.getD j []).length = m := ⟨_, rfl⟩
      rw [hmm] at cj
      have hs : (Ls.take (j + 1)).flatten.length = (Ls.take j).flatten.length + m := by
        rw [take_succ_getD [] Ls j (by have := HX.out.1; omega), List.flatten_append, List.length_append, List.flatten_singleton, hmm]
      have hle := catl_le Ls (j + 1)
      obtain ⟨a, ha⟩ : ∃ a, (Ls.take j).flatten.length = a := ⟨_, rfl⟩
      rw [ha] at hs ⊢
      have hax : a + m ≤ 8796093022208 := by have := HX.out.2.2.1; omega
      have e1 : IntKind.i64.wrap ((a : Int) + (m : Int)) = (a : Int) + (m : Int) := by rw [IntKind.wrap_i64]; omega
      have hpos : ¬ (a : Int) + (m : Int) < 0 := by omega
      have HS : Hid ((a : Int) + (m : Int) = ((Ls.take (j + 1)).flatten.length : Nat)) := by show _ = _; rw [hs]; omega
      clear hs hle ha hmm hv hax
      go_wp2
      go_roundg (us.length - (j + 1))
      case rel =>
        go_light
        exact ⟨j + 1, by omega, rfl, by go_num, by rw [HS.out], hb⟩
      case measure => go_light; omega
    · obtain rfl : j = us.length := by omega
      have hz : ¬ ((us.length : Int) < (us.length : Int)) := by omega
      have ha : (Ls.take us.length).flatten.length = Ls.flatten.length := by rw [HX.out.1, List.take_length]
      rw [ha]
      have HG : Hid (∀ W, Calls Tryz.prog 165 #[.slice none 0 0, .int .i64 (Ls.flatten.length : Int)] W fun e w' => ∃ v, e = .returned v ∧ w'.ownsRow W.heap.size 9 1 v 0 [] ∧ Below W.heap.size W w') := fun W => grow_S W _ HX.out.2.2.1
      obtain ⟨q, hq⟩ : ∃ q, Ls.flatten.length = q := ⟨_, rfl⟩
      rw [hq] at HG ⊢
      clear ha hlt hj hq
      go_wp2_with (go_at_call 165; with_reducible refine (HG.out _).mono ?_; rintro e w1 ⟨v, rfl, ho, hb1⟩)
      have hb2 := bnext hb hb1
      have ho2 : w1.ownsRow w.heap.size 9 1 v 0 [] := ho.mono hb.size
      clear hb hb1 ho
      go_wp2
      go_loopg [6, 27] us.length (fun g v i wr => ∃ j : Nat, j ≤ us.length ∧ g = us.length - j ∧ i = .int .i64 (j : Int) ∧ wr.ownsRow w.heap.size 9 1 v (Ls.take j).flatten.length (cS (Ls.take j).flatten) ∧ Below w.heap.size w wr)
      case atStart =>
        go_light
        exact ⟨0, Nat.zero_le _, rfl, rfl, ho2, hb2⟩
      case round =>
        clear hb2 ho2
        obtain ⟨j, hj, rfl, rfl, ho, hb⟩ := hrel
        by_cases hlt : j < us.length
        · have hz : (j : Int) < (us.length : Int) := by omega
          have hz0 : (0 : Int) ≤ (j : Int) := Int.natCast_nonneg _
          have cj := (HC.out wr hb).cell j hlt
          have rj := (HC.out wr hb).rd j hlt
          obtain ⟨u, hu⟩ : ∃ u, us.getD j dn = u := ⟨_, rfl⟩
          obtain ⟨l, hl⟩ : ∃ l, Ls.getD j [] = l := ⟨_, rfl⟩
          rw [hu] at cj rj
          rw [hl] at rj
          have ht : (Ls.take (j + 1)).flatten = (Ls.take j).flatten ++ l := by
            rw [take_succ_getD [] Ls j (by have := HX.out.1; omega), List.flatten_append, List.flatten_singleton, hl]
          have hle := catl_le Ls (j + 1)
          obtain ⟨a, ha⟩ : ∃ a, (Ls.take j).flatten = a := ⟨_, rfl⟩
          rw [ha] at ht ho
          rw [ht, List.length_append] at hle
          have HS : Hid ((Ls.take (j + 1)).flatten = a ++ l ∧ a.length + l.length ≤ 8796093022208 ∧ RdC wr u l.length (cS l) ∧ wr.ownsRow w.heap.size 9 1 u6 a.length (cS a) ∧ w.heap.size ≤ wr.heap.size) := ⟨ht, by have := HX.out.2.2.1; omega, rj, ho, hb.size⟩
          clear ht hle ha hl hu ho rj
          go_wp2_with (at_builtin; refine Cv.wpList_append_ap _ rfl _ _ _ rfl w.heap.size 9 i0 (.string ByteArray.empty) 1 16 Tryz.underlying22 HI.out.1 HI.out.2.1 HI.out.2.2.1 HI.out.2.2.2 rfl (by decide) _ a.length (cS a) rfl HS.out.2.2.2.1 _ l.length (cS l) rfl HS.out.2.2.1 (cS_len l) (cS_one l) ?c1 ?c2 HS.out.2.2.2.2 ?_)
          case c1 => have := HS.out.2.1; unfold maxLen; omega
          case c2 => have := HS.out.2.1; omega
          intro v' w1 hap
          have HY : Hid (w1.ownsRow w.heap.size 9 1 v' (a ++ l).length (cS (a ++ l)) ∧ Below w.heap.size w w1) := by
            refine ⟨?_, (Cv.ownB_step0 hb HS.out.2.2.2.2 HS.out.2.2.2.1 hap.grown).1⟩
            rw [List.length_append, cS_app]; exact hap.own
          clear hap hb
          go_wp2
          go_roundg (us.length - (j + 1))
          case rel =>
            go_light
            refine ⟨j + 1, by omega, rfl, by go_num, ?_, HY.out.2⟩
            rw [HS.out.1]; exact HY.out.1
          case measure => go_light; omega
        · obtain rfl : j = us.length := by omega
          have hz : ¬ ((us.length : Int) < (us.length : Int)) := by omega
          rw [HX.out.1, List.take_length, HX.out.2.2.2] at ho
          clear hlt hj
          go_wp2
          go_ret
          exact ⟨_, rfl, ho, hb⟩
set_option maxRecDepth 100000 in
theorem grow_B (w : World) (n : Nat) (hn : n ≤ 8796093022208) :
    Calls Tryz.prog 163 #[.slice none 0 0, .int .i64 (n : Int)] w fun e w' => ∃ v, e = .returned v ∧ w'.ownsRow w.heap.size 83 2 v 0 [] ∧ Below w.heap.size w w' := by
  obtain ⟨i0, hi, hz0, hz1, hz2⟩ := info_parts Cv.Tryz.infoB
  by_cases h0 : n = 0
  · subst h0
    clear hn
    go_enter Tryz.func163, Tryz.ntmps163
    go_wp2
    go_ret
    exact ⟨_, rfl, World.ownsRow_nil _ _ _ _, Below.refl _ _⟩
  · have hr := fun ty => Lib.run_append_nil_zeros (P := Tryz.prog) w 77 3 ty 83 i0 _ .i64 .i64 Tryz.underlying77 Tryz.underlying3 hi hz0 n (by omega) (by rw [hz1]; decide) (by omega) (by rw [hz2]; omega)
    obtain ⟨G, hG⟩ : ∃ G, grownCap w n 0 83 = G := ⟨_, rfl⟩
    have hge := grownCap_ge w n 0 83
    have hle := grownCap_le_maxLen w n 0 83 (by unfold maxLen; omega)
    rw [hG] at hge hle hr
    have HO : Hid ((w.drew.alloc (.cells (Builtin.zeroCells (Value.cells (.agg #[.int .i64 0, .int .u64 0])) n ++ Builtin.zeroCells (Value.cells (.agg #[.int .i64 0, .int .u64 0])) (G - n)) 83)).ownsRow w.heap.size 83 2 (.slice (some ⟨w.heap.size, 0, none⟩) 0 G) 0 []) := by
      refine ⟨rfl, .inr ⟨w.heap.size, G, _, rfl, Nat.le_refl _, heap_alloc_new w.drew _, Nat.zero_le _, hle, ?_, by simp⟩⟩
      rw [Array.size_append, size_zeroCells, size_zeroCells, show (Value.cells (.agg #[.int .i64 0, .int .u64 0])).size = 2 from rfl, ← Nat.add_mul]
      congr 1
      omega
    have hG63 : G ≤ 9223372036854775807 := by unfold maxLen at hle; omega
    have hn0 : (0 : Int) < (n : Int) := by omega
    have hnz : ¬ (n : Int) < 0 := by omega
    clear hG hge hle hi hz0 hz1 hz2 h0
    go_enter Tryz.func163, Tryz.ntmps163
    go_wp2_with (at_builtin; refine Lib.wpList_append_run _ rfl _ _ _ _ rfl _ _ rfl rfl _ _ (hr _) ?_)
    go_ret
    exact ⟨_, rfl, HO.out, below_drew_alloc w _⟩
structure CatB (w : World) (g0 : Nat) (us : List Value) (Ls : List (List (Int × Nat))) : Prop where
  len : us.length = Ls.length
  cell : ∀ j, j < us.length → w.cell? ⟨g0, j, none⟩ = some (us.getD j dn)
  rd : ∀ j, j < us.length → RdC w (us.getD j dn) (Ls.getD j []).length (Cv.cB (Ls.getD j []))
theorem CatB.next {w W : World} {g0 : Nat} {us : List Value} {Ls : List (List (Int × Nat))} (h : CatB w g0 us Ls) (hb : Below w.heap.size w W) : CatB W g0 us Ls :=
  ⟨h.len, fun j hj => (hb.cell (World.block_lt_of_cell? w _ (h.cell j hj))).trans (h.cell j hj), fun j hj => Cv.rdc_keep (h.rd j hj) hb⟩
set_option maxRecDepth 100000 in
set_option maxHeartbeats 1000000 in
theorem concat_B (w : World) (g0 c0 : Nat) (us : List Value) (Ls : List (List (Int × Nat))) (h : CatB w g0 us Ls) (hu : us.length ≤ 1000) (hm : Ls.flatten.length ≤ 8796093022208) (cl : List (Int × Nat)) (hcl : Ls.flatten = cl) :
    Calls Tryz.prog 111 #[.slice (some ⟨g0, 0, none⟩) us.length c0] w fun e w' => ∃ v, e = .returned v ∧ w'.ownsRow w.heap.size 83 2 v cl.length (Cv.cB cl) ∧ Below w.heap.size w w' := by
  obtain ⟨i0, hi, hz0, hz1, hz2⟩ := info_parts Cv.Tryz.infoB
  have HC : Hid (∀ W, Below w.heap.size w W → CatB W g0 us Ls) := fun W hb => h.next hb
  have HX : Hid (us.length = Ls.length ∧ us.length ≤ 1000 ∧ Ls.flatten.length ≤ 8796093022208 ∧ Ls.flatten = cl) := ⟨h.len, hu, hm, hcl⟩
  have h63 : (us.length : Int) ≤ 1000 := by omega
  have hb0 := Below.refl w.heap.size w
  have HI : Hid (Tryz.prog.info? 83 = some i0 ∧ i0.zero = some (.agg #[.int .i64 0, .int .u64 0]) ∧ i0.size = 2 ∧ i0.bytes = 16) := ⟨hi, hz0, hz1, hz2⟩
  clear h hu hm hcl hi hz0 hz1 hz2
  go_enter Tryz.func111, Tryz.ntmps111
  go_wp2
  go_loopg [3, 11] us.length (fun g s i wr => ∃ j : Nat, j ≤ us.length ∧ g = us.length - j ∧ i = .int .i64 (j : Int) ∧ s = .int .i64 ((Ls.take j).flatten.length : Int) ∧ Below w.heap.size w wr)
  case atStart =>
    go_light
    exact ⟨0, Nat.zero_le _, rfl, rfl, rfl, hb0⟩
  case round =>
    clear hb0
    obtain ⟨j, hj, rfl, rfl, rfl, hb⟩ := hrel
    by_cases hlt : j < us.length
    · have hz : (j : Int) < (us.length : Int) := by omega
      have hz0 : (0 : Int) ≤ (j : Int) := Int.natCast_nonneg _
      have cj := (HC.out wr hb).cell j hlt
      obtain ⟨ao, cap, hv, _, _⟩ := (HC.out wr hb).rd j hlt
      rw [hv] at cj
      obtain ⟨m, hmm⟩ : ∃ m, (Ls.getD j []).length = m := ⟨_, rfl⟩
      rw [hmm] at cj
      have hs : (Ls.take (j + 1)).flatten.length = (Ls.take j).flatten.length + m := by
        rw [take_succ_getD [] Ls j (by have := HX.out.1; omega), List.flatten_append, List.length_append, List.flatten_singleton, hmm]
      have hle := catl_le Ls (j + 1)
      obtain ⟨a, ha⟩ : ∃ a, (Ls.take j).flatten.length = a := ⟨_, rfl⟩
      rw [ha] at hs ⊢
      have hax : a + m ≤ 8796093022208 := by have := HX.out.2.2.1; omega
      have e1 : IntKind.i64.wrap ((a : Int) + (m : Int)) = (a : Int) + (m : Int) := by rw [IntKind.wrap_i64]; omega
      have hpos : ¬ (a : Int) + (m : Int) < 0 := by omega
      have HS : Hid ((a : Int) + (m : Int) = ((Ls.take (j + 1)).flatten.length : Nat)) := by show _ = _; rw [hs]; omega
      clear hs hle ha hmm hv hax
      go_wp2
      go_roundg (us.length - (j + 1))
      case rel =>
        go_light
        exact ⟨j + 1, by omega, rfl, by go_num, by rw [HS.out], hb⟩
      case measure => go_light; omega
    · obtain rfl : j = us.length := by omega
      have hz : ¬ ((us.length : Int) < (us.length : Int)) := by omega
      have ha : (Ls.take us.length).flatten.length = Ls.flatten.length := by rw [HX.out.1, List.take_length]
      rw [ha]
      have HG : Hid (∀ W, Calls Tryz.prog 163 #[.slice none 0 0, .int .i64 (Ls.flatten.length : Int)] W fun e w' => ∃ v, e = .returned v ∧ w'.ownsRow W.heap.size 83 2 v 0 [] ∧ Below W.heap.size W w') := fun W => grow_B W _ HX.out.2.2.1
      obtain ⟨q, hq⟩ : ∃ q, Ls.flatten.length = q := ⟨_, rfl⟩
      rw [hq] at HG ⊢
      clear ha hlt hj hq
      go_wp2_with (go_at_call 163; with_reducible refine (HG.out _).mono ?_; rintro e w1 ⟨v, rfl, ho, hb1⟩)
      have hb2 := bnext hb hb1
      have ho2 : w1.ownsRow w.heap.size 83 2 v 0 [] := ho.mono hb.size
      clear hb hb1 ho
      go_wp2
      go_loopg [6, 27] us.length (fun g v i wr => ∃ j : Nat, j ≤ us.length ∧ g = us.length - j ∧ i = .int .i64 (j : Int) ∧ wr.ownsRow w.heap.size 83 2 v (Ls.take j).flatten.length (Cv.cB (Ls.take j).flatten) ∧ Below w.heap.size w wr)
      case atStart =>
        go_light
        exact ⟨0, Nat.zero_le _, rfl, rfl, ho2, hb2⟩
      case round =>
        clear hb2 ho2
        obtain ⟨j, hj, rfl, rfl, ho, hb⟩ := hrel
        by_cases hlt : j < us.length
        · have hz : (j : Int) < (us.length : Int) := by omega
          have hz0 : (0 : Int) ≤ (j : Int) := Int.natCast_nonneg _
          have cj := (HC.out wr hb).cell j hlt
          have rj := (HC.out wr hb).rd j hlt
          obtain ⟨u, hu⟩ : ∃ u, us.getD j dn = u := ⟨_, rfl⟩
          obtain ⟨l, hl⟩ : ∃ l, Ls.getD j [] = l := ⟨_, rfl⟩
          rw [hu] at cj rj
          rw [hl] at rj
          have ht : (Ls.take (j + 1)).flatten = (Ls.take j).flatten ++ l := by
            rw [take_succ_getD [] Ls j (by have := HX.out.1; omega), List.flatten_append, List.flatten_singleton, hl]
          have hle := catl_le Ls (j + 1)
          obtain ⟨a, ha⟩ : ∃ a, (Ls.take j).flatten = a := ⟨_, rfl⟩
          rw [ha] at ht ho
          rw [ht, List.length_append] at hle
          have HS : Hid ((Ls.take (j + 1)).flatten = a ++ l ∧ a.length + l.length ≤ 8796093022208 ∧ RdC wr u l.length (Cv.cB l) ∧ wr.ownsRow w.heap.size 83 2 u6 a.length (Cv.cB a) ∧ w.heap.size ≤ wr.heap.size) := ⟨ht, by have := HX.out.2.2.1; omega, rj, ho, hb.size⟩
          clear ht hle ha hl hu ho rj
          go_wp2_with (at_builtin; refine Cv.wpList_append_ap _ rfl _ _ _ rfl w.heap.size 83 i0 (.agg #[.int .i64 0, .int .u64 0]) 2 16 Tryz.underlying77 HI.out.1 HI.out.2.1 HI.out.2.2.1 HI.out.2.2.2 rfl (by decide) _ a.length (Cv.cB a) rfl HS.out.2.2.2.1 _ l.length (Cv.cB l) rfl HS.out.2.2.1 (Cv.cB_len l) (Cv.cB_one l) ?c1 ?c2 HS.out.2.2.2.2 ?_)
          case c1 => have := HS.out.2.1; unfold maxLen; omega
          case c2 => have := HS.out.2.1; omega
          intro v' w1 hap
          have HY : Hid (w1.ownsRow w.heap.size 83 2 v' (a ++ l).length (Cv.cB (a ++ l)) ∧ Below w.heap.size w w1) := by
            refine ⟨?_, (Cv.ownB_step0 hb HS.out.2.2.2.2 HS.out.2.2.2.1 hap.grown).1⟩
            rw [List.length_append, Cv.cB_app]; exact hap.own
          clear hap hb
          go_wp2
          go_roundg (us.length - (j + 1))
          case rel =>
            go_light
            refine ⟨j + 1, by omega, rfl, by go_num, ?_, HY.out.2⟩
            rw [HS.out.1]; exact HY.out.1
          case measure => go_light; omega
        · obtain rfl : j = us.length := by omega
          have hz : ¬ ((us.length : Int) < (us.length : Int)) := by omega
          rw [HX.out.1, List.take_length, HX.out.2.2.2] at ho
          clear hlt hj
          go_wp2
          go_ret
          exact ⟨_, rfl, ho, hb⟩
end Go.Proofs.YtdocjikpcbmcgaaGreatDoor
namespace Go.Proofs.YtdocjikpcbmcgaaGreatDoor
open Go.RowKit
open Cv (RdC zl)
attribute [local go_sem ↓] Go.wp_at_zero Go.wp_at_succ
theorem getD_zl (M : List (Nat × Nat)) (j : Nat) (hj : j < M.length) : (zl M).getD j (0, 0) = (((M.getD j (0, 0)).1 : Int), (M.getD j (0, 0)).2) := by
  unfold zl
  rw [List.getD_eq_getElem?_getD, List.getD_eq_getElem?_getD, List.getElem?_map, List.getElem?_eq_getElem hj]
  rfl
theorem wy_find {n i H : Nat} {A B : List (Nat × Nat)} (hw : Wy n i A H B) {j h : Nat} (hj : j < (Cv.dnL 41 0 n).length) (he : (Cv.dnL 41 0 n).getD j (0, 0) = (h, i / 2 ^ h)) : j = A.length ∧ h = H := by
  rw [hw.all] at hj he
  rw [List.getD_eq_getElem?_getD] at he
  rcases Nat.lt_trichotomy j A.length with hlt | heq | hgt
  · rw [List.getElem?_append_left hlt, List.getElem?_eq_getElem hlt] at he
    have := hw.no_left (List.getElem_mem hlt)
    rw [show A[j] = (h, i / 2 ^ h) from he] at this
    exact absurd this (Nat.lt_irrefl _)
  · subst heq
    rw [List.getElem?_append_right (Nat.le_refl _), Nat.sub_self] at he
    exact ⟨rfl, (congrArg Prod.fst (show (H, i / 2 ^ H) = (h, i / 2 ^ h) from he)).symm⟩
  · rw [List.length_append, List.length_cons] at hj
    obtain ⟨t, rfl⟩ : ∃ t, j = A.length + (t + 1) := ⟨j - A.length - 1, by omega⟩
    have ht : t < B.length := by omega
    rw [List.getElem?_append_right (by omega), show A.length + (t + 1) - A.length = t + 1 by omega, List.getElem?_cons_succ, List.getElem?_eq_getElem ht] at he
    have := hw.no_right (List.getElem_mem ht)
    rw [show B[t] = (h, i / 2 ^ h) from he] at this
    exact absurd this (Nat.lt_irrefl _)
theorem wy_at {n i H : Nat} {A B : List (Nat × Nat)} (hw : Wy n i A H B) : A.length < (Cv.dnL 41 0 n).length ∧ (Cv.dnL 41 0 n).getD A.length (0, 0) = (H, i / 2 ^ H) := by
  rw [hw.all]
  refine ⟨by simp, ?_⟩
  rw [List.getD_eq_getElem?_getD, List.getElem?_append_right (Nat.le_refl _), Nat.sub_self]
  rfl
theorem fit40 {b : Nat × Nat} {n : Nat} (h : (b.2 + 1) * 2 ^ b.1 ≤ n) (hn : n ≤ 2 ^ 40) : Fitb (b.1 : Int) b.2 ∧ b.1 ≤ 40 ∧ b.2 < 2 ^ 40 := by
  have hp := Nat.two_pow_pos b.1
  have h1 : 2 ^ b.1 ≤ (b.2 + 1) * 2 ^ b.1 := Nat.le_mul_of_pos_left _ (by omega)
  have h2 : b.2 + 1 ≤ (b.2 + 1) * 2 ^ b.1 := Nat.le_mul_of_pos_right _ hp
  have h3 : b.1 < 2 ^ b.1 := Nat.lt_two_pow_self
  have h4 : b.1 ≤ 40 := Cv.pw40 (h := b.1) (by show 2 ^ b.1 ≤ _; omega)
  exact ⟨⟨⟨by omega, by omega⟩, by omega⟩, h4, by omega⟩
theorem mount40 (n : Nat) (hn : n ≤ 2 ^ 40) : Cv.errR 0 n n = 0 ∧ Cv.covR 0 n n = Cv.dnL 41 0 n := by
  have h : Cv.errR 0 n n = 0 := by rw [Cv.errR, if_neg (by omega), if_neg (by omega), if_neg (by omega)]
  exact ⟨h, by rw [Cv.covR, if_pos h, Cv.cov_zero n hn]⟩
theorem sb_xor (q : Nat) : Nat.xor q 1 = sb q := by
  unfold sb
  have h1 : Nat.xor q 1 = q ^^^ 1 := rfl
  rw [h1]
  apply Nat.eq_of_testBit_eq
  intro t
  rw [Nat.testBit_xor]
  cases t with
  | zero =>
    have h0 : ∀ x, Nat.testBit x 0 = decide (x % 2 = 1) := fun x => Nat.testBit_zero x
    rw [h0, h0, h0]
    by_cases h : q % 2 = 1
    · rw [if_pos h]
      have : (q - 1) % 2 = 0 := by omega
      simp [h, this]
    · rw [if_neg h]
      have : (q + 1) % 2 = 1 := by omega
      simp [h, this]
  | succ t =>
    rw [Nat.testBit_succ, Nat.testBit_succ, Nat.testBit_succ]
    by_cases h : q % 2 = 1
    · rw [if_pos h, show (q - 1) / 2 = q / 2 by omega]; simp
    · rw [if_neg h, show (q + 1) / 2 = q / 2 by omega]; simp
end Go.Proofs.YtdocjikpcbmcgaaGreatDoor
