/-
  Own work: FWalkA, FWalkB.
-/
import Derived.Test.YthfnpagangjpbabGreatV18
namespace Go.Proofs.YthfnpagangjpbabGreat
open Go.RowKit
open Rc
attribute [local go_sem ↓] Go.wp_at_zero Go.wp_at_succ
theorem wrap_u (x : Int) (h0 : 0 ≤ x) (h1 : x < 18446744073709551616) : IntKind.u64.wrap x = x := by
  show x % 18446744073709551616 = x
  omega
section
variable {q p : Nat} {T : Nat → Prop} {D : DV} {S : SV}
theorem fsize_any (w : World) (h : Sk w q p T D S) : Calls Tryz.prog 14 #[.pointer (some ⟨q, 0, none⟩)] w fun e w' => e = .returned (.int .u64 (S.ends.length : Int)) ∧ w' = w := by
  obtain ⟨ao, cap, ⟨c0, c1, c2, c3, c4⟩, _⟩ := h.cells
  obtain ⟨_, _, hf, _⟩ := h.small
  have hw : IntKind.u64.wrap (S.ends.length : Int) = (S.ends.length : Int) := wrap_u _ (by omega) (by omega)
  generalize S.ends.length = n at *
  clear h
  go_enter Tryz.func14, Tryz.ntmps14
  go_wp2
  go_ret
  exact ⟨rfl, rfl⟩
theorem flame_any (w : World) (h : Sk w q p T D S) : Calls Tryz.prog 15 #[.pointer (some ⟨q, 0, none⟩)] w fun e w' => e = .returned (.bool S.lame) ∧ w' = w := by
  obtain ⟨ao, cap, ⟨c0, c1, c2, c3, c4⟩, _⟩ := h.cells
  clear h
  go_enter Tryz.func15, Tryz.ntmps15
  go_wp2
  go_ret
  exact ⟨rfl, rfl⟩
theorem endof_any (w : World) (h : Sk w q p T D S) (n : Nat) (hn : n ≤ S.ends.length) : Calls Tryz.prog 27 #[.pointer (some ⟨q, 0, none⟩), .int .i64 (n : Int)] w fun e w' => e = .returned (.int .i64 (endE S.ends n : Int)) ∧ w' = w := by
  obtain ⟨ao, cap, ⟨c0, c1, c2, c3, c4⟩, hc⟩ := h.cells
  obtain ⟨_, _, hf, _⟩ := h.small
  clear h
  cases n with
  | zero =>
    go_enter Tryz.func27, Tryz.ntmps27
    go_wp2
    go_ret
    exact ⟨rfl, rfl⟩
  | succ n =>
    obtain ⟨g, rfl, hg⟩ := hc n (by omega)
    have e1 : endE S.ends (n + 1) = S.ends.getD n 0 := rfl
    rw [e1]
    have hz : ¬ ((n : Int) + 1 = 0) := by omega
    have hm : IntKind.i64.wrap ((n : Int) + 1 - 1) = (n : Int) := by rw [IntKind.wrap_i64]; omega
    generalize S.ends.getD n 0 = x at *
    generalize S.ends.length = m at *
    clear hc e1
    go_enter Tryz.func27, Tryz.ntmps27
    go_wp2
    go_ret
    exact ⟨rfl, rfl⟩
theorem nodesof_any (w : World) (n : Nat) (hn : n ≤ 65537) : Calls Tryz.prog 34 #[.int .i64 (n : Int)] w fun e w' => e = .returned (.int .u64 (nn n : Int)) ∧ w' = w := by
  have HC := hide (Pl.nodes_yes n w (by omega))
  have hw : IntKind.u64.wrap (n : Int) = (n : Int) := wrap_u _ (by omega) (by omega)
  go_enter Tryz.func34, Tryz.ntmps34
  go_wp2_with (go_at_call 82; refine HC.out.mono ?_; rintro e w1 ⟨rfl, rfl⟩)
  go_ret
  exact ⟨rfl, rfl⟩
theorem nn_le (n : Nat) : nn n ≤ 2 * n := by unfold nn Pl.N; omega
theorem length_items (w : World) (h : Sk w q p T D S) : Calls Tryz.prog 57 #[.pointer (some ⟨q, 0, none⟩), .string ⟨#[105, 116, 101, 109, 115]⟩] w fun e w' => e = .returned (.int .i64 (lst S.ends : Int)) ∧ w' = w := by
  obtain ⟨ao, cap, ⟨c0, c1, c2, c3, c4⟩, hc⟩ := h.cells
  have HE := hide (endof_any w h S.ends.length (Nat.le_refl _))
  rw [endE_all] at HE
  generalize S.ends.length = n at *
  clear h hc
  go_enter Tryz.func57, Tryz.ntmps57
  go_wp2_with (go_at_call 27; refine HE.out.mono ?_; rintro e w1 ⟨rfl, rfl⟩)
  go_ret
  exact ⟨rfl, rfl⟩
theorem length_nodes (w : World) (h : Sk w q p T D S) : Calls Tryz.prog 57 #[.pointer (some ⟨q, 0, none⟩), .string ⟨#[110, 111, 100, 101, 115]⟩] w fun e w' => e = .returned (.int .i64 ((nn S.ends.length * 40 : Nat) : Int)) ∧ w' = w := by
  obtain ⟨ao, cap, ⟨c0, c1, c2, c3, c4⟩, hc⟩ := h.cells
  obtain ⟨_, _, hf, _⟩ := h.small
  have HN := hide (nodesof_any w S.ends.length (by omega))
  have hb := nn_le S.ends.length
  generalize S.ends.length = n at *
  generalize nn n = m at *
  have h1 : IntKind.i64.wrap (m : Int) = (m : Int) := by rw [IntKind.wrap_i64]; omega
  have h2 : IntKind.i64.wrap ((m : Int) * 40) = ((m * 40 : Nat) : Int) := by rw [IntKind.wrap_i64]; omega
  clear h hc
  go_enter Tryz.func57, Tryz.ntmps57
  go_wp2_with (go_at_call 34; refine HN.out.mono ?_; rintro e w1 ⟨rfl, rfl⟩)
  go_ret
  exact ⟨rfl, rfl⟩
theorem length_marks (w : World) (h : Sk w q p T D S) : Calls Tryz.prog 57 #[.pointer (some ⟨q, 0, none⟩), .string ⟨#[109, 97, 114, 107, 115]⟩] w fun e w' => e = .returned (.int .i64 ((S.ends.length * 64 : Nat) : Int)) ∧ w' = w := by
  obtain ⟨ao, cap, ⟨c0, c1, c2, c3, c4⟩, hc⟩ := h.cells
  obtain ⟨_, _, hf, _⟩ := h.small
  generalize S.ends.length = m at *
  have h2 : IntKind.i64.wrap ((m : Int) * 64) = ((m * 64 : Nat) : Int) := by rw [IntKind.wrap_i64]; omega
  clear h hc
  go_enter Tryz.func57, Tryz.ntmps57
  go_wp2
  go_ret
  exact ⟨rfl, rfl⟩
theorem read_err (D : DV) (s : List UInt8) (off n : Int) : (rdD D s off n).2 = 0 ∨ (rdD D s off n).2 = 170 ∨ (rdD D s off n).2 = 173 := by
  unfold rdD
  split
  · exact .inr (.inl rfl)
  · split
    · exact .inr (.inr rfl)
    · exact .inl rfl
theorem fread_any (w : World) (h : Sk w q p T D S) (s : ByteArray) (hs : s.size ≤ maxLen) (off y : Int) (ho1 : -9223372036854775808 ≤ off) (ho2 : off ≤ 9223372036854775807) (hq1 : -9223372036854775808 ≤ y) (hq2 : y ≤ 9223372036854775807) (t : ByteArray) (r : Int) (ht : tx (rdS D s.data.toList off y).1 = t) (hr : (rdS D s.data.toList off y).2 = r) :
    Calls Tryz.prog 28 #[.pointer (some ⟨q, 0, none⟩), .string s, .int .i64 off, .int .i64 y] w fun e w' => e = .returned (.tuple #[.string t, .int .i64 r]) ∧ Below w.heap.size w w' := by
  obtain ⟨ao, cap, ⟨c0, c1, c2, c3, c4⟩, hc⟩ := h.cells
  have HR := hide (h.read s hs off y ho1 ho2 hq1 hq2)
  unfold rdS at ht hr
  obtain ⟨x, e, hx⟩ : ∃ x e, rdD D s.data.toList off y = (x, e) := ⟨_, _, rfl⟩
  have he := read_err D s.data.toList off y
  rw [hx] at ht hr HR he
  clear h hc hx
  by_cases h3 : e = 173
  · subst h3
    simp only [if_pos] at ht hr
    subst ht hr
    go_enter Tryz.func28, Tryz.ntmps28
    go_wp2_with (go_at_call 77; refine HR.out.mono ?_; rintro e w1 ⟨rfl, hb⟩)
    go_ret2
    exact ⟨rfl, hb⟩
  · simp only [if_neg h3] at ht hr
    subst ht hr
    go_enter Tryz.func28, Tryz.ntmps28
    go_wp2_with (go_at_call 77; refine HR.out.mono ?_; rintro e w1 ⟨rfl, hb⟩)
    go_ret2
    exact ⟨rfl, hb⟩
def whT (s : List UInt8) : ByteArray := (rpT s).1
theorem whole_any (w : World) (s : ByteArray) (hs : s.size ≤ 9223372036854775807) (b : Bool) (hb : whl s.data.toList = b) (t : ByteArray) (ht : whT s.data.toList = t) :
    Calls Tryz.prog 29 #[.string s] w fun e w' => e = .returned (.tuple #[.string t, .bool b]) ∧ Below w.heap.size w w' := by
  have hl := size_list s
  unfold whT at ht
  unfold whl at hb
  cases hp : rpay s.data.toList with
  | none =>
    rw [hp] at hb
    have e1 := rpT_no hp
    rw [e1] at ht
    subst ht hb
    have HR := hide (rpayload_any w s hs _ _ _ e1)
    go_enter Tryz.func29, Tryz.ntmps29
    go_wp2_with (go_at_call 78; refine HR.out.mono ?_; rintro e w1 ⟨rfl, hb⟩)
    go_ret2
    exact ⟨rfl, hb⟩
  | some x =>
    rw [hp] at hb
    have e1 := rpT_yes hp
    rw [e1] at ht
    subst ht
    have HR := hide (rpayload_any w s hs _ _ _ e1)
    have e2 : (((x.length + 8 : Nat) : Int) == (s.size : Int)) = b := by
      rw [← hb, hl]
      exact Bool.eq_iff_iff.2 (by simp; omega)
    generalize x.length + 8 = m at *
    generalize s.size = n at *
    go_enter Tryz.func29, Tryz.ntmps29
    go_wp2_with (go_at_call 78; refine HR.out.mono ?_; rintro e w1 ⟨rfl, hb⟩)
    go_ret2
    exact ⟨by simp_all, hb⟩
end
end Go.Proofs.YthfnpagangjpbabGreat
namespace Go.Proofs.YthfnpagangjpbabGreat
open Go.RowKit
open Rc
attribute [local go_sem ↓] Go.wp_at_zero Go.wp_at_succ
section
variable {q p : Nat} {T : Nat → Prop} {D : DV} {S : SV}
theorem rdD_len (D : DV) (s : List UInt8) (off n : Int) : (rdD D s off n).1.length ≤ (fget D.L s).now.length := by
  unfold rdD
  split
  · exact Nat.zero_le _
  · split
    · exact Nat.zero_le _
    · simp only [List.length_take, List.length_drop]; omega
theorem rdS_len (D : DV) (s : List UInt8) (off n : Int) : (rdS D s off n).1.length ≤ (fget D.L s).now.length := by
  unfold rdS
  split
  · exact Nat.zero_le _
  · exact rdD_len _ _ _ _
theorem rdS_err (D : DV) (s : List UInt8) (off n : Int) : (rdS D s off n).2 = 0 ∨ (rdS D s off n).2 = 170 ∨ (rdS D s off n).2 = 190 := by
  unfold rdS
  rcases read_err D s off n with h | h | h
  · rw [if_neg (by omega)]; exact .inl h
  · rw [if_neg (by omega)]; exact .inr (.inl h)
  · rw [if_pos h]; exact .inr (.inr rfl)
theorem whT_yes {s : List UInt8} (h : whl s = true) : whT s = tx ((rpay s).getD []) := by
  unfold whl at h
  unfold whT
  cases hp : rpay s with
  | none => rw [hp] at h; cases h
  | some x => rw [rpT_yes hp]; rfl
set_option maxRecDepth 100000 in
theorem item_any (w : World) (h : Sk w q p T D S) (i : Nat) (hi : i < 18446744073709551616) (t : ByteArray) (r : Int) (ht : tx (itmD D S i).1 = t) (hr : (itmD D S i).2 = r) :
    Calls Tryz.prog 10 #[.pointer (some ⟨q, 0, none⟩), .int .u64 (i : Int)] w fun e w' => e = .returned (.tuple #[.string t, .int .i64 r]) ∧ Below w.heap.size w w' := by
  obtain ⟨ao, cap, ⟨c0, c1, c2, c3, c4⟩, hc⟩ := h.cells
  obtain ⟨_, _, hf, hg, he, _⟩ := h.small
  have HS := hide (fsize_any w h)
  unfold itmD at ht hr
  by_cases hlt : S.ends.length ≤ i
  · rw [if_pos hlt] at ht hr
    subst ht hr
    have hd : ((S.ends.length : Int) ≤ (i : Int)) := by omega
    generalize S.ends.length = n at *
    clear h hc hg he
    go_enter Tryz.func10, Tryz.ntmps10
    go_wp2_with (go_at_call 14; refine HS.out.mono ?_; rintro e w1 ⟨rfl, rfl⟩)
    go_ret2
    exact ⟨rfl, Below.refl _ _⟩
  · rw [if_neg hlt] at ht hr
    have hd : ¬ ((S.ends.length : Int) ≤ (i : Int)) := by omega
    have hd2 : (i : Int) < (S.ends.length : Int) := by omega
    obtain ⟨g, rfl, cg⟩ := hc i (by omega)
    have HE := hide (endof_any w h i (by omega))
    have hgi := hg i
    have hei := he i
    have HR : Hid (∀ t r, tx (itmR D S i).1 = t → (itmR D S i).2 = r → Calls Tryz.prog 28 #[.pointer (some ⟨q, 0, none⟩), .string ⟨#[105, 116, 101, 109, 115]⟩, .int .i64 (endE S.ends i : Int), .int .i64 ((S.ends.getD i 0 : Int) - (endE S.ends i : Int))] w fun e w' => e = .returned (.tuple #[.string t, .int .i64 r]) ∧ Below w.heap.size w w') := fun t r h1 h2 => fread_any w h ⟨#[105, 116, 101, 109, 115]⟩ (by decide) _ _ (by omega) (by omega) (by omega) (by omega) t r h1 h2
    have hz : (itmR D S i).1.length ≤ 268435456 := Nat.le_trans (rdS_len _ _ _ _) (h.sz _)
    have hee : (itmR D S i).2 = 0 ∨ (itmR D S i).2 = 170 ∨ (itmR D S i).2 = 190 := rdS_err _ _ _ _
    generalize itmR D S i = x at *
    have hw1 : IntKind.i64.wrap (i : Int) = (i : Int) := by rw [IntKind.wrap_i64]; omega
    have hw2 : IntKind.i64.wrap ((S.ends.getD i 0 : Int) - (endE S.ends i : Int)) = (S.ends.getD i 0 : Int) - (endE S.ends i : Int) := by rw [IntKind.wrap_i64]; omega
    clear hg he hc h
    generalize S.ends.getD i 0 = a at *
    generalize endE S.ends i = b at *
    generalize S.ends.length = n at *
    obtain ⟨xl, xe⟩ := x
    simp only at ht hr hee hz HR
    by_cases h0 : xe = 0
    · subst h0
      simp only [ne_eq, not_true_eq_false, if_false] at ht hr
      have HR2 := hide (HR.out _ _ rfl rfl)
      have HW : Hid (∀ W b, whl xl = b → Calls Tryz.prog 29 #[.string (tx xl)] W fun e w' => e = .returned (.tuple #[.string (whT xl), .bool b]) ∧ Below W.heap.size W w') := fun W b hb => whole_any W (tx xl) (by rw [tx_size]; omega) b hb _ rfl
      clear HR
      by_cases hwh : whl xl = true
      · simp only [hwh, if_true] at ht hr
        subst ht hr
        have HW2 := hide (fun W => HW.out W _ hwh)
        rw [whT_yes hwh] at HW2
        clear HW
        go_enter Tryz.func10, Tryz.ntmps10
        go_wp2_with (first
          | (go_at_call 14; refine HS.out.mono ?_; rintro e w1 ⟨rfl, rfl⟩)
          | (go_at_call 27; refine HE.out.mono ?_; rintro e w1 ⟨rfl, rfl⟩)
          | (go_at_call 28; refine HR2.out.mono ?_; rintro e w2 ⟨rfl, u2⟩)
          | (go_at_call 29; refine (HW2.out _).mono ?_; rintro e w3 ⟨rfl, u3⟩))
        go_ret2
        exact ⟨rfl, bnext u2 u3⟩
      · rw [if_neg hwh] at ht hr
        subst ht hr
        have HW2 := hide (fun W => HW.out W _ (Bool.eq_false_iff.2 hwh))
        clear HW
        go_enter Tryz.func10, Tryz.ntmps10
        go_wp2_with (first
          | (go_at_call 14; refine HS.out.mono ?_; rintro e w1 ⟨rfl, rfl⟩)
          | (go_at_call 27; refine HE.out.mono ?_; rintro e w1 ⟨rfl, rfl⟩)
          | (go_at_call 28; refine HR2.out.mono ?_; rintro e w2 ⟨rfl, u2⟩)
          | (go_at_call 29; refine (HW2.out _).mono ?_; rintro e w3 ⟨rfl, u3⟩))
        go_ret2
        exact ⟨rfl, bnext u2 u3⟩
    · rw [if_pos h0] at ht hr
      subst ht hr
      have HR2 := hide (HR.out _ _ rfl rfl)
      clear HR
      go_enter Tryz.func10, Tryz.ntmps10
      go_wp2_with (first
        | (go_at_call 14; refine HS.out.mono ?_; rintro e w1 ⟨rfl, rfl⟩)
        | (go_at_call 27; refine HE.out.mono ?_; rintro e w1 ⟨rfl, rfl⟩)
        | (go_at_call 28; refine HR2.out.mono ?_; rintro e w2 ⟨rfl, u2⟩))
      go_ret2
      exact ⟨rfl, u2⟩
set_option maxRecDepth 100000 in
theorem fnode_any (w : World) (h : Sk w q p T D S) (i : Nat) (hi : i < 18446744073709551616) (t : ByteArray) (r : Int) (ht : tx (nodD D S i).1 = t) (hr : (nodD D S i).2 = r) :
    Calls Tryz.prog 12 #[.pointer (some ⟨q, 0, none⟩), .int .u64 (i : Int)] w fun e w' => e = .returned (.tuple #[.string t, .int .i64 r]) ∧ Below w.heap.size w w' := by
  obtain ⟨ao, cap, ⟨c0, c1, c2, c3, c4⟩, hc⟩ := h.cells
  obtain ⟨hk1, hk2, hf, _⟩ := h.small
  have HN := hide (nodesof_any w S.ends.length (by omega))
  have hb := nn_le S.ends.length
  unfold nodD at ht hr
  by_cases hlt : nn S.ends.length ≤ i
  · rw [if_pos hlt] at ht hr
    subst ht hr
    have hd : ((nn S.ends.length : Int) ≤ (i : Int)) := by omega
    generalize S.ends.length = n at *
    generalize nn n = m at *
    clear h hc
    go_enter Tryz.func12, Tryz.ntmps12
    go_wp2_with (go_at_call 34; refine HN.out.mono ?_; rintro e w1 ⟨rfl, rfl⟩)
    go_ret2
    exact ⟨rfl, Below.refl _ _⟩
  · rw [if_neg hlt] at ht hr
    have hd : ¬ ((nn S.ends.length : Int) ≤ (i : Int)) := by omega
    have HR : Hid (∀ t r, tx (nodR D i).1 = t → (nodR D i).2 = r → Calls Tryz.prog 28 #[.pointer (some ⟨q, 0, none⟩), .string ⟨#[110, 111, 100, 101, 115]⟩, .int .i64 ((i * 40 : Nat) : Int), .int .i64 40] w fun e w' => e = .returned (.tuple #[.string t, .int .i64 r]) ∧ Below w.heap.size w w') := fun t r h1 h2 => fread_any w h ⟨#[110, 111, 100, 101, 115]⟩ (by decide) _ _ (by omega) (by omega) (by omega) (by omega) t r h1 h2
    have hw1 : IntKind.i64.wrap (i : Int) = (i : Int) := by rw [IntKind.wrap_i64]; omega
    have hw2 : IntKind.i64.wrap ((i : Int) * 40) = ((i * 40 : Nat) : Int) := by rw [IntKind.wrap_i64]; omega
    have hee : (nodR D i).2 = 0 ∨ (nodR D i).2 = 170 ∨ (nodR D i).2 = 190 := rdS_err _ _ _ _
    generalize nodR D i = x at *
    have CK : Hid (∀ W, Below w.heap.size w W → W.cell? ⟨q, 1, none⟩ = some (.int .i64 (S.k : Int))) := fun W hW => by
      obtain ⟨_, _, ⟨_, c1', _⟩, _⟩ := (h.next hW).cells
      exact c1'
    clear hc h c1
    obtain ⟨xl, xe⟩ := x
    simp only at ht hr hee HR
    by_cases h0 : xe = 0
    · subst h0
      simp only [ne_eq, not_true_eq_false, if_false] at ht hr
      have HR2 := hide (HR.out _ _ rfl rfl)
      have HW : Hid (∀ W t r, rnT (S.k : Int) i xl = (t, r) → Calls Tryz.prog 35 #[.int .i64 (S.k : Int), .int .u64 (i : Int), .string (tx xl)] W fun e w' => e = .returned (.tuple #[.string t, .int .i64 r]) ∧ Below W.heap.size W w') := fun W t r hb => rnode_any W (S.k : Int) i hi (tx xl) t r hb
      clear HR
      generalize nn S.ends.length = m at *
      generalize S.ends.length = n at *
      cases hwh : rnod S.k i xl with
      | some y =>
        rw [hwh] at ht hr
        subst ht hr
        have HW2 := hide (fun W => HW.out W _ _ (rnT_yes (by omega) (by simpa using hwh)))
        clear HW
        generalize S.k = k at *
        go_enter Tryz.func12, Tryz.ntmps12
        go_wp2_with (first
          | (go_at_call 34; refine HN.out.mono ?_; rintro e w1 ⟨rfl, rfl⟩)
          | (go_at_call 28; refine HR2.out.mono ?_; rintro e w2 ⟨rfl, u2⟩; have c1 := CK.out _ u2)
          | (go_at_call 35; refine (HW2.out _).mono ?_; rintro e w3 ⟨rfl, u3⟩))
        go_ret2
        exact ⟨rfl, bnext u2 u3⟩
      | none =>
        rw [hwh] at ht hr
        subst ht hr
        have HW2 := hide (fun W => HW.out W _ _ (rnT_no (by omega) (by simpa using hwh)))
        clear HW
        generalize S.k = k at *
        go_enter Tryz.func12, Tryz.ntmps12
        go_wp2_with (first
          | (go_at_call 34; refine HN.out.mono ?_; rintro e w1 ⟨rfl, rfl⟩)
          | (go_at_call 28; refine HR2.out.mono ?_; rintro e w2 ⟨rfl, u2⟩; have c1 := CK.out _ u2)
          | (go_at_call 35; refine (HW2.out _).mono ?_; rintro e w3 ⟨rfl, u3⟩))
        go_ret2
        exact ⟨rfl, bnext u2 u3⟩
    · rw [if_pos h0] at ht hr
      subst ht hr
      have HR2 := hide (HR.out _ _ rfl rfl)
      clear HR
      generalize nn S.ends.length = m at *
      generalize S.ends.length = n at *
      go_enter Tryz.func12, Tryz.ntmps12
      go_wp2_with (first
        | (go_at_call 34; refine HN.out.mono ?_; rintro e w1 ⟨rfl, rfl⟩)
        | (go_at_call 28; refine HR2.out.mono ?_; rintro e w2 ⟨rfl, u2⟩))
      go_ret2
      exact ⟨rfl, u2⟩
end
end Go.Proofs.YthfnpagangjpbabGreat
