/-
  The reference's walks: Of, the texts, Leaf, Node, Check. Own work.
-/
import Derived.Test.YtdkcliblbaldhaaDoorHWalkC
import Derived.Test.YtdkcliblbaldhaaDoorR0
namespace Go.Proofs.YtdkcliblbaldhaaDoor
open Go.RowKit
attribute [local go_sem ↓] Go.wp_at_zero Go.wp_at_succ
/-- The reference's tables. -/
structure Tr (w : World) : Prop where
  rr : w.rangeAt 2 0 (cW RS)
  iv : w.rangeAt 1 0 (cW IV)
theorem Tr.next {w W : World} (h : Tr w) (hb : Below w.heap.size w W) : Tr W :=
  ⟨range_below hb (range_lt h.rr (cW_ne (by rw [RS_len]; decide))) h.rr, range_below hb (range_lt h.iv (cW_ne (by decide))) h.iv⟩
theorem ref_one (w : World) (ht : Tr w) (t : ByteArray) (hs : t.size < 1152921504606846976) (r : ByteArray) (hr : shaS RS (tB t) = r) :
    Calls Tryd.prog 86 #[.slice (some ⟨w.heap.size, 0, none⟩) 1 1] (w.alloc (.cells #[.string t] 9)) fun e w' => e = .returned (.string r) ∧ Below w.heap.size w w' := by
  subst hr
  have e : flat [t] = tB t := by simp [flat]
  refine (refOf_any _ (some ⟨w.heap.size, 0, none⟩) w.heap.size 0 1 1 [t] rfl (fun _ => rfl) (range_new w [.string t] 9) (by decide) RS RS_len (World.rangeAt_alloc ht.rr _) (World.rangeAt_alloc ht.iv _) (by rw [e, tB_len]; exact hs)).mono fun e' w' ⟨he, hb'⟩ => ⟨?_, ?_⟩
  · rw [he, e]
  · exact ((Below.refl _ _).alloc (Nat.le_refl _) _).trans (hb'.mono (by simp))
set_option maxRecDepth 100000 in
theorem refof_any (w : World) (ht : Tr w) (k : Int) (t : ByteArray) (hs : t.size < 1152921504606846976) (r : ByteArray) (hr : dg (clk k) t = r) :
    Calls Tryd.prog 74 #[.int .i64 k, .string t] w fun e w' => e = .returned (.string r) ∧ Below w.heap.size w w' := by
  subst hr
  have HS := ref_one w ht t hs _ rfl
  unfold dg
  have hz := shaS_size RS (tB t)
  generalize shaS RS (tB t) = z at *
  clear ht hs
  unfold clk
  go_enter Tryd.func74, Tryd.ntmps74
  by_cases h1 : k < 1
  · rw [if_pos h1]
    go_wp2_with (go_at_call 86; with_reducible refine HS.mono ?_; rintro e w1 ⟨rfl, hb1⟩)
    go_ret
    exact ⟨rfl, hb1⟩
  · by_cases h2 : 32 < k
    · rw [if_neg h1, if_pos h2]
      go_wp2_with (go_at_call 86; with_reducible refine HS.mono ?_; rintro e w1 ⟨rfl, hb1⟩)
      go_ret
      exact ⟨rfl, hb1⟩
    · rw [if_neg h1, if_neg h2]
      obtain ⟨c, rfl⟩ : ∃ c : Nat, k = (c : Int) := ⟨k.toNat, by omega⟩
      have h3 : (0 : Int) ≤ (c : Int) := by omega
      have h4 : (c : Int) ≤ 32 := by omega
      rw [Int.toNat_natCast]
      go_wp2_with (go_at_call 86; with_reducible refine HS.mono ?_; rintro e w1 ⟨rfl, hb1⟩)
      go_ret
      exact ⟨rfl, hb1⟩
set_option maxRecDepth 100000 in
theorem reftext_any (w : World) (f : Int) (a b : ByteArray) (hs : a.size < 2305843009213693952) (hs2 : b.size < 2305843009213693952) (r : ByteArray) (hr : (strB [f] ++ a) ++ b = r) :
    Calls Tryd.prog 87 #[.int .u8 f, .string a, .string b] w fun e w' => e = .returned (.string r) ∧ Below w.heap.size w w' := by
  subst hr
  have cv := conv_one w f
  have hz := one_size f
  generalize strB [f] = z at *
  have hns : ¬ (9223372036854775807 < 1 + a.size) := by omega
  have hns2 : ¬ (9223372036854775807 < 1 + a.size + b.size) := by omega
  go_enter Tryd.func87, Tryd.ntmps87
  go_wp2
  go_ret
  exact ⟨rfl, bal (Below.refl _ _) _⟩
theorem app_nil (a : ByteArray) : a ++ (⟨#[]⟩ : ByteArray) = a := by
  have := ByteArray.append_empty (b := a)
  exact this
set_option maxRecDepth 100000 in
theorem refleaft_any (w : World) (s : ByteArray) (hs : s.size < 2305843009213693952) :
    Calls Tryd.prog 95 #[.string s] w fun e w' => e = .returned (.string (leafT s)) ∧ Below w.heap.size w w' := by
  have HT := reftext_any w 0 s ⟨#[]⟩ hs (by decide) (leafT s) (by rw [app_nil]; rfl)
  generalize leafT s = r at *
  go_enter Tryd.func95, Tryd.ntmps95
  go_wp2_with (go_at_call 87; with_reducible refine HT.mono ?_; rintro e w1 ⟨rfl, hb1⟩)
  go_ret
  exact ⟨rfl, hb1⟩
set_option maxRecDepth 100000 in
theorem refnodet_any (w : World) (a b : ByteArray) (hs : a.size < 2305843009213693952) (hs2 : b.size < 2305843009213693952) :
    Calls Tryd.prog 85 #[.string a, .string b] w fun e w' => e = .returned (.string (nodeT a b)) ∧ Below w.heap.size w w' := by
  have HT := reftext_any w 1 a b hs hs2 (nodeT a b) rfl
  generalize nodeT a b = r at *
  go_enter Tryd.func85, Tryd.ntmps85
  go_wp2_with (go_at_call 87; with_reducible refine HT.mono ?_; rintro e w1 ⟨rfl, hb1⟩)
  go_ret
  exact ⟨rfl, hb1⟩
set_option maxRecDepth 100000 in
theorem refbagt_any (w : World) (a b : ByteArray) (hs : a.size < 2305843009213693952) (hs2 : b.size < 2305843009213693952) (r : ByteArray) (hr : bagT a b = r) :
    Calls Tryd.prog 88 #[.string a, .string b] w fun e w' => e = .returned (.string r) ∧ Below w.heap.size w w' := by
  have HT := reftext_any w 2 a b hs hs2 r hr
  go_enter Tryd.func88, Tryd.ntmps88
  go_wp2_with (go_at_call 87; with_reducible refine HT.mono ?_; rintro e w1 ⟨rfl, hb1⟩)
  go_ret
  exact ⟨rfl, hb1⟩
set_option maxRecDepth 100000 in
theorem refleaf_any (w : World) (ht : Tr w) (k : Int) (s : ByteArray) (hs : s.size < 140737488355328) (r : ByteArray) (hr : dg (clk k) (leafT s) = r) :
    Calls Tryd.prog 89 #[.int .i64 k, .string s] w fun e w' => e = .returned (.string r) ∧ Below w.heap.size w w' := by
  have HL := refleaft_any w s (by omega)
  have HO : Hid (∀ W, Below w.heap.size w W → Calls Tryd.prog 74 #[.int .i64 k, .string (leafT s)] W fun e w' => e = .returned (.string r) ∧ Below W.heap.size W w') := fun W hb => refof_any W (ht.next hb) k _ (by rw [leafT_size]; omega) r hr
  clear hr ht hs
  generalize leafT s = t at *
  go_enter Tryd.func89, Tryd.ntmps89
  go_wp2_with (first
    | (go_at_call 95; with_reducible refine HL.mono ?_; rintro e w1 ⟨rfl, hb1⟩)
    | (go_at_call 74; with_reducible refine (HO.out _ hb1).mono ?_; rintro e w2 ⟨rfl, hb2⟩))
  go_ret
  exact ⟨rfl, bnext hb1 hb2⟩
set_option maxRecDepth 100000 in
theorem refnode_any (w : World) (ht : Tr w) (k : Int) (a b : ByteArray) (hs : a.size < 140737488355328) (hs2 : b.size < 140737488355328) (r : ByteArray) (hr : dg (clk k) (nodeT a b) = r) :
    Calls Tryd.prog 73 #[.int .i64 k, .string a, .string b] w fun e w' => e = .returned (.string r) ∧ Below w.heap.size w w' := by
  have HL := refnodet_any w a b (by omega) (by omega)
  have HO : Hid (∀ W, Below w.heap.size w W → Calls Tryd.prog 74 #[.int .i64 k, .string (nodeT a b)] W fun e w' => e = .returned (.string r) ∧ Below W.heap.size W w') := fun W hb => refof_any W (ht.next hb) k _ (by rw [nodeT_size]; omega) r hr
  clear hr ht hs hs2
  generalize nodeT a b = t at *
  go_enter Tryd.func73, Tryd.ntmps73
  go_wp2_with (first
    | (go_at_call 85; with_reducible refine HL.mono ?_; rintro e w1 ⟨rfl, hb1⟩)
    | (go_at_call 74; with_reducible refine (HO.out _ hb1).mono ?_; rintro e w2 ⟨rfl, hb2⟩))
  go_ret
  exact ⟨rfl, bnext hb1 hb2⟩
end Go.Proofs.YtdkcliblbaldhaaDoor
