/-
  Walks of package hash: bounded, Of, the texts, Leaf, Node, Check. Own work.
-/
import Derived.Test.YtdkcliblbaldhaaDoorS0
import Derived.Deep.Onto
import Derived.ArgAppend
import Derived.Laws.AppendOwnNone
import Derived.Laws.IdiomStrings
import Derived.Deep.RegionWith
import Derived.Handy
namespace Go.Proofs.YtdkcliblbaldhaaDoor
open Go.RowKit
attribute [local go_sem ↓] Go.wp_at_zero Go.wp_at_succ
theorem bnext {w W w2 : World} (h : Below w.heap.size w W) (h2 : Below W.heap.size W w2) : Below w.heap.size w w2 := h.trans (h2.mono h.size)
theorem bal {w W : World} (h : Below w.heap.size w W) (o : Obj) : Below w.heap.size w (W.alloc o) := h.alloc h.size o
theorem below_drewN {B : Nat} {a w : World} (h : Below B a w) (n : Nat) : Below B a (w.drewN n) := ⟨h.os, h.tape, h.output, h.size, h.block⟩
theorem cW_ne {l : List Int} (h : 0 < l.length) : cW l ≠ [] := by
  intro e; have := congrArg List.length e; rw [cW_len, List.length_nil] at this; omega
/-- The program's table. -/
structure Tb (w : World) : Prop where
  rs : w.rangeAt 0 0 (cW RS)
theorem Tb.next {w W : World} (h : Tb w) (hb : Below w.heap.size w W) : Tb W :=
  ⟨range_below hb (range_lt h.rs (cW_ne (by rw [RS_len]; decide))) h.rs⟩
/-- A strength, bounded. -/
def clk (k : Int) : Nat := if k < 1 then 1 else if 32 < k then 32 else k.toNat
theorem clk_ge (k : Int) : 1 ≤ clk k := by
  unfold clk
  split
  · omega
  · split <;> omega
theorem clk_le (k : Int) : clk k ≤ 32 := by
  unfold clk
  split
  · omega
  · split <;> omega
theorem bounded_any (w : World) (k : Int) (x : Int) (hx : (clk k : Int) = x) :
    Calls Tryd.prog 49 #[.int .i64 k] w fun e w' => e = .returned (.int .i64 x) ∧ w' = w := by
  subst hx
  unfold clk
  go_enter Tryd.func49, Tryd.ntmps49
  by_cases h1 : k < 1
  · have e1 : ¬ (1 ≤ k) := by omega
    rw [if_pos h1]
    clear h1
    go_wp2
    go_ret
    simp
  · by_cases h2 : 32 < k
    · have e1 : 1 ≤ k := by omega
      have e2 : ¬ (k ≤ 32) := by omega
      rw [if_neg h1, if_pos h2]
      clear h1 h2
      go_wp2
      go_ret
      simp
    · have e1 : 1 ≤ k := by omega
      have e2 : k ≤ 32 := by omega
      have e3 : (k.toNat : Int) = k := by omega
      rw [if_neg h1, if_neg h2, e3]
      clear h1 h2
      go_wp2
      go_ret
      simp
theorem one_size (x : Int) : (strB [x]).size = 1 := rfl
theorem conv_one (w : World) (x : Int) : (convert 51 9 (.slice (some ⟨w.heap.size, 0, none⟩) 1 1)).run Tryd.prog (w.alloc (.cells #[.int .u8 x] 5)) = .ok (.string (strB [x])) (w.alloc (.cells #[.int .u8 x] 5)) :=
  conv_str _ _ [x] 1 rfl (range_new w (cB [x]) 5)
theorem strB_size (l : List Int) : (strB l).size = l.length := by
  have : ∀ (l : List Int) (r : ByteArray), (l.foldl (fun r n => r.push (UInt8.ofNat n.toNat)) r).size = r.size + l.length := by
    intro l
    induction l with
    | nil => intro r; rfl
    | cons x t ih => intro r; rw [List.foldl_cons, ih, ByteArray.size_push, List.length_cons]; omega
  rw [strB, this]; simp
theorem shaS_size (rs t : List Int) : (shaS rs t).size = 32 := by rw [shaS, strB_size, shaT, outB_len]
/-- The texts. -/
def leafT (s : ByteArray) : ByteArray := strB [0] ++ s
def nodeT (a b : ByteArray) : ByteArray := (strB [1] ++ a) ++ b
def bagT (a b : ByteArray) : ByteArray := (strB [2] ++ a) ++ b
theorem leafT_size (s : ByteArray) : (leafT s).size = 1 + s.size := by rw [leafT, ByteArray.size_append, one_size]
theorem nodeT_size (a b : ByteArray) : (nodeT a b).size = 1 + a.size + b.size := by rw [nodeT, ByteArray.size_append, ByteArray.size_append, one_size]
theorem bagT_size (a b : ByteArray) : (bagT a b).size = 1 + a.size + b.size := by rw [bagT, ByteArray.size_append, ByteArray.size_append, one_size]
/-- A digest. -/
def dg (c : Nat) (t : ByteArray) : ByteArray := (shaS RS (tB t)).extract 0 c
theorem dg_size {c : Nat} (hc : c ≤ 32) (t : ByteArray) : (dg c t).size = c := by
  rw [dg, ByteArray.size_extract, shaS_size]; omega
theorem sha_one (w : World) (ht : Tb w) (t : ByteArray) (hs : t.size < 4611686018427387904) :
    Calls Tryd.prog 48 #[.slice (some ⟨w.heap.size, 0, none⟩) 1 1] (w.alloc (.cells #[.string t] 9)) fun e w' => e = .returned (.string (shaS RS (tB t))) ∧ Below w.heap.size w w' := by
  have e : flat [t] = tB t := by simp [flat]
  refine (of_any _ (some ⟨w.heap.size, 0, none⟩) w.heap.size 0 1 1 [t] rfl (fun _ => rfl) (range_new w [.string t] 9) (by decide) RS RS_len (World.rangeAt_alloc ht.rs _) (by rw [e, tB_len]; exact hs)).mono fun e' w' ⟨he, hb'⟩ => ⟨?_, ?_⟩
  · rw [he, e]
  · exact ((Below.refl _ _).alloc (Nat.le_refl _) _).trans (hb'.mono (by simp))
set_option maxRecDepth 100000 in
theorem hof_any (w : World) (ht : Tb w) (k : Int) (t : ByteArray) (hs : t.size < 4611686018427387904) (r : ByteArray) (hr : dg (clk k) t = r) :
    Calls Tryd.prog 20 #[.int .i64 k, .string t] w fun e w' => e = .returned (.string r) ∧ Below w.heap.size w w' := by
  subst hr
  have HS := sha_one w ht t hs
  unfold dg
  have hz := shaS_size RS (tB t)
  generalize shaS RS (tB t) = z at *
  have c1 := clk_ge k
  have c2 := clk_le k
  have HC := fun W => bounded_any W k (clk k) rfl
  generalize clk k = c at *
  have h1 : (0 : Int) ≤ (c : Int) := by omega
  have h2 : (c : Int) ≤ 32 := by omega
  clear ht hs c1
  go_enter Tryd.func20, Tryd.ntmps20
  go_wp2_with (first
    | (go_at_call 48; with_reducible refine HS.mono ?_; rintro e w1 ⟨rfl, hb1⟩)
    | (go_at_call 49; with_reducible refine (HC _).mono ?_; rintro e w2 ⟨rfl, rfl⟩))
  go_ret
  exact ⟨rfl, hb1⟩
set_option maxRecDepth 100000 in
theorem leaft_any (w : World) (s : ByteArray) (hs : s.size < 2305843009213693952) :
    Calls Tryd.prog 58 #[.string s] w fun e w' => e = .returned (.string (leafT s)) ∧ Below w.heap.size w w' := by
  have cv := conv_one w 0
  unfold leafT
  have hz := one_size 0
  generalize strB [0] = z at *
  have hns : ¬ (9223372036854775807 < 1 + s.size) := by omega
  go_enter Tryd.func58, Tryd.ntmps58
  go_wp2
  go_ret
  exact ⟨rfl, bal (Below.refl _ _) _⟩
set_option maxRecDepth 100000 in
theorem nodet_any (w : World) (a b : ByteArray) (hs : a.size < 2305843009213693952) (hs2 : b.size < 2305843009213693952) :
    Calls Tryd.prog 59 #[.string a, .string b] w fun e w' => e = .returned (.string (nodeT a b)) ∧ Below w.heap.size w w' := by
  have cv := conv_one w 1
  unfold nodeT
  have hz := one_size 1
  generalize strB [1] = z at *
  have hns : ¬ (9223372036854775807 < 1 + a.size) := by omega
  have hns2 : ¬ (9223372036854775807 < 1 + a.size + b.size) := by omega
  go_enter Tryd.func59, Tryd.ntmps59
  go_wp2
  go_ret
  exact ⟨rfl, bal (Below.refl _ _) _⟩
set_option maxRecDepth 100000 in
theorem bagt_any (w : World) (a b : ByteArray) (hs : a.size < 2305843009213693952) (hs2 : b.size < 2305843009213693952) (r : ByteArray) (hr : bagT a b = r) :
    Calls Tryd.prog 47 #[.string a, .string b] w fun e w' => e = .returned (.string r) ∧ Below w.heap.size w w' := by
  subst hr
  have cv := conv_one w 2
  unfold bagT
  have hz := one_size 2
  generalize strB [2] = z at *
  have hns : ¬ (9223372036854775807 < 1 + a.size) := by omega
  have hns2 : ¬ (9223372036854775807 < 1 + a.size + b.size) := by omega
  go_enter Tryd.func47, Tryd.ntmps47
  go_wp2
  go_ret
  exact ⟨rfl, bal (Below.refl _ _) _⟩
/-- What Check answers. -/
def chk (k : Int) : Int := if k < 1 ∨ 32 < k then 70 else 0
theorem check_any (w : World) (k : Int) : Calls Tryd.prog 60 #[.int .i64 k] w fun e w' => e = .returned (.int .i64 (chk k)) ∧ w' = w := by
  unfold chk
  go_enter Tryd.func60, Tryd.ntmps60
  by_cases h1 : k < 1
  · rw [if_pos (.inl h1)]
    go_wp2
    go_ret
    simp
  · by_cases h2 : 32 < k
    · rw [if_pos (.inr h2)]
      go_wp2
      go_ret
      simp
    · rw [if_neg (by omega)]
      go_wp2
      go_ret
      simp
end Go.Proofs.YtdkcliblbaldhaaDoor
