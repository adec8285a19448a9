/-
  Lists of texts of one's own; the walk of CrcSums. Own work.
-/
import Derived.Test.YtplopgkoikeohaaRWalkC
import Derived.Deep.Onto
import Derived.ArgAppend
import Derived.Laws.AppendOwnNone
import Derived.Handy
namespace Go.Proofs.Ytplopgkoikeohaa
open Go.RowKit
attribute [local go_sem ↓] Go.wp_at_zero Go.wp_at_succ
theorem Try.infoS : (Try.prog.info? 9).map (fun i => (i.zero, i.size, i.bytes)) = some (some (.string ByteArray.empty), 1, 16) := by kernel_rfl
/-- A list of texts of one's own: its block was made behind B. -/
def OwnS (w : World) (B : Nat) (v : Value) (ss : List ByteArray) : Prop := w.ownsRow B 9 1 v ss.length (ss.map Value.string)
theorem owns_new (w : World) : OwnS (w.alloc (.cells #[] 9)) w.heap.size (.slice (some ⟨w.heap.size, 0, none⟩) 0 0) [] :=
  ⟨rfl, .inr ⟨w.heap.size, 0, #[], rfl, Nat.le_refl _, heap_alloc_new w _, Nat.le_refl _, by unfold maxLen; omega, rfl, rfl⟩⟩
theorem owns_rds {w : World} {B : Nat} {v : Value} {ss : List ByteArray} (h : OwnS w B v ss) (hs : ∀ s ∈ ss, s.size ≤ 9223372036854775807) : ∃ ao b cap, v = .slice ao ss.length cap ∧ RdS w ao b 0 ss.length ss ∧ ss.length ≤ cap ∧ (ao = none → cap = 0) := by
  obtain ⟨h1, h2⟩ := h
  rcases h2 with ⟨hv, h0⟩ | ⟨g, cap, cur, rfl, hg, hh, hc1, hc, hsz, ht⟩
  · have : ss = [] := List.length_eq_zero_iff.1 h0
    subst this
    exact ⟨none, 0, 0, by rw [hv]; rfl, ⟨rfl, fun h => absurd h (Nat.lt_irrefl 0), (fun j v h => by cases h), hs⟩, Nat.le_refl _, fun _ => rfl⟩
  · refine ⟨some ⟨g, 0, none⟩, g, cap, rfl, ⟨rfl, fun _ => rfl, fun j v hj => ?_, hs⟩, hc1, fun h => by cases h⟩
    rw [Nat.zero_add, cell_of_row w g j cur 9 (0, 0) hh]
    rw [← ht, List.getElem?_take] at hj
    split at hj
    · simpa using hj
    · cases hj
/-- The law: texts appended to texts of one's own. -/
theorem wpList_append_S (w : World) {ops : Array Oper} {rest : List Oper} {o : Oper} {a : Act} {Q : Exit → Act → World → Prop}
    (hg : o.guard = none) (s x : Operand) (hop : o.op = Op.call { callee := Callee.builtin Builtin.append, args := #[s, x], argTypes := #[32, 32] })
    (B : Nat) (v : Value) (L : List ByteArray) (hs : a.eval s = v) (hown : OwnS w B v L) (ao : Option Addr) (b off cap : Nat) (M : List ByteArray) (hx : a.eval x = .slice ao M.length cap) (hr : RdS w ao b off M.length M) (hn : ao = none → cap = 0)
    (hlen : L.length + M.length ≤ 1000) (hB : B ≤ w.heap.size)
    (hK : ∀ v' w', OwnS w' B v' (L ++ M) → Below B w w' → wpList Try.prog ops Q rest (a.put o.dst v') w') : wpList Try.prog ops Q (o :: rest) a w := by
  obtain ⟨i0, hi, hz0, hz1, hz2⟩ := info_parts Try.infoS
  have hlt : ∀ k, v.ownBlock = some k → B ≤ k := by
    obtain ⟨_, h2⟩ := hown
    rcases h2 with ⟨rfl, _⟩ | ⟨g, cp, cur, rfl, hg, _⟩
    · intro k hk; cases hk
    · intro k hk; cases hk; exact hg
  cases ao with
  | none =>
    obtain rfl := hn rfl
    have hM : M = [] := by
      cases M with
      | nil => rfl
      | cons m r => exact absurd (hr.ptr (by simp)) (by simp)
    subst hM
    refine wpList_append_own_none hg s x _ hop B 9 i0 1 Try.underlying32 hi _ _ _ hs hown hx (hK _ w ?_ (Below.refl _ _))
    rw [List.append_nil]; exact hown
  | some ad =>
    have hnews : ∀ j u, (M.map Value.string)[j]? = some u → w.cell? (ad.add j) = some u := fun j u hu => by
      have hj : j < M.length := by have := (List.getElem?_eq_some_iff.1 hu).1; rwa [List.length_map] at this
      have := Option.some.inj (hr.ptr (by omega))
      subst this
      rw [Addr.add_mid]; exact hr.rng j u hu
    refine wpList_append_own w hg s x _ hop B 9 i0 (.string ByteArray.empty) 1 16 Try.underlying32 hi hz0 hz1 hz2 rfl (by decide) _ _ _ hs hown ad M.length cap (M.map Value.string) hx (by simp) hnews (by intro u hu; obtain ⟨y, _, rfl⟩ := List.mem_map.1 hu; rfl) (by unfold maxLen; omega) (by omega) hB ?_
    intro v' w' h1 h2 _
    refine hK v' w' ?_ ((Below.refl _ _).grown h2 hB hlt)
    rw [OwnS, List.length_append, List.map_append]; exact h1
theorem few_any (w : World) (ao : Option Addr) (len cap : Nat) (hl : len ≤ cap) (hm : len ≤ 9223372036854775807) (hc : ao = none → cap = 0) :
    Calls Try.prog 12 #[.slice ao len cap, .int .i64 40] w fun e w' => e = .returned (.slice ao (min len 40) cap) ∧ w = w' := by
  by_cases h : 40 < len
  · have hz : (40 : Int) < (len : Int) := by omega
    have hmin : min len 40 = 40 := by omega
    have hcap : (40 : Int) ≤ (cap : Int) := by omega
    cases ao with
    | none => exact absurd (hc rfl) (by omega)
    | some ad =>
      rw [hmin]
      go_enter Try.func12, Try.ntmps12
      go_wp2
      go_ret
      exact ⟨rfl, rfl⟩
  · have hz : ¬ (40 : Int) < (len : Int) := by omega
    have hmin : min len 40 = len := by omega
    rw [hmin]
    go_enter Try.func12, Try.ntmps12
    go_wp2
    go_ret
    exact ⟨rfl, rfl⟩
theorem RdS.take {w : World} {ao : Option Addr} {b off len : Nat} {ss : List ByteArray} (h : RdS w ao b off len ss) (k : Nat) : RdS w ao b off (min len k) (ss.take k) := by
  refine ⟨by rw [List.length_take, h.hl]; omega, fun h0 => h.ptr (by omega), fun j v hv => ?_, fun s hs => h.sz s (List.mem_of_mem_take hs)⟩
  refine h.rng j v ?_
  rw [List.map_take, List.getElem?_take] at hv
  split at hv
  · exact hv
  · cases hv
set_option maxRecDepth 100000 in
set_option maxHeartbeats 2000000 in
theorem sums_walk (w : World) (ao : Option Addr) (b off len cap : Nat) (ss : List ByteArray) (hr : RdS w ao b off len ss) (hl : len ≤ cap) (hm : len ≤ 9223372036854775807) (hn : ao = none → cap = 0) (c : BitVec 32) (s : ByteArray) (hs : s.size ≤ 140737488351232) :
    Calls Try.prog 8 #[.slice ao len cap, .int .u32 (c.toNat : Int), .string s] w fun e w' => e = .returned (.bool true) ∧ Below w.heap.size w w' := by
  have hr1 := hr.take 40
  have hF := fun W => few_any W ao len cap hl hm hn
  obtain ⟨L, hL⟩ : ∃ L, L = ss.take 40 := ⟨_, rfl⟩
  have hLl : min len 40 = L.length := by rw [hL]; exact hr1.hl.symm
  rw [← hL, hLl] at hr1
  have hL40 : L.length ≤ 40 := by omega
  simp only [hLl] at hF
  obtain ⟨X, hX⟩ : ∃ X, X = (sumL L).toNat := ⟨_, rfl⟩
  obtain ⟨Y, hY⟩ : ∃ Y, Y = (mor 0#32 s.data.toList).toNat := ⟨_, rfl⟩
  obtain ⟨Z, hZ⟩ : ∃ Z, Z = (mor c s.data.toList).toNat := ⟨_, rfl⟩
  have O1 : Hid (∀ W, Below w.heap.size w W → Calls Try.prog 10 #[.slice ao L.length cap] W fun e w' => e = .returned (.int .u32 (X : Int)) ∧ Below W.heap.size W w') := fun W hW => by
    rw [hX]; exact of_any W ao b off L.length cap L (hr1.next hW (Nat.le_refl _)) (by omega)
  have O2 : Hid (∀ W ao' b' cap', RdS W ao' b' 0 L.length L → Calls Try.prog 13 #[.slice ao' L.length cap'] W fun e w' => e = .returned (.int .u32 (X : Int)) ∧ w' = W) := fun W ao' b' cap' h => by
    rw [hX]; exact refof_any W ao' b' 0 L.length cap' L h (by omega)
  have H1 := fun W => of_row W 1 [s] Y (by rw [hY, sumL, flat_one]) rfl (by decide) (by intro s hs; simp at hs; subst hs; omega)
  have H2 : ∀ W, Calls Try.prog 13 #[.slice (some ⟨W.heap.size, 0, none⟩) 1 1] (W.alloc (.cells #[.string s] 9)) fun e w' => e = .returned (.int .u32 (Y : Int)) ∧ Below W.heap.size W w' := fun W => by
    have := refof_any _ _ W.heap.size 0 1 1 [s] (rds_new W 1 [s] rfl (by intro s hs; simp at hs; subst hs; omega)) (by decide)
    refine this.mono ?_
    rintro e w' ⟨rfl, rfl⟩
    exact ⟨by rw [hY, sumL, flat_one], (Below.refl _ _).alloc (Nat.le_refl _) _⟩
  have M1 := fun W => more_m W c c.toNat rfl s (by omega)
  have M2 := fun W => refmore_any W c c.toNat rfl s (by omega)
  simp only [← hZ] at M1 M2
  simp only [List.map_cons, List.map_nil] at H1
  have HR : Hid (∀ W, Below w.heap.size w W → RdS W ao b off L.length L) := fun W hW => hr1.next hW (Nat.le_refl _)
  have HSZ : Hid (∀ s ∈ L, s.size ≤ 9223372036854775807) := hr1.sz
  have hB := Below.refl w.heap.size w
  clear hX hY hZ hr hr1 hL hLl hm
  generalize c.toNat = C at *
  go_enter Try.func8, Try.ntmps8
  go_upto_region 4 with (first
    | (go_at_call 9; with_reducible refine (alive_any _).mono ?_; rintro e w1 ⟨rfl, hb⟩; replace hB := bnext hB hb; clear hb)
    | (go_at_call 12; with_reducible refine (hF _).mono ?_; rintro e w2 ⟨rfl, rfl⟩))
  clear hF
  have hO0 := owns_new w1
  have hRn := HR.out _ (bal hB (.cells #[] 9))
  have hB1 := bal hB (.cells #[] 9)
  have HB1 : Hid (∀ W, Below w1.heap.size (w1.alloc (.cells #[] 9)) W → Below w.heap.size w W) := fun W h => hB1.trans (h.mono hB.size)
  have hsz1 : w1.heap.size ≤ (w1.alloc (.cells #[] 9)).heap.size := by simp
  have hlen40 : ([] : List ByteArray).length + L.length ≤ 1000 := by simp; omega
  clear hB
  go_upto_region 5 with (first
    | (at_builtin; (refine wpList_append_S _ rfl _ _ rfl w1.heap.size _ [] rfl hO0 ao b off cap L rfl hRn hn hlen40 hsz1 ?_); intro v w2 hown hb2; rw [List.nil_append] at hown; obtain ⟨ao', b', cap', rfl, hr', _, _⟩ := owns_rds hown HSZ.out; replace hb2 := HB1.out _ hb2; clear hown)
    | (go_at_call 13; with_reducible refine (O2.out _ _ _ _ hr').mono ?_; rintro e w3 ⟨rfl, rfl⟩))
  have hB := hb2
  clear hb2 hr' hO0 hRn hB1 HB1 hsz1 O2
  go_wp2_with (first
    | (go_at_call 10; first | (with_reducible refine (O1.out _ hB).mono ?_; rintro e w4 ⟨rfl, hb⟩; replace hB := bnext hB hb; clear hb) | (with_reducible refine (H1 _).mono ?_; rintro e w4 ⟨rfl, hb⟩; replace hB := bnext hB hb; clear hb))
    | (go_at_call 13; with_reducible refine (H2 _).mono ?_; rintro e w4 ⟨rfl, hb⟩; replace hB := bnext hB hb; clear hb)
    | (go_at_call 11; with_reducible refine (M1 _).mono ?_; rintro e w4 ⟨rfl, hb⟩; replace hB := bnext hB hb; clear hb)
    | (go_at_call 14; with_reducible refine (M2 _).mono ?_; rintro e w4 ⟨rfl, rfl⟩))
  go_ret
  exact ⟨rfl, hB⟩
end Go.Proofs.Ytplopgkoikeohaa
