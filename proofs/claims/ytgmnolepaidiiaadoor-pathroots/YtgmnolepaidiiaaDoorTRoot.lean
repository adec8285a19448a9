/-
  The reference's Root of what is no path, of too long an item; both Roots of one proof. Own work.
-/
import Derived.Test.YtgmnolepaidiiaaDoorTRefR
import Derived.Test.YtgmnolepaidiiaaDoorTRefW
namespace Go.Proofs.YtgmnolepaidiiaaDoor
open Go.RowKit
attribute [local go_sem ↓] Go.wp_at_zero Go.wp_at_succ
set_option maxRecDepth 100000 in
set_option maxHeartbeats 1000000 in
theorem refroot_bad (w : World) (kd k : Int) (old size : Nat) (sa : Option Addr) (ns sc : Nat) (da : Option Addr) (n2 dc : Nat)
    (HI : Hid (∀ W, Below w.heap.size w W → Calls Tryd.prog 30 #[.agg #[.int .i64 kd, .int .i64 k, .int .u64 (old : Int), .int .u64 (size : Int), .slice sa ns sc, .slice da n2 dc]] W fun e w' => e = .returned (.bool false) ∧ Below W.heap.size W w')) (x : ByteArray) :
    Calls Tryd.prog 10 #[.agg #[.int .i64 kd, .int .i64 k, .int .u64 (old : Int), .int .u64 (size : Int), .slice sa ns sc, .slice da n2 dc], .string x] w fun e w' => e = .returned (.tuple #[noR, .int .i64 150]) ∧ Below w.heap.size w w' := by
  go_enter Tryd.func10, Tryd.ntmps10
  go_upto_region 1 with (fail)
  obtain ⟨W0, hW0⟩ : ∃ W0, (w.alloc (.cells #[.int .i64 kd, .int .i64 k, .int .u64 (old : Int), .int .u64 (size : Int), .slice sa ns sc, .slice da n2 dc] 26)).alloc (.cells #[.int .u64 0, .string ⟨#[]⟩] 30) = W0 := ⟨_, rfl⟩
  rw [hW0]
  obtain ⟨hb, h6, hRt, hz⟩ := root_start hW0
  obtain ⟨c0, c1, c2, c3, c4, c5⟩ := h6.cells
  have HR := hide (And.intro hRt hz)
  clear hW0 h6 hRt hz
  go_wp2_with (go_at_call 30; with_reducible refine (HI.out _ hb).mono ?_; rintro e w1 ⟨rfl, hb1⟩; have hR := HR.out.1.below hb1 (by rw [HR.out.2]; omega); have k0 := hR.c0; have k1 := hR.c1; have f0 := hR.f0; have f1 := hR.f1)
  obtain ⟨s0, s1, hch⟩ := rt_put hR 0 ⟨#[]⟩
  refine bodyPost_ret (v := .tuple #[noR, .int .i64 150]) (by simp [results, Tryd.results10, go_sem, s0, s1]) rfl ⟨rfl, ?_⟩
  exact (bnext hb hb1).trans (hch.below (by rintro b rfl; omega))
set_option maxRecDepth 100000 in
set_option maxHeartbeats 1000000 in
theorem refroot_long (w : World) (kd k : Int) (old size : Nat) (sa : Option Addr) (ns sc : Nat) (da : Option Addr) (n2 dc : Nat)
    (HI : Hid (∀ W, Below w.heap.size w W → Calls Tryd.prog 30 #[.agg #[.int .i64 kd, .int .i64 k, .int .u64 (old : Int), .int .u64 (size : Int), .slice sa ns sc, .slice da n2 dc]] W fun e w' => e = .returned (.bool true) ∧ Below W.heap.size W w')) (x : ByteArray) (hx : 1048576 < x.size) :
    Calls Tryd.prog 10 #[.agg #[.int .i64 kd, .int .i64 k, .int .u64 (old : Int), .int .u64 (size : Int), .slice sa ns sc, .slice da n2 dc], .string x] w fun e w' => e = .returned (.tuple #[noR, .int .i64 100]) ∧ Below w.heap.size w w' := by
  have hxz : (1048576 : Int) < (x.size : Int) := by omega
  clear hx
  go_enter Tryd.func10, Tryd.ntmps10
  go_upto_region 1 with (fail)
  obtain ⟨W0, hW0⟩ : ∃ W0, (w.alloc (.cells #[.int .i64 kd, .int .i64 k, .int .u64 (old : Int), .int .u64 (size : Int), .slice sa ns sc, .slice da n2 dc] 26)).alloc (.cells #[.int .u64 0, .string ⟨#[]⟩] 30) = W0 := ⟨_, rfl⟩
  rw [hW0]
  obtain ⟨hb, h6, hRt, hz⟩ := root_start hW0
  obtain ⟨c0, c1, c2, c3, c4, c5⟩ := h6.cells
  have HR := hide (And.intro hRt hz)
  clear hW0 h6 hRt hz
  go_wp2_with (go_at_call 30; with_reducible refine (HI.out _ hb).mono ?_; rintro e w1 ⟨rfl, hb1⟩; have hR := HR.out.1.below hb1 (by rw [HR.out.2]; omega); have k0 := hR.c0; have k1 := hR.c1; have f0 := hR.f0; have f1 := hR.f1)
  obtain ⟨s0, s1, hch⟩ := rt_put hR 0 ⟨#[]⟩
  refine bodyPost_ret (v := .tuple #[noR, .int .i64 100]) (by simp [results, Tryd.results10, go_sem, s0, s1]) rfl ⟨rfl, ?_⟩
  exact (bnext hb hb1).trans (hch.below (by rintro b rfl; omega))
/-- Both Roots of one proof, wherever it lies. -/
theorem roots_any (kd k : Int) (old size : Nat) (S : List Nat) (D : List ByteArray) (hD : D.length ≤ 9223372036854775807) (x : ByteArray) : ∃ (n : Nat) (r : ByteArray) (er : Int),
    (∀ W sa sb so sc da db dO dc, Tb W → RdU W sa sb so S.length S → RdS W da db dO D.length D → D.length ≤ dc → dc ≤ 9223372036854775807 → (da = none → dc = 0) → Calls Tryd.prog 9 #[.agg #[.int .i64 kd, .int .i64 k, .int .u64 (old : Int), .int .u64 (size : Int), .slice sa S.length sc, .slice da D.length dc], .string x] W fun e w' => e = .returned (.tuple #[.agg #[.int .u64 (n : Int), .string r], .int .i64 er]) ∧ Below W.heap.size W w') ∧
    (∀ W sa sb so sc da db dO dc, Tr W → RdU W sa sb so S.length S → RdS W da db dO D.length D → Calls Tryd.prog 10 #[.agg #[.int .i64 kd, .int .i64 k, .int .u64 (old : Int), .int .u64 (size : Int), .slice sa S.length sc, .slice da D.length dc], .string x] W fun e w' => e = .returned (.tuple #[.agg #[.int .u64 (n : Int), .string r], .int .i64 er]) ∧ Below W.heap.size W w') := by
  by_cases hp : kd = 1 ∧ (1 ≤ k ∧ k ≤ 32) ∧ size ≤ 2 ^ 40 ∧ old = 0 ∧ S.length = 1 ∧ S.getD 0 0 < size
  · obtain ⟨rfl, hk, hn, rfl, hS, hi⟩ := hp
    obtain ⟨i, hi'⟩ : ∃ i, S.getD 0 0 = i := ⟨_, rfl⟩
    rw [hi'] at hi
    obtain ⟨A, H, B, wy⟩ := wy_ex size i hn hi
    have ra : ∀ {W sa sb so}, RdU W sa sb so S.length S → sa = some ⟨sb, so, none⟩ ∧ RA W k size sb so i H A B := fun {W sa sb so} u => by
      refine ⟨u.ptr (by omega), hk, hn, hi, wy, ?_⟩
      have := u.at (j := 0) (by omega)
      rw [hi'] at this
      exact this
    by_cases hf : fil k (H + A.length + B.length) D
    · by_cases hx : 1048576 < x.size
      · refine ⟨0, ⟨#[]⟩, 100, fun W sa sb so sc da db dO dc tb u d h1 h2 h3 => ?_, fun W sa sb so sc da db dO dc tr u d => ?_⟩
        · obtain ⟨rfl, a⟩ := ra u
          rw [hS]
          exact proot_long W k size sb so sc i H A B a da db dO dc D d hD x hf hx
        · obtain ⟨rfl, a⟩ := ra u
          rw [hS]
          exact refroot_long W 1 k 0 size _ 1 sc da D.length dc (fun W' hb => well_core W' k size sb so sc i H A B (a.next hb) da db dO dc D (d.next hb (Nat.le_refl _)) hD true (decide_eq_true hf)) x hx
      · obtain ⟨r, hr⟩ : ∃ r, rtP (clk k) size i A.length H D x = r := ⟨_, rfl⟩
        refine ⟨size, r, 0, fun W sa sb so sc da db dO dc tb u d h1 h2 h3 => ?_, fun W sa sb so sc da db dO dc tr u d => ?_⟩
        · obtain ⟨rfl, a⟩ := ra u
          rw [hS]
          exact proot_ok W k size sb so sc i H A B a da db dO dc D d hD x hf (by omega) tb h1 h2 h3 r hr
        · obtain ⟨rfl, a⟩ := ra u
          rw [hS]
          exact refroot_ok W tr k size sb so sc i H A B a da db dO dc D d hf x (by omega) r hr
    · refine ⟨0, ⟨#[]⟩, 150, fun W sa sb so sc da db dO dc tb u d h1 h2 h3 => ?_, fun W sa sb so sc da db dO dc tr u d => ?_⟩
      · obtain ⟨rfl, a⟩ := ra u
        rw [hS]
        exact proot_fill W k size sb so sc i H A B a da db dO dc D d hD x hf
      · obtain ⟨rfl, a⟩ := ra u
        rw [hS]
        exact refroot_bad W 1 k 0 size _ 1 sc da D.length dc (fun W' hb => well_core W' k size sb so sc i H A B (a.next hb) da db dO dc D (d.next hb (Nat.le_refl _)) hD false (decide_eq_false hf)) x
  · have hc : ∀ {W sa sb so}, RdU W sa sb so S.length S → S.length = 1 → ∃ b o, sa = some ⟨b, o, none⟩ ∧ W.cell? ⟨b, o, none⟩ = some (.int .u64 ((S.getD 0 0 : Nat) : Int)) := fun {W sa sb so} u h => ⟨sb, so, u.ptr (by omega), u.at (j := 0) (by omega)⟩
    refine ⟨0, ⟨#[]⟩, 150, fun W sa sb so sc da db dO dc tb u d h1 h2 h3 => ?_, fun W sa sb so sc da db dO dc tr u d => ?_⟩
    · exact proot_form W kd k old size sa S.length sc da D.length dc (S.getD 0 0) (hc u) hp x
    · exact refroot_bad W kd k old size sa S.length sc da D.length dc (fun W' hb => well_form W' kd k old size sa S.length sc da D.length dc (S.getD 0 0) (hc (u.next hb)) hp) x
end Go.Proofs.YtgmnolepaidiiaaDoor
