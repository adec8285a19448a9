/-
  Read. Own work.
-/
import Derived.Test.YtmhedhhbdpdafaaDOps2
namespace Go.Proofs.Ytmhedhhbdpdafaa
open Go.RowKit
/-- Read. -/
def rdD (D : DV) (s : List UInt8) (off n : Int) : List UInt8 × Int :=
  if D.down then ([], 170) else
  if off < 0 ∨ n < 0 ∨ ((fget D.L s).now.length : Int) < off ∨ ((fget D.L s).now.length : Int) - off < n then ([], 173) else
  (((fget D.L s).now.drop off.toNat).take n.toNat, 0)
section
variable {p m : Nat} {R : List UInt8 → FR} {ka : Option Addr} {kb ko kc : Nat} {D : DV}
set_option maxRecDepth 100000 in
set_option maxHeartbeats 2000000 in
theorem read_any (w : World) (h : Dk w p m R ka kb ko kc D none) (s : ByteArray) (hs : s.size ≤ maxLen) (off q : Int) (ho1 : -9223372036854775808 ≤ off) (ho2 : off ≤ 9223372036854775807) (hq1 : -9223372036854775808 ≤ q) (hq2 : q ≤ 9223372036854775807) :
    Calls Try.prog 16 #[.pointer (some ⟨p, 0, none⟩), .string s, .int .i64 off, .int .i64 q] w fun e w' => e = .returned (.tuple #[.string ⟨(rdD D s.data.toList off q).1.toArray⟩, .int .i64 (rdD D s.data.toList off q).2]) ∧ Below w.heap.size w w' := by
  obtain ⟨c0, c1, c2, c3, c4, c5, c6⟩ := h.cells
  obtain ⟨r, hl, hr⟩ := h.look s hs
  have hl1 := hl w rfl
  obtain ⟨hfil, _⟩ := h.file hr
  have hb1 := hfil.b1
  have hnow := hfil.now
  have hfld := field_F
  obtain ⟨f0, hf0⟩ : ∃ f0, fget D.L s.data.toList = f0 := ⟨_, rfl⟩
  rw [hf0] at hl1 hb1 hnow
  obtain ⟨n, hn⟩ : ∃ n, f0.now.length = n := ⟨_, rfl⟩
  obtain ⟨n2, hn2⟩ : ∃ n, f0.syn.length = n := ⟨_, rfl⟩
  simp only [fval, fv, hn, hn2] at hl1
  have hrd : rdD D s.data.toList off q = if D.down then ([], 170) else if off < 0 ∨ q < 0 ∨ (n : Int) < off ∨ (n : Int) - off < q then ([], 173) else ((f0.now.drop off.toNat).take q.toNat, 0) := by
    simp only [rdD, hf0, hn]
  obtain ⟨ra, rg, rc, rb, rh, rd, rs⟩ := r
  simp only at hl1 hnow
  obtain ⟨w1, hw1⟩ : ∃ W, w.alloc (.cells #[.slice ra n rc, .slice rb n2 rd, .int .i64 (rs : Int)] 71) = W := ⟨_, rfl⟩
  have hb : Below w.heap.size w w1 := by rw [← hw1]; exact bal (Below.refl _ _) _
  have x3 : w1.heap[w.heap.size]? = some (.cells #[.slice ra n rc, .slice rb n2 rd, .int .i64 (rs : Int)] 71 (0, 0)) := by rw [← hw1]; exact new1 w _
  have HW : Hid (w.alloc (.cells #[.slice ra n rc, .slice rb n2 rd, .int .i64 (rs : Int)] 71) = w1) := hw1
  have HB := hide hb
  have d6 := (h.next hb).cells.2.2.2.2.2.2
  have HN : Hid (Rw w1 ra rg rc f0.now ∧ f0.now.length = n) := ⟨hnow.next hb (Nat.le_refl _), hn⟩
  have hle := hnow.le
  rw [hn] at hle hb1
  obtain ⟨b0, b1, b2⟩ := three_at x3
  clear hw1 hb h hl hr hfil hnow hf0 hn hn2 x3 c0 c2 c3 c4 c5 c6
  by_cases hd : D.down = true
  · rw [if_pos hd] at hrd
    rw [hd] at d6
    have HE := hide hrd
    clear hrd hd
    go_enter Try.func16, Try.ntmps16
    go_upto_region 2 with (fail)
    rw [HW.out]
    go_wp2
    go_ret2
    rw [HE.out]
    exact ⟨rfl, HB.out⟩
  rw [if_neg hd] at hrd
  have hd2 : D.down = false := by simpa using hd
  rw [hd2] at d6
  clear hd hd2
  go_enter Try.func16, Try.ntmps16
  go_upto_region 2 with (fail)
  rw [HW.out]
  by_cases hc : off < 0 ∨ q < 0 ∨ (n : Int) < off ∨ (n : Int) - off < q
  · rw [if_pos hc] at hrd
    have HE := hide hrd
    clear hrd
    by_cases k1 : off < 0
    · clear hc
      go_wp2
      go_ret2
      rw [HE.out]
      exact ⟨rfl, HB.out⟩
    by_cases k2 : q < 0
    · clear hc
      go_wp2
      go_ret2
      rw [HE.out]
      exact ⟨rfl, HB.out⟩
    by_cases k3 : (n : Int) < off
    · clear hc
      go_wp2
      go_ret2
      rw [HE.out]
      exact ⟨rfl, HB.out⟩
    have k4 : (n : Int) - off < q := by omega
    have e1 : IntKind.i64.wrap ((n : Int) - off) = (n : Int) - off := by rw [IntKind.wrap_i64]; omega
    clear hc
    go_wp2
    go_ret2
    rw [HE.out]
    exact ⟨rfl, HB.out⟩
  rw [if_neg hc] at hrd
  have k1 : ¬ off < 0 := fun e => hc (.inl e)
  have k2 : ¬ q < 0 := fun e => hc (.inr (.inl e))
  have k3 : ¬ (n : Int) < off := fun e => hc (.inr (.inr (.inl e)))
  have k4 : ¬ (n : Int) - off < q := fun e => hc (.inr (.inr (.inr e)))
  obtain ⟨k, rfl⟩ : ∃ k : Nat, off = (k : Int) := ⟨off.toNat, by omega⟩
  obtain ⟨j, rfl⟩ : ∃ k : Nat, q = (k : Int) := ⟨q.toNat, by omega⟩
  have e1 : IntKind.i64.wrap ((n : Int) - (k : Int)) = (n : Int) - (k : Int) := by rw [IntKind.wrap_i64]; omega
  have e2 : IntKind.i64.wrap ((k : Int) + (j : Int)) = ((k + j : Nat) : Int) := by rw [IntKind.wrap_i64]; omega
  have HE := hide hrd
  clear hrd hc
  by_cases hrc : rc = k
  · have j0 : j = 0 := by omega
    have hcv : ∀ x, (convert 49 9 (.slice ra j x)).run Try.prog w1 = .ok (.string ⟨((f0.now.drop k).take j).toArray⟩) w1 := fun x => HN.out.1.conv (by rw [HN.out.2]; omega) (.inl rfl) (fun _ => .inr j0) x
    clear j0
    go_wp2
    go_ret2
    rw [HE.out]
    exact ⟨rfl, HB.out⟩
  · have hcv : ∀ x, (convert 49 9 (.slice (ra.map (·.add k)) j x)).run Try.prog w1 = .ok (.string ⟨((f0.now.drop k).take j).toArray⟩) w1 := fun x => HN.out.1.conv (by rw [HN.out.2]; omega) (.inr rfl) (fun q => ((sub_ok HN.out.1 (by rw [HN.out.2]; omega) (if_neg hrc) HN.out.2).2 q).imp id (fun e => by omega)) x
    go_wp2
    go_ret2
    rw [HE.out]
    exact ⟨rfl, HB.out⟩
end
end Go.Proofs.Ytmhedhhbdpdafaa
