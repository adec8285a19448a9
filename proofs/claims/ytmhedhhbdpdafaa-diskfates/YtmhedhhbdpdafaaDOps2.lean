/-
  Cut, Sync. Own work.
-/
import Derived.Test.YtmhedhhbdpdafaaDOps
namespace Go.Proofs.Ytmhedhhbdpdafaa
open Go.RowKit
theorem al_three (w : World) (o1 o2 o3 : Obj) : (((w.alloc o1).alloc o2).alloc o3).heap[w.heap.size]? = some o1 ∧ (((w.alloc o1).alloc o2).alloc o3).heap[w.heap.size + 1]? = some o2 ∧ (((w.alloc o1).alloc o2).alloc o3).heap[w.heap.size + 2]? = some o3 := by
  have s1 := al_size w o1
  have s2 := al_size (w.alloc o1) o2
  refine ⟨?_, ?_, al_new _ (by omega)⟩
  · rw [al_get _ (by omega), al_get _ (by omega)]; exact new1 w o1
  · rw [al_get _ (by omega)]; exact al_new _ (by omega)
/-- Cut. -/
def cutD (D : DV) (s : List UInt8) (off : Int) : DV × Int :=
  if D.down then (D, 170) else
  if off < 0 ∨ ((fget D.L s).now.length : Int) < off then (D, 173) else
  actD D s ⟨(fget D.L s).now.take off.toNat, (fget D.L s).syn⟩
/-- Sync. -/
def synD (D : DV) (s : List UInt8) : DV × Int := if D.down then (D, 170) else actD D s ⟨(fget D.L s).now, (fget D.L s).now⟩
section
variable {p m : Nat} {R : List UInt8 → FR} {ka : Option Addr} {kb ko kc : Nat} {D : DV}
set_option maxRecDepth 100000 in
set_option maxHeartbeats 2000000 in
theorem cut_any (w : World) (h : Dk w p m R ka kb ko kc D none) (s : ByteArray) (hs : s.size ≤ maxLen) (off : Int) (ho1 : -9223372036854775808 ≤ off) (ho2 : off ≤ 9223372036854775807) (hac : D.acts + 1 ≤ 4611686018427387904) (hcnt : D.L.length < 1099511627776) (hfr : D.down = false → D.free + (fget D.L s.data.toList).now.length ≤ 9223372036854775807) :
    Calls Try.prog 14 #[.pointer (some ⟨p, 0, none⟩), .string s, .int .i64 off] w fun e w' => e = .returned (.int .i64 (cutD D s.data.toList off).2) ∧ Left w w' p m R kb ko D (cutD D s.data.toList off).1 := by
  obtain ⟨r, hl, hr⟩ := h.look s hs
  obtain ⟨hfil, _⟩ := h.file hr
  have hb1 := hfil.b1
  obtain ⟨f0, hf0⟩ : ∃ f0, fget D.L s.data.toList = f0 := ⟨_, rfl⟩
  rw [hf0] at hl hb1 hfr
  obtain ⟨n, hn⟩ : ∃ n, f0.now.length = n := ⟨_, rfl⟩
  obtain ⟨n2, hn2⟩ : ∃ n, f0.syn.length = n := ⟨_, rfl⟩
  simp only [fval, fv, hn, hn2] at hl
  have hwr : cutD D s.data.toList off = if D.down then (D, 170) else if off < 0 ∨ (n : Int) < off then (D, 173) else actD D s.data.toList ⟨f0.now.take off.toNat, f0.syn⟩ := by
    simp only [cutD, hf0, hn]
  obtain ⟨w4, hw4⟩ : ∃ W, ((w.alloc (.cells #[.pointer (some ⟨p, 0, none⟩)] 25)).alloc (.cells #[.string s] 9)).alloc (.cells #[.int .i64 off] 3) = W := ⟨_, rfl⟩
  have hb4 : Below w.heap.size w w4 := by rw [← hw4]; exact bal (bal (bal (Below.refl _ _) _) _) _
  have hz4 : w4.heap.size = w.heap.size + 3 := by rw [← hw4]; simp
  have hq4 := al_three w (.cells #[.pointer (some ⟨p, 0, none⟩)] 25) (.cells #[.string s] 9) (.cells #[.int .i64 off] 3)
  rw [hw4] at hq4
  obtain ⟨n1, n2', n3⟩ := hq4
  have hr2 := r
  obtain ⟨ra, rg, rc, rb, rh, rd, rs⟩ := r
  simp only at hl
  obtain ⟨w5, hw5⟩ : ∃ W, w4.alloc (.cells #[.slice ra n rc, .slice rb n2 rd, .int .i64 (rs : Int)] 71) = W := ⟨_, rfl⟩
  have h4 := h.next hb4
  obtain ⟨c0, c1, c2, c3, c4, c5, c6⟩ := h4.cells
  have a1 := Bx1.at n1
  have a2 := Bx1.at n2'
  have hl4 := hl w4.drew (hb4.block m h.mp.lt)
  have hl5 := hl (w4.alloc (.cells #[.slice none 0 0, .slice none 0 0, .int .i64 0] 71)).drew ((al_get _ h4.mp.lt).trans (hb4.block m h.mp.lt))
  have hb5 : Below w4.heap.size w4 w5 := by rw [← hw5]; exact bal (Below.refl _ _) _
  have HG : Hid (Dk w p m R ka kb ko kc D none ∧ Below w.heap.size w w4 ∧ Below w4.heap.size w4 w5 ∧ w4.heap.size = w.heap.size + 3 ∧ n ≤ 268435456 ∧ (D.down = false → D.free + n ≤ 9223372036854775807) ∧ D.acts + 1 ≤ 4611686018427387904 ∧ D.L.length < 1099511627776 ∧ fget D.L s.data.toList = f0 ∧ f0.now.length = n ∧ f0.syn.length = n2) := ⟨h, hb4, hb5, hz4, by omega, fun q => by have := hfr q; omega, hac, hcnt, hf0, hn, hn2⟩
  have HWr := hide hwr
  have hp4 : ¬ (p = w4.heap.size) := by have := h.lt (.inl rfl); omega
  have a0 : ∀ i j v, i < w4.heap.size → w4.cell? ⟨i, j, none⟩ = some v → (w4.alloc (.cells #[.slice none 0 0, .slice none 0 0, .int .i64 0] 71)).cell? ⟨i, j, none⟩ = some v := fun i j v hi hv => by
    unfold World.cell? at hv ⊢; rw [al_get _ hi]; exact hv
  have a3 := a0 _ _ _ (by omega) a1
  have a4 := a0 _ _ _ (by omega) a2
  have a5 := a0 _ _ _ (h4.lt (.inl rfl)) c1
  clear a0
  have HW4 : Hid (((w.alloc (.cells #[.pointer (some ⟨p, 0, none⟩)] 25)).alloc (.cells #[.string s] 9)).alloc (.cells #[.int .i64 off] 3) = w4) := hw4
  have HW5 : Hid (w4.alloc (.cells #[.slice ra n rc, .slice rb n2 rd, .int .i64 (rs : Int)] 71) = w5) := hw5
  have HN : Hid (Bx1 w4 w.heap.size (.pointer (some ⟨p, 0, none⟩)) 25 ∧ Bx1 w4 (w.heap.size + 1) (.string s) 9 ∧ Bx1 w4 (w.heap.size + 2) (.int .i64 off) 3 ∧ ((s.data.toList ∈ keys D.L ∧ (⟨ra, rg, rc, rb, rh, rd, rs⟩ : FR) = R s.data.toList) ∨ (s.data.toList ∉ keys D.L ∧ (⟨ra, rg, rc, rb, rh, rd, rs⟩ : FR) = fr0 ∧ fget D.L s.data.toList = fz))) := ⟨n1, n2', n3, hr⟩
  clear h hb4 hz4 hb5 hn hn2 hf0 hfr hac hcnt hb1 hfil hwr hr n1 n2' n3 h4 c0 c2 c3 c4 c5 c6 hw4 hw5 hl hr2
  go_enter Try.func14, Try.ntmps14
  go_upto_region 1 with (fail)
  rw [show (w.heap.size + 1 + 1 : Nat) = w.heap.size + 2 from rfl, HW4.out]
  go_region
  all_goals
    rw [HW5.out]
    obtain ⟨w6, hw6⟩ : ∃ W, w5.drew = W := ⟨_, rfl⟩
    rw [hw6]
    obtain ⟨h, hb4, hb5, hz4, hn0, hfr, hac, hcnt, hf0, hn, hn2⟩ := HG.out
    obtain ⟨x1, x2, x4, hr⟩ := HN.out
    have hb6 : Below w4.heap.size w4 w6 := by rw [← hw6]; exact ⟨hb5.os, hb5.tape, hb5.output, hb5.size, hb5.block⟩
    have x3 : w6.heap[w4.heap.size]? = some (.cells #[.slice ra n rc, .slice rb n2 rd, .int .i64 (rs : Int)] 71 (0, 0)) := by rw [← hw6, ← HW5.out]; exact new1 w4 _
    have y1 : Bx1 w6 w.heap.size _ _ := (hb6.block _ (by omega)).trans x1
    have y2 : Bx1 w6 (w.heap.size + 1) _ _ := (hb6.block _ (by omega)).trans x2
    have y4 : Bx1 w6 (w.heap.size + 2) _ _ := (hb6.block _ (by omega)).trans x4
    have hbw := bnext hb4 hb6
    have h6 := h.next hbw
    obtain ⟨c0, c1', c2, c3, c4, c5, c6⟩ := h6.cells
    obtain ⟨b0, b1, b2⟩ := three_at x3
    have z1 := y1.at
    have z2 := y2.at
    have z4 := y4.at
    have hwr := HWr.out
    have HS : Hid (Left w w6 p m R kb ko D D) := left_same h hbw
    have HQ : Hid (Dk w6 p m R ka kb ko kc D none ∧ Below w.heap.size w w6 ∧ Bx1 w6 w.heap.size (.pointer (some ⟨p, 0, none⟩)) 25 ∧ Bx1 w6 (w.heap.size + 1) (.string s) 9 ∧ Bx1 w6 (w.heap.size + 2) (.int .i64 off) 3 ∧ w6.heap[w4.heap.size]? = some (.cells #[.slice ra n rc, .slice rb n2 rd, .int .i64 (rs : Int)] 71 (0, 0))) := ⟨h6, hbw, y1, y2, y4, x3⟩
    clear hw6 h hb4 hb5 hz4 hf0 hn hn2 x1 x2 x4 hr hb6 x3 y1 y2 y4 hbw h6 c1' c2 c3 c4 c5 b1 b2 a1 a2 a3 a4 a5 c1 hl4 hl5 hp4 HW5 HW4 HWr hac hcnt
    by_cases hd : D.down = true
    · rw [if_pos hd] at hwr
      have HE := hide hwr
      clear hwr
      rw [hd] at c6
      go_wp2
      go_ret
      rw [HE.out]
      exact ⟨rfl, HS.out⟩
    rw [if_neg hd] at hwr
    have hd2 : D.down = false := by simpa using hd
    rw [hd2] at c6
    have HDn := hide hd2
    clear hd hd2
    by_cases hc : off < 0 ∨ (n : Int) < off
    · rw [if_pos hc] at hwr
      have HE := hide hwr
      clear hwr
      by_cases k1 : off < 0
      · clear hc
        go_wp2
        go_ret
        rw [HE.out]
        exact ⟨rfl, HS.out⟩
      have k2 : (n : Int) < off := by omega
      clear hc
      go_wp2
      go_ret
      rw [HE.out]
      exact ⟨rfl, HS.out⟩
    rw [if_neg hc] at hwr
    have k1 : ¬ off < 0 := fun e => hc (.inl e)
    have k2 : ¬ (n : Int) < off := fun e => hc (.inr e)
    obtain ⟨k, rfl⟩ : ∃ k : Nat, off = (k : Int) := ⟨off.toNat, by omega⟩
    have HE := hide hwr
    have HAct : Hid (Calls Try.prog 29 #[.pointer (some ⟨p, 0, none⟩), .func (.func 33) #[] #[.pointer (some ⟨w.heap.size, 0, none⟩), .pointer (some ⟨w.heap.size + 1, 0, none⟩), .pointer (some ⟨w4.heap.size, 0, none⟩), .pointer (some ⟨w.heap.size + 2, 0, none⟩)]] w6 fun e w' => e = .returned (.int .i64 (cutD D s.data.toList (k : Int)).2) ∧ Left w w' p m R kb ko D (cutD D s.data.toList (k : Int)).1) := by
      obtain ⟨h, hb4, hb5, hz4, hn0, hfr, hac, hcnt, hf0, hn, hn2⟩ := HG.out
      obtain ⟨x1, x2, x4, hr⟩ := HN.out
      have hfr := hfr HDn.out
      obtain ⟨q1, q2, q3, q4, q5, q7⟩ := HQ.out
      have hf : fget D.L s.data.toList = f0 := hf0
      have HD := do_cut w6 q1 s hs k (by rw [hf, hn]; omega) ⟨ra, rg, rc, rb, rh, rd, rs⟩ hr hcnt (by rw [hf, hn]; omega) w.heap.size (w.heap.size + 1) w4.heap.size (w.heap.size + 2) q3 q4 (by rw [hf, hn, hn2]; exact q7) q5
      have HZ := act_any w6 q1 hac _ _ _ _ HD (.inr (.inl rfl))
      rw [hf] at HZ
      refine HZ.mono ?_
      rintro e w' ⟨m', R', ka', kc', rfl, hl⟩
      rw [HE.out, Int.toNat_natCast]
      exact ⟨rfl, left_next q2 ⟨m', R', ka', kc', hl⟩⟩
    clear HE hwr HS HQ HG HN
    go_wp2_with (go_at_call 29; (with_reducible refine HAct.out.mono ?_); rintro e w7 ⟨rfl, hl⟩)
    go_ret
    exact ⟨rfl, hl⟩
set_option maxRecDepth 100000 in
set_option maxHeartbeats 1000000 in
theorem sync_any (w : World) (h : Dk w p m R ka kb ko kc D none) (s : ByteArray) (hs : s.size ≤ maxLen) (hac : D.acts + 1 ≤ 4611686018427387904) (hcnt : D.L.length < 1099511627776) (hfr : D.down = false → D.free + (fget D.L s.data.toList).now.length ≤ 9223372036854775807) :
    Calls Try.prog 15 #[.pointer (some ⟨p, 0, none⟩), .string s] w fun e w' => e = .returned (.int .i64 (synD D s.data.toList).2) ∧ Left w w' p m R kb ko D (synD D s.data.toList).1 := by
  obtain ⟨w4, hw4⟩ : ∃ W, (w.alloc (.cells #[.pointer (some ⟨p, 0, none⟩)] 25)).alloc (.cells #[.string s] 9) = W := ⟨_, rfl⟩
  have HW4 : Hid ((w.alloc (.cells #[.pointer (some ⟨p, 0, none⟩)] 25)).alloc (.cells #[.string s] 9) = w4) := hw4
  have hb4 : Below w.heap.size w w4 := by rw [← hw4]; exact bal (bal (Below.refl _ _) _) _
  have x1 : Bx1 w4 w.heap.size (.pointer (some ⟨p, 0, none⟩)) 25 := by rw [← hw4]; exact new0 _ _ _
  have x2 : Bx1 w4 (w.heap.size + 1) (.string s) 9 := by rw [← hw4]; exact new2 _ _ _
  have h4 := h.next hb4
  have HS : Hid (Left w w4 p m R kb ko D D) := left_same h hb4
  obtain ⟨_, _, _, _, _, _, c6⟩ := h4.cells
  have z1 := x1.at
  have z2 := x2.at
  have hsd : synD D s.data.toList = if D.down then (D, 170) else actD D s.data.toList ⟨(fget D.L s.data.toList).now, (fget D.L s.data.toList).now⟩ := rfl
  have HAct : Hid (D.down = false → Calls Try.prog 29 #[.pointer (some ⟨p, 0, none⟩), .func (.func 35) #[] #[.pointer (some ⟨w.heap.size, 0, none⟩), .pointer (some ⟨w.heap.size + 1, 0, none⟩)]] w4 fun e w' => e = .returned (.int .i64 (synD D s.data.toList).2) ∧ Left w w' p m R kb ko D (synD D s.data.toList).1) := fun hd => by
    refine (act_any w4 h4 hac _ _ _ _ (do_sync w4 h4 s hs hcnt (hfr hd) w.heap.size (w.heap.size + 1) x1 x2) (.inr (.inr rfl))).mono ?_
    rintro e w' ⟨m', R', ka', kc', rfl, hl⟩
    rw [hsd, if_neg (by simp [hd])]
    exact ⟨rfl, left_next hb4 ⟨m', R', ka', kc', hl⟩⟩
  have HSD := hide hsd
  clear h hb4 h4 x1 x2 hw4 hac hcnt hfr hsd
  by_cases hd : D.down = true
  · rw [hd] at c6
    have HE : Hid (synD D s.data.toList = (D, 170)) := by show _ = _; rw [HSD.out, if_pos hd]
    clear hd HSD HAct
    go_enter Try.func15, Try.ntmps15
    go_upto_region 1 with (fail)
    rw [HW4.out]
    go_wp2
    go_ret
    rw [HE.out]
    exact ⟨rfl, HS.out⟩
  · have hd2 : D.down = false := by simpa using hd
    have HA2 := hide (HAct.out hd2)
    rw [hd2] at c6
    clear hd hd2 HSD HAct HS
    go_enter Try.func15, Try.ntmps15
    go_upto_region 1 with (fail)
    rw [HW4.out]
    go_wp2_with (go_at_call 29; (with_reducible refine HA2.out.mono ?_); rintro e w7 ⟨rfl, hl⟩)
    go_ret
    exact ⟨rfl, hl⟩
end
end Go.Proofs.Ytmhedhhbdpdafaa
