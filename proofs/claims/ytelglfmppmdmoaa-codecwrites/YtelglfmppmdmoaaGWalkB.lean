/-
  Walks of the laws of codec: fixed. Own work.
-/
import Derived.Test.YtelglfmppmdmoaaGWalkA
namespace Go.Proofs.Ytelglfmppmdmoaa
open Go.RowKit
attribute [local go_sem ↓] Go.wp_at_zero Go.wp_at_succ
def fxB : ByteArray := ⟨#[120]⟩
def fyB : ByteArray := ⟨#[121]⟩
/-- The known kin. -/
def kinV : PV := ⟨3, 1, 2, 3, [], [fxB, fyB]⟩
/-- The known batch. -/
def batV : PV := ⟨2, 1, 0, 3, [0, 2], [fxB]⟩
theorem kinV_well : Well kinV := by decide
theorem batV_well : Well batV := by decide
theorem kinV_enc : enc kinV = [3, 1, 3, 2, 120, 121] := by
  simp [enc, mid, kinV, num_low, flat, fxB, fyB]
theorem batV_enc : enc batV = [2, 1, 3, 2, 0, 1, 120] := by
  simp [enc, mid, batV, num_low, flat, laidL, fxB]
theorem fix_none : dec [1, 1, 129, 0, 0] = none := by decide
theorem fix_cnt : cnt 1 1 0 3 [0] = some 2 := by decide
set_option maxRecDepth 100000 in
set_option maxHeartbeats 1000000 in
theorem fixed_any (w : World) : Calls Try.prog 9 #[] w fun e w' => e = .returned (.bool true) ∧ Below w.heap.size w w' := by
  obtain ⟨W, hW⟩ : ∃ W, (w.alloc (.cells #[.string fxB, .string fyB] 9)) = W := ⟨_, rfl⟩
  have hb : Below w.heap.size w W := by rw [← hW]; exact bal (Below.refl _ _) _
  have hr : RdP W none 0 0 0 (some ⟨w.heap.size, 0, none⟩) w.heap.size 0 2 kinV := by
    refine ⟨(rdp_no W).rs, ⟨rfl, fun _ => rfl, ?_, ?_⟩, by decide, by decide, by decide, by decide, by decide⟩
    · rw [← hW]; exact range_new w [.string fxB, .string fyB] 9
    · intro s hs
      simp [kinV] at hs
      rcases hs with rfl | rfl <;> decide
  have HE : Calls Try.prog 11 #[.agg #[.int .i64 3, .int .i64 1, .int .u64 2, .int .u64 3, .slice none 0 0, .slice (some ⟨w.heap.size, 0, none⟩) 2 2]] W fun e w' => e = .returned (.tuple #[.string ⟨#[3, 1, 3, 2, 120, 121]⟩, .int .i64 0]) ∧ Below W.heap.size W w' := by
    have := encode_yes W _ _ _ _ _ _ _ _ kinV hr kinV_well
    rw [kinV_enc] at this
    exact this
  have HD : ∀ F, Calls Try.prog 10 #[.string ⟨#[2, 1, 3, 2, 0, 1, 120]⟩] F fun e w' => ∃ sa sb sc da db dc, e = .returned (.tuple #[.agg #[.int .i64 2, .int .i64 1, .int .u64 0, .int .u64 3, .slice sa 2 sc, .slice da 1 dc], .int .i64 0]) ∧ RdP w' sa sb 0 sc da db 0 dc batV ∧ Below F.heap.size F w' := fun F => decode_some F ⟨#[2, 1, 3, 2, 0, 1, 120]⟩ (by decide) batV (by have := dec_enc batV_well; rw [batV_enc] at this; exact this)
  have HN : ∀ F, Calls Try.prog 10 #[.string ⟨#[1, 1, 129, 0, 0]⟩] F _ := fun F => decode_none F ⟨#[1, 1, 129, 0, 0]⟩ (by decide) fix_none
  have HC : ∀ F : World, Calls Try.prog 12 #[.agg #[.int .i64 1, .int .i64 1, .int .u64 0, .int .u64 3, .slice (some ⟨F.heap.size, 0, none⟩) 1 1, .slice none 0 0]] (F.alloc (.cells #[.int .u64 0] 22)) fun e w' => e = .returned (.tuple #[.int .u64 2, .int .i64 0]) ∧ Below (F.alloc (.cells #[.int .u64 0] 22)).heap.size (F.alloc (.cells #[.int .u64 0] 22)) w' := fun F => by
    have := count_any (F.alloc (.cells #[.int .u64 0] 22)) 1 1 0 3 (some ⟨F.heap.size, 0, none⟩) F.heap.size 0 1 [0] (.slice none 0 0) (by decide) (by decide) ⟨rfl, fun _ => rfl, range_new F [.int .u64 0] 22⟩ (by decide)
    rw [fix_cnt] at this
    exact this
  have HB := hide hb
  clear hb hr
  go_enter Try.func9, Try.ntmps9
  go_upto_region 2 with (go_at_call 11; (try rw [show (⟨#[120]⟩ : ByteArray) = fxB from rfl, show (⟨#[121]⟩ : ByteArray) = fyB from rfl]); (try rw [hW]); with_reducible refine HE.mono ?_; rintro x w1 ⟨rfl, hb1⟩)
  go_upto_region 3 with (go_at_call 10; (refine (HD _).mono ?_); rintro x w2 ⟨sa, sb, sc, da, db, dc, rfl, q1, q2⟩)
  obtain ⟨W3, hW3, h7, hb3, hz3⟩ := box6 w2 (.int .i64 2) (.int .i64 1) (.int .u64 0) (.int .u64 3) (.slice sa 2 sc) (.slice da 1 dc)
  try rw [hW3]
  clear hW3
  obtain ⟨m0, _, _, m3, m4, m5⟩ := h7.cells
  have HF : Hid (∀ G, Below W3.heap.size W3 G → (Six G w2.heap.size (.int .i64 2) (.int .i64 1) (.int .u64 0) (.int .u64 3) (.slice sa 2 sc) (.slice da 1 dc) ∧ RdP G sa sb 0 sc da db 0 dc batV) ∧ Below w.heap.size w G) := fun G hG => ⟨⟨h7.next hG, (q1.next hb3).next hG⟩, bnext (bnext (bnext (bnext HB.out hb1) q2) hb3) hG⟩
  clear h7 hb1 q1 q2 hb3 HE HD hW HB m0 m3 m4 m5
  have HC3 := HC W3
  clear HC hz3
  go_upto_region 4 with (go_at_call 12; with_reducible refine HC3.mono ?_; rintro x w4 ⟨rfl, hb4⟩)
  go_upto_region 5 with (go_at_call 10; with_reducible refine (HN _).mono ?_; rintro x w5 ⟨rfl, hb5⟩)
  obtain ⟨W6, hW6, _, hb6, _⟩ := box6 w5 (.int .i64 0) (.int .i64 0) (.int .u64 0) (.int .u64 0) (.slice none 0 0) (.slice none 0 0)
  try rw [hW6]
  clear hW6
  obtain ⟨⟨x6, y6⟩, z6⟩ := HF.out W6 (bnext (bnext (bnext (bal (Below.refl _ _) _) hb4) hb5) hb6)
  obtain ⟨m0, _, _, m3, m4, m5⟩ := x6.cells
  obtain rfl := y6.rs.ptr (by decide)
  obtain rfl := y6.rd.ptr (by decide)
  have c1 : W6.cell? ⟨sb, 1, none⟩ = some (.int .u64 2) := by simpa [batV] using y6.rs.at (j := 1) (by decide)
  have c2 : W6.cell? ⟨db, 0, none⟩ = some (.string ⟨#[120]⟩) := by simpa [batV, fxB] using y6.rd.at (k := 0) (by decide)
  have HB := hide z6
  clear z6 x6 y6 hb4 hb5 hb6 HC3 HN HF
  go_wp2
  go_ret
  exact ⟨rfl, HB.out⟩
end Go.Proofs.Ytelglfmppmdmoaa
