/-
  What Decode answers, to be read; the laws' formed. Own work.
-/
import Derived.Test.YtelglfmppmdmoaaSWalkA
import Derived.Test.YtelglfmppmdmoaaDWalkG
namespace Go.Proofs.Ytelglfmppmdmoaa
open Go.RowKit
attribute [local go_sem ↓] Go.wp_at_zero Go.wp_at_succ
theorem own_rdp {w : World} {B : Nat} {sv dv : Value} {P : PV} (h : Well P) (o1 : Cv.Own w B sv P.S) (o2 : OwnS w B dv P.D) : ∃ sa sb sc da db dc, sv = .slice sa P.S.length sc ∧ dv = .slice da P.D.length dc ∧ RdP w sa sb 0 sc da db 0 dc P := by
  have ho := cnt_ok h.1
  have i1 := ho.hold
  have i2 := ho.hsz
  have i3 := ho.len
  have i4 := ho.hc
  have i5 := ho.k32
  obtain ⟨sa, sb, sc, rfl, r1, _⟩ := own_read o1
  obtain ⟨da, db, dc, rfl, r2, r3, _⟩ := owns_rds o2 (fun d hd => by have := h.2 d hd; omega)
  exact ⟨sa, sb, sc, da, db, dc, rfl, rfl, r1, r2, by omega, by omega, by omega, by omega, r3⟩
/-- No proof, as data. -/
def noV : PV := ⟨0, 0, 0, 0, [], []⟩
theorem rdp_no (w : World) : RdP w none 0 0 0 none 0 0 0 noV :=
  ⟨⟨rfl, fun h => absurd h (Nat.lt_irrefl 0), fun j v h => by cases h⟩, ⟨rfl, fun h => absurd h (Nat.lt_irrefl 0), fun j v h => (by cases h), fun s h => (by cases h)⟩, by decide, by decide, by decide, by decide, by decide⟩
theorem decode_none (w : World) (s : ByteArray) (hs : s.size ≤ 281474976710656) (h : dec s.data.toList = none) :
    Calls Try.prog 10 #[.string s] w fun e w' => e = .returned (.tuple #[noP, .int .i64 140]) ∧ Below w.heap.size w w' := by
  refine (decode_any w s hs).mono ?_
  rintro e w' (⟨P, _, _, h1, _⟩ | ⟨_, h2, h3⟩)
  · rw [h] at h1; cases h1
  · exact ⟨h2, h3⟩
theorem decode_some (w : World) (s : ByteArray) (hs : s.size ≤ 281474976710656) (P : PV) (h : dec s.data.toList = some P) :
    Calls Try.prog 10 #[.string s] w fun e w' => ∃ sa sb sc da db dc, e = .returned (.tuple #[.agg #[.int .i64 P.kd, .int .i64 P.k, .int .u64 (P.old : Int), .int .u64 (P.size : Int), .slice sa P.S.length sc, .slice da P.D.length dc], .int .i64 0]) ∧ RdP w' sa sb 0 sc da db 0 dc P ∧ Below w.heap.size w w' := by
  refine (decode_any w s hs).mono ?_
  rintro e w' (⟨P', sv, dv, h1, rfl, h3, h4, h5⟩ | ⟨h1, _⟩)
  · rw [h] at h1; cases h1
    obtain ⟨sa, sb, sc, da, db, dc, rfl, rfl, r⟩ := own_rdp (enc_dec h).1 h3 h4
    exact ⟨sa, sb, sc, da, db, dc, rfl, r, h5⟩
  · rw [h] at h1; cases h1
theorem sameproof_yes (w : World) (sa : Option Addr) (sb so sc : Nat) (da : Option Addr) (db dO dc : Nat) (ca : Option Addr) (cb co cc : Nat) (ea : Option Addr) (eb eO ec : Nat) (P : PV) (h1 : RdP w sa sb so sc da db dO dc P) (h2 : RdP w ca cb co cc ea eb eO ec P) :
    Calls Try.prog 21 #[pvP P sa sc da dc, pvP P ca cc ea ec] w fun e w' => e = .returned (.bool true) ∧ Below w.heap.size w w' := by
  have HS : Hid (∀ F, Below w.heap.size w F → Calls Try.prog 13 #[pvP P sa sc da dc, pvP P ca cc ea ec] F fun e w' => e = .returned (.bool true) ∧ Below F.heap.size F w') := fun F hF => same_yes F sa sb so sc da db dO dc ca cb co cc ea eb eO ec P (h1.next hF) (h2.next hF)
  obtain ⟨kd, k, old, size, S, D⟩ := P
  simp only [pvP] at HS ⊢
  clear h1 h2
  generalize S.length = ms at *
  generalize D.length = md at *
  go_enter Try.func21, Try.ntmps21
  go_wp2_with (go_at_call 13; (refine (HS.out _ (bal (bal (Below.refl _ _) _) _)).mono ?_); rintro x w1 ⟨rfl, hb1⟩)
  go_ret
  exact ⟨rfl, bnext (bal (bal (Below.refl _ _) _) _) hb1⟩
/-- The known proof. -/
def kV : PV := ⟨1, 1, 0, 1, [0], []⟩
theorem kV_well : Well kV := by decide
theorem kV_enc : enc kV = [1, 1, 1, 0] := by
  simp [enc, mid, kV, num_low, flat]
set_option maxRecDepth 100000 in
theorem formed_any (w : World) : Calls Try.prog 20 #[] w fun e w' => e = .returned (.bool true) ∧ Below w.heap.size w w' := by
  go_enter Try.func20, Try.ntmps20
  go_upto_region 2 with (fail)
  obtain ⟨W, hW⟩ : ∃ W, (w.alloc (.cells #[.int .u64 0] 22)).alloc (.cells #[.int .i64 1, .int .i64 1, .int .u64 0, .int .u64 1, .slice (some ⟨w.heap.size, 0, none⟩) 1 1, .slice none 0 0] 26) = W := ⟨_, rfl⟩
  have hb : Below w.heap.size w W := by rw [← hW]; exact bal (bal (Below.refl _ _) _) _
  have h6 : Six W (w.heap.size + 1) (.int .i64 1) (.int .i64 1) (.int .u64 0) (.int .u64 1) (.slice (some ⟨w.heap.size, 0, none⟩) 1 1) (.slice none 0 0) := by
    rw [← hW]
    have := six_new (w.alloc (.cells #[.int .u64 0] 22)) (.int .i64 1) (.int .i64 1) (.int .u64 0) (.int .u64 1) (.slice (some ⟨w.heap.size, 0, none⟩) 1 1) (.slice none 0 0)
    rwa [World.size_alloc] at this
  have hr : RdP W (some ⟨w.heap.size, 0, none⟩) w.heap.size 0 1 none 0 0 0 kV := by
    refine ⟨⟨rfl, fun _ => rfl, ?_⟩, (rdp_no W).rd, by decide, by decide, by decide, by decide, by decide⟩
    rw [← hW]
    exact range_below (bal (Below.refl _ _) _) (by simp) (range_new w [.int .u64 0] 22)
  have HE : Calls Try.prog 11 #[.agg #[.int .i64 1, .int .i64 1, .int .u64 0, .int .u64 1, .slice (some ⟨w.heap.size, 0, none⟩) 1 1, .slice none 0 0]] W fun e w' => e = .returned (.tuple #[.string ⟨#[1, 1, 1, 0]⟩, .int .i64 0]) ∧ Below W.heap.size W w' := by
    have := encode_yes W _ _ _ _ _ _ _ _ kV hr kV_well
    rw [kV_enc] at this
    exact this
  have HD : ∀ F, Calls Try.prog 10 #[.string ⟨#[1, 1, 1, 0]⟩] F _ := fun F => decode_some F ⟨#[1, 1, 1, 0]⟩ (by decide) kV (by have := dec_enc kV_well; rw [kV_enc] at this; exact this)
  simp only [kV] at HD
  have HX : Hid (∀ F, Below W.heap.size W F → RdP F (some ⟨w.heap.size, 0, none⟩) w.heap.size 0 1 none 0 0 0 kV ∧ Six F (w.heap.size + 1) (.int .i64 1) (.int .i64 1) (.int .u64 0) (.int .u64 1) (.slice (some ⟨w.heap.size, 0, none⟩) 1 1) (.slice none 0 0) ∧ Below w.heap.size w F) := fun F hF => ⟨hr.next hF, h6.next hF, bnext hb hF⟩
  obtain ⟨e0, e1, e2, e3, e4, e5⟩ := h6.cells
  rw [hW]
  clear hb h6 hr hW
  go_upto_region 3 with (go_at_call 11; with_reducible refine HE.mono ?_; rintro x w1 ⟨rfl, hb1⟩)
  clear HE e0 e1 e2 e3 e4 e5
  go_upto_region 4 with (go_at_call 10; (refine (HD _).mono ?_); rintro x w2 ⟨sa, sb, sc, da, db, dc, rfl, q1, q2⟩)
  obtain ⟨W3, hW3, h7, hb3, _⟩ := box6 w2 (.int .i64 1) (.int .i64 1) (.int .u64 0) (.int .u64 1) (.slice sa 1 sc) (.slice da 0 dc)
  try rw [hW3]
  clear hW3
  have hw3 : Below W.heap.size W W3 := bnext (bnext hb1 q2) hb3
  obtain ⟨x1, x2, x3⟩ := HX.out _ hw3
  have HS : Calls Try.prog 21 #[.agg #[.int .i64 1, .int .i64 1, .int .u64 0, .int .u64 1, .slice (some ⟨w.heap.size, 0, none⟩) 1 1, .slice none 0 0], .agg #[.int .i64 1, .int .i64 1, .int .u64 0, .int .u64 1, .slice sa 1 sc, .slice da 0 dc]] W3 fun e w' => e = .returned (.bool true) ∧ Below W3.heap.size W3 w' :=
    sameproof_yes W3 _ _ _ _ _ _ _ _ _ _ _ _ _ _ _ _ kV x1 (q1.next hb3)
  obtain ⟨e0, e1, e2, e3, e4, e5⟩ := x2.cells
  obtain ⟨m0, m1, m2, m3, m4, m5⟩ := h7.cells
  have HB := hide x3
  clear x1 x2 x3 q1 q2 hb3 h7 hw3 hb1 HX HD
  go_wp2_with (go_at_call 21; with_reducible refine HS.mono ?_; rintro x w4 ⟨rfl, hb4⟩)
  go_ret
  exact ⟨rfl, bnext HB.out hb4⟩
end Go.Proofs.Ytelglfmppmdmoaa
