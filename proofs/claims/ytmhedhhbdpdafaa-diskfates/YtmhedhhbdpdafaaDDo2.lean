/-
  Cut: what is done. Own work.
-/
import Derived.Test.YtmhedhhbdpdafaaDDo
namespace Go.Proofs.Ytmhedhhbdpdafaa
open Go.RowKit
section
variable {p m : Nat} {R : List UInt8 → FR} {ka : Option Addr} {kb ko kc : Nat} {D : DV}
set_option maxRecDepth 100000 in
set_option maxHeartbeats 1000000 in
theorem do_cut (w : World) (h : Dk w p m R ka kb ko kc D none) (s : ByteArray) (hs : s.size ≤ maxLen) (k : Nat) (hk : k ≤ (fget D.L s.data.toList).now.length) (r : FR) (hr : (s.data.toList ∈ keys D.L ∧ r = R s.data.toList) ∨ (s.data.toList ∉ keys D.L ∧ r = fr0 ∧ fget D.L s.data.toList = fz))
    (hcnt : D.L.length < 1099511627776) (hfr : D.free + (fget D.L s.data.toList).now.length ≤ 9223372036854775807)
    (bd bn bf bo : Nat) (x1 : Bx1 w bd (.pointer (some ⟨p, 0, none⟩)) 25) (x2 : Bx1 w bn (.string s) 9) (x3 : w.heap[bf]? = some (.cells #[.slice r.a (fget D.L s.data.toList).now.length r.c, .slice r.b (fget D.L s.data.toList).syn.length r.d, .int .i64 (r.s : Int)] 71 (0, 0))) (x4 : Bx1 w bo (.int .i64 (k : Int)) 3) :
    Do w p m R kb ko D 33 #[.pointer (some ⟨bd, 0, none⟩), .pointer (some ⟨bn, 0, none⟩), .pointer (some ⟨bf, 0, none⟩), .pointer (some ⟨bo, 0, none⟩)] s.data.toList ⟨(fget D.L s.data.toList).now.take k, (fget D.L s.data.toList).syn⟩ := by
  have tyD : ∀ {b : Nat} {cs : Array Value} {T : TypeId}, w.heap[b]? = some (.cells cs T (0, 0)) → T ≠ 69 → b ≠ p := fun {b cs T} hb hT e => by
    rw [e, h.blk] at hb
    injection hb with hb
    injection hb with _ hb _
    exact hT hb.symm
  refine ⟨fun W ka2 kc2 D2 hD2 hL hF hW => ?_⟩
  have y1 : Bx1 W bd _ _ := (hW.block bd (Array.getElem?_eq_some_iff.1 x1).1 (tyD x1 (by decide))).trans x1
  have y2 : Bx1 W bn _ _ := (hW.block bn (Array.getElem?_eq_some_iff.1 x2).1 (tyD x2 (by decide))).trans x2
  have y3 := (hW.block bf (Array.getElem?_eq_some_iff.1 x3).1 (tyD x3 (by decide))).trans x3
  have y4 : Bx1 W bo _ _ := (hW.block bo (Array.getElem?_eq_some_iff.1 x4).1 (tyD x4 (by decide))).trans x4
  rw [← hL] at hr y3 hk ⊢
  rw [← hL, ← hF] at hfr
  rw [← hL] at hcnt
  obtain ⟨hfil, hblk⟩ := hD2.file hr
  obtain ⟨f0, hf0⟩ : ∃ f0, fget D2.L s.data.toList = f0 := ⟨_, rfl⟩
  have HF0 := hide hf0
  rw [hf0] at hfil y3 hk hfr ⊢
  obtain ⟨ra, rg, rc, rb, rh, rd, rs⟩ := r
  obtain ⟨n, hn⟩ : ∃ n, f0.now.length = n := ⟨_, rfl⟩
  obtain ⟨n2, hn2⟩ : ∃ n, f0.syn.length = n := ⟨_, rfl⟩
  simp only [hn, hn2] at y3
  have b1 := hfil.b1
  have HA := fcut_any W ra n rc rb n2 rd rs k (min rs k) (by omega) (by have := hfil.now.le; simp only at this; omega) rfl
  have HP : Hid (∀ w2, Below W.heap.size W w2 → Calls Try.prog 31 #[.pointer (some ⟨p, 0, none⟩), .string s, fv ra k rc rb n2 rd (min rs k)] w2 fun e w' => e = .returned (.tuple #[]) ∧ (∃ R', Dk w' p m R' ka2 kb ko kc2 (dput D2 s.data.toList ⟨f0.now.take k, f0.syn⟩) none ∧ (∀ x, (∃ t' ∈ keys (dput D2 s.data.toList ⟨f0.now.take k, f0.syn⟩).L, Blk (R' t') x) → (∃ t' ∈ keys D2.L, Blk (R t') x) ∨ W.heap.size ≤ x) ∧ Upo (fun x => x = p ∨ x = m ∨ ∃ t' ∈ keys D2.L, Blk (R t') x) W w') ∧ Upo (fun x => x = p ∨ x = m) w2 w') := fun w2 hb2 => by
    have u2 : Upo (fun _ => False) W w2 := Upo.of hb2
    have hst := hD2.stale (s := s.data.toList) (T := fun _ => False) (fun x q => q.elim) u2 (fun x q => q.elim)
    have hb' : ∀ x, Blk ⟨ra, rg, rc, rb, rh, rd, min rs k⟩ x → Blk ⟨ra, rg, rc, rb, rh, rd, rs⟩ x ∨ W.heap.size ≤ x := fun x q => .inl q
    have hlt : (f0.now.take k).length = k := by simp; omega
    have hfil2 : Fil w2 ⟨f0.now.take k, f0.syn⟩ ⟨ra, rg, rc, rb, rh, rd, min rs k⟩ := by
      have s1 := hfil.s1
      have s2 := hfil.s2
      simp only at s1 s2
      refine ⟨(hfil.now.cut (k := k) (by omega)).next hb2 (Nat.le_refl _), hfil.syn.next hb2 (Nat.le_refl _), by simp only [hlt]; omega, by simp only; omega, ?_, hfil.ap, by simp only [hlt]; omega, hfil.b2⟩
      show f0.syn.take (min rs k) = (f0.now.take k).take (min rs k)
      have e := congrArg (List.take (min rs k)) hfil.sm
      simp only [List.take_take] at e
      rw [show min (min rs k) rs = min rs k by omega] at e
      rw [e, List.take_take, show min (min rs k) k = min rs k by omega]
    have hc := put_any w2 p m R ka2 kb ko kc2 D2 s ⟨f0.now.take k, f0.syn⟩ ⟨ra, rg, rc, rb, rh, rd, min rs k⟩ hst hfil2 hs (do_apart hD2 hr hb') hcnt (by rw [hf0]; omega) (by rw [hf0]; simp only [hlt]; omega)
    simp only [fval, hn2, hlt] at hc
    refine hc.mono fun e w3 q => ⟨q.1, do_fin hD2 hr (T := fun _ => False) (fun x q => q.elim) u2 hb' q.2.1 q.2.2, q.2.2⟩
  have ne : ∀ {b : Nat} {cs : Array Value} {T : TypeId}, W.heap[b]? = some (.cells cs T (0, 0)) → T ≠ 5 → T ≠ 69 → True ∧ b ≠ p ∧ b ≠ m := fun {b cs T} hb h1 h2 =>
    ⟨trivial, Ty.ne ⟨_, _, hb⟩ ⟨_, _, hD2.blk⟩ h2, Ty.mv ⟨_, _, hb⟩ hD2.mp⟩
  have keep : ∀ {b : Nat} {cs : Array Value} {T : TypeId} (Z Z' : World), W.heap[b]? = some (.cells cs T (0, 0)) → T ≠ 5 → T ≠ 69 → Below W.heap.size W Z → Upo (fun x => x = p ∨ x = m) Z Z' → Z'.heap[b]? = some (.cells cs T (0, 0)) := fun {b cs T} Z Z' hb h1 h2 hu hu' => by
    obtain ⟨n1, n2, n3⟩ := ne hb h1 h2
    have hlt := (Array.getElem?_eq_some_iff.1 hb).1
    exact (hu'.block b (by have := hu.size; omega) (fun q => q.elim n2 n3)).trans ((hu.block b hlt).trans hb)
  have HCl : Hid (∀ Z Z', Below W.heap.size W Z → Upo (fun x => x = p ∨ x = m) Z Z' → Z'.cell? ⟨bd, 0, none⟩ = some (.pointer (some ⟨p, 0, none⟩)) ∧ Z'.cell? ⟨bn, 0, none⟩ = some (.string s) ∧ Z'.cell? ⟨bf, 0, none⟩ = some (.slice ra n rc) ∧ Z'.cell? ⟨bf, 1, none⟩ = some (.slice rb n2 rd) ∧ Z'.cell? ⟨bf, 2, none⟩ = some (.int .i64 (rs : Int)) ∧ Z'.cell? ⟨bo, 0, none⟩ = some (.int .i64 (k : Int))) := fun Z Z' hu hu' => by
    obtain ⟨a0, a1, a2⟩ := three_at (keep Z Z' y3 (by decide) (by decide) hu hu')
    exact ⟨Bx1.at (keep Z Z' y1 (by decide) (by decide) hu hu'), Bx1.at (keep Z Z' y2 (by decide) (by decide) hu hu'), a0, a1, a2, Bx1.at (keep Z Z' y4 (by decide) (by decide) hu hu')⟩
  obtain ⟨c1, c2, c3, c4, c5, c6⟩ := HCl.out W W (Below.refl _ _) (Upo.refl _ _)
  obtain ⟨mk, hmk⟩ : ∃ mk, min rs k = mk := ⟨_, rfl⟩
  rw [hmk] at HA HP
  have HA2 : Calls Try.prog 34 #[.agg #[.slice ra n rc, .slice rb n2 rd, .int .i64 (rs : Int)], .int .i64 (k : Int)] W.drew fun e w' => e = .returned (fv ra k rc rb n2 rd mk) ∧ Below W.heap.size W w' := by
    have q := fcut_any W.drew ra n rc rb n2 rd rs k mk (by omega) (by have := hfil.now.le; simp only at this; omega) hmk
    exact q.mono fun e w' q => ⟨q.1, q.2.os, q.2.tape, q.2.output, q.2.size, q.2.block⟩
  clear HA x1 x2 x3 x4 y1 y2 y3 y4 hfil hblk hr hk hn hn2 hfr hcnt hf0 hD2 hW h tyD ne keep hmk hs b1
  go_enter Try.func33, Try.ntmps33
  go_upto_region 0 with (fail)
  go_region_held3 (fun Z => Z.cell? ⟨bd, 0, none⟩ = some (.pointer (some ⟨p, 0, none⟩)) ∧ Z.cell? ⟨bn, 0, none⟩ = some (.string s) ∧ Z.cell? ⟨bf, 0, none⟩ = some (.slice ra n rc) ∧ Z.cell? ⟨bf, 1, none⟩ = some (.slice rb n2 rd) ∧ Z.cell? ⟨bf, 2, none⟩ = some (.int .i64 (rs : Int)) ∧ Z.cell? ⟨bo, 0, none⟩ = some (.int .i64 (k : Int))) (first | assumption | (exact ⟨c1, c2, c3, c4, c5, c6⟩) | (exact HCl.out _ _ u2 (Upo.refl _ _)) | (exact HCl.out _ _ u2 u3)) (first
    | (go_at_call 34; (with_reducible refine HA2.mono ?_); rintro e w2 ⟨rfl, u2⟩)
    | (go_at_call 31; (with_reducible refine (HP.out w2 u2).mono ?_); rintro e w3 ⟨rfl, hfin, u3⟩))
  go_wp2
  go_end0
  exact ⟨rfl, hfin⟩
end
end Go.Proofs.Ytmhedhhbdpdafaa
