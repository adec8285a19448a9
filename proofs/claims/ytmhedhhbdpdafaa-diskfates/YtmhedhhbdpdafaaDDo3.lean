/-
  Sync: what is done. Own work.
-/
import Derived.Test.YtmhedhhbdpdafaaDDo2
namespace Go.Proofs.Ytmhedhhbdpdafaa
open Go.RowKit
section
variable {p m : Nat} {R : List UInt8 → FR} {ka : Option Addr} {kb ko kc : Nat} {D : DV}
set_option maxRecDepth 100000 in
set_option maxHeartbeats 1000000 in
theorem do_sync (w : World) (h : Dk w p m R ka kb ko kc D none) (s : ByteArray) (hs : s.size ≤ maxLen) (hcnt : D.L.length < 1099511627776) (hfr : D.free + (fget D.L s.data.toList).now.length ≤ 9223372036854775807)
    (bd bn : Nat) (x1 : Bx1 w bd (.pointer (some ⟨p, 0, none⟩)) 25) (x2 : Bx1 w bn (.string s) 9) :
    Do w p m R kb ko D 35 #[.pointer (some ⟨bd, 0, none⟩), .pointer (some ⟨bn, 0, none⟩)] s.data.toList ⟨(fget D.L s.data.toList).now, (fget D.L s.data.toList).now⟩ := by
  have tyD : ∀ {b : Nat} {cs : Array Value} {T : TypeId}, w.heap[b]? = some (.cells cs T (0, 0)) → T ≠ 69 → b ≠ p := fun {b cs T} hb hT e => by
    rw [e, h.blk] at hb
    injection hb with hb
    injection hb with _ hb _
    exact hT hb.symm
  refine ⟨fun W ka2 kc2 D2 hD2 hL hF hW => ?_⟩
  have y1 : Bx1 W bd _ _ := (hW.block bd (Array.getElem?_eq_some_iff.1 x1).1 (tyD x1 (by decide))).trans x1
  have y2 : Bx1 W bn _ _ := (hW.block bn (Array.getElem?_eq_some_iff.1 x2).1 (tyD x2 (by decide))).trans x2
  rw [← hL, ← hF] at hfr
  rw [← hL] at hcnt ⊢
  obtain ⟨r, hl, hr⟩ := hD2.look s hs
  obtain ⟨hfil, hblk⟩ := hD2.file hr
  obtain ⟨f0, hf0⟩ : ∃ f0, fget D2.L s.data.toList = f0 := ⟨_, rfl⟩
  rw [hf0] at hfil hfr hl ⊢
  obtain ⟨ra, rg, rc, rb, rh, rd, rs⟩ := r
  obtain ⟨n, hn⟩ : ∃ n, f0.now.length = n := ⟨_, rfl⟩
  obtain ⟨n2, hn2⟩ : ∃ n, f0.syn.length = n := ⟨_, rfl⟩
  simp only [fval, fv, hn, hn2] at hl
  have b1 := hfil.b1
  have s1 := hfil.s1
  have s2 := hfil.s2
  simp only at s1 s2
  have HP : Hid (∀ w2 b' h' d', Rw w2 b' h' d' f0.now → Upo (fun b => rb = some ⟨rh, 0, none⟩ ∧ b = rh) W w2 → ((b' = rb ∧ h' = rh) ∨ (W.heap.size ≤ h' ∧ h' < w2.heap.size)) → (rb = some ⟨rh, 0, none⟩ → Ty w2 rh 5) →
      Calls Try.prog 31 #[.pointer (some ⟨p, 0, none⟩), .string s, fv ra n rc b' n d' n] w2 fun e w' => e = .returned (.tuple #[]) ∧ (∃ R', Dk w' p m R' ka2 kb ko kc2 (dput D2 s.data.toList ⟨f0.now, f0.now⟩) none ∧ (∀ x, (∃ t' ∈ keys (dput D2 s.data.toList ⟨f0.now, f0.now⟩).L, Blk (R' t') x) → (∃ t' ∈ keys D2.L, Blk (R t') x) ∨ W.heap.size ≤ x) ∧ Upo (fun x => x = p ∨ x = m ∨ ∃ t' ∈ keys D2.L, Blk (R t') x) W w') ∧ Upo (fun x => x = p ∨ x = m) w2 w' ∧ w'.cell? ⟨p, 1, none⟩ = some (.map (some m))) := fun w2 b' h' d' rw2 u2 loc ty2 => by
    have hT : ∀ x, (rb = some ⟨rh, 0, none⟩ ∧ x = rh) → Blk ⟨ra, rg, rc, rb, rh, rd, rs⟩ x := fun x q => .inr q
    have hst := hD2.stale (s := s.data.toList) (fun x q => hblk x (hT x q)) u2 (fun x q => by rw [q.2]; exact ty2 q.1)
    have hb' : ∀ x, Blk ⟨ra, rg, rc, b', h', d', n⟩ x → Blk ⟨ra, rg, rc, rb, rh, rd, rs⟩ x ∨ W.heap.size ≤ x := fun x q => by
      rcases q with q | ⟨q1, q2⟩
      · exact .inl (.inl q)
      · simp only at q1 q2
        rcases loc with ⟨l1, l2⟩ | l
        · exact .inl (.inr ⟨by rw [← l1, q1, l2], by rw [q2, l2]⟩)
        · exact .inr (by omega)
    have hnowW : Rw w2 ra rg rc f0.now := hfil.now.same fun e => u2.block rg (hfil.now.ty e).lt (fun q => hfil.ap e q.1 q.2)
    have hfil2 : Fil w2 ⟨f0.now, f0.now⟩ ⟨ra, rg, rc, b', h', d', n⟩ := by
      refine ⟨hnowW, rw2, by simp only; omega, by simp only; omega, rfl, fun e1 e2 => ?_, hfil.b1, hfil.b1⟩
      simp only at e1 e2 ⊢
      rcases loc with ⟨l1, l2⟩ | l
      · rw [l2]; exact hfil.ap e1 (by rw [← l1, e2, l2])
      · have := (hfil.now.ty e1).lt
        simp only at this
        omega
    have hc := put_any w2 p m R ka2 kb ko kc2 D2 s ⟨f0.now, f0.now⟩ ⟨ra, rg, rc, b', h', d', n⟩ hst hfil2 hs (do_apart hD2 hr hb') hcnt (by rw [hf0]; omega) (by rw [hf0]; simp only; omega)
    simp only [fval, hn] at hc
    refine hc.mono fun e w3 q => ⟨q.1, do_fin hD2 hr hT u2 hb' q.2.1 q.2.2, q.2.2, q.2.1.cells.2.1⟩
  have ne : ∀ {b : Nat} {cs : Array Value} {T : TypeId}, W.heap[b]? = some (.cells cs T (0, 0)) → T ≠ 5 → (¬ (rb = some ⟨rh, 0, none⟩ ∧ b = rh)) ∧ b ≠ m := fun {b cs T} hb h1 =>
    ⟨fun q => (Ty.ne ⟨_, _, hb⟩ (hfil.syn.ty q.1) h1) q.2, Ty.mv ⟨_, _, hb⟩ hD2.mp⟩
  have keep : ∀ {b : Nat} {cs : Array Value} {T : TypeId} (Z Z' : World), W.heap[b]? = some (.cells cs T (0, 0)) → T ≠ 5 → T ≠ 69 → Upo (fun b => rb = some ⟨rh, 0, none⟩ ∧ b = rh) W Z → Upo (fun x => x = p ∨ x = m) Z Z' → Z'.heap[b]? = some (.cells cs T (0, 0)) := fun {b cs T} Z Z' hb h1 h2 hu hu' => by
    obtain ⟨n1, n3⟩ := ne hb h1
    have n2 : b ≠ p := Ty.ne ⟨_, _, hb⟩ ⟨_, _, hD2.blk⟩ h2
    have hlt := (Array.getElem?_eq_some_iff.1 hb).1
    exact (hu'.block b (by have := hu.size; omega) (fun q => q.elim n2 n3)).trans ((hu.block b hlt n1).trans hb)
  have HCl : Hid (∀ Z Z', Upo (fun b => rb = some ⟨rh, 0, none⟩ ∧ b = rh) W Z → Upo (fun x => x = p ∨ x = m) Z Z' → Z'.cell? ⟨bd, 0, none⟩ = some (.pointer (some ⟨p, 0, none⟩)) ∧ Z'.cell? ⟨bn, 0, none⟩ = some (.string s)) := fun Z Z' hu hu' =>
    ⟨Bx1.at (keep Z Z' y1 (by decide) (by decide) hu hu'), Bx1.at (keep Z Z' y2 (by decide) (by decide) hu hu')⟩
  have HCm : Hid (∀ Z, Upo (fun b => rb = some ⟨rh, 0, none⟩ ∧ b = rh) W Z → Z.cell? ⟨p, 1, none⟩ = some (.map (some m))) := fun Z hu => by
    have e := (hu.block p (Array.getElem?_eq_some_iff.1 hD2.blk).1 (ne hD2.blk (by decide)).1).trans hD2.blk
    rw [cell_of_row Z p 1 _ _ (0, 0) e]; rfl
  obtain ⟨c1, c2⟩ := HCl.out W W (Upo.refl _ _) (Upo.refl _ _)
  have c3 := HCm.out W (Upo.refl _ _)
  have HA2 : Calls Try.prog 36 #[.agg #[.slice ra n rc, .slice rb n2 rd, .int .i64 (rs : Int)]] W.drew fun e w' => ∃ b' h' d', e = .returned (fv ra n rc b' n d' n) ∧ Rw w' b' h' d' f0.now ∧ Upo (fun x => rb = some ⟨rh, 0, none⟩ ∧ x = rh) W w' ∧ ((b' = rb ∧ h' = rh) ∨ (W.heap.size ≤ h' ∧ h' < w'.heap.size)) ∧ (rb = some ⟨rh, 0, none⟩ → Ty w' rh 5) := by
    have q := fsync_any W.drew ra rg n rc f0.now rb rh n2 rd rs f0.syn (hfil.now.same (W := W.drew) fun _ => rfl) (hfil.syn.same (W := W.drew) fun _ => rfl) hn hn2 (by omega) (by omega) hfil.sm (by omega)
    exact q.mono fun e w' q => by
      obtain ⟨b', h', d', q1, q2, q3, q4⟩ := q
      exact ⟨b', h', d', q1, q2, ⟨q3.os, q3.tape, q3.output, q3.size, q3.block⟩, q4⟩
  have hl1 := hl W.drew rfl
  clear x1 x2 y1 y2 hfil hblk hr hn hn2 hfr hcnt hf0 hD2 hW h tyD ne keep hs b1 s1 s2 hl
  go_enter Try.func35, Try.ntmps35
  go_upto_region 0 with (fail)
  go_region_held3 (fun Z => Z.cell? ⟨bd, 0, none⟩ = some (.pointer (some ⟨p, 0, none⟩)) ∧ Z.cell? ⟨bn, 0, none⟩ = some (.string s) ∧ Z.cell? ⟨p, 1, none⟩ = some (.map (some m))) (first | assumption | (exact ⟨c1, c2, c3⟩) | (exact ⟨(HCl.out _ _ u2 (Upo.refl _ _)).1, (HCl.out _ _ u2 (Upo.refl _ _)).2, HCm.out _ u2⟩) | (exact ⟨(HCl.out _ _ u2 u3).1, (HCl.out _ _ u2 u3).2, cm3⟩)) (first
    | (go_at_call 36; (with_reducible refine HA2.mono ?_); rintro e w2 ⟨b', h', d', rfl, rw2, u2, loc, ty2⟩)
    | (go_at_call 31; (with_reducible refine (HP.out w2 b' h' d' rw2 u2 loc ty2).mono ?_); rintro e w3 ⟨rfl, hfin, u3, cm3⟩))
  go_wp2
  go_end0
  exact ⟨rfl, hfin⟩
end
end Go.Proofs.Ytmhedhhbdpdafaa
