/-
  Files of the document's disk. Own work.
-/
import Derived.Test.YtmhedhhbdpdafabQAft
import Derived.Deep.RegionHeldLaw
namespace Go.Proofs.Ytmhedhhbdpdafab
open Go.RowKit
theorem oF_lt {w : World} {B : Nat} {v : Value} {l : List (List UInt8 × List UInt8)} (h : OwnF w B v l) : ∀ k, v.ownBlock = some k → B ≤ k ∧ k < w.heap.size := World.ownsRow.lt h
theorem oF_next {w w' : World} {B : Nat} {v : Value} {l : List (List UInt8 × List UInt8)} (h : OwnF w B v l) (hb : Below w.heap.size w w') : OwnF w' B v l := row_keep h fun g hg => hb.block g (h.lt g hg).2
/-- A file appended: in the world behind its own block, drawn. -/
theorem run_app_D (w : World) (ty B : Nat) (v : Value) (L : List (List UInt8 × List UInt8)) (hown : OwnF w B v L) (s t : List UInt8) (hlen : L.length + 1 ≤ 4398046511104) (hB : B ≤ w.heap.size) :
    ∃ v' w', (Builtin.append_ #[23, 23] ty #[v, .slice (some ⟨w.heap.size, 0, none⟩) 1 1]).run Try.prog (w.alloc (.cells #[.string ⟨s.toArray⟩, .string ⟨t.toArray⟩] 52)).drew = .ok v' w' ∧ OwnF w' B v' (L ++ [(s, t)]) ∧ Below B w w' := by
  obtain ⟨i0, hi, hz0, hz1, hz2⟩ := info_parts Try.infoF
  have hb := (bal (Below.refl w.heap.size w) (.cells #[.string ⟨s.toArray⟩, .string ⟨t.toArray⟩] 52)).drew
  obtain ⟨v', w', q1, q2, q3, _⟩ := run_append_own (P := Try.prog) (w.alloc (.cells #[.string ⟨s.toArray⟩, .string ⟨t.toArray⟩] 52)).drew B 23 ty 52 i0 (.agg #[.string ⟨#[]⟩, .string ⟨#[]⟩]) 2 32 Try.underlying23 hi hz0 hz1 hz2 rfl (by decide) v L.length (cF L) (oF_next hown hb) ⟨w.heap.size, 0, none⟩ 1 1 _ rfl (two_new w _ _ _) (by intro u hu; simp at hu; rcases hu with rfl | rfl <;> rfl) (by unfold maxLen; omega) (by omega) (Nat.le_trans hB hb.size)
  refine ⟨v', w', q1, ?_, ?_⟩
  · rw [OwnF, cF_app, List.length_append]
    exact q2
  · exact (hb.mono hB).grown q3 (Nat.le_trans hB hb.size) (fun k hk => (hown.lt k hk).1)
theorem tell_snoc : ∀ (L : List (List UInt8 × FV)) (s : List UInt8) (f : FV), tell (L ++ [(s, f)]) = tell L ++ (if f.now = [] then [] else [(s, f.now)])
  | [], s, f => by simp only [List.nil_append, tell]
  | (t, g) :: r, s, f => by
    have := tell_snoc r s f
    simp only [List.cons_append, tell, this]
    split <;> rfl
theorem tell_le : ∀ L : List (List UInt8 × FV), (tell L).length ≤ L.length
  | [] => Nat.le_refl _
  | (s, f) :: r => by
    have := tell_le r
    rw [tell]
    split
    · simp; omega
    · simp; omega
set_option maxRecDepth 100000 in
set_option maxHeartbeats 4000000 in
/-- Files. -/
theorem rfiles_any (w : World) {p : Nat} {lv : Value} {ka : Option Addr} {kb ko kc : Nat} {V : RV} (h : Rk w p lv ka kb ko kc V) :
    Calls Try.prog 31 #[.pointer (some ⟨p, 0, none⟩)] w fun e w' => ∃ v, e = .returned v ∧ OwnF w' w.heap.size v (tell V.L) ∧ Below w.heap.size w w' := by
  obtain ⟨ao, b, cap, hv, rd, _⟩ := ownR_rd h.own
  obtain ⟨n, hn⟩ : ∃ n, V.L.length = n := ⟨_, rfl⟩
  rw [hn] at hv
  subst hv
  have HH : Hid (V.L.length = n ∧ n ≤ 1099511627776 ∧ RdR w ao b V.L ∧ Rk w p (.slice ao n cap) ka kb ko kc V) := ⟨hn, by rw [← hn]; exact h.cn, rd, h⟩
  clear h rd hn
  go_enter Try.func31, Try.ntmps31
  go_wp2
  go_loopg [3, 4] n (fun g x y wr => ∃ j : Nat, j ≤ n ∧ g = n - j ∧ y = .int .i64 (j : Int) ∧ Hid (OwnF wr w.heap.size x (tell (V.L.take j)) ∧ Below w.heap.size w wr))
  case atStart => exact ⟨0, Nat.zero_le _, rfl, rfl, ⟨rfl, .inl ⟨rfl, rfl⟩⟩, Below.refl _ _⟩
  case round =>
    obtain ⟨j, hj, rfl, rfl, HO⟩ := hrel
    obtain ⟨q1, q2, q3, q4⟩ := HH.out
    obtain ⟨_, c1, _⟩ := (q4.next HO.out.2).cells
    by_cases hlt : j < n
    · obtain ⟨⟨t, f⟩, hx⟩ : ∃ x, V.L.getD j f0 = x := ⟨_, rfl⟩
      have r := q3.next HO.out.2
      have e0 := r.c0 j (by omega)
      have e1 := r.c1 j (by omega)
      rw [hx] at e0 e1
      simp only at e0 e1
      have ea := q3.ptr (by omega)
      subst ea
      have htk : V.L.take (j + 1) = V.L.take j ++ [(t, f)] := by rw [← hx]; exact take_snoc _ _ _ (by omega)
      have hts := tell_snoc (V.L.take j) t f
      rw [← htk] at hts
      obtain ⟨nb, hnb⟩ : ∃ a : ByteArray, ⟨f.now.toArray⟩ = a := ⟨_, rfl⟩
      obtain ⟨tb, htb⟩ : ∃ a : ByteArray, ⟨t.toArray⟩ = a := ⟨_, rfl⟩
      have hsz : nb.size = f.now.length := by rw [← size_list, ← hnb]
      have hlen : (tell (V.L.take j)).length ≤ j := by have := tell_le (V.L.take j); rw [List.length_take] at this; omega
      have hi1 : (0 : Int) ≤ (j : Int) := by omega
      have hi2 : (j : Int) < (n : Int) := by omega
      have hw : IntKind.i64.wrap ((j : Int) + 1) = (j : Int) + 1 := by rw [IntKind.wrap_i64]; omega
      rw [htb] at e0
      rw [hnb] at e1
      by_cases h0 : f.now = []
      · have hz : ¬ ((nb.size : Int) > 0) := by rw [hsz, h0]; simp
        have HX : Hid (OwnF wr w.heap.size u3 (tell (V.L.take (j + 1))) ∧ Below w.heap.size w wr) := by rw [hts, if_pos h0, List.append_nil]; exact HO.out
        clear q1 q2 q3 q4 r hx htk hts hnb htb hsz hlen h0 HO
        go_wp2
        go_roundg (n - (j + 1))
        case rel =>
          go_light
          exact ⟨j + 1, by omega, rfl, by go_num, HX⟩
        case measure => go_light; omega
      · have hz : (0 : Int) < (nb.size : Int) := by
          have : f.now.length ≠ 0 := fun e => h0 (List.length_eq_zero_iff.1 e)
          omega
        obtain ⟨v6, w6, hrn, o6, b6⟩ := run_app_D wr 23 w.heap.size u3 (tell (V.L.take j)) HO.out.1 t f.now (by omega) HO.out.2.size
        rw [htb, hnb] at hrn
        obtain ⟨a3, k3, h3⟩ := own_slice HO.out.1
        obtain ⟨l3, hl3⟩ : ∃ l, (tell (V.L.take j)).length = l := ⟨_, rfl⟩
        rw [hl3] at h3
        have HX : Hid (OwnF w6 w.heap.size v6 (tell (V.L.take (j + 1))) ∧ Below w.heap.size w w6) := by rw [hts, if_neg h0]; exact ⟨o6, HO.out.2.trans b6⟩
        rw [h3] at hrn ⊢
        have HE : Hid (∀ W, Below wr.heap.size wr W → W.cell? ⟨p, 1, none⟩ = some (.slice (some ⟨b, 0, none⟩) n cap) ∧ W.cell? ⟨b, j * 3, none⟩ = some (.string tb) ∧ W.cell? ⟨b, j * 3 + 1, none⟩ = some (.string nb)) := fun W hW => by
          have bW := bnext HO.out.2 hW
          obtain ⟨_, c1, _⟩ := (HH.out.2.2.2.next bW).cells
          have r := HH.out.2.2.1.next bW
          have e0 := r.c0 j (by omega)
          have e1 := r.c1 j (by omega)
          rw [hx] at e0 e1
          simp only at e0 e1
          rw [htb] at e0
          rw [hnb] at e1
          exact ⟨c1, e0, e1⟩
        have hwr6 : Below wr.heap.size wr (wr.alloc (.cells #[.string tb, .string nb] 52)).drew := (bal (Below.refl _ _) _).drew
        clear q1 q2 q3 q4 r hx htk hts hnb htb hsz hlen h0 o6 b6 h3 hl3
        go_upto_region 6 with (fail)
        go_region_law (refine step_app (by rfl) _ _ _ _ (by rfl) (by rfl) (by rfl) hrn ?_)
        all_goals
          go_wp2
          go_roundg (n - (j + 1))
          case rel =>
            go_light
            exact ⟨j + 1, by omega, rfl, by go_num, HX⟩
          case measure => go_light; omega
    · obtain rfl : j = n := by omega
      have hz : ¬ ((j : Int) < (j : Int)) := by omega
      have htk : V.L.take j = V.L := List.take_of_length_le (by omega)
      have HX := HO
      rw [htk] at HX
      clear q1 q2 q3 q4 htk HO hlt
      go_wp2
      go_ret
      exact ⟨_, rfl, HX.out.1, HX.out.2⟩
end Go.Proofs.Ytmhedhhbdpdafab
