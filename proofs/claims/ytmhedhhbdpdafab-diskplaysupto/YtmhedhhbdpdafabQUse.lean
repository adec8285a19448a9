/-
  used, put of the document's disk. Own work.
-/
import Derived.Test.YtmhedhhbdpdafabQMem
namespace Go.Proofs.Ytmhedhhbdpdafab
open Go.RowKit
theorem tot_app (l k : List (List UInt8 × FV)) : tot (l ++ k) = tot l + tot k := by
  induction l with
  | nil => simp [tot]
  | cons x r ih => obtain ⟨t, f⟩ := x; simp only [List.cons_append, tot, ih]; omega
theorem tot_take (l : List (List UInt8 × FV)) (j : Nat) : tot (l.take j) ≤ tot l := by
  have := tot_app (l.take j) (l.drop j)
  rw [List.take_append_drop] at this
  omega
set_option maxRecDepth 100000 in
set_option maxHeartbeats 2000000 in
/-- used. -/
theorem rused_any (w : World) {p : Nat} {lv : Value} {ka : Option Addr} {kb ko kc : Nat} {V : RV} (h : Rk w p lv ka kb ko kc V) (ht : tot V.L ≤ 4611686018427387904) :
    Calls Try.prog 49 #[.pointer (some ⟨p, 0, none⟩)] w fun e w' => e = .returned (.int .i64 (tot V.L : Int)) ∧ w' = w := by
  obtain ⟨ao, b, cap, hv, rd, _⟩ := ownR_rd h.own
  obtain ⟨n, hn⟩ : ∃ n, V.L.length = n := ⟨_, rfl⟩
  rw [hn] at hv
  subst hv
  obtain ⟨_, c1, _⟩ := h.cells
  have HH : Hid (V.L.length = n ∧ n ≤ 1099511627776 ∧ RdR w ao b V.L ∧ tot V.L ≤ 4611686018427387904) := ⟨hn, by rw [← hn]; exact h.cn, rd, ht⟩
  clear h rd hn ht
  go_enter Try.func49, Try.ntmps49
  go_wp2
  go_loopg [3, 4] n (fun g x y wr => ∃ j : Nat, j ≤ n ∧ g = n - j ∧ y = .int .i64 (j : Int) ∧ x = .int .i64 (tot (V.L.take j) : Int) ∧ wr = w)
  case atStart => exact ⟨0, Nat.zero_le _, rfl, rfl, rfl, rfl⟩
  case round =>
    obtain ⟨j, hj, rfl, rfl, rfl, hwr⟩ := hrel
    rw [hwr]
    clear hwr wr
    by_cases hlt : j < n
    · obtain ⟨q1, q2, q3, q4⟩ := HH.out
      obtain ⟨⟨t, f⟩, hx⟩ : ∃ x, V.L.getD j f0 = x := ⟨_, rfl⟩
      have e1 := q3.c1 j (by omega)
      rw [hx] at e1
      have htk : V.L.take (j + 1) = V.L.take j ++ [(t, f)] := by rw [← hx]; exact take_snoc _ _ _ (by omega)
      have htt := tot_app (V.L.take j) [(t, f)]
      rw [← htk] at htt
      have hle := tot_take V.L (j + 1)
      have ea := q3.ptr (by omega)
      subst ea
      obtain ⟨nb, hnb⟩ : ∃ a : ByteArray, ⟨f.now.toArray⟩ = a := ⟨_, rfl⟩
      have hsz : nb.size = f.now.length := by rw [← size_list, ← hnb]
      simp only at e1
      rw [hnb] at e1
      obtain ⟨u, hu⟩ : ∃ u, tot (V.L.take j) = u := ⟨_, rfl⟩
      obtain ⟨u2, hu2⟩ : ∃ u, tot (V.L.take (j + 1)) = u := ⟨_, rfl⟩
      simp only [tot] at htt
      have hi1 : (0 : Int) ≤ (j : Int) := by omega
      have hi2 : (j : Int) < (n : Int) := by omega
      have hw : IntKind.i64.wrap ((j : Int) + 1) = (j : Int) + 1 := by rw [IntKind.wrap_i64]; omega
      have hw2 : IntKind.i64.wrap ((u : Int) + (nb.size : Int)) = (u2 : Int) := by rw [IntKind.wrap_i64]; omega
      have HU := hide hu2
      rw [hu]
      clear q1 q2 q3 q4 hx htk htt hle hnb hsz hu hu2
      go_wp2
      go_roundg (n - (j + 1))
      case rel =>
        go_light
        exact ⟨j + 1, by omega, rfl, by go_num, by rw [HU.out], rfl⟩
      case measure => go_light; omega
    · obtain rfl : j = n := by omega
      have hz : ¬ ((j : Int) < (j : Int)) := by omega
      have htk : V.L.take j = V.L := List.take_of_length_le (by have := HH.out.1; omega)
      rw [htk]
      clear htk hlt
      go_wp2
      go_ret
      exact ⟨rfl, rfl⟩
/-- How put goes on: what it has gathered, whether the file is in. -/
def pst (s : List UInt8) (f : FV) : List (List UInt8 × FV) × Bool → List UInt8 × FV → List (List UInt8 × FV) × Bool := fun a x =>
  let a1 := if !a.2 && !(decide (x.1 < s)) then (a.1 ++ [(s, f)], true) else a
  (if x.1 = s then a1.1 else a1.1 ++ [x], a1.2)
def pgo (s : List UInt8) (f : FV) (L : List (List UInt8 × FV)) : List (List UInt8 × FV) × Bool := L.foldl (pst s f) ([], false)
def pend (s : List UInt8) (f : FV) (a : List (List UInt8 × FV) × Bool) : List (List UInt8 × FV) := if a.2 then a.1 else a.1 ++ [(s, f)]
theorem pgo_snoc (s : List UInt8) (f : FV) (L : List (List UInt8 × FV)) (x : List UInt8 × FV) : pgo s f (L ++ [x]) = pst s f (pgo s f L) x := by simp [pgo]
theorem pgo_done (s : List UInt8) (f : FV) : ∀ (L : List (List UInt8 × FV)) (a : List (List UInt8 × FV)), (∀ p ∈ L, s < p.1) → L.foldl (pst s f) (a, true) = (a ++ L, true)
  | [], a, _ => by simp
  | x :: r, a, h => by
    have hx := h x (by simp)
    have hne : ¬ x.1 = s := fun e => by rw [e] at hx; exact List.lt_irrefl _ hx
    rw [List.foldl_cons]
    have e : pst s f (a, true) x = (a ++ [x], true) := by simp [pst, hne]
    rw [e, pgo_done s f r _ (fun p hp => h p (List.mem_cons_of_mem _ hp)), List.append_assoc]
    rfl
theorem pgo_put (s : List UInt8) (f : FV) : ∀ (L : List (List UInt8 × FV)) (a : List (List UInt8 × FV)), srt L → pend s f (L.foldl (pst s f) (a, false)) = a ++ rput L s f
  | [], a, _ => by simp [pend, rput]
  | (t, g) :: r, a, h => by
    obtain ⟨h1, h2⟩ := srt_tail h
    rw [List.foldl_cons, rput]
    by_cases e : t = s
    · have e1 : pst s f (a, false) (t, g) = (a ++ [(s, f)], true) := by simp [pst, e, List.lt_irrefl]
      rw [e1, if_pos e, pgo_done s f r _ (fun p hp => by rw [← e]; exact h2 p hp)]
      simp [pend]
    · rw [if_neg e]
      by_cases hlt : s < t
      · have hn : ¬ t < s := fun q => List.lt_irrefl _ (List.lt_trans q hlt)
        have e1 : pst s f (a, false) (t, g) = (a ++ [(s, f)] ++ [(t, g)], true) := by simp [pst, e, hn]
        rw [e1, if_pos hlt, pgo_done s f r _ (fun p hp => List.lt_trans hlt (h2 p hp))]
        simp [pend]
      · have hts : t < s := lt_of e hlt
        have e1 : pst s f (a, false) (t, g) = (a ++ [(t, g)], false) := by simp [pst, e, hts]
        rw [e1, if_neg hlt, pgo_put s f r _ h1]
        simp
theorem pgo_len (s : List UInt8) (f : FV) (L : List (List UInt8 × FV)) : (pgo s f L).1.length ≤ 2 * L.length := by
  suffices h : ∀ (L : List (List UInt8 × FV)) (a : List (List UInt8 × FV) × Bool), (L.foldl (pst s f) a).1.length ≤ a.1.length + 2 * L.length from by simpa [pgo] using h L ([], false)
  intro L
  induction L with
  | nil => intro a; simp
  | cons x r ih =>
    intro a
    rw [List.foldl_cons]
    have := ih (pst s f a x)
    have hs : (pst s f a x).1.length ≤ a.1.length + 2 := by
      unfold pst
      simp only
      split <;> split <;> simp
    simp only [List.length_cons]
    omega
end Go.Proofs.Ytmhedhhbdpdafab
