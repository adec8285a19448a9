/-
  A kin of a list's own: what it holds, where it leads. Own work.
-/
import Derived.Test.YtdkcliblbaldhaaDoorJWalkG
import Derived.Test.YtdkcliblbaldhaaDoorJLawA
namespace Go.Proofs.YtdkcliblbaldhaaDoor
open Go.RowKit
open Cv (RdC zl cU cov)
open Pl (pw)
theorem dgKn_at (c : Nat) (L : List ByteArray) (m n : Nat) {j : Nat} (hj : j < (kb m n).length) : (dgKn c L m n).getD j ⟨#[]⟩ = nd c L ((kb m n).getD j (0, 0)).1 ((kb m n).getD j (0, 0)).2 := by
  rw [dgKn, List.getD_eq_getElem?_getD, List.getElem?_map, List.getD_eq_getElem?_getD, List.getElem?_eq_getElem hj]; rfl
theorem jn_nd {c : Nat} (hc : c ≤ 32) (L : List ByteArray) (m n : Nat) : Jn c (kb m n) (dgKn c L m n) (nd c L) :=
  ⟨fun j hj => (dgKn_at c L m n hj).symm, fun h k _ => by rw [nd], fun h k => by rw [nd_size hc]; exact hc⟩
theorem kOld_rt (c : Nat) (L : List ByteArray) (m n : Nat) (hm : m ≤ L.length) (h40 : m ≤ 2 ^ 40) : kOld c m (dgKn c L m n) = rtD c L m := by
  rw [kOld, rtD, ← (cov_peaks c L m hm h40).1, dgKn, kb, List.map_append, List.take_left' (List.length_map ..)]
theorem kNow_rt (c : Nat) (L : List ByteArray) (n : Nat) (hn : n ≤ L.length) (h40 : n ≤ 2 ^ 40) : kNow c n (nd c L) = rtD c L n := by
  rw [kNow, rtD, ← (cov_peaks c L n hn h40).1]
theorem dgKn_size {c : Nat} (hc : c ≤ 32) (L : List ByteArray) (m n : Nat) : ∀ s ∈ dgKn c L m n, s.size = c := fun s hs => by
  obtain ⟨b, _, rfl⟩ := List.mem_map.1 hs
  exact nd_size hc _ _ _
/-- What Prove gives is well formed. -/
theorem okK_dg {k : Int} (k1 : 1 ≤ k) (k2 : k ≤ 32) (L : List ByteArray) {m n : Nat} (hm : m ≤ n) (hn : n ≤ 2 ^ 40) : okK 3 k m n 0 (dgKn (clk k) L m n) :=
  ⟨⟨⟨rfl, k1, k2⟩, hn, hm, rfl⟩, dgKn_len _ _ _ _, fun d hd => by rw [dgKn_size (clk_le k) _ _ _ d hd]; exact clk_of k1 k2⟩
/-- Prove, what it gives can be read. -/
theorem kprove_rd (w : World) (f : Nat) (K : Int) (L : List ByteArray) (hF : Frs w f K L) (hL : L.length ≤ 5000) (m n : Nat) (hn : n ≤ L.length) (hmn : m ≤ n) (D : List ByteArray) (hD : dgKn (clk K) L m n = D) :
    Calls Tryd.prog 12 #[.pointer (some ⟨f + 1, 0, none⟩), .int .u64 (m : Int), .int .u64 (n : Int)] w fun e w' => ∃ ad bd cd, e = .returned (.tuple #[.agg #[.int .i64 3, .int .i64 K, .int .u64 (m : Int), .int .u64 (n : Int), .slice none 0 0, .slice ad D.length cd], .int .i64 0]) ∧ RdS w' ad bd 0 D.length D ∧ D.length ≤ cd ∧ (ad = none → cd = 0) ∧ OwnS w' w.heap.size (.slice ad D.length cd) D ∧ Below w.heap.size w w' :=
  (kprove_ok w f K L hF hL m n hn hmn D hD).mono fun e w' ⟨vd, e1, e2, e3⟩ => by
    obtain ⟨ad, bd, cd, rfl, r3, hcd, hnd⟩ := owns_rds e2 (fun s hs => by rw [← hD] at hs; rw [dgKn_size (clk_le K) _ _ _ s hs]; have := clk_le K; omega)
    exact ⟨ad, bd, cd, e1, r3, hcd, hnd, e2, e3⟩
/-- Roots of what Prove gives. -/
theorem kroots_own (w : World) (ht : Tb w) (K : Int) (k1 : 1 ≤ K) (k2 : K ≤ 32) (L : List ByteArray) (hL : L.length ≤ 5000) (m n : Nat) (hn : n ≤ L.length) (hmn : m ≤ n) (D : List ByteArray) (hD : dgKn (clk K) L m n = D) (sa : Option Addr) (sc : Nat) (da : Option Addr) (db dO dc : Nat) (hr : RdS w da db dO D.length D) (hdc : D.length ≤ dc) (r1 r2 : ByteArray) (h1 : rtD (clk K) L m = r1) (h2 : rtD (clk K) L n = r2) :
    Calls Tryd.prog 13 #[vP 3 K m n (.slice sa 0 sc) (.slice da D.length dc)] w fun e w' => e = .returned (.tuple #[.agg #[.int .u64 (m : Int), .string r1], .agg #[.int .u64 (n : Int), .string r2], .int .i64 0]) ∧ Below w.heap.size w w' := by
  subst hD
  exact kroots_ok w ht K m n sa sc da db dO dc _ hr hdc (okK_dg k1 k2 L hmn (by omega)) (nd (clk K) L) (jn_nd (clk_le K) L m n) r1 r2 (by rw [kOld_rt _ _ _ _ (by omega) (by omega)]; exact h1) (by rw [kNow_rt _ _ _ hn (by omega)]; exact h2)
end Go.Proofs.YtdkcliblbaldhaaDoor
