/-
  Own work: JComp, LKinds.
-/
import Derived.Test.YtipcenbndhnnhaaGreatDoorQd32
import Derived.Test.YtipcenbndhnnhaaGreatDoorQd41
import Derived.Test.YtipcenbndhnnhaaGreatDoorQd43
namespace Go.Proofs.YtipcenbndhnnhaaGreatDoor
open Go.RowKit
open Cv (RdC zl cU cov)
open Pl (pw)
theorem dgKn_at (c : Nat) (L : List ByteArray) (m n : Nat) {j : Nat} (hj : j < (kb m n).length) : (dgKn c L m n).getD j ⟨#[]⟩ = nd c L ((kb m n).getD j (0, 0)).1 ((kb m n).getD j (0, 0)).2 := by
  rw [dgKn, List.getD_eq_getElem?_getD, List.getElem?_map, List.getD_eq_getElem?_getD, List.getElem?_eq_getElem hj]; rfl
theorem jn_nd {c : Nat} (hc : c ≤ 32) (L : List ByteArray) (m n : Nat) : Jn c (kb m n) (dgKn c L m n) (nd c L) :=
  ⟨fun j hj => (dgKn_at c L m n hj).symm, fun h k _ => by rw [nd], fun h k => by rw [nd_size hc]; exact hc⟩
theorem kOld_rt (c : Nat) (L : List ByteArray) (m n : Nat) (hm : m ≤ L.length) (h40 : m ≤ 2 ^ 40) : kOld c m (dgKn c L m n) = rtD c L m := by
  rw [kOld, rtD, ← (cov_peaks c L m hm h40).1, dgKn, kb, List.map_append, List.take_left' (List.length_map ..)]
theorem kNow_rt (c : Nat) (L : List ByteArray) (n : Nat) (hn : n ≤ L.length) (h40 : n ≤ 2 ^ 40) : kNow c n (nd c L) = rtD c L n := by
  rw [kNow, rtD, ← (cov_peaks c L n hn h40).1]
theorem dgKn_size {c : Nat} (hc : c ≤ 32) (L : List ByteArray) (m n : Nat) : ∀ s ∈ dgKn c L m n, s.size = c := fun s hs => by
  obtain ⟨b, _, rfl⟩ := List.mem_map.1 hs
  exact nd_size hc _ _ _
theorem okK_dg {k : Int} (k1 : 1 ≤ k) (k2 : k ≤ 32) (L : List ByteArray) {m n : Nat} (hm : m ≤ n) (hn : n ≤ 2 ^ 40) : okK 3 k m n 0 (dgKn (clk k) L m n) :=
  ⟨⟨⟨rfl, k1, k2⟩, hn, hm, rfl⟩, dgKn_len _ _ _ _, fun d hd => by rw [dgKn_size (clk_le k) _ _ _ d hd]; exact clk_of k1 k2⟩
theorem kprove_rd (w : World) (f : Nat) (K : Int) (L : List ByteArray) (hF : Frs w f K L) (hL : L.length ≤ 5000) (m n : Nat) (hn : n ≤ L.length) (hmn : m ≤ n) (D : List ByteArray) (hD : dgKn (clk K) L m n = D) :
    Calls Tryz.prog 12 #[.pointer (some ⟨f + 1, 0, none⟩), .int .u64 (m : Int), .int .u64 (n : Int)] w fun e w' => ∃ ad bd cd, e = .returned (.tuple #[.agg #[.int .i64 3, .int .i64 K, .int .u64 (m : Int), .int .u64 (n : Int), .slice none 0 0, .slice ad D.length cd], .int .i64 0]) ∧ RdS w' ad bd 0 D.length D ∧ D.length ≤ cd ∧ (ad = none → cd = 0) ∧ OwnS w' w.heap.size (.slice ad D.length cd) D ∧ Below w.heap.size w w' :=
  (kprove_ok w f K L hF hL m n hn hmn D hD).mono fun e w' ⟨vd, e1, e2, e3⟩ => by
    obtain ⟨ad, bd, cd, rfl, r3, hcd, hnd⟩ := owns_rds e2 (fun s hs => by rw [← hD] at hs; rw [dgKn_size (clk_le K) _ _ _ s hs]; have := clk_le K; omega)
    exact ⟨ad, bd, cd, e1, r3, hcd, hnd, e2, e3⟩
theorem kroots_own (w : World) (ht : Tb w) (K : Int) (k1 : 1 ≤ K) (k2 : K ≤ 32) (L : List ByteArray) (hL : L.length ≤ 5000) (m n : Nat) (hn : n ≤ L.length) (hmn : m ≤ n) (D : List ByteArray) (hD : dgKn (clk K) L m n = D) (sa : Option Addr) (sc : Nat) (da : Option Addr) (db dO dc : Nat) (hr : RdS w da db dO D.length D) (hdc : D.length ≤ dc) (r1 r2 : ByteArray) (h1 : rtD (clk K) L m = r1) (h2 : rtD (clk K) L n = r2) :
    Calls Tryz.prog 39 #[vP 3 K m n (.slice sa 0 sc) (.slice da D.length dc)] w fun e w' => e = .returned (.tuple #[.agg #[.int .u64 (m : Int), .string r1], .agg #[.int .u64 (n : Int), .string r2], .int .i64 0]) ∧ Below w.heap.size w w' := by
  subst hD
  exact kroots_ok w ht K m n sa sc da db dO dc _ hr hdc (okK_dg k1 k2 L hmn (by omega)) (nd (clk K) L) (jn_nd (clk_le K) L m n) r1 r2 (by rw [kOld_rt _ _ _ _ (by omega) (by omega)]; exact h1) (by rw [kNow_rt _ _ _ hn (by omega)]; exact h2)
end Go.Proofs.YtipcenbndhnnhaaGreatDoor
namespace Go.Proofs.YtipcenbndhnnhaaGreatDoor
open Go.RowKit
attribute [local go_sem ↓] Go.wp_at_zero Go.wp_at_succ
def pvK (k : Int) (L : List ByteArray) (m n : Nat) : PV := ⟨3, k, m, n, [], dgKn (clk k) L m n⟩
theorem well_kin {k : Int} (k1 : 1 ≤ k) (k2 : k ≤ 32) (L : List ByteArray) {m n : Nat} (hm : m ≤ n) (hn : n ≤ 2 ^ 40) : Well (pvK k L m n) := by
  refine ⟨?_, fun d hd => ?_⟩
  · show cnt 3 k m n [] = some (dgKn (clk k) L m n).length
    rw [dgKn_len, cnt, if_pos ⟨k1, k2, hn⟩, if_neg (by decide), if_neg (by decide), if_pos rfl, if_pos ⟨hm, rfl⟩, kb, List.length_append]
  · show (d.size : Int) = k
    rw [dgKn_size (clk_le k) L m n d hd]; exact clk_of k1 k2
structure Cz (w : World) (k : Int) (m n : Nat) (la : Option Addr) (lb lo lc : Nat) (L : List ByteArray) (sa : Option Addr) (sb so sc : Nat) (S : List Nat) : Prop where
  tb : Tb w
  tr : Tr w
  rl : RdS w la lb lo L.length L
  lc : L.length ≤ lc
  ml : L.length ≤ 8796093021952
  rs : RdU w sa sb so S.length S
  sc : S.length ≤ sc
  ms : S.length ≤ 17592186043904
  m64 : m < 18446744073709551616
  n64 : n < 18446744073709551616
theorem Cz.next {w W : World} {k : Int} {m n : Nat} {la : Option Addr} {lb lo lc : Nat} {L : List ByteArray} {sa : Option Addr} {sb so sc : Nat} {S : List Nat} (h : Cz w k m n la lb lo lc L sa sb so sc S) (hb : Below w.heap.size w W) : Cz W k m n la lb lo lc L sa sb so sc S :=
  ⟨h.tb.next hb, h.tr.next hb, h.rl.next hb (Nat.le_refl _), h.lc, h.ml, h.rs.next hb, h.sc, h.ms, h.m64, h.n64⟩
theorem rds_first {w : World} {ao : Option Addr} {b off len : Nat} {L T : List ByteArray} (h : RdS w ao b off len L) (hT : L.take 200 = T) : RdS w ao b off T.length T := by
  have hl := h.hl
  have hTl : T.length = min len 200 := by rw [← hT, List.length_take]; omega
  refine ⟨rfl, fun h0 => h.ptr (by omega), fun j v hv => h.rng j v ?_, fun s hs => h.sz s (by rw [← hT] at hs; exact (List.take_sublist _ _).subset hs)⟩
  rw [← hT, List.getElem?_map, List.getElem?_take] at hv
  split at hv
  · rw [List.getElem?_map]; exact hv
  · cases hv
theorem root_of {k : Int} (k1 : 1 ≤ k) (k2 : k ≤ 32) (T : List ByteArray) (hT : T.length ≤ 200) (hz : ∀ s ∈ T, s.size ≤ 1048576) (n : Nat) : ∃ (n6 : Nat) (d6 : ByteArray) (er : Int), ((er = 0 ∧ n ≤ T.length ∧ n6 = n ∧ d6 = rtD (clk k) T n) ∨ (er ≠ 0 ∧ ¬ n ≤ T.length)) ∧
    ∀ W la lb lo lc, Tr W → RdS W la lb lo T.length T → T.length ≤ lc → Calls Tryz.prog 9 #[.int .i64 k, .slice la T.length lc, .int .u64 (n : Int)] W fun e w' => e = .returned (.tuple #[.agg #[.int .u64 (n6 : Int), .string d6], .int .i64 er]) ∧ Below W.heap.size W w' := by
  by_cases hn : n ≤ T.length
  · exact ⟨n, rtD (clk k) T n, 0, .inl ⟨rfl, hn, rfl, rfl⟩, fun W la lb lo lc hT2 hr hc => rroot_ok W hT2 k k1 k2 la lb lo T.length lc T hr (fun s hs => Nat.le_trans (hz s hs) (by decide)) (by omega) hc n hn _ (hide rfl)⟩
  · exact ⟨0, ⟨#[]⟩, 30, .inr ⟨by decide, hn⟩, fun W la lb lo lc _ hr hc => rroot_size W k k1 k2 la T.length lc n (by omega) (by omega)⟩
def clm (T : List ByteArray) (S : List Nat) (j : Nat) : List (Nat × ByteArray) := (S.take j).map fun x => (x, T.getD x ByteArray.empty)
theorem clm_len (T : List ByteArray) (S : List Nat) (j : Nat) : (clm T S j).length = min j S.length := by rw [clm, List.length_map, List.length_take]
theorem clm_next (T : List ByteArray) (S : List Nat) {j : Nat} (h : j < S.length) : clm T S (j + 1) = clm T S j ++ [(S.getD j 0, T.getD (S.getD j 0) ByteArray.empty)] := by
  rw [clm, clm, List.take_add_one, List.map_append, List.getD_eq_getElem?_getD, List.getElem?_eq_getElem h]; rfl
theorem clm_size (T : List ByteArray) (S : List Nat) (j : Nat) {M : Nat} (hT : ∀ s ∈ T, s.size ≤ M) : ∀ c ∈ clm T S j, c.2.size ≤ M := fun c hc => by
  obtain ⟨x, _, rfl⟩ := List.mem_map.1 hc
  show (T.getD x ByteArray.empty).size ≤ M
  by_cases h : x < T.length
  · exact hT _ (by rw [List.getD_eq_getElem?_getD, List.getElem?_eq_getElem h]; exact List.getElem_mem _)
  · rw [List.getD_eq_getElem?_getD, List.getElem?_eq_none (by omega)]; exact Nat.zero_le _
theorem nodup_getD {sl : List Nat} (h : sl.Nodup) : ∀ i j, i < j → j < sl.length → sl.getD i 0 ≠ sl.getD j 0 := fun i j hij hj e => by
  rw [List.getD_eq_getElem?_getD, List.getD_eq_getElem?_getD, List.getElem?_eq_getElem (show i < sl.length by omega), List.getElem?_eq_getElem hj] at e
  exact (List.pairwise_iff_getElem.1 h) i j (by omega) hj hij e
end Go.Proofs.YtipcenbndhnnhaaGreatDoor
