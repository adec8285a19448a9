/-
  Own work: HRefB.
-/
import Derived.Test.YtdocjikpcbmcgaaGreatDoorQs29
namespace Go.Proofs.YtdocjikpcbmcgaaGreatDoor
open Go.RowKit
attribute [local go_sem ↓] Go.wp_at_zero Go.wp_at_succ
theorem strB_cons (x : Int) (l : List Int) : strB [x] ++ strB l = strB (x :: l) := by
  apply ByteArray.ext
  rw [ByteArray.data_append]
  apply Array.toList_inj.1
  rw [Array.toList_append, strB_list, strB_list, strB_list]
  rfl
def tlL (n k : Nat) : List Int := (nbL n 8).drop (8 - k)
theorem tlL_succ (n k : Nat) (h : k < 8) : ((n / 256 ^ k % 256 : Nat) : Int) :: tlL n k = tlL n (k + 1) := by
  unfold tlL
  have hl : 8 - (k + 1) < (nbL n 8).length := by rw [nbL_len]; omega
  rw [List.drop_eq_getElem_cons hl, show 8 - (k + 1) + 1 = 8 - k by omega]
  congr 1
  have : (nbL n 8)[8 - (k + 1)] = ((n / 256 ^ (7 - (8 - (k + 1))) % 256 : Nat) : Int) := by simp [nbL]
  rw [this, show 7 - (8 - (k + 1)) = k by omega]
theorem wrap_ur (x : Int) (h0 : 0 ≤ x) (h1 : x < 18446744073709551616) : IntKind.u64.wrap x = x := by
  simp [IntKind.wrap, IntKind.signed, IntKind.bits]; omega
set_option maxRecDepth 100000 in
theorem refroott_any (w : World) (n : Nat) (hn : n < 18446744073709551616) (d : ByteArray) (hs : d.size < 2305843009213693952) (r : ByteArray) (hr : rootT n d = r) :
    Calls Tryz.prog 52 #[.int .u64 (n : Int), .string d] w fun e w' => e = .returned (.string r) ∧ Below w.heap.size w w' := by
  have hB := Below.refl w.heap.size w
  go_enter Tryz.func52, Tryz.ntmps52
  go_wp2
  go_loopg [0, 5, 6] 8 (fun g a s i wr => ∃ (k N : Nat) (z : ByteArray), k ≤ 8 ∧ g = 8 - k ∧ a = .int .u64 (N : Int) ∧ s = .string z ∧ i = .int .i64 (k : Int) ∧ Hid (N = n / 256 ^ k ∧ z = strB (tlL n k)) ∧ z.size = k ∧ Below w.heap.size w wr)
  case atStart =>
    go_light
    exact ⟨0, n, ⟨#[]⟩, Nat.zero_le _, rfl, rfl, rfl, rfl, ⟨by simp, rfl⟩, rfl, hB⟩
  case round =>
    clear hB
    obtain ⟨k, N, z, hk, rfl, rfl, rfl, rfl, HE, hz, hb⟩ := hrel
    by_cases hlt : k < 8
    · have h1 : (k : Int) < 8 := by omega
      obtain ⟨y, hy⟩ : ∃ y, strB [(N : Int) % 256] = y := ⟨_, rfl⟩
      have cv := fun W => conv_one W ((N : Int) % 256)
      have zy := one_size ((N : Int) % 256)
      rw [hy] at zy
      simp only [hy] at cv
      have HN : Hid ((N : Int) / 256 = ((n / 256 ^ (k + 1) : Nat) : Int) ∧ y ++ z = strB (tlL n (k + 1))) := by
        have h := HE.out
        refine ⟨?_, ?_⟩
        · rw [h.1, Nat.pow_succ, ← Nat.div_div_eq_div_mul]; omega
        · rw [← hy, h.2, strB_cons, ← tlL_succ n k hlt, h.1]; congr 2
      have hns : ¬ (9223372036854775807 < 1 + k) := by omega
      have ew : IntKind.u64.wrap ((N : Int) / 256) = (N : Int) / 256 := by
        have h := HE.out.1
        have : N ≤ n := by rw [h]; exact Nat.div_le_self _ _
        exact wrap_ur _ (by omega) (by omega)
      have hsz : (y ++ z).size = k + 1 := by rw [ByteArray.size_append, zy, hz]; omega
      have HZ := hide hsz
      clear hy HE hsz
      go_wp2
      go_roundg (8 - (k + 1))
      case rel =>
        go_light
        exact ⟨k + 1, n / 256 ^ (k + 1), y ++ z, by omega, rfl, by rw [← HN.out.1], rfl, by go_num, ⟨rfl, HN.out.2⟩, HZ.out, bal hb _⟩
      case measure => go_light; omega
    · obtain rfl : k = 8 := by omega
      have hzz : ¬ ((8 : Int) < 8) := by decide
      have HT := fun W => reftext_any W 3 z d (by omega) hs r (by
        rw [← hr, HE.out.2, rootT, strB_cons]; rfl)
      rw [show ((8 : Nat) : Int) = 8 from rfl]
      clear HE hlt hk
      go_wp2_with (go_at_call 100; with_reducible refine (HT _).mono ?_; rintro e w1 ⟨rfl, hb1⟩)
      go_ret
      exact ⟨rfl, bnext hb hb1⟩
set_option maxRecDepth 100000 in
theorem refbagged_any (w : World) (ht : Tr w) (k : Int) (ao : Option Addr) (b off len cap : Nat) (ss : List ByteArray) (hr : RdS w ao b off len ss) (hsz : ∀ s ∈ ss, s.size ≤ 140737488351232) (hmx : len ≤ 8796093022208) (r : ByteArray) (hq : bagL (clk k) ss = r) :
    Calls Tryz.prog 53 #[.int .i64 k, .slice ao len cap] w fun e w' => e = .returned (.string r) ∧ Below w.heap.size w w' := by
  by_cases h0 : len = 0
  · subst h0
    have : ss = [] := List.length_eq_zero_iff.1 hr.hl
    subst this
    subst hq
    go_enter Tryz.func53, Tryz.ntmps53
    go_wp2
    go_ret
    exact ⟨rfl, Below.refl _ _⟩
  · have hlen : 0 < len := by omega
    obtain rfl := hr.ptr hlen
    obtain ⟨m, rfl⟩ : ∃ m, len = m + 1 := ⟨len - 1, by omega⟩
    have hc := clk_le k
    have hne : ¬ ((m : Int) + 1 = 0) := by omega
    have cm := hr.at (k := m) (by omega)
    have HL : Hid (bagL (clk k) (ss.drop m) = ss.getD m ByteArray.empty) := by
      have := bagL_last (clk k) ss (by rw [hr.hl]; omega)
      rw [hr.hl] at this; exact this
    have HSZ : Hid (∀ d, d = bagL (clk k) ss → True) := fun _ _ => trivial
    have HM : Hid (∀ j, j < m + 1 → (ss.getD j ByteArray.empty).size ≤ 140737488351232) := fun j hj => hsz _ (getD_mem (by rw [hr.hl]; exact hj))
    have HD : Hid (∀ j, (bagL (clk k) (ss.drop j)).size ≤ 140737488351232) := fun j => bagL_size hc (by decide) _ (fun s hs => hsz s (List.mem_of_mem_drop hs))
    have HN : Hid (∀ j, j < m → bagL (clk k) (ss.drop j) = dg (clk k) (bagT (ss.getD j ByteArray.empty) (bagL (clk k) (ss.drop (j + 1))))) := fun j hj => bagL_drop _ _ _ (by rw [hr.hl]; omega)
    have HT : Hid (Tr w) := ht
    have HR : Hid (RdS w (some ⟨b, off, none⟩) b off (m + 1) ss) := hr
    have HQ : Hid (bagL (clk k) (ss.drop 0) = r) := hq
    obtain ⟨d0, hd0⟩ : ∃ d0, ss.getD m ByteArray.empty = d0 := ⟨_, rfl⟩
    rw [hd0] at cm
    have HL2 : Hid (bagL (clk k) (ss.drop m) = d0) := by rw [← hd0]; exact HL
    clear hd0 HL ht hr hq hsz HSZ h0 hlen
    go_enter Tryz.func53, Tryz.ntmps53
    go_wp2
    go_loopg [5, 6] m (fun g x i wr => ∃ (j : Nat) (d : ByteArray), j = g ∧ x = .string d ∧ i = .int .i64 ((j : Int) - 1) ∧ j ≤ m ∧ Hid (bagL (clk k) (ss.drop j) = d) ∧ Below w.heap.size w wr)
    case atStart =>
      go_light
      exact ⟨m, d0, rfl, rfl, by go_num, Nat.le_refl _, HL2, Below.refl _ _⟩
    case round =>
      obtain ⟨j, d, hg, rfl, rfl, hj, HE, hb⟩ := hrel
      subst hg
      cases j with
      | zero =>
        have hz : ¬ ((0 : Int) ≤ -1) := by decide
        rw [show ((0 : Nat) : Int) - 1 = -1 from rfl]
        have HF : Hid (d = r) := HE.out.symm.trans HQ.out
        clear HE HN HQ HM HD HR HT cm
        obtain rfl := HF.out
        go_wp2
        go_ret
        exact ⟨rfl, hb⟩
      | succ j =>
        have e1 : ((j + 1 : Nat) : Int) - 1 = (j : Int) := by omega
        have hz : (0 : Int) ≤ (j : Int) := by omega
        have hz2 : (j : Int) < (m : Int) + 1 := by omega
        have hjm : j < m := by omega
        have cj := (HR.out.next hb (Nat.le_refl _)).at (k := j) (by omega)
        have z1 := HM.out j (by omega)
        have z2 := HD.out (j + 1)
        have hn := HN.out j hjm
        rw [HE.out] at z2 hn
        generalize ss.getD j ByteArray.empty = p at *
        have HG := fun W => refbagt_any W p d (by omega) (by omega) _ rfl
        obtain ⟨t, ht⟩ : ∃ t, bagT p d = t := ⟨_, rfl⟩
        have zt := bagT_size p d
        rw [ht] at zt
        simp only [ht] at HG hn
        obtain ⟨d', hd'⟩ : ∃ d', dg (clk k) t = d' := ⟨_, rfl⟩
        have HO : Hid (∀ W, Below w.heap.size w W → Calls Tryz.prog 51 #[.int .i64 k, .string t] W fun e w' => e = .returned (.string d') ∧ Below W.heap.size W w') := fun W hb => refof_any W (HT.out.next hb) k t (by omega) d' hd'
        have HE2 : Hid (bagL (clk k) (ss.drop j) = d') := hn.trans hd'
        rw [e1]
        clear HE hn hd' ht zt z1 z2 e1 cm HL2
        go_wp2_with (first
          | (go_at_call 88; with_reducible refine (HG _).mono ?_; rintro e w1 ⟨rfl, hb1⟩; replace hb := bnext hb hb1; clear hb1)
          | (go_at_call 51; with_reducible refine (HO.out _ hb).mono ?_; rintro e w2 ⟨rfl, hb2⟩; replace hb := bnext hb hb2; clear hb2))
        go_roundg j
        case rel =>
          go_light
          exact ⟨j, d', rfl, rfl, by go_num, by omega, HE2.out, hb⟩
        case measure => go_light; omega
set_option maxRecDepth 100000 in
theorem refroot_any (w : World) (ht : Tr w) (k : Int) (n : Nat) (hn : n < 18446744073709551616) (ao : Option Addr) (b off len cap : Nat) (ss : List ByteArray) (hr : RdS w ao b off len ss) (hsz : ∀ s ∈ ss, s.size ≤ 140737488351232) (hmx : len ≤ 8796093022208) (r : ByteArray) (hq : dg (clk k) (rootT n (bagL (clk k) ss)) = r) :
    Calls Tryz.prog 21 #[.int .i64 k, .int .u64 (n : Int), .slice ao len cap] w fun e w' => e = .returned (.string r) ∧ Below w.heap.size w w' := by
  have hz : (bagL (clk k) ss).size ≤ 140737488351232 := bagL_size (clk_le k) (by decide) _ hsz
  obtain ⟨d, hd⟩ : ∃ d, bagL (clk k) ss = d := ⟨_, rfl⟩
  have HBg := refbagged_any w ht k ao b off len cap ss hr hsz hmx d hd
  rw [hd] at hq hz
  obtain ⟨t, hrt⟩ : ∃ t, rootT n d = t := ⟨_, rfl⟩
  have HRt := fun W => refroott_any W n hn d (by omega) t hrt
  have zt := rootT_size n d
  rw [hrt] at hq zt
  have HO : Hid (∀ W, Below w.heap.size w W → Calls Tryz.prog 51 #[.int .i64 k, .string t] W fun e w' => e = .returned (.string r) ∧ Below W.heap.size W w') := fun W hb => refof_any W (ht.next hb) k t (by omega) r hq
  have hb := Below.refl w.heap.size w
  clear hq ht hd hrt zt hz hr hsz hmx
  go_enter Tryz.func21, Tryz.ntmps21
  go_wp2_with (first
    | (go_at_call 53; with_reducible refine HBg.mono ?_; rintro e w1 ⟨rfl, hb1⟩; replace hb := bnext hb hb1; clear hb1)
    | (go_at_call 52; with_reducible refine (HRt _).mono ?_; rintro e w1 ⟨rfl, hb1⟩; replace hb := bnext hb hb1; clear hb1)
    | (go_at_call 51; with_reducible refine (HO.out _ hb).mono ?_; rintro e w2 ⟨rfl, hb2⟩; replace hb := bnext hb hb2; clear hb2))
  go_ret
  exact ⟨rfl, hb⟩
end Go.Proofs.YtdocjikpcbmcgaaGreatDoor
