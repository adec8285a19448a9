/-
  The reference's walks: Bagged, Commit. Own work.
-/
import Derived.Test.YtgmnolepaidiiaaDoorTLawC
namespace Go.Proofs.YtgmnolepaidiiaaDoor
open Go.RowKit
attribute [local go_sem ↓] Go.wp_at_zero Go.wp_at_succ
set_option maxRecDepth 100000 in
theorem refbag_any (w : World) (ht : Tr w) (k : Int) (k1 : 1 ≤ k) (k2 : k ≤ 32) (ao : Option Addr) (b off len cap : Nat) (ss : List ByteArray) (hr : RdS w ao b off len ss) (hsz : ∀ s ∈ ss, s.size ≤ 1000) (hlen : 0 < len) (hmx : len ≤ 100) (r : ByteArray) (hq : bagL (clk k) ss = r) :
    Calls Tryd.prog 54 #[.int .i64 k, .slice ao len cap] w fun e w' => e = .returned (.string r) ∧ Below w.heap.size w w' := by
  obtain rfl := hr.ptr hlen
  obtain ⟨m, rfl⟩ : ∃ m, len = m + 1 := ⟨len - 1, by omega⟩
  have hc := clk_le k
  have hne : ¬ ((m : Int) + 1 = 0) := by omega
  have cm := hr.at (k := m) (by omega)
  have HL : Hid (bagL (clk k) (ss.drop m) = ss.getD m ByteArray.empty) := by
    have := bagL_last (clk k) ss (by rw [hr.hl]; omega)
    rw [hr.hl] at this; exact this
  have HM : Hid (∀ j, j < m + 1 → (ss.getD j ByteArray.empty).size ≤ 1000) := fun j hj => hsz _ (getD_mem (by rw [hr.hl]; exact hj))
  have HD : Hid (∀ j, (bagL (clk k) (ss.drop j)).size ≤ 1000) := fun j => bagL_size hc (by decide) _ (fun s hs => hsz s (List.mem_of_mem_drop hs))
  have HN : Hid (∀ j, j < m → bagL (clk k) (ss.drop j) = dg (clk k) (bagT (ss.getD j ByteArray.empty) (bagL (clk k) (ss.drop (j + 1))))) := fun j hj => bagL_drop _ _ _ (by rw [hr.hl]; omega)
  have HT : Hid (Tr w ∧ 1 ≤ k ∧ k ≤ 32) := ⟨ht, k1, k2⟩
  have HR : Hid (RdS w (some ⟨b, off, none⟩) b off (m + 1) ss) := hr
  have HQ : Hid (bagL (clk k) (ss.drop 0) = r) := hq
  have hm40 : (m : Int) ≤ 100 := by omega
  obtain ⟨d0, hd0⟩ : ∃ d0, ss.getD m ByteArray.empty = d0 := ⟨_, rfl⟩
  rw [hd0] at cm
  have HL2 : Hid (bagL (clk k) (ss.drop m) = d0) := by rw [← hd0]; exact HL
  clear hd0 HL ht hr hq hsz hlen k1 k2
  go_enter Tryd.func54, Tryd.ntmps54
  go_wp2
  go_loopg [5, 6] m (fun g x i wr => ∃ (j : Nat) (d : ByteArray), j = g ∧ x = .string d ∧ i = .int .i64 ((j : Int) - 1) ∧ j ≤ m ∧ Hid (bagL (clk k) (ss.drop j) = d) ∧ Below w.heap.size w wr)
  case atStart =>
    go_light
    exact ⟨m, d0, rfl, rfl, by go_num, Nat.le_refl _, HL2, Below.refl _ _⟩
  case round =>
    obtain ⟨j, d, hg, rfl, rfl, hj, HE, hb⟩ := hrel
    subst hg
    cases j with
    | zero =>
      have hz : ¬ ((0 : Int) ≤ -1) := by decide
      rw [show ((0 : Nat) : Int) - 1 = -1 from rfl]
      have HF : Hid (d = r) := HE.out.symm.trans HQ.out
      clear HE HN HQ HM HD HR HT cm
      obtain rfl := HF.out
      go_wp2
      go_ret
      exact ⟨rfl, hb⟩
    | succ j =>
      have e1 : ((j + 1 : Nat) : Int) - 1 = (j : Int) := by omega
      have hz : (0 : Int) ≤ (j : Int) := by omega
      have hz2 : (j : Int) < (m : Int) + 1 := by omega
      have hjm : j < m := by omega
      have cj := (HR.out.next hb (Nat.le_refl _)).at (k := j) (by omega)
      have z1 := HM.out j (by omega)
      have z2 := HD.out (j + 1)
      have hn := HN.out j hjm
      rw [HE.out] at z2 hn
      generalize ss.getD j ByteArray.empty = p at *
      obtain ⟨t, ht⟩ : ∃ t, bagT p d = t := ⟨_, rfl⟩
      have n2 := s2 p d
      have zt := bagT_size p d
      rw [ht] at zt n2
      rw [ht] at hn
      have hq1 : ¬ (9223372036854775807 < 1 + p.size) := by omega
      have hq2 : ¬ (9223372036854775807 < 1 + p.size + d.size) := by omega
      obtain ⟨d', hd'⟩ : ∃ d', dg (clk k) t = d' := ⟨_, rfl⟩
      have HO : Hid (∀ W, Below w.heap.size w W → Calls Tryd.prog 22 #[.int .i64 k, .string t] W fun e w' => e = .returned (.string d') ∧ Below W.heap.size W w') := fun W hb => refH_any W (HT.out.1.next hb) k HT.out.2.1 HT.out.2.2 t (by omega) d' hd'
      have HE2 : Hid (bagL (clk k) (ss.drop j) = d') := hn.trans hd'
      rw [e1]
      clear HE hn hd' ht zt z1 z2 e1 cm HL2
      go_wp2_with (go_at_call 22; with_reducible refine (HO.out _ hb).mono ?_; rintro e w2 ⟨rfl, hb2⟩; replace hb := bnext hb hb2; clear hb2)
      go_roundg j
      case rel =>
        go_light
        exact ⟨j, d', rfl, rfl, by go_num, by omega, HE2.out, hb⟩
      case measure => go_light; omega
theorem tl_nb (n : Nat) : tl (n : Int) 8 = nbL n 8 := by
  have h : ∀ j, (n : Int) / 256 ^ j % 256 = ((n / 256 ^ j % 256 : Nat) : Int) := fun j => by
    rw [show (256 : Int) ^ j = ((256 ^ j : Nat) : Int) by simp]
    omega
  simp only [tl, h]
  rfl
theorem root_text (n : Nat) (d : ByteArray) : ((⟨#[3]⟩ : ByteArray) ++ strB (nbL n 8)) ++ d = rootT n d := by
  rw [rootT, rootH, ← strB_cons]
  rfl
set_option maxRecDepth 100000 in
theorem refcommit_any (w : World) (ht : Tr w) (k : Int) (k1 : 1 ≤ k) (k2 : k ≤ 32) (n : Nat) (hn : n < 18446744073709551616) (ao : Option Addr) (b off len cap : Nat) (ss : List ByteArray) (hr : RdS w ao b off len ss) (hsz : ∀ s ∈ ss, s.size ≤ 1000) (hlen : 0 < len) (hmx : len ≤ 100) (r : ByteArray) (hq : dg (clk k) (rootT n (bagL (clk k) ss)) = r) :
    Calls Tryd.prog 34 #[.int .i64 k, .int .u64 (n : Int), .slice ao len cap] w fun e w' => e = .returned (.agg #[.int .u64 (n : Int), .string r]) ∧ Below w.heap.size w w' := by
  obtain ⟨w0, hw0⟩ : ∃ w0, w.alloc (.cells #[.int .u64 0, .string ⟨#[]⟩] 30) = w0 := ⟨_, rfl⟩
  have hb0 : Below w.heap.size w w0 := by rw [← hw0]; exact bal (Below.refl _ _) _
  have hR0 : Rt w0 w.heap.size 0 ⟨#[]⟩ := by rw [← hw0]; exact rt_new w 0 ⟨#[]⟩ 30
  obtain ⟨bg, hbg⟩ : ∃ bg, bagL (clk k) ss = bg := ⟨_, rfl⟩
  have zbg : bg.size ≤ 1000 := by rw [← hbg]; exact bagL_size (clk_le k) (by decide) _ hsz
  have HBi : Hid (∀ W, Calls Tryd.prog 53 #[.int .u64 (n : Int), .int .i64 8] W fun e w' => e = .returned (.string (strB (nbL n 8))) ∧ Below W.heap.size W w') := fun W => by
    have := big8 (n : Int) (by omega) (by omega) W
    rw [tl_nb] at this
    exact this
  have HBg : Hid (∀ W, Below w.heap.size w W → Calls Tryd.prog 54 #[.int .i64 k, .slice ao len cap] W fun e w' => e = .returned (.string bg) ∧ Below W.heap.size W w') := fun W hb => refbag_any W (ht.next hb) k k1 k2 ao b off len cap ss (hr.next hb (Nat.le_refl _)) hsz hlen hmx bg hbg
  rw [hbg] at hq
  obtain ⟨nb, hnb⟩ : ∃ nb, strB (nbL n 8) = nb := ⟨_, rfl⟩
  have znb : nb.size = 8 := by rw [← hnb, strB_size, nbL_len]
  have htx := root_text n bg
  rw [hnb] at htx HBi
  obtain ⟨t, htt⟩ : ∃ t, rootT n bg = t := ⟨_, rfl⟩
  have zt : t.size = 9 + bg.size := by rw [← htt, rootT_size]
  rw [htt] at htx hq
  have hq1 : ¬ (9223372036854775807 < 1 + nb.size) := by omega
  have hq2 : ¬ (9223372036854775807 < 1 + nb.size + bg.size) := by omega
  have HH : Hid (∀ W, Below w.heap.size w W → Calls Tryd.prog 22 #[.int .i64 k, .string t] W fun e w' => e = .returned (.string r) ∧ Below W.heap.size W w') := fun W hb => refH_any W (ht.next hb) k k1 k2 t (by omega) r hq
  have HR := hide hR0
  clear ht k1 k2 hr hsz hlen hmx hq hbg zbg hnb htt zt hn hR0 znb
  go_enter Tryd.func34, Tryd.ntmps34
  go_upto_region 1 with (fail)
  try rw [hw0]
  clear hw0
  go_wp2_with (first
    | (go_at_call 53; with_reducible refine (HBi.out _).mono ?_; rintro e w1 ⟨rfl, hb1⟩)
    | (go_at_call 54; with_reducible refine (HBg.out _ (bnext hb0 hb1)).mono ?_; rintro e w2 ⟨rfl, hb2⟩)
    | (go_at_call 22; with_reducible refine (HH.out _ (bnext (bnext hb0 hb1) hb2)).mono ?_; rintro e w3 ⟨rfl, hb3⟩; have hR3 := HR.out.below (bnext hb1 (bnext hb2 hb3)) (World.block_lt_of_cell? w0 _ HR.out.c0); have k0 := hR3.c0; have k1 := hR3.c1; have f0 := hR3.f0; have f1 := hR3.f1))
  obtain ⟨s0, s1, hch⟩ := rt_put hR3 (n : Int) r
  refine bodyPost_ret (v := .agg #[.int .u64 (n : Int), .string r]) (by simp [results, Tryd.results34, go_sem, s0, s1]) rfl ⟨rfl, ?_⟩
  exact (bnext (bnext (bnext hb0 hb1) hb2) hb3).trans (hch.below (by rintro b rfl; exact Nat.le_refl _))
end Go.Proofs.YtgmnolepaidiiaaDoor
