/-
  Walks of package sha: New, Sum. Own work.
-/
import Derived.Test.YtabdobdopcfllaaDoorShWalkD
namespace Go.Proofs.YtabdobdopcfllaaDoor
open Go.RowKit
attribute [local go_sem ↓] Go.wp_at_zero Go.wp_at_succ
/-- The words with which a sum begins. -/
def IV : List Int := [1779033703, 3144134277, 1013904242, 2773480762, 1359893119, 2600822924, 528734635, 1541459225]
set_option maxRecDepth 100000 in
theorem new_any (w : World) :
    Calls Tryd.prog 67 #[] w fun e w' => e = .returned (.pointer (some ⟨w.heap.size, 0, none⟩)) ∧ w' = w.alloc (.cells ((cW IV ++ cB (List.replicate 64 0)) ++ [Value.int .u64 0]).toArray 122) := by
  have hz : ∀ w' : World, (zeroValue 122).run Tryd.prog w' = .ok (.agg #[.int .u32 0, .int .u32 0, .int .u32 0, .int .u32 0, .int .u32 0, .int .u32 0, .int .u32 0, .int .u32 0, .int .u8 0, .int .u8 0, .int .u8 0, .int .u8 0, .int .u8 0, .int .u8 0, .int .u8 0, .int .u8 0, .int .u8 0, .int .u8 0, .int .u8 0, .int .u8 0, .int .u8 0, .int .u8 0, .int .u8 0, .int .u8 0, .int .u8 0, .int .u8 0, .int .u8 0, .int .u8 0, .int .u8 0, .int .u8 0, .int .u8 0, .int .u8 0, .int .u8 0, .int .u8 0, .int .u8 0, .int .u8 0, .int .u8 0, .int .u8 0, .int .u8 0, .int .u8 0, .int .u8 0, .int .u8 0, .int .u8 0, .int .u8 0, .int .u8 0, .int .u8 0, .int .u8 0, .int .u8 0, .int .u8 0, .int .u8 0, .int .u8 0, .int .u8 0, .int .u8 0, .int .u8 0, .int .u8 0, .int .u8 0, .int .u8 0, .int .u8 0, .int .u8 0, .int .u8 0, .int .u8 0, .int .u8 0, .int .u8 0, .int .u8 0, .int .u8 0, .int .u8 0, .int .u8 0, .int .u8 0, .int .u8 0, .int .u8 0, .int .u8 0, .int .u8 0, .int .u64 0]) w' := fun w' => by kernel_rfl
  go_enter Tryd.func67, Tryd.ntmps67
  go_wp2
  go_ret
  exact ⟨rfl, rfl⟩
theorem idx34 (H : List Int) (hl : H.length = 8) (k : Nat) (hk : k < 8) (w : World) : (Instr.index 119 (.agg (cW H).toArray) (.int .i64 (k : Int))).run Tryd.prog w = .ok (.int .u32 (H.getD k 0)) w := by
  obtain ⟨s0, s1, s2, s3, s4, s5, s6, s7, rfl⟩ := list8 hl
  obtain rfl | rfl | rfl | rfl | rfl | rfl | rfl | rfl : k = 0 ∨ k = 1 ∨ k = 2 ∨ k = 3 ∨ k = 4 ∨ k = 5 ∨ k = 6 ∨ k = 7 := by omega
  all_goals kernel_rfl
def w4 (x : Int) : List Int := [IntKind.u8.wrap (x / 16777216), IntKind.u8.wrap (x / 65536), IntKind.u8.wrap (x / 256), IntKind.u8.wrap x]
def outB (H : List Int) : Nat → List Int
  | 0 => []
  | k + 1 => outB H k ++ w4 (H.getD k 0)
def pad32 (l : List Int) : List Int := l ++ List.replicate (32 - l.length) 0
theorem outB_len (H : List Int) (k : Nat) : (outB H k).length = 4 * k := by
  induction k with
  | zero => rfl
  | succ k ih => simp only [outB, List.length_append, ih, w4, List.length_cons, List.length_nil]; omega
theorem pad32_len {l : List Int} (h : l.length ≤ 32) : (pad32 l).length = 32 := by simp [pad32]; omega
theorem pad32_full {l : List Int} (h : l.length = 32) : pad32 l = l := by simp [pad32, h]
theorem pad32_set {l : List Int} (h : l.length < 32) (v : Int) : (pad32 l).set l.length v = pad32 (l ++ [v]) := by
  unfold pad32
  rw [List.set_append_right _ _ (Nat.le_refl _)]
  obtain ⟨n, hn⟩ : ∃ n, 32 - l.length = n + 1 := ⟨32 - l.length - 1, by omega⟩
  have hn' : 32 - (l ++ [v]).length = n := by simp; omega
  rw [hn, hn', List.replicate_succ]
  simp
structure Su (w wr : World) (l : List Int) : Prop where
  below : Below w.heap.size w wr
  out : wr.rangeAt w.heap.size 0 (cB (pad32 l))
  outt : wr.there w.heap.size 0 32
theorem Su.step {w wr : World} {l : List Int} (h : Su w wr l) {m : Nat} (hm : l.length = m) (hl : m < 32) (v : Int) : Su w (wr.setCell ⟨w.heap.size, m, none⟩ (.int .u8 v)) (l ++ [v]) := by
  subst hm
  refine ⟨h.below.setCell (Nat.le_refl _) _, ?_, there_set h.outt _ _⟩
  have := range_set h.out l.length (.int .u8 v)
  rwa [Nat.zero_add, cB_set, pad32_set hl] at this
/-- Bytes as a string. -/
def strB (l : List Int) : ByteArray := l.foldl (fun r n => r.push (UInt8.ofNat n.toNat)) ByteArray.empty
theorem conv_str (w : World) (b : Nat) (l : List Int) (n : Nat) (hl : l.length = n) (h : w.rangeAt b 0 (cB l)) : (convert 30 9 (.slice (some ⟨b, 0, none⟩) n n)).run Tryd.prog w = .ok (.string (strB l)) w := by
  subst hl
  rw [run_convert_bytes_string w 30 9 5 _ _ _ Tryd.underlying30 Tryd.underlying5 Tryd.underlying9]
  refine run_bytesToString w ⟨b, 0, none⟩ l.length l.length l ?_
  have := run_loadCells_list (P := Tryd.prog) w ⟨b, 0, none⟩ (cB l) (fun j v hv => by rw [Addr.add_mid]; exact h j v hv)
  rwa [cB_len] at this
theorem other2 {w : World} {b i j : Nat} {v u : Value} (h : w.cell? ⟨b, i, none⟩ = some u) (hne : i ≠ j) : (w.setCell ⟨b, j, none⟩ v).cell? ⟨b, i, none⟩ = some u := by
  rw [World.cell?_setCell_other _ _ _ _ (fun e => hne (by have := congrArg Addr.off e; simpa using this.symm))]; exact h
set_option maxHeartbeats 2000000 in
set_option maxRecDepth 100000 in
theorem sum_any (w : World) (p : Nat) (st blk : List Int) (n : Nat) (hh : Hs w p st blk n) (rs : List Int) (hrl : rs.length = 64) (hr : w.rangeAt 0 0 (cW rs)) :
    Calls Tryd.prog 69 #[.pointer (some ⟨p, 0, none⟩)] w fun e w' => e = .returned (.string (strB (outB (closeI rs st blk n) 8))) ∧ Below w.heap.size w w' := by
  obtain ⟨H, hH⟩ : ∃ H, H = closeI rs st blk n := ⟨_, rfl⟩
  have hHl : H.length = 8 := by rw [hH]; exact closeI_len _ _ _ _
  have hcl := fun (w' : World) (h : Hs w' p st blk n) (h2 : w'.rangeAt 0 0 (cW rs)) => closed_any w' p st blk n h rs hrl h2
  rw [← hH] at hcl
  have HE : Hid (H = closeI rs st blk n) := hH
  clear hH
  have hlt : p < w.heap.size := hh.lt
  have h1w : 0 < w.heap.size := range_lt hr (by intro h; have := congrArg List.length h; simp [cW_len, hrl] at this)
  have hA : ∀ o, Hs (w.alloc o) p st blk n := fun o => hh.later ((Below.refl w.heap.size w).alloc (Nat.le_refl _) o) hlt
  have hR : ∀ o, (w.alloc o).rangeAt 0 0 (cW rs) := fun o => World.rangeAt_alloc hr o
  go_enter Tryd.func69, Tryd.ntmps69
  go_wp2_with (go_at_call 81; refine (hcl _ (hA _) (hR _)).mono ?_; rintro e w' ⟨rfl, hbw⟩)
  have hS : Su w w' [] := by
    have q := there_new w (cB (List.replicate 32 0)).toArray 124 32 (by simp [cB_len])
    have r := range_new w (cB (List.replicate 32 0)) 124
    exact ⟨((Below.refl _ _).alloc (Nat.le_refl _) _).trans (hbw.mono (by simp)), range_below hbw (by simp) r, there_below hbw (by simp) q⟩
  clear hbw hcl hA hR
  go_loopg [8] 8 (fun g i wr => ∃ k : Nat, k ≤ 8 ∧ g = 8 - k ∧ i = .int .i64 k ∧ Su w wr (outB H k))
  case atStart =>
    go_light
    exact ⟨0, Nat.zero_le _, rfl, rfl, hS⟩
  case round =>
    clear hS
    obtain ⟨k, hk, rfl, rfl, hs⟩ := hrel
    by_cases hlt : k < 8
    · have hk0 : (0 : Int) ≤ (k : Int) := Int.natCast_nonneg _
      have hk8 : (k : Int) < 8 := by omega
      have hidx := fun w' => idx34 H hHl k hlt w'
      obtain ⟨m, hm⟩ : ∃ m : Nat, 4 * k = m := ⟨_, rfl⟩
      obtain ⟨m1, hm1⟩ : ∃ m1 : Nat, m + 1 = m1 := ⟨_, rfl⟩
      obtain ⟨m2, hm2⟩ : ∃ m2 : Nat, m + 2 = m2 := ⟨_, rfl⟩
      obtain ⟨m3, hm3⟩ : ∃ m3 : Nat, m + 3 = m3 := ⟨_, rfl⟩
      have e0 : 4 * (k : Int) = (m : Int) := by omega
      have e1 : (m : Int) + 1 = (m1 : Int) := by omega
      have e2 : (m : Int) + 2 = (m2 : Int) := by omega
      have e3 : (m : Int) + 3 = (m3 : Int) := by omega
      have b0 : (0 : Int) ≤ (m : Int) := Int.natCast_nonneg _
      have b1 : (0 : Int) ≤ (m1 : Int) := Int.natCast_nonneg _
      have b2 : (0 : Int) ≤ (m2 : Int) := Int.natCast_nonneg _
      have b3 : (0 : Int) ≤ (m3 : Int) := Int.natCast_nonneg _
      have d0 : (m : Int) < 32 := by omega
      have d1 : (m1 : Int) < 32 := by omega
      have d2 : (m2 : Int) < 32 := by omega
      have d3 : (m3 : Int) < 32 := by omega
      have hol := outB_len H k
      have hpl : (pad32 (outB H k)).length = 32 := pad32_len (by omega)
      have c0 := cell_cB0 hs.out (i := m) (by omega)
      have c1 := cell_cB0 hs.out (i := m1) (by omega)
      have c2 := cell_cB0 hs.out (i := m2) (by omega)
      have c3 := cell_cB0 hs.out (i := m3) (by omega)
      have f0 : wr.frozen? ⟨w.heap.size, m, none⟩ = false := by have := (hs.outt m (by omega)).2; rwa [Nat.zero_add] at this
      have f1 : wr.frozen? ⟨w.heap.size, m1, none⟩ = false := by have := (hs.outt m1 (by omega)).2; rwa [Nat.zero_add] at this
      have f2 : wr.frozen? ⟨w.heap.size, m2, none⟩ = false := by have := (hs.outt m2 (by omega)).2; rwa [Nat.zero_add] at this
      have f3 : wr.frozen? ⟨w.heap.size, m3, none⟩ = false := by have := (hs.outt m3 (by omega)).2; rwa [Nat.zero_add] at this
      have c1' := fun v => other2 (v := v) c1 (show m1 ≠ m by omega)
      have c2' := fun v v' => other2 (v := v') (other2 (v := v) c2 (show m2 ≠ m by omega)) (show m2 ≠ m1 by omega)
      have c3' := fun v v' v'' => other2 (v := v'') (other2 (v := v') (other2 (v := v) c3 (show m3 ≠ m by omega)) (show m3 ≠ m1 by omega)) (show m3 ≠ m2 by omega)
      have HF : Hid (∀ x0 x1 x2 x3, Su w ((((wr.setCell ⟨w.heap.size, m, none⟩ (.int .u8 x0)).setCell ⟨w.heap.size, m1, none⟩ (.int .u8 x1)).setCell ⟨w.heap.size, m2, none⟩ (.int .u8 x2)).setCell ⟨w.heap.size, m3, none⟩ (.int .u8 x3)) (outB H k ++ [x0, x1, x2, x3])) := fun x0 x1 x2 x3 => by
        have := (((hs.step (m := m) (by omega) (by omega) x0).step (m := m1) (by simp; omega) (by omega) x1).step (m := m2) (by simp; omega) (by omega) x2).step (m := m3) (by simp; omega) (by omega) x3
        simpa using this
      clear hs hm hm1 hm2 hm3 c1 c2 c3 hol hpl
      generalize (pad32 (outB H k)).getD m 0 = z0 at *
      generalize (pad32 (outB H k)).getD m1 0 = z1 at *
      generalize (pad32 (outB H k)).getD m2 0 = z2 at *
      generalize (pad32 (outB H k)).getD m3 0 = z3 at *
      generalize hx : H.getD k 0 = x at *
      have HX : Hid (H.getD k 0 = x) := hx
      clear hx
      go_wp2
      go_roundg (8 - (k + 1))
      case rel =>
        go_light
        refine ⟨k + 1, by omega, rfl, by go_num, ?_⟩
        rw [outB, HX.out]
        exact HF.out _ _ _ _
      case measure => go_light; omega
    · obtain rfl : k = 8 := by omega
      have hol := outB_len H 8
      have hrg := hs.out
      rw [pad32_full hol] at hrg
      have hcv := conv_str wr w.heap.size (outB H 8) 32 hol hrg
      have HB : Hid (Below w.heap.size w wr) := hs.below
      have HO : Hid (outB H 8 = outB (closeI rs st blk n) 8) := by rw [HE.out]; exact rfl
      clear hs hrg hol
      generalize outB H 8 = l at *
      go_wp2
      go_ret
      exact ⟨by rw [← HO.out]; rfl, HB.out⟩
end Go.Proofs.YtabdobdopcfllaaDoor
