/-
  The walk of HashNumbers. Own work.
-/
import Derived.Test.YtelbnmfdeibdaaaDoorHWalkD
namespace Go.Proofs.YtelbnmfdeibdaaaDoor
open Go.RowKit
attribute [local go_sem ↓] Go.wp_at_zero Go.wp_at_succ
theorem idx_s (b : ByteArray) (m : Nat) (x : Int) (hm : m < b.size) (hx : (tB b).getD m 0 = x) (w : World) : (Instr.index 9 (.string b) (.int .i64 (m : Int))).run Tryd.prog w = .ok (.int .u8 x) w := by
  subst hx
  have e : (tB b).getD m 0 = (b[m].toNat : Int) := by
    have : b.data.toList[m]? = some b[m] := by
      rw [Array.getElem?_toList, Array.getElem?_eq_getElem (by simpa using hm)]; rfl
    simp [tB, List.getD_eq_getElem?_getD, this]
  have h2 : b[m]? = some b[m] := getElem?_pos b m hm
  rw [e]
  simp [Instr.index, asIntOf, run_underlying Tryd.underlying9, h2]
theorem strB_l (l : List Int) : (strB l).data.toList = l.map fun n => UInt8.ofNat n.toNat := by
  have : ∀ (l : List Int) (r : ByteArray), (l.foldl (fun r n => r.push (UInt8.ofNat n.toNat)) r).data.toList = r.data.toList ++ l.map fun n => UInt8.ofNat n.toNat := by
    intro l
    induction l with
    | nil => intro r; simp
    | cons x t ih => intro r; rw [List.foldl_cons, ih]; simp
  rw [strB, this]; simp
theorem root_at (n : Nat) (d : ByteArray) (i : Nat) (h : i < 8) : (tB (rootT n d)).getD (i + 1) 0 = ((n / 256 ^ (7 - i) % 256 : Nat) : Int) := by
  have e : tB (rootT n d) = (rootH n).map (fun x => ((UInt8.ofNat x.toNat).toNat : Int)) ++ tB d := by
    simp [tB, rootT, strB_l, Function.comp_def]
  rw [e, List.getD_eq_getElem?_getD, List.getElem?_append_left (by simp [rootH, nbL_len]; omega), rootH, List.map_cons, List.getElem?_cons_succ, List.getElem?_map]
  have h2 : (nbL n 8)[i]? = some ((n / 256 ^ (7 - i) % 256 : Nat) : Int) := by simp [nbL, h]
  rw [h2]
  generalize hx : n / 256 ^ (7 - i) % 256 = x
  have : x < 256 := by omega
  show ((UInt8.ofNat ((x : Int).toNat)).toNat : Int) = (x : Int)
  rw [Int.toNat_natCast, UInt8.toNat_ofNat', Nat.mod_eq_of_lt this]
theorem root_zero (n : Nat) (d : ByteArray) : (tB (rootT n d)).getD 0 0 = 3 := by
  have e : tB (rootT n d) = (rootH n).map (fun x => ((UInt8.ofNat x.toNat).toNat : Int)) ++ tB d := by
    simp [tB, rootT, strB_l, Function.comp_def]
  rw [e]; rfl
theorem root_rest (n : Nat) (d : ByteArray) : (rootT n d).extract 9 (9 + d.size) = d := by
  have h := rootH_size n
  exact ByteArray.extract_append_eq_right h.symm (by rw [h])
theorem u64_nat {a : Int} (wf : (Lit.int .u64 a).wf = true) : ∃ n : Nat, a = (n : Int) ∧ n < 2 ^ 64 := by
  have := bounds_u64 wf
  exact ⟨a.toNat, by omega, by omega⟩
theorem wrap_u (x : Int) (h0 : 0 ≤ x) (h1 : x < 18446744073709551616) : IntKind.u64.wrap x = x := by
  simp [IntKind.wrap, IntKind.signed, IntKind.bits]; omega
theorem div_step (n k : Nat) (hk : k < 8) : n / 256 ^ (8 - k) * 256 + n / 256 ^ (7 - k) % 256 = n / 256 ^ (8 - (k + 1)) := by
  have e : 8 - k = (7 - k) + 1 := by omega
  rw [e, Nat.pow_succ, ← Nat.div_div_eq_div_mul, show 8 - (k + 1) = 7 - k by omega]
  omega
set_option maxRecDepth 100000 in
theorem numbers_walk (w : World) (ht : Tb w) (n : Nat) (hn : n < 18446744073709551616) (d : ByteArray) (hd : d.size ≤ 140737488351232) :
    Calls Tryd.prog 3 #[.int .u64 (n : Int), .string d] w fun e w' => e = .returned (.bool true) ∧ Below w.heap.size w w' := by
  have HA : Hid (∀ W, Below w.heap.size w W → Calls Tryd.prog 8 #[] W fun e w' => e = .returned (.bool true) ∧ Below W.heap.size W w') := fun W hb => alive_any W (ht.next hb)
  have zt := rootT_size n d
  have H0 := root_zero n d
  have HI := hide (root_at n d)
  have ex := root_rest n d
  obtain ⟨t, het⟩ : ∃ t, rootT n d = t := ⟨_, rfl⟩
  have HRt := fun W => roott_any W n d (by omega) t het
  rw [het] at zt H0 HI ex
  have i0 := fun W => idx_s t 0 3 (by omega) H0 W
  rw [show ((0 : Nat) : Int) = 0 from rfl] at i0
  have hb := Below.refl w.heap.size w
  have hz9 : (9 : Int) ≤ 9 + (d.size : Int) := by omega
  clear ht het H0
  go_enter Tryd.func3, Tryd.ntmps3
  go_wp2_with (first
    | (go_at_call 7; with_reducible refine (HRt _).mono ?_; rintro e w1 ⟨rfl, hb1⟩; replace hb := bnext hb hb1; clear hb1)
    | (go_at_call 8; with_reducible refine (HA.out _ hb).mono ?_; rintro e w1 ⟨rfl, hb1⟩; replace hb := bnext hb hb1; clear hb1))
  go_loopg [6, 7] 8 (fun g m i wr => w1 = wr ∧ ∃ (k M : Nat), k ≤ 8 ∧ g = 8 - k ∧ m = .int .u64 (M : Int) ∧ i = .int .i64 ((k : Int) + 1) ∧ Hid (M = n / 256 ^ (8 - k)))
  case atStart =>
    go_light
    exact ⟨rfl, 0, 0, Nat.zero_le _, rfl, rfl, rfl, (Nat.div_eq_of_lt (by simpa using hn)).symm⟩
  case round =>
    obtain ⟨rfl, k, M, hk, rfl, rfl, rfl, HM⟩ := hrel
    by_cases hlt : k < 8
    · have hz : (k : Int) + 1 < 9 := by omega
      obtain ⟨x, hx⟩ : ∃ x, x = n / 256 ^ (7 - k) % 256 := ⟨_, rfl⟩
      have hi := HI.out k hlt
      rw [← hx] at hi
      have ik := fun W => idx_s t (k + 1) x (by omega) hi W
      rw [show ((k + 1 : Nat) : Int) = (k : Int) + 1 by omega] at ik
      obtain ⟨M2, hM2⟩ : ∃ M2, M2 = n / 256 ^ (8 - (k + 1)) := ⟨_, rfl⟩
      have hs : M * 256 + x = M2 := by rw [HM.out, hx, hM2]; exact div_step n k hlt
      have hle : M2 ≤ n := by rw [hM2]; exact Nat.div_le_self _ _
      have e1 : IntKind.u64.wrap (x : Int) = (x : Int) := wrap_u _ (by omega) (by omega)
      have e3 : IntKind.u64.wrap ((M : Int) * 256) = (M : Int) * 256 := wrap_u _ (by omega) (by omega)
      have e2 : IntKind.u64.wrap ((M : Int) * 256 + (x : Int)) = (M2 : Int) := by rw [wrap_u _ (by omega) (by omega)]; omega
      have HM2 := hide hM2
      clear hM2 hs hle hx hi HM
      go_wp2
      go_roundg (8 - (k + 1))
      case rel =>
        go_light
        exact ⟨rfl, k + 1, M2, by omega, rfl, by first | rw [e3, e2] | rw [e2] | rfl, by go_num, HM2.out⟩
      case measure => go_light; omega
    · obtain rfl : k = 8 := by omega
      have hz : ¬ ((9 : Int) < 9) := by decide
      have e : M = n := by rw [HM.out]; simp
      rw [show ((8 : Nat) : Int) + 1 = 9 from rfl]
      clear HM hlt hk
      subst e
      go_wp2
      go_ret
      exact ⟨rfl, hb⟩
theorem numbers_row (w : World) (ht : Tb w) (a : Int) (ha : (Lit.int .u64 a).wf = true) (d : ByteArray) (hd : d.size ≤ 140737488351232) :
    Calls Tryd.prog 3 #[.int .u64 a, .string d] w fun e w' => e = .returned (.bool true) ∧ Below w.heap.size w w' := by
  obtain ⟨n, rfl, hn⟩ := u64_nat ha
  exact numbers_walk w ht n hn d hd
end Go.Proofs.YtelbnmfdeibdaaaDoor
