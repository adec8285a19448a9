/-
  Own work: LEval, PlSpec, PlWalkA, PlWalkB, PlWalkC, CvSpec.
-/
import Derived.KernelRfl
import Derived.Test.YtipcenbndhnnhaaGreatDoorRows
import Derived.Test.YtipcenbndhnnhaaGreatDoorProg
import Derived.WalkKit
import Derived.WalkSpells
import Derived.Outline
import Derived.Deep.LoopGhost
import Derived.Deep.DrawnRows
import Derived.Deep.Light
import Derived.Laws.Bits64b
import Derived.Handy
import Derived.BigQuiet
import Derived.Test.YtipcenbndhnnhaaGreatDoorQk05
namespace Go.Proofs.YtipcenbndhnnhaaGreatDoor
open Go.RowKit
def shaF (rs t : List Int) : List Int := forceL (foldS rs IV (t.take 64)) fun st => forceL (closeS rs st (pad (t.drop 64)) t.length) fun h => outB h 8
theorem shaF_eq (rs t : List Int) (h1 : 64 ≤ t.length) (h2 : t.length < 128) : shaF rs t = shaT rs t := by
  have e : t.length / 64 = 1 := by omega
  rw [shaF, forceL_eq, forceL_eq, closeS_eq, foldS_eq, shaT, e]
  rfl
theorem ev_la : shaE RS [0, 97] = [2, 42, 105, 121, 230, 218, 183, 170, 90, 228, 195, 229, 228, 95, 126, 151, 113, 18, 167, 230, 53, 147, 130, 13, 190, 193, 236, 115, 138, 36, 249, 60] := by kernel_rfl
theorem dg_la : dg 32 ⟨#[0, 97]⟩ = ⟨#[2, 42, 105, 121, 230, 218, 183, 170, 90, 228, 195, 229, 228, 95, 126, 151, 113, 18, 167, 230, 53, 147, 130, 13, 190, 193, 236, 115, 138, 36, 249, 60]⟩ := by
  rw [dg, show tB ⟨#[0, 97]⟩ = [0, 97] by kernel_rfl, shaS, ← shaE_eq _ _ (by decide), ev_la]; kernel_rfl
theorem ev_lb : shaE RS [0, 98] = [87, 235, 53, 97, 93, 71, 243, 78, 199, 20, 202, 205, 245, 253, 116, 96, 138, 94, 142, 16, 39, 36, 232, 11, 36, 178, 135, 192, 194, 123, 106, 49] := by kernel_rfl
theorem dg_lb : dg 32 ⟨#[0, 98]⟩ = ⟨#[87, 235, 53, 97, 93, 71, 243, 78, 199, 20, 202, 205, 245, 253, 116, 96, 138, 94, 142, 16, 39, 36, 232, 11, 36, 178, 135, 192, 194, 123, 106, 49]⟩ := by
  rw [dg, show tB ⟨#[0, 98]⟩ = [0, 98] by kernel_rfl, shaS, ← shaE_eq _ _ (by decide), ev_lb]; kernel_rfl
theorem ev_lc : shaE RS [0, 99] = [89, 127, 203, 49, 40, 45, 52, 101, 76, 32, 13, 52, 24, 252, 165, 112, 92, 100, 142, 191, 50, 110, 199, 61, 141, 222, 241, 24, 65, 248, 118, 216] := by kernel_rfl
theorem dg_lc : dg 32 ⟨#[0, 99]⟩ = ⟨#[89, 127, 203, 49, 40, 45, 52, 101, 76, 32, 13, 52, 24, 252, 165, 112, 92, 100, 142, 191, 50, 110, 199, 61, 141, 222, 241, 24, 65, 248, 118, 216]⟩ := by
  rw [dg, show tB ⟨#[0, 99]⟩ = [0, 99] by kernel_rfl, shaS, ← shaE_eq _ _ (by decide), ev_lc]; kernel_rfl
theorem ev_nab : shaF RS [1, 2, 42, 105, 121, 230, 218, 183, 170, 90, 228, 195, 229, 228, 95, 126, 151, 113, 18, 167, 230, 53, 147, 130, 13, 190, 193, 236, 115, 138, 36, 249, 60, 87, 235, 53, 97, 93, 71, 243, 78, 199, 20, 202, 205, 245, 253, 116, 96, 138, 94, 142, 16, 39, 36, 232, 11, 36, 178, 135, 192, 194, 123, 106, 49] = [177, 55, 152, 95, 244, 132, 251, 96, 13, 185, 49, 7, 199, 123, 3, 101, 200, 13, 120, 245, 180, 41, 222, 208, 253, 151, 54, 29, 7, 121, 153, 235] := by kernel_rfl
theorem dg_nab : dg 32 ⟨#[1, 2, 42, 105, 121, 230, 218, 183, 170, 90, 228, 195, 229, 228, 95, 126, 151, 113, 18, 167, 230, 53, 147, 130, 13, 190, 193, 236, 115, 138, 36, 249, 60, 87, 235, 53, 97, 93, 71, 243, 78, 199, 20, 202, 205, 245, 253, 116, 96, 138, 94, 142, 16, 39, 36, 232, 11, 36, 178, 135, 192, 194, 123, 106, 49]⟩ = ⟨#[177, 55, 152, 95, 244, 132, 251, 96, 13, 185, 49, 7, 199, 123, 3, 101, 200, 13, 120, 245, 180, 41, 222, 208, 253, 151, 54, 29, 7, 121, 153, 235]⟩ := by
  rw [dg, show tB ⟨#[1, 2, 42, 105, 121, 230, 218, 183, 170, 90, 228, 195, 229, 228, 95, 126, 151, 113, 18, 167, 230, 53, 147, 130, 13, 190, 193, 236, 115, 138, 36, 249, 60, 87, 235, 53, 97, 93, 71, 243, 78, 199, 20, 202, 205, 245, 253, 116, 96, 138, 94, 142, 16, 39, 36, 232, 11, 36, 178, 135, 192, 194, 123, 106, 49]⟩ = [1, 2, 42, 105, 121, 230, 218, 183, 170, 90, 228, 195, 229, 228, 95, 126, 151, 113, 18, 167, 230, 53, 147, 130, 13, 190, 193, 236, 115, 138, 36, 249, 60, 87, 235, 53, 97, 93, 71, 243, 78, 199, 20, 202, 205, 245, 253, 116, 96, 138, 94, 142, 16, 39, 36, 232, 11, 36, 178, 135, 192, 194, 123, 106, 49] by kernel_rfl, shaS, ← shaF_eq _ _ (by decide) (by decide), ev_nab]; kernel_rfl
theorem ev_nac : shaF RS [1, 2, 42, 105, 121, 230, 218, 183, 170, 90, 228, 195, 229, 228, 95, 126, 151, 113, 18, 167, 230, 53, 147, 130, 13, 190, 193, 236, 115, 138, 36, 249, 60, 89, 127, 203, 49, 40, 45, 52, 101, 76, 32, 13, 52, 24, 252, 165, 112, 92, 100, 142, 191, 50, 110, 199, 61, 141, 222, 241, 24, 65, 248, 118, 216] = [51, 28, 43, 156, 250, 55, 233, 221, 201, 204, 133, 243, 34, 254, 220, 117, 184, 156, 76, 193, 156, 146, 228, 150, 243, 238, 141, 6, 51, 95, 97, 86] := by kernel_rfl
theorem dg_nac : dg 32 ⟨#[1, 2, 42, 105, 121, 230, 218, 183, 170, 90, 228, 195, 229, 228, 95, 126, 151, 113, 18, 167, 230, 53, 147, 130, 13, 190, 193, 236, 115, 138, 36, 249, 60, 89, 127, 203, 49, 40, 45, 52, 101, 76, 32, 13, 52, 24, 252, 165, 112, 92, 100, 142, 191, 50, 110, 199, 61, 141, 222, 241, 24, 65, 248, 118, 216]⟩ = ⟨#[51, 28, 43, 156, 250, 55, 233, 221, 201, 204, 133, 243, 34, 254, 220, 117, 184, 156, 76, 193, 156, 146, 228, 150, 243, 238, 141, 6, 51, 95, 97, 86]⟩ := by
  rw [dg, show tB ⟨#[1, 2, 42, 105, 121, 230, 218, 183, 170, 90, 228, 195, 229, 228, 95, 126, 151, 113, 18, 167, 230, 53, 147, 130, 13, 190, 193, 236, 115, 138, 36, 249, 60, 89, 127, 203, 49, 40, 45, 52, 101, 76, 32, 13, 52, 24, 252, 165, 112, 92, 100, 142, 191, 50, 110, 199, 61, 141, 222, 241, 24, 65, 248, 118, 216]⟩ = [1, 2, 42, 105, 121, 230, 218, 183, 170, 90, 228, 195, 229, 228, 95, 126, 151, 113, 18, 167, 230, 53, 147, 130, 13, 190, 193, 236, 115, 138, 36, 249, 60, 89, 127, 203, 49, 40, 45, 52, 101, 76, 32, 13, 52, 24, 252, 165, 112, 92, 100, 142, 191, 50, 110, 199, 61, 141, 222, 241, 24, 65, 248, 118, 216] by kernel_rfl, shaS, ← shaF_eq _ _ (by decide) (by decide), ev_nac]; kernel_rfl
theorem ev_rab : shaE RS [3, 0, 0, 0, 0, 0, 0, 0, 2, 177, 55, 152, 95, 244, 132, 251, 96, 13, 185, 49, 7, 199, 123, 3, 101, 200, 13, 120, 245, 180, 41, 222, 208, 253, 151, 54, 29, 7, 121, 153, 235] = [249, 25, 88, 10, 250, 220, 204, 98, 224, 203, 118, 133, 13, 192, 129, 177, 122, 141, 152, 139, 112, 56, 45, 7, 169, 26, 188, 133, 14, 36, 109, 104] := by kernel_rfl
theorem dg_rab : dg 32 ⟨#[3, 0, 0, 0, 0, 0, 0, 0, 2, 177, 55, 152, 95, 244, 132, 251, 96, 13, 185, 49, 7, 199, 123, 3, 101, 200, 13, 120, 245, 180, 41, 222, 208, 253, 151, 54, 29, 7, 121, 153, 235]⟩ = ⟨#[249, 25, 88, 10, 250, 220, 204, 98, 224, 203, 118, 133, 13, 192, 129, 177, 122, 141, 152, 139, 112, 56, 45, 7, 169, 26, 188, 133, 14, 36, 109, 104]⟩ := by
  rw [dg, show tB ⟨#[3, 0, 0, 0, 0, 0, 0, 0, 2, 177, 55, 152, 95, 244, 132, 251, 96, 13, 185, 49, 7, 199, 123, 3, 101, 200, 13, 120, 245, 180, 41, 222, 208, 253, 151, 54, 29, 7, 121, 153, 235]⟩ = [3, 0, 0, 0, 0, 0, 0, 0, 2, 177, 55, 152, 95, 244, 132, 251, 96, 13, 185, 49, 7, 199, 123, 3, 101, 200, 13, 120, 245, 180, 41, 222, 208, 253, 151, 54, 29, 7, 121, 153, 235] by kernel_rfl, shaS, ← shaE_eq _ _ (by decide), ev_rab]; kernel_rfl
theorem ev_rac : shaE RS [3, 0, 0, 0, 0, 0, 0, 0, 2, 51, 28, 43, 156, 250, 55, 233, 221, 201, 204, 133, 243, 34, 254, 220, 117, 184, 156, 76, 193, 156, 146, 228, 150, 243, 238, 141, 6, 51, 95, 97, 86] = [59, 182, 28, 199, 33, 114, 77, 72, 146, 47, 208, 82, 21, 183, 227, 186, 38, 149, 1, 88, 80, 13, 33, 57, 141, 100, 133, 5, 108, 16, 185, 44] := by kernel_rfl
theorem dg_rac : dg 32 ⟨#[3, 0, 0, 0, 0, 0, 0, 0, 2, 51, 28, 43, 156, 250, 55, 233, 221, 201, 204, 133, 243, 34, 254, 220, 117, 184, 156, 76, 193, 156, 146, 228, 150, 243, 238, 141, 6, 51, 95, 97, 86]⟩ = ⟨#[59, 182, 28, 199, 33, 114, 77, 72, 146, 47, 208, 82, 21, 183, 227, 186, 38, 149, 1, 88, 80, 13, 33, 57, 141, 100, 133, 5, 108, 16, 185, 44]⟩ := by
  rw [dg, show tB ⟨#[3, 0, 0, 0, 0, 0, 0, 0, 2, 51, 28, 43, 156, 250, 55, 233, 221, 201, 204, 133, 243, 34, 254, 220, 117, 184, 156, 76, 193, 156, 146, 228, 150, 243, 238, 141, 6, 51, 95, 97, 86]⟩ = [3, 0, 0, 0, 0, 0, 0, 0, 2, 51, 28, 43, 156, 250, 55, 233, 221, 201, 204, 133, 243, 34, 254, 220, 117, 184, 156, 76, 193, 156, 146, 228, 150, 243, 238, 141, 6, 51, 95, 97, 86] by kernel_rfl, shaS, ← shaE_eq _ _ (by decide), ev_rac]; kernel_rfl
abbrev xa : ByteArray := ⟨#[97]⟩
abbrev xb : ByteArray := ⟨#[98]⟩
abbrev xc : ByteArray := ⟨#[99]⟩
theorem pks_two (c : Nat) (x y : ByteArray) : pks c [x, y] 41 = [dg c (nodeT (dg c (leafT x)) (dg c (leafT y)))] := by
  simp [pks, nd]
theorem rt_two (c : Nat) (x y : ByteArray) : rtD c [x, y] 2 = dg c (rootT 2 (dg c (nodeT (dg c (leafT x)) (dg c (leafT y))))) := by
  rw [rtD, show [x, y].take 2 = [x, y] from rfl, pks_two]; rfl
theorem rt_ab : rtD 32 [xa, xb] 2 = ⟨#[249, 25, 88, 10, 250, 220, 204, 98, 224, 203, 118, 133, 13, 192, 129, 177, 122, 141, 152, 139, 112, 56, 45, 7, 169, 26, 188, 133, 14, 36, 109, 104]⟩ := by
  rw [rt_two, show leafT xa = ⟨#[0, 97]⟩ by kernel_rfl, show leafT xb = ⟨#[0, 98]⟩ by kernel_rfl, dg_la, dg_lb, show nodeT ⟨#[2, 42, 105, 121, 230, 218, 183, 170, 90, 228, 195, 229, 228, 95, 126, 151, 113, 18, 167, 230, 53, 147, 130, 13, 190, 193, 236, 115, 138, 36, 249, 60]⟩ ⟨#[87, 235, 53, 97, 93, 71, 243, 78, 199, 20, 202, 205, 245, 253, 116, 96, 138, 94, 142, 16, 39, 36, 232, 11, 36, 178, 135, 192, 194, 123, 106, 49]⟩ = ⟨#[1, 2, 42, 105, 121, 230, 218, 183, 170, 90, 228, 195, 229, 228, 95, 126, 151, 113, 18, 167, 230, 53, 147, 130, 13, 190, 193, 236, 115, 138, 36, 249, 60, 87, 235, 53, 97, 93, 71, 243, 78, 199, 20, 202, 205, 245, 253, 116, 96, 138, 94, 142, 16, 39, 36, 232, 11, 36, 178, 135, 192, 194, 123, 106, 49]⟩ by kernel_rfl, dg_nab, show rootT 2 ⟨#[177, 55, 152, 95, 244, 132, 251, 96, 13, 185, 49, 7, 199, 123, 3, 101, 200, 13, 120, 245, 180, 41, 222, 208, 253, 151, 54, 29, 7, 121, 153, 235]⟩ = ⟨#[3, 0, 0, 0, 0, 0, 0, 0, 2, 177, 55, 152, 95, 244, 132, 251, 96, 13, 185, 49, 7, 199, 123, 3, 101, 200, 13, 120, 245, 180, 41, 222, 208, 253, 151, 54, 29, 7, 121, 153, 235]⟩ by kernel_rfl, dg_rab]
theorem rt_ac : rtD 32 [xa, xc] 2 = ⟨#[59, 182, 28, 199, 33, 114, 77, 72, 146, 47, 208, 82, 21, 183, 227, 186, 38, 149, 1, 88, 80, 13, 33, 57, 141, 100, 133, 5, 108, 16, 185, 44]⟩ := by
  rw [rt_two, show leafT xa = ⟨#[0, 97]⟩ by kernel_rfl, show leafT xc = ⟨#[0, 99]⟩ by kernel_rfl, dg_la, dg_lc, show nodeT ⟨#[2, 42, 105, 121, 230, 218, 183, 170, 90, 228, 195, 229, 228, 95, 126, 151, 113, 18, 167, 230, 53, 147, 130, 13, 190, 193, 236, 115, 138, 36, 249, 60]⟩ ⟨#[89, 127, 203, 49, 40, 45, 52, 101, 76, 32, 13, 52, 24, 252, 165, 112, 92, 100, 142, 191, 50, 110, 199, 61, 141, 222, 241, 24, 65, 248, 118, 216]⟩ = ⟨#[1, 2, 42, 105, 121, 230, 218, 183, 170, 90, 228, 195, 229, 228, 95, 126, 151, 113, 18, 167, 230, 53, 147, 130, 13, 190, 193, 236, 115, 138, 36, 249, 60, 89, 127, 203, 49, 40, 45, 52, 101, 76, 32, 13, 52, 24, 252, 165, 112, 92, 100, 142, 191, 50, 110, 199, 61, 141, 222, 241, 24, 65, 248, 118, 216]⟩ by kernel_rfl, dg_nac, show rootT 2 ⟨#[51, 28, 43, 156, 250, 55, 233, 221, 201, 204, 133, 243, 34, 254, 220, 117, 184, 156, 76, 193, 156, 146, 228, 150, 243, 238, 141, 6, 51, 95, 97, 86]⟩ = ⟨#[3, 0, 0, 0, 0, 0, 0, 0, 2, 51, 28, 43, 156, 250, 55, 233, 221, 201, 204, 133, 243, 34, 254, 220, 117, 184, 156, 76, 193, 156, 146, 228, 150, 243, 238, 141, 6, 51, 95, 97, 86]⟩ by kernel_rfl, dg_rac]
theorem rt_differ : rtD 32 [xa, xc] 2 ≠ rtD 32 [xa, xb] 2 := by
  rw [rt_ab, rt_ac]
  intro h
  have := congrArg (fun b : ByteArray => b.data.toList.head?) h
  revert this
  decide
end Go.Proofs.YtipcenbndhnnhaaGreatDoor
namespace Go.Proofs.YtipcenbndhnnhaaGreatDoor.Pl
def ones : Nat → Nat → Nat
  | 0, _ => 0
  | k + 1, n => n % 2 + ones k (n / 2)
theorem div_pow_succ (n k : Nat) : n / 2 ^ (k + 1) = n / 2 ^ k / 2 := by
  rw [Nat.pow_succ, Nat.div_div_eq_div_mul]
theorem ones_le (k n : Nat) : ones k n ≤ k := by
  induction k generalizing n with
  | zero => exact Nat.le_refl _
  | succ k ih => have := ih (n / 2); simp only [ones]; omega
theorem ones_step (k n : Nat) (hk : k < 64) : ones (64 - k) (n / 2 ^ k) = n / 2 ^ k % 2 + ones (64 - (k + 1)) (n / 2 ^ (k + 1)) := by
  rw [show 64 - k = (64 - (k + 1)) + 1 by omega, ones, div_pow_succ]
def pw (h : Nat) : Nat := 2 ^ h
def at' (h k : Nat) : Nat := 2 * pw h * (k + 1) - 2 - ones 64 k
def fr (h k : Nat) : Nat := 2 * pw h * k - ones 64 k
def down : Nat → Nat → Nat → Nat × Nat
  | 0, k, _ => (0, k)
  | h + 1, k, a => if a = 4 * pw h - 2 then (h + 1, k) else if a < 2 * pw h - 1 then down h (2 * k) a else down h (2 * k + 1) (a - (2 * pw h - 1))
theorem pw_succ (h : Nat) : pw (h + 1) = 2 * pw h := by simp [pw, Nat.pow_succ, Nat.mul_comm]
theorem pw_zero : pw 0 = 1 := rfl
theorem pw_pos (h : Nat) : 0 < pw h := Nat.two_pow_pos h
theorem pw_add (a b : Nat) : pw (a + b) = pw a * pw b := Nat.pow_add 2 a b
theorem pw_le {a b : Nat} (h : a ≤ b) : pw a ≤ pw b := Nat.pow_le_pow_right (by decide) h
theorem ones_more (j k : Nat) (h : k < 2 ^ j) : ones (j + 1) k = ones j k := by
  induction j generalizing k with
  | zero => simp at h; subst h; rfl
  | succ j ih =>
    rw [ones, ih (k / 2) (by rw [Nat.pow_succ] at h; omega)]; rfl
theorem may_two {h k : Nat} (hh : h < 40) (hk : k < pw (40 - (h + 1))) : 2 * k + 1 < pw (40 - h) := by
  rw [show 40 - h = (40 - (h + 1)) + 1 by omega, pw_succ]; omega
theorem may_big {h k : Nat} (hk : k < pw (40 - h)) : k < 2 ^ 40 :=
  Nat.lt_of_lt_of_le hk (pw_le (by omega))
theorem may_mul {h k : Nat} (hh : h ≤ 40) (hk : k < pw (40 - h)) : (k + 1) * pw h ≤ 2 ^ 40 := by
  have h1 : (k + 1) * pw h ≤ pw (40 - h) * pw h := Nat.mul_le_mul_right _ hk
  rw [← pw_add, show 40 - h + h = 40 by omega] at h1
  exact h1
def blk (p : Nat) : Nat × Nat := down 40 0 p
def most : Nat := 2199023255550
def pk : Nat → Nat → List Nat
  | 0, _ => []
  | d + 1, n => pk d n ++ (if n / pw (40 - d) % 2 = 1 then [at' (40 - d) (n / pw (40 - d) - 1)] else [])
def mt : Nat → Nat → List (Nat × Nat)
  | 0, _ => []
  | d + 1, n => mt d n ++ (if n / pw (40 - d) % 2 = 1 then [(40 - d, n / pw (40 - d) - 1)] else [])
end Go.Proofs.YtipcenbndhnnhaaGreatDoor.Pl
namespace Go.Proofs.YtipcenbndhnnhaaGreatDoor.Pl
open Go.RowKit
attribute [local go_sem ↓] Go.wp_at_zero Go.wp_at_succ
theorem bit_eq (n k : Nat) (hn : n < 2 ^ 64) : (bits BinOp.and IntKind.u64 ((n : Int) / 2 ^ k) 1 == 1) = decide (n / 2 ^ k % 2 = 1) := by
  have e : ((n : Int) / 2 ^ k) = ((n / 2 ^ k : Nat) : Int) := by simp
  rw [e]
  have hm : n / 2 ^ k < 18446744073709551616 := Nat.lt_of_le_of_lt (Nat.div_le_self _ _) hn
  revert hm
  generalize n / 2 ^ k = m
  intro hm
  have := bits_and_u64_nat m 1 hm (by decide)
  rw [show (1 : Int) = ((1 : Nat) : Int) from rfl, this, Nat.and_one_is_mod]
  by_cases h : m % 2 = 1
  · simp [h]
  · have : m % 2 = 0 := by omega
    simp [this]
theorem isOne_any (n k : Nat) (w : World) (hn : n < 2 ^ 64) (hk : k < 64) :
    Calls Tryz.prog 96 #[.int .u64 n, .int .i64 k] w fun e w' => e = .returned (.bool (decide (n / 2 ^ k % 2 = 1))) ∧ w' = w := by
  have hk0 : (0 : Int) ≤ (k : Int) := Int.natCast_nonneg _
  go_enter Tryz.func96, Tryz.ntmps96
  go_wp2
  go_ret
  refine ⟨?_, rfl⟩
  rw [← bit_eq n k hn]
  rfl
theorem ones_any (n : Nat) (w : World) (hn : n < 2 ^ 64) :
    Calls Tryz.prog 76 #[.int .u64 n] w fun e w' => e = .returned (.int .i64 (ones 64 n : Nat)) ∧ w' = w := by
  go_enter Tryz.func76, Tryz.ntmps76
  go_wp2
  go_loopg [3, 5] 64 (fun g c i wr => ∃ k m : Nat, k ≤ 64 ∧ g = 64 - k ∧ i = .int .i64 k ∧ c = .int .i64 m ∧ m ≤ k ∧ m + ones (64 - k) (n / 2 ^ k) = ones 64 n ∧ w = wr)
  case atStart =>
    go_light
    exact ⟨0, 0, Nat.zero_le _, rfl, rfl, rfl, Nat.zero_le _, by simp, rfl⟩
  case round =>
    obtain ⟨k, m, hk, rfl, rfl, rfl, hm, hs, rfl⟩ := hrel
    have hk0 : (0 : Int) ≤ (k : Int) := Int.natCast_nonneg _
    have hm0 : (0 : Int) ≤ (m : Int) := Int.natCast_nonneg _
    have hm1 : (m : Int) ≤ 64 := by omega
    by_cases hlt : k < 64
    · have hk8 : (k : Int) < 64 := by omega
      have HS := ones_step k n hlt
      have HC := isOne_any n k w hn hlt
      by_cases hb : n / 2 ^ k % 2 = 1
      · rw [decide_eq_true hb] at HC
        go_wp2_with (go_at_call 96; refine HC.mono ?_; rintro e w' ⟨rfl, rfl⟩)
        go_roundg (64 - (k + 1))
        case rel =>
          go_light
          exact ⟨k + 1, m + 1, by omega, rfl, by go_num, by go_num, by omega, by omega, rfl⟩
        case measure => go_light; omega
      · rw [decide_eq_false hb] at HC
        go_wp2_with (go_at_call 96; refine HC.mono ?_; rintro e w' ⟨rfl, rfl⟩)
        go_roundg (64 - (k + 1))
        case rel =>
          go_light
          exact ⟨k + 1, m, by omega, rfl, by go_num, rfl, by omega, by omega, rfl⟩
        case measure => go_light; omega
    · obtain rfl : k = 64 := by omega
      clear hk hlt
      go_wp2
      go_ret
      refine ⟨?_, rfl⟩
      rw [← hs]
      rfl
end Go.Proofs.YtipcenbndhnnhaaGreatDoor.Pl
namespace Go.Proofs.YtipcenbndhnnhaaGreatDoor.Pl
open Go.RowKit
attribute [local go_sem ↓] Go.wp_at_zero Go.wp_at_succ
theorem below_drewN {B : Nat} {a w : World} (h : Below B a w) (n : Nat) : Below B a (w.drewN n) := ⟨h.os, h.tape, h.output, h.size, h.block⟩
end Go.Proofs.YtipcenbndhnnhaaGreatDoor.Pl
namespace Go.Proofs.YtipcenbndhnnhaaGreatDoor.Pl
open Go.RowKit
attribute [local go_sem ↓] Go.wp_at_zero Go.wp_at_succ
structure Two (w : World) (g : Nat) (h : Int) (k : Nat) : Prop where
  c0 : w.cell? ⟨g, 0, none⟩ = some (.int .i64 h)
  c1 : w.cell? ⟨g, 1, none⟩ = some (.int .u64 (k : Int))
  f0 : w.frozen? ⟨g, 0, none⟩ = false
  f1 : w.frozen? ⟨g, 1, none⟩ = false
theorem Two.below {w w' : World} {B g k : Nat} {h : Int} (t : Two w g h k) (hb : Below B w w') (hg : g < B) : Two w' g h k :=
  ⟨(hb.cell (p := ⟨g, 0, none⟩) hg).trans t.c0, (hb.cell (p := ⟨g, 1, none⟩) hg).trans t.c1, (hb.frozen (p := ⟨g, 0, none⟩) hg).trans t.f0, (hb.frozen (p := ⟨g, 1, none⟩) hg).trans t.f1⟩
theorem Two.set {w : World} {g k : Nat} {h : Int} (t : Two w g h k) (h' : Int) (k' : Nat) : Two ((w.setCell ⟨g, 0, none⟩ (.int .i64 h')).setCell ⟨g, 1, none⟩ (.int .u64 (k' : Int))) g h' k' := by
  refine ⟨?_, ?_, ?_, ?_⟩
  · exact (World.cell?_setCell_other _ _ _ _ (by simp)).trans (World.cell?_setCell_same _ _ _ t.c0)
  · exact World.cell?_setCell_same _ _ _ ((World.cell?_setCell_other _ _ _ _ (by simp)).trans t.c1)
  · exact (World.frozen?_setCell _ _ _ _).trans ((World.frozen?_setCell _ _ _ _).trans t.f0)
  · exact (World.frozen?_setCell _ _ _ _).trans ((World.frozen?_setCell _ _ _ _).trans t.f1)
theorem Two.other {w : World} {g k b : Nat} {h : Int} (t : Two w g h k) (hne : g ≠ b) (i : Nat) (v : Value) : Two (w.setCell ⟨b, i, none⟩ v) g h k := by
  have hn : ∀ o, (⟨b, i, none⟩ : Addr) ≠ ⟨g, o, none⟩ := fun o e => hne (by have := congrArg Addr.block e; simpa using this.symm)
  refine ⟨?_, ?_, (World.frozen?_setCell _ _ _ _).trans t.f0, (World.frozen?_setCell _ _ _ _).trans t.f1⟩
  · exact (World.cell?_setCell_other _ _ _ _ (hn 0)).trans t.c0
  · exact (World.cell?_setCell_other _ _ _ _ (hn 1)).trans t.c1
end Go.Proofs.YtipcenbndhnnhaaGreatDoor.Pl
namespace Go.Proofs.YtipcenbndhnnhaaGreatDoor.Cv
open Pl
def dnL : Nat → Nat → Nat → List (Nat × Nat)
  | 0, _, _ => []
  | h + 1, lo, hi => if pw h ≤ hi - lo then (h, lo / pw h) :: dnL h (lo + pw h) hi else dnL h lo hi
def upL : Nat → Nat → Nat → Nat → List (Nat × Nat)
  | 0, _, _, _ => []
  | f + 1, h, lo, hi => if pw h ≤ hi - lo then (if lo / pw h % 2 = 1 then (h, lo / pw h) :: upL f (h + 1) (lo + pw h) hi else upL f (h + 1) lo hi) else dnL (h + 1) lo hi
def cov (lo hi : Nat) : List (Nat × Nat) := upL 42 0 lo hi
def rst : Nat → Nat → List Nat → List (Nat × Nat)
  | x, n, [] => cov x n
  | x, n, i :: S => cov x i ++ rst (i + 1) n S
def All (A : Nat → Prop) (h k : Nat) : Prop := ∀ i, k * pw h ≤ i → i < (k + 1) * pw h → A i
def Til (A : Nat → Prop) (q : Nat) : Nat → List (Nat × Nat) → Prop
  | p, [] => p ≤ q ∧ ∀ i, p ≤ i → i < q → ¬ A i
  | p, b :: L => p ≤ b.2 * pw b.1 ∧ (b.2 + 1) * pw b.1 ≤ q ∧ (∀ i, p ≤ i → i < b.2 * pw b.1 → ¬ A i) ∧ All A b.1 b.2 ∧ ¬ All A (b.1 + 1) (b.2 / 2) ∧ Til A q ((b.2 + 1) * pw b.1) L
theorem blk_lt (h k : Nat) : k * pw h < (k + 1) * pw h := by
  have := pw_pos h; rw [Nat.add_mul, Nat.one_mul]; omega
theorem in_greater (A : Nat → Prop) (h k h' k' : Nat) (he : k * pw h = k' * pw h') (hl : h < h') (ha : All A h' k') : All A (h + 1) (k / 2) := by
  obtain ⟨d, rfl⟩ : ∃ d, h' = h + 1 + d := ⟨h' - (h + 1), by omega⟩
  have e1 : pw (h + 1 + d) = 2 * pw d * pw h := by rw [pw_add, pw_succ, Nat.mul_comm (2 * pw h), ← Nat.mul_assoc, Nat.mul_comm (pw d)]
  have hp := pw_pos h
  have hd := pw_pos d
  have hk : k = k' * (2 * pw d) := by
    rw [e1, ← Nat.mul_assoc] at he
    exact Nat.eq_of_mul_eq_mul_right hp he
  have hk2 : k / 2 = k' * pw d := by
    rw [hk, show k' * (2 * pw d) = k' * pw d * 2 by rw [Nat.mul_comm 2, Nat.mul_assoc]]
    exact Nat.mul_div_cancel _ (by decide)
  intro i h1 h2
  have e2 : pw (h + 1 + d) = pw d * pw (h + 1) := by rw [pw_add, Nat.mul_comm]
  refine ha i ?_ ?_
  · rw [e2, ← Nat.mul_assoc, ← hk2]; exact h1
  · refine Nat.lt_of_lt_of_le h2 ?_
    rw [e2, ← Nat.mul_assoc, hk2]
    refine Nat.mul_le_mul_right _ ?_
    rw [Nat.add_mul]; omega
theorem til_le {A : Nat → Prop} {q p : Nat} {L : List (Nat × Nat)} (h : Til A q p L) : p ≤ q := by
  cases L with
  | nil => exact h.1
  | cons b L => have := blk_lt b.1 b.2; have h1 := h.1; have h2 := h.2.1; omega
theorem til_one {A : Nat → Prop} {q : Nat} : ∀ {L L' : List (Nat × Nat)} {p : Nat}, Til A q p L → Til A q p L' → L = L' := by
  intro L
  induction L with
  | nil =>
    intro L' p h h'
    cases L' with
    | nil => rfl
    | cons b L' =>
      obtain ⟨a1, a2, a3, a4, a5, a6⟩ := h'
      have := blk_lt b.1 b.2
      exact absurd (a4 _ (Nat.le_refl _) this) (h.2 _ a1 (by omega))
  | cons c L ih =>
    intro L' p h h'
    cases L' with
    | nil =>
      obtain ⟨a1, a2, a3, a4, a5, a6⟩ := h
      have := blk_lt c.1 c.2
      exact absurd (a4 _ (Nat.le_refl _) this) (h'.2 _ a1 (by omega))
    | cons b L' =>
      obtain ⟨a1, a2, a3, a4, a5, a6⟩ := h
      obtain ⟨b1, b2, b3, b4, b5, b6⟩ := h'
      obtain ⟨h, k⟩ := c
      obtain ⟨h', k'⟩ := b
      simp only at *
      have x1 := blk_lt h k
      have x2 := blk_lt h' k'
      have he : k * pw h = k' * pw h' := by
        rcases Nat.lt_trichotomy (k * pw h) (k' * pw h') with hh | hh | hh
        · exact absurd (a4 _ (Nat.le_refl _) x1) (b3 _ a1 hh)
        · exact hh
        · exact absurd (b4 _ (Nat.le_refl _) x2) (a3 _ b1 hh)
      have hh : h = h' := by
        rcases Nat.lt_trichotomy h h' with hh | hh | hh
        · exact absurd (in_greater A h k h' k' he hh b4) a5
        · exact hh
        · exact absurd (in_greater A h' k' h k he.symm hh a4) b5
      subst hh
      have hk : k = k' := Nat.eq_of_mul_eq_mul_right (pw_pos h) he
      subst hk
      rw [ih a6 b6]
theorem til_pre {A : Nat → Prop} {q p p' : Nat} {L : List (Nat × Nat)} (h : Til A q p' L) (hp : p ≤ p') (hn : ∀ i, p ≤ i → i < p' → ¬ A i) : Til A q p L := by
  cases L with
  | nil => exact ⟨Nat.le_trans hp h.1, fun i h1 h2 => if hi : i < p' then hn i h1 hi else h.2 i (by omega) h2⟩
  | cons b L => exact ⟨Nat.le_trans hp h.1, h.2.1, fun i h1 h2 => if hi : i < p' then hn i h1 hi else h.2.2.1 i (by omega) h2, h.2.2.2⟩
theorem til_app {A : Nat → Prop} {q m : Nat} {L' : List (Nat × Nat)} (h' : Til A q m L') : ∀ {L : List (Nat × Nat)} {p : Nat}, Til A m p L → Til A q p (L ++ L') := by
  intro L
  induction L with
  | nil => intro p h; exact til_pre h' h.1 h.2
  | cons b L ih =>
    intro p h
    have := til_le h'
    exact ⟨h.1, Nat.le_trans h.2.1 this, h.2.2.1, h.2.2.2.1, h.2.2.2.2.1, ih h.2.2.2.2.2⟩
theorem til_suf {A : Nat → Prop} {q q' p : Nat} {L : List (Nat × Nat)} (h : Til A q p L) (hq : q ≤ q') (hn : ∀ i, q ≤ i → i < q' → ¬ A i) : Til A q' p L := by
  have := til_app (A := A) (q := q') (m := q) (L' := []) ⟨hq, hn⟩ h
  rwa [List.append_nil] at this
abbrev Rg (lo hi : Nat) : Nat → Prop := fun i => lo ≤ i ∧ i < hi
theorem mul_half (c h : Nat) : c * pw (h + 1) = 2 * c * pw h := by rw [pw_succ, ← Nat.mul_assoc, Nat.mul_comm c]
theorem dn_til (lo0 hi : Nat) : ∀ h lo, (∃ c, lo = c * pw h) → hi - lo < pw h → lo0 ≤ lo → lo ≤ hi → Til (Rg lo0 hi) hi lo (dnL h lo hi) := by
  intro h
  induction h with
  | zero =>
    intro lo _ h2 h3 h4
    rw [pw_zero] at h2
    exact ⟨h4, fun i h5 h6 _ => by omega⟩
  | succ h ih =>
    intro lo h1 h2 h3 h4
    obtain ⟨c, hc⟩ := h1
    have hp := pw_pos h
    have hps := pw_succ h
    rw [mul_half] at hc
    rw [dnL]
    split
    · rename_i hfit
      have hk : lo / pw h = 2 * c := by rw [hc]; exact Nat.mul_div_cancel _ hp
      have e1 : (2 * c + 1) * pw h = lo + pw h := by rw [Nat.add_mul, Nat.one_mul, ← hc]
      have e2 : 2 * c / 2 = c := by omega
      have e3 : c * pw (h + 1) = lo := by rw [mul_half]; exact hc.symm
      rw [hk]
      refine ⟨by show lo ≤ 2 * c * pw h; omega, by show (2 * c + 1) * pw h ≤ hi; omega, fun i i1 i2 => by dsimp only at i2; omega, fun i i1 i2 => ?_, fun hall => ?_, ?_⟩
      · dsimp only at i1 i2; exact ⟨by omega, by omega⟩
      · dsimp only at hall
        rw [e2] at hall
        have := hall hi (by omega) (by rw [Nat.add_mul, Nat.one_mul, e3]; omega)
        exact absurd this.2 (Nat.lt_irrefl _)
      · dsimp only
        rw [e1]
        exact ih (lo + pw h) ⟨2 * c + 1, e1.symm⟩ (by omega) (by omega) (by omega)
    · exact ih lo ⟨2 * c, hc⟩ (by omega) h3 h4
theorem pw40 {h : Nat} (hh : pw h ≤ 2 ^ 40) : h ≤ 40 := by
  by_cases h1 : h ≤ 40
  · exact h1
  · have h2 : pw 41 ≤ pw h := pw_le (by omega)
    have h3 : pw 41 = 2 ^ 41 := rfl
    omega
theorem dn_skip {lo hi h : Nat} (hl : hi - lo < pw h) : dnL (h + 1) lo hi = dnL h lo hi := by
  rw [dnL, if_neg (by omega)]
theorem up_til (lo0 hi : Nat) (hhi : hi ≤ 2 ^ 40) : ∀ f h lo, f + h = 42 → h ≤ 41 → (∃ c, lo = c * pw h) → lo0 ≤ lo → lo < lo0 + pw h → lo ≤ hi → Til (Rg lo0 hi) hi lo (upL f h lo hi) := by
  intro f
  induction f with
  | zero => intro h lo h1 h2; omega
  | succ f ih =>
    intro h lo h1 h2 h3 h4 h5 h6
    obtain ⟨c, hc⟩ := h3
    have hp := pw_pos h
    have hps := pw_succ h
    rw [upL]
    split
    · rename_i hfit
      have hh : h ≤ 40 := pw40 (by omega)
      have hk : lo / pw h = c := by rw [hc]; exact Nat.mul_div_cancel _ hp
      rw [hk]
      have e1 : (c + 1) * pw h = lo + pw h := by rw [Nat.add_mul, Nat.one_mul, ← hc]
      split
      · rename_i hodd
        have e2 : c / 2 * pw (h + 1) + pw h = lo := by
          rw [mul_half, hc]
          have : c = 2 * (c / 2) + 1 := by omega
          conv => rhs; rw [this, Nat.add_mul, Nat.one_mul]
        have e3 : (c + 1) / 2 * pw (h + 1) = lo + pw h := by
          rw [mul_half, ← e1]
          have : c + 1 = 2 * ((c + 1) / 2) := by omega
          conv => rhs; rw [this]
        refine ⟨by show lo ≤ c * pw h; omega, by show (c + 1) * pw h ≤ hi; omega, fun i i1 i2 => by dsimp only at i2; omega, fun i i1 i2 => ?_, fun hall => ?_, ?_⟩
        · dsimp only at i1 i2; exact ⟨by omega, by omega⟩
        · dsimp only at hall
          have := hall _ (Nat.le_refl _) (blk_lt _ _)
          have := this.1
          omega
        · dsimp only
          rw [e1]
          exact ih (h + 1) (lo + pw h) (by omega) (by omega) ⟨_, e3.symm⟩ (by omega) (by omega) (by omega)
      · rename_i hev
        refine ih (h + 1) lo (by omega) (by omega) ⟨c / 2, ?_⟩ h4 (by omega) h6
        rw [mul_half, hc]
        have : c = 2 * (c / 2) := by omega
        conv => lhs; rw [this]
    · rename_i hno
      rw [dn_skip (by omega)]
      exact dn_til lo0 hi h lo ⟨c, hc⟩ (by omega) h4 h6
theorem cov_til (lo hi : Nat) (h : lo ≤ hi) (hhi : hi ≤ 2 ^ 40) : Til (Rg lo hi) hi lo (cov lo hi) :=
  up_til lo hi hhi 42 0 lo rfl (by decide) ⟨lo, by simp [pw]⟩ (Nat.le_refl _) (by rw [pw_zero]; omega) h
theorem cov_self (lo : Nat) : cov lo lo = [] := by simp [cov, upL, pw, dnL]
theorem dn_len : ∀ h lo hi, (dnL h lo hi).length ≤ h := by
  intro h
  induction h with
  | zero => intro lo hi; exact Nat.le_refl _
  | succ h ih =>
    intro lo hi
    rw [dnL]
    split
    · have := ih (lo + pw h) hi; simp; omega
    · have := ih lo hi; omega
theorem up_len (hi : Nat) (hhi : hi ≤ 2 ^ 40) : ∀ f h lo, f + h = 42 → h ≤ 40 → lo ≤ hi → (upL f h lo hi).length ≤ 80 - h := by
  intro f
  induction f with
  | zero => intro h lo h1 h2; omega
  | succ f ih =>
    intro h lo h1 h2 h3
    by_cases h40 : h = 40
    · subst h40
      obtain rfl : f = 1 := by omega
      by_cases hfit : pw 40 ≤ hi - lo
      · have e : pw 40 = 2 ^ 40 := rfl
        obtain rfl : lo = 0 := by omega
        obtain rfl : hi = 2 ^ 40 := by omega
        decide
      · rw [upL, if_neg hfit, dn_skip (by omega)]
        have := dn_len 40 lo hi
        omega
    · rw [upL]
      split
      · split
        · have := ih (h + 1) (lo + pw h) (by omega) (by omega) (by omega)
          simp; omega
        · have := ih (h + 1) lo (by omega) (by omega) h3
          omega
      · rw [dn_skip (by omega)]
        have := dn_len h lo hi
        omega
theorem cov_len (lo hi : Nat) (h : lo ≤ hi) (hhi : hi ≤ 2 ^ 40) : (cov lo hi).length ≤ 80 := up_len hi hhi 42 0 lo rfl (by decide) h
theorem dn_more {lo hi h : Nat} (hl : hi - lo < pw h) : ∀ d, dnL (h + d) lo hi = dnL h lo hi := by
  intro d
  induction d with
  | zero => rfl
  | succ d ih =>
    have : pw h ≤ pw (h + d) := pw_le (by omega)
    rw [← Nat.add_assoc, dn_skip (by omega), ih]
theorem up_zero (n : Nat) (hn : n ≤ 2 ^ 40) : ∀ f h, f + h = 42 → h ≤ 41 → upL f h 0 n = dnL 41 0 n := by
  intro f
  induction f with
  | zero => intro h h1 h2; omega
  | succ f ih =>
    intro h h1 h2
    rw [upL]
    split
    · rename_i hfit
      have := pw40 (h := h) (by omega)
      rw [Nat.zero_div, if_neg (by decide)]
      exact ih (h + 1) (by omega) (by omega)
    · rename_i hno
      rw [dn_skip (by omega), show 41 = h + (41 - h) by omega, dn_more (by omega)]
theorem cov_zero (n : Nat) (hn : n ≤ 2 ^ 40) : cov 0 n = dnL 41 0 n := up_zero n hn 42 0 rfl (by decide)
theorem ones_top : ∀ h d, d < pw (h + 1) → ones (h + 1) d = d / pw h + ones h (d % pw h) := by
  intro h
  induction h with
  | zero => intro d hd; simp [ones, pw] at *; omega
  | succ h ih =>
    intro d hd
    have e1 : d % pw (h + 1) = d % 2 + 2 * (d / 2 % pw h) := by rw [pw_succ, Nat.mod_mul]
    have e2 : d / pw (h + 1) = d / 2 / pw h := by rw [pw_succ, Nat.div_div_eq_div_mul]
    rw [ones, ih (d / 2) (by rw [pw_succ] at hd; omega), e1, e2, ones]
    have e3 : (d % 2 + 2 * (d / 2 % pw h)) % 2 = d % 2 := by omega
    have e4 : (d % 2 + 2 * (d / 2 % pw h)) / 2 = d / 2 % pw h := by omega
    rw [e3, e4]; omega
theorem dn_ones : ∀ h lo hi, hi - lo < pw h → (dnL h lo hi).length = ones h (hi - lo) := by
  intro h
  induction h with
  | zero => intro lo hi _; rfl
  | succ h ih =>
    intro lo hi hl
    have hp := pw_pos h
    have hps := pw_succ h
    rw [ones_top h _ hl, dnL]
    split
    · rename_i hfit
      have e1 : (hi - lo) / pw h = 1 := by rw [Nat.div_eq_iff hp]; omega
      have e2 : (hi - lo) % pw h = hi - (lo + pw h) := by rw [Nat.mod_eq_sub_mod hfit, Nat.mod_eq_of_lt (by omega)]; omega
      rw [e1, e2, List.length_cons, ih (lo + pw h) hi (by omega)]; omega
    · rename_i hno
      rw [Nat.div_eq_of_lt (by omega), Nat.mod_eq_of_lt (by omega), ih lo hi (by omega)]; omega
theorem ones_up (j d n : Nat) (h : n < 2 ^ j) : ones (j + d) n = ones j n := by
  induction d with
  | zero => rfl
  | succ d ih => rw [← Nat.add_assoc, ones_more _ _ (Nat.lt_of_lt_of_le h (Nat.pow_le_pow_right (by decide) (by omega))), ih]
theorem cov_ones (n : Nat) (hn : n ≤ 2 ^ 40) : (cov 0 n).length = ones 64 n := by
  rw [cov_zero n hn, dn_ones 41 0 n (by have : pw 41 = 2 ^ 41 := rfl
                                        omega)]
  exact (ones_up 41 23 n (by omega)).symm
theorem cov_forty (n : Nat) (hn : n ≤ 2 ^ 40) : (cov 0 n).length ≤ 40 := by
  by_cases h : n = 2 ^ 40
  · subst h; decide
  · rw [cov_zero n hn, show (41 : Nat) = 40 + 1 from rfl, dn_skip (by have : pw 40 = 2 ^ 40 := rfl
                                                                      omega)]
    exact dn_len 40 0 n
end Go.Proofs.YtipcenbndhnnhaaGreatDoor.Cv
