/-
  Own work: LEval, LClmB, LBase, LClmC.
-/
import Derived.KernelRfl
import Derived.Test.YtipcenbndhnnhaaGreatDoorQd28
namespace Go.Proofs.YtipcenbndhnnhaaGreatDoor
open Go.RowKit
def shaF (rs t : List Int) : List Int := forceL (foldS rs IV (t.take 64)) fun st => forceL (closeS rs st (pad (t.drop 64)) t.length) fun h => outB h 8
theorem shaF_eq (rs t : List Int) (h1 : 64 ≤ t.length) (h2 : t.length < 128) : shaF rs t = shaT rs t := by
  have e : t.length / 64 = 1 := by omega
  rw [shaF, forceL_eq, forceL_eq, closeS_eq, foldS_eq, shaT, e]
  rfl
theorem ev_la : shaE RS [0, 97] = [2, 42, 105, 121, 230, 218, 183, 170, 90, 228, 195, 229, 228, 95, 126, 151, 113, 18, 167, 230, 53, 147, 130, 13, 190, 193, 236, 115, 138, 36, 249, 60] := by kernel_rfl
theorem dg_la : dg 32 ⟨#[0, 97]⟩ = ⟨#[2, 42, 105, 121, 230, 218, 183, 170, 90, 228, 195, 229, 228, 95, 126, 151, 113, 18, 167, 230, 53, 147, 130, 13, 190, 193, 236, 115, 138, 36, 249, 60]⟩ := by
  rw [dg, show tB ⟨#[0, 97]⟩ = [0, 97] by kernel_rfl, shaS, ← shaE_eq _ _ (by decide), ev_la]; kernel_rfl
theorem ev_lb : shaE RS [0, 98] = [87, 235, 53, 97, 93, 71, 243, 78, 199, 20, 202, 205, 245, 253, 116, 96, 138, 94, 142, 16, 39, 36, 232, 11, 36, 178, 135, 192, 194, 123, 106, 49] := by kernel_rfl
theorem dg_lb : dg 32 ⟨#[0, 98]⟩ = ⟨#[87, 235, 53, 97, 93, 71, 243, 78, 199, 20, 202, 205, 245, 253, 116, 96, 138, 94, 142, 16, 39, 36, 232, 11, 36, 178, 135, 192, 194, 123, 106, 49]⟩ := by
  rw [dg, show tB ⟨#[0, 98]⟩ = [0, 98] by kernel_rfl, shaS, ← shaE_eq _ _ (by decide), ev_lb]; kernel_rfl
theorem ev_lc : shaE RS [0, 99] = [89, 127, 203, 49, 40, 45, 52, 101, 76, 32, 13, 52, 24, 252, 165, 112, 92, 100, 142, 191, 50, 110, 199, 61, 141, 222, 241, 24, 65, 248, 118, 216] := by kernel_rfl
theorem dg_lc : dg 32 ⟨#[0, 99]⟩ = ⟨#[89, 127, 203, 49, 40, 45, 52, 101, 76, 32, 13, 52, 24, 252, 165, 112, 92, 100, 142, 191, 50, 110, 199, 61, 141, 222, 241, 24, 65, 248, 118, 216]⟩ := by
  rw [dg, show tB ⟨#[0, 99]⟩ = [0, 99] by kernel_rfl, shaS, ← shaE_eq _ _ (by decide), ev_lc]; kernel_rfl
theorem ev_nab : shaF RS [1, 2, 42, 105, 121, 230, 218, 183, 170, 90, 228, 195, 229, 228, 95, 126, 151, 113, 18, 167, 230, 53, 147, 130, 13, 190, 193, 236, 115, 138, 36, 249, 60, 87, 235, 53, 97, 93, 71, 243, 78, 199, 20, 202, 205, 245, 253, 116, 96, 138, 94, 142, 16, 39, 36, 232, 11, 36, 178, 135, 192, 194, 123, 106, 49] = [177, 55, 152, 95, 244, 132, 251, 96, 13, 185, 49, 7, 199, 123, 3, 101, 200, 13, 120, 245, 180, 41, 222, 208, 253, 151, 54, 29, 7, 121, 153, 235] := by kernel_rfl
theorem dg_nab : dg 32 ⟨#[1, 2, 42, 105, 121, 230, 218, 183, 170, 90, 228, 195, 229, 228, 95, 126, 151, 113, 18, 167, 230, 53, 147, 130, 13, 190, 193, 236, 115, 138, 36, 249, 60, 87, 235, 53, 97, 93, 71, 243, 78, 199, 20, 202, 205, 245, 253, 116, 96, 138, 94, 142, 16, 39, 36, 232, 11, 36, 178, 135, 192, 194, 123, 106, 49]⟩ = ⟨#[177, 55, 152, 95, 244, 132, 251, 96, 13, 185, 49, 7, 199, 123, 3, 101, 200, 13, 120, 245, 180, 41, 222, 208, 253, 151, 54, 29, 7, 121, 153, 235]⟩ := by
  rw [dg, show tB ⟨#[1, 2, 42, 105, 121, 230, 218, 183, 170, 90, 228, 195, 229, 228, 95, 126, 151, 113, 18, 167, 230, 53, 147, 130, 13, 190, 193, 236, 115, 138, 36, 249, 60, 87, 235, 53, 97, 93, 71, 243, 78, 199, 20, 202, 205, 245, 253, 116, 96, 138, 94, 142, 16, 39, 36, 232, 11, 36, 178, 135, 192, 194, 123, 106, 49]⟩ = [1, 2, 42, 105, 121, 230, 218, 183, 170, 90, 228, 195, 229, 228, 95, 126, 151, 113, 18, 167, 230, 53, 147, 130, 13, 190, 193, 236, 115, 138, 36, 249, 60, 87, 235, 53, 97, 93, 71, 243, 78, 199, 20, 202, 205, 245, 253, 116, 96, 138, 94, 142, 16, 39, 36, 232, 11, 36, 178, 135, 192, 194, 123, 106, 49] by kernel_rfl, shaS, ← shaF_eq _ _ (by decide) (by decide), ev_nab]; kernel_rfl
theorem ev_nac : shaF RS [1, 2, 42, 105, 121, 230, 218, 183, 170, 90, 228, 195, 229, 228, 95, 126, 151, 113, 18, 167, 230, 53, 147, 130, 13, 190, 193, 236, 115, 138, 36, 249, 60, 89, 127, 203, 49, 40, 45, 52, 101, 76, 32, 13, 52, 24, 252, 165, 112, 92, 100, 142, 191, 50, 110, 199, 61, 141, 222, 241, 24, 65, 248, 118, 216] = [51, 28, 43, 156, 250, 55, 233, 221, 201, 204, 133, 243, 34, 254, 220, 117, 184, 156, 76, 193, 156, 146, 228, 150, 243, 238, 141, 6, 51, 95, 97, 86] := by kernel_rfl
theorem dg_nac : dg 32 ⟨#[1, 2, 42, 105, 121, 230, 218, 183, 170, 90, 228, 195, 229, 228, 95, 126, 151, 113, 18, 167, 230, 53, 147, 130, 13, 190, 193, 236, 115, 138, 36, 249, 60, 89, 127, 203, 49, 40, 45, 52, 101, 76, 32, 13, 52, 24, 252, 165, 112, 92, 100, 142, 191, 50, 110, 199, 61, 141, 222, 241, 24, 65, 248, 118, 216]⟩ = ⟨#[51, 28, 43, 156, 250, 55, 233, 221, 201, 204, 133, 243, 34, 254, 220, 117, 184, 156, 76, 193, 156, 146, 228, 150, 243, 238, 141, 6, 51, 95, 97, 86]⟩ := by
  rw [dg, show tB ⟨#[1, 2, 42, 105, 121, 230, 218, 183, 170, 90, 228, 195, 229, 228, 95, 126, 151, 113, 18, 167, 230, 53, 147, 130, 13, 190, 193, 236, 115, 138, 36, 249, 60, 89, 127, 203, 49, 40, 45, 52, 101, 76, 32, 13, 52, 24, 252, 165, 112, 92, 100, 142, 191, 50, 110, 199, 61, 141, 222, 241, 24, 65, 248, 118, 216]⟩ = [1, 2, 42, 105, 121, 230, 218, 183, 170, 90, 228, 195, 229, 228, 95, 126, 151, 113, 18, 167, 230, 53, 147, 130, 13, 190, 193, 236, 115, 138, 36, 249, 60, 89, 127, 203, 49, 40, 45, 52, 101, 76, 32, 13, 52, 24, 252, 165, 112, 92, 100, 142, 191, 50, 110, 199, 61, 141, 222, 241, 24, 65, 248, 118, 216] by kernel_rfl, shaS, ← shaF_eq _ _ (by decide) (by decide), ev_nac]; kernel_rfl
theorem ev_rab : shaE RS [3, 0, 0, 0, 0, 0, 0, 0, 2, 177, 55, 152, 95, 244, 132, 251, 96, 13, 185, 49, 7, 199, 123, 3, 101, 200, 13, 120, 245, 180, 41, 222, 208, 253, 151, 54, 29, 7, 121, 153, 235] = [249, 25, 88, 10, 250, 220, 204, 98, 224, 203, 118, 133, 13, 192, 129, 177, 122, 141, 152, 139, 112, 56, 45, 7, 169, 26, 188, 133, 14, 36, 109, 104] := by kernel_rfl
theorem dg_rab : dg 32 ⟨#[3, 0, 0, 0, 0, 0, 0, 0, 2, 177, 55, 152, 95, 244, 132, 251, 96, 13, 185, 49, 7, 199, 123, 3, 101, 200, 13, 120, 245, 180, 41, 222, 208, 253, 151, 54, 29, 7, 121, 153, 235]⟩ = ⟨#[249, 25, 88, 10, 250, 220, 204, 98, 224, 203, 118, 133, 13, 192, 129, 177, 122, 141, 152, 139, 112, 56, 45, 7, 169, 26, 188, 133, 14, 36, 109, 104]⟩ := by
  rw [dg, show tB ⟨#[3, 0, 0, 0, 0, 0, 0, 0, 2, 177, 55, 152, 95, 244, 132, 251, 96, 13, 185, 49, 7, 199, 123, 3, 101, 200, 13, 120, 245, 180, 41, 222, 208, 253, 151, 54, 29, 7, 121, 153, 235]⟩ = [3, 0, 0, 0, 0, 0, 0, 0, 2, 177, 55, 152, 95, 244, 132, 251, 96, 13, 185, 49, 7, 199, 123, 3, 101, 200, 13, 120, 245, 180, 41, 222, 208, 253, 151, 54, 29, 7, 121, 153, 235] by kernel_rfl, shaS, ← shaE_eq _ _ (by decide), ev_rab]; kernel_rfl
theorem ev_rac : shaE RS [3, 0, 0, 0, 0, 0, 0, 0, 2, 51, 28, 43, 156, 250, 55, 233, 221, 201, 204, 133, 243, 34, 254, 220, 117, 184, 156, 76, 193, 156, 146, 228, 150, 243, 238, 141, 6, 51, 95, 97, 86] = [59, 182, 28, 199, 33, 114, 77, 72, 146, 47, 208, 82, 21, 183, 227, 186, 38, 149, 1, 88, 80, 13, 33, 57, 141, 100, 133, 5, 108, 16, 185, 44] := by kernel_rfl
theorem dg_rac : dg 32 ⟨#[3, 0, 0, 0, 0, 0, 0, 0, 2, 51, 28, 43, 156, 250, 55, 233, 221, 201, 204, 133, 243, 34, 254, 220, 117, 184, 156, 76, 193, 156, 146, 228, 150, 243, 238, 141, 6, 51, 95, 97, 86]⟩ = ⟨#[59, 182, 28, 199, 33, 114, 77, 72, 146, 47, 208, 82, 21, 183, 227, 186, 38, 149, 1, 88, 80, 13, 33, 57, 141, 100, 133, 5, 108, 16, 185, 44]⟩ := by
  rw [dg, show tB ⟨#[3, 0, 0, 0, 0, 0, 0, 0, 2, 51, 28, 43, 156, 250, 55, 233, 221, 201, 204, 133, 243, 34, 254, 220, 117, 184, 156, 76, 193, 156, 146, 228, 150, 243, 238, 141, 6, 51, 95, 97, 86]⟩ = [3, 0, 0, 0, 0, 0, 0, 0, 2, 51, 28, 43, 156, 250, 55, 233, 221, 201, 204, 133, 243, 34, 254, 220, 117, 184, 156, 76, 193, 156, 146, 228, 150, 243, 238, 141, 6, 51, 95, 97, 86] by kernel_rfl, shaS, ← shaE_eq _ _ (by decide), ev_rac]; kernel_rfl
abbrev xa : ByteArray := ⟨#[97]⟩
abbrev xb : ByteArray := ⟨#[98]⟩
abbrev xc : ByteArray := ⟨#[99]⟩
theorem pks_two (c : Nat) (x y : ByteArray) : pks c [x, y] 41 = [dg c (nodeT (dg c (leafT x)) (dg c (leafT y)))] := by
  simp [pks, nd]
theorem rt_two (c : Nat) (x y : ByteArray) : rtD c [x, y] 2 = dg c (rootT 2 (dg c (nodeT (dg c (leafT x)) (dg c (leafT y))))) := by
  rw [rtD, show [x, y].take 2 = [x, y] from rfl, pks_two]; rfl
theorem rt_ab : rtD 32 [xa, xb] 2 = ⟨#[249, 25, 88, 10, 250, 220, 204, 98, 224, 203, 118, 133, 13, 192, 129, 177, 122, 141, 152, 139, 112, 56, 45, 7, 169, 26, 188, 133, 14, 36, 109, 104]⟩ := by
  rw [rt_two, show leafT xa = ⟨#[0, 97]⟩ by kernel_rfl, show leafT xb = ⟨#[0, 98]⟩ by kernel_rfl, dg_la, dg_lb, show nodeT ⟨#[2, 42, 105, 121, 230, 218, 183, 170, 90, 228, 195, 229, 228, 95, 126, 151, 113, 18, 167, 230, 53, 147, 130, 13, 190, 193, 236, 115, 138, 36, 249, 60]⟩ ⟨#[87, 235, 53, 97, 93, 71, 243, 78, 199, 20, 202, 205, 245, 253, 116, 96, 138, 94, 142, 16, 39, 36, 232, 11, 36, 178, 135, 192, 194, 123, 106, 49]⟩ = ⟨#[1, 2, 42, 105, 121, 230, 218, 183, 170, 90, 228, 195, 229, 228, 95, 126, 151, 113, 18, 167, 230, 53, 147, 130, 13, 190, 193, 236, 115, 138, 36, 249, 60, 87, 235, 53, 97, 93, 71, 243, 78, 199, 20, 202, 205, 245, 253, 116, 96, 138, 94, 142, 16, 39, 36, 232, 11, 36, 178, 135, 192, 194, 123, 106, 49]⟩ by kernel_rfl, dg_nab, show rootT 2 ⟨#[177, 55, 152, 95, 244, 132, 251, 96, 13, 185, 49, 7, 199, 123, 3, 101, 200, 13, 120, 245, 180, 41, 222, 208, 253, 151, 54, 29, 7, 121, 153, 235]⟩ = ⟨#[3, 0, 0, 0, 0, 0, 0, 0, 2, 177, 55, 152, 95, 244, 132, 251, 96, 13, 185, 49, 7, 199, 123, 3, 101, 200, 13, 120, 245, 180, 41, 222, 208, 253, 151, 54, 29, 7, 121, 153, 235]⟩ by kernel_rfl, dg_rab]
theorem rt_ac : rtD 32 [xa, xc] 2 = ⟨#[59, 182, 28, 199, 33, 114, 77, 72, 146, 47, 208, 82, 21, 183, 227, 186, 38, 149, 1, 88, 80, 13, 33, 57, 141, 100, 133, 5, 108, 16, 185, 44]⟩ := by
  rw [rt_two, show leafT xa = ⟨#[0, 97]⟩ by kernel_rfl, show leafT xc = ⟨#[0, 99]⟩ by kernel_rfl, dg_la, dg_lc, show nodeT ⟨#[2, 42, 105, 121, 230, 218, 183, 170, 90, 228, 195, 229, 228, 95, 126, 151, 113, 18, 167, 230, 53, 147, 130, 13, 190, 193, 236, 115, 138, 36, 249, 60]⟩ ⟨#[89, 127, 203, 49, 40, 45, 52, 101, 76, 32, 13, 52, 24, 252, 165, 112, 92, 100, 142, 191, 50, 110, 199, 61, 141, 222, 241, 24, 65, 248, 118, 216]⟩ = ⟨#[1, 2, 42, 105, 121, 230, 218, 183, 170, 90, 228, 195, 229, 228, 95, 126, 151, 113, 18, 167, 230, 53, 147, 130, 13, 190, 193, 236, 115, 138, 36, 249, 60, 89, 127, 203, 49, 40, 45, 52, 101, 76, 32, 13, 52, 24, 252, 165, 112, 92, 100, 142, 191, 50, 110, 199, 61, 141, 222, 241, 24, 65, 248, 118, 216]⟩ by kernel_rfl, dg_nac, show rootT 2 ⟨#[51, 28, 43, 156, 250, 55, 233, 221, 201, 204, 133, 243, 34, 254, 220, 117, 184, 156, 76, 193, 156, 146, 228, 150, 243, 238, 141, 6, 51, 95, 97, 86]⟩ = ⟨#[3, 0, 0, 0, 0, 0, 0, 0, 2, 51, 28, 43, 156, 250, 55, 233, 221, 201, 204, 133, 243, 34, 254, 220, 117, 184, 156, 76, 193, 156, 146, 228, 150, 243, 238, 141, 6, 51, 95, 97, 86]⟩ by kernel_rfl, dg_rac]
theorem rt_differ : rtD 32 [xa, xc] 2 ≠ rtD 32 [xa, xb] 2 := by
  rw [rt_ab, rt_ac]
  intro h
  have := congrArg (fun b : ByteArray => b.data.toList.head?) h
  revert this
  decide
end Go.Proofs.YtipcenbndhnnhaaGreatDoor
namespace Go.Proofs.YtipcenbndhnnhaaGreatDoor
open Go.RowKit
attribute [local go_sem ↓] Go.wp_at_zero Go.wp_at_succ
set_option maxRecDepth 100000 in
theorem isof_any (w : World) (kd k : Int) (old size : Nat) (sa : Option Addr) (sb so sc : Nat) (S : List Nat) (hs : RdU w sa sb so S.length S) (hm : S.length ≤ 17592186044416) (da : Option Addr) (dn dc : Nat) (ca : Option Addr) (cb co cn cc : Nat) (l : List (Nat × ByteArray)) (hc : RdK w ca cb co cn l) (r : Bool) (hr : decide ((kd = 1 ∨ kd = 2) ∧ S = ixs l) = r) :
    Calls Tryz.prog 36 #[vP kd k old size (.slice sa S.length sc) (.slice da dn dc), .slice ca cn cc] w fun e w' => e = .returned (.bool r) ∧ Below w.heap.size w w' := by
  obtain ⟨W0, hW0, h6, hb0, _⟩ := box6 w (.int .i64 kd) (.int .i64 k) (.int .u64 (old : Int)) (.int .u64 (size : Int)) (.slice sa S.length sc) (.slice da dn dc)
  obtain ⟨m0, m1, m2, m3, m4, m5⟩ := h6.cells
  have HA : Hid (∀ q, decide (S = ixs l) = q → Calls Tryz.prog 71 #[.slice sa S.length sc, .slice ca cn cc] W0 fun e w' => e = .returned (.bool q) ∧ Below W0.heap.size W0 w') := fun q hq => areof_any W0 sa sb so sc S (hs.next hb0) hm ca cb co cn cc l (hc.next hb0) q hq
  clear hs hc hm h6
  unfold vP
  by_cases h1 : kd = 1
  · subst h1
    have HA' := HA.out r (by rw [← hr]; simp)
    clear hr HA
    go_enter Tryz.func36, Tryz.ntmps36
    go_upto_region 1 with (fail)
    try rw [hW0]
    clear hW0
    go_wp2_with (go_at_call 71; with_reducible refine HA'.mono ?_; rintro e w1 ⟨rfl, hb1⟩)
    go_ret
    exact ⟨rfl, bnext hb0 hb1⟩
  · have h1b : (kd == 1) = false := by simpa using h1
    by_cases h2 : kd = 2
    · subst h2
      have HA' := HA.out r (by rw [← hr]; simp)
      clear hr HA
      go_enter Tryz.func36, Tryz.ntmps36
      go_upto_region 1 with (fail)
      try rw [hW0]
      clear hW0
      go_wp2_with (go_at_call 71; with_reducible refine HA'.mono ?_; rintro e w1 ⟨rfl, hb1⟩)
      go_ret
      exact ⟨rfl, bnext hb0 hb1⟩
    · have h2b : (kd == 2) = false := by simpa using h2
      obtain rfl : false = r := by rw [← hr]; exact (decide_eq_false fun h => h.1.elim h1 h2).symm
      clear hr HA
      go_enter Tryz.func36, Tryz.ntmps36
      go_upto_region 1 with (fail)
      try rw [hW0]
      clear hW0
      go_wp2
      go_ret
      exact ⟨rfl, hb0⟩
theorem vls_take (l : List (Nat × ByteArray)) {j : Nat} (h : j < l.length) : vls (l.take (j + 1)) = vls (l.take j) ++ [(l.getD j noC).2] := by
  unfold vls
  rw [List.take_add_one, List.map_append, List.getD_eq_getElem?_getD, List.getElem?_eq_getElem h]; rfl
set_option maxRecDepth 100000 in
set_option maxHeartbeats 1000000 in
theorem values_any (w : World) (ca : Option Addr) (cb co cn cc : Nat) (l : List (Nat × ByteArray)) (hc : RdK w ca cb co cn l) (hm : cn ≤ 8796093021952) :
    Calls Tryz.prog 38 #[.slice ca cn cc] w fun e w' => ∃ v, e = .returned v ∧ OwnS w' w.heap.size v (vls l) ∧ Below w.heap.size w w' := by
  have HR : Hid (∀ W, Below w.heap.size w W → RdK W ca cb co cn l) := fun W hb => hc.next hb
  have HL : Hid (l.length = cn ∧ ∀ c ∈ l, c.2.size ≤ 9223372036854775807) := ⟨hc.hl, hc.sz⟩
  have hM := make_S w cn (by omega)
  have hO := own_made w cn (by omega)
  have hm5 : (cn : Int) ≤ 8796093021952 := by omega
  have hb0 := bal (Below.refl w.heap.size w) (.cells (madeCells #[.string ByteArray.empty] cn) 9)
  obtain ⟨W0, hW0⟩ : ∃ W0, w.alloc (.cells (madeCells #[.string ByteArray.empty] cn) 9) = W0 := ⟨_, rfl⟩
  rw [hW0] at hM hO hb0
  have HS : Hid (OwnS W0 w.heap.size (.slice (some ⟨w.heap.size, 0, none⟩) 0 cn) [] ∧ Below w.heap.size w W0) := ⟨hO, hb0⟩
  clear hc hm hO hb0 hW0
  go_enter Tryz.func38, Tryz.ntmps38
  go_wp2
  go_loopg [3, 11] cn (fun g v i wr => ∃ k : Nat, k ≤ cn ∧ g = cn - k ∧ i = .int .i64 (k : Int) ∧ OwnS wr w.heap.size v (vls (l.take k)) ∧ Below w.heap.size w wr)
  case atStart =>
    go_light
    exact ⟨0, Nat.zero_le _, rfl, rfl, HS.out.1, HS.out.2⟩
  case round =>
    obtain ⟨k, hk, rfl, rfl, ho, hb⟩ := hrel
    have hk0 : (0 : Int) ≤ (k : Int) := Int.natCast_nonneg _
    by_cases hlt : k < cn
    · have r2 := HR.out wr hb
      obtain rfl := r2.ptr (by omega)
      obtain ⟨c1, c2⟩ := r2.at hlt
      have hz : (k : Int) < (cn : Int) := by omega
      have HV : Hid (vls (l.take (k + 1)) = vls (l.take k) ++ [(l.getD k noC).2] ∧ (l.getD k noC).2.size ≤ 9223372036854775807) := ⟨vls_take l (by have := HL.out.1; omega), by
        have hk' : k < l.length := by have := HL.out.1; omega
        refine HL.out.2 _ ?_
        rw [List.getD_eq_getElem?_getD, List.getElem?_eq_getElem hk']; exact List.getElem_mem _⟩
      have HLn : Hid ((vls (l.take k)).length ≤ 8796093021952) := by
        show (vls (l.take k)).length ≤ 8796093021952
        rw [List.length_map, List.length_take]; omega
      obtain ⟨x, hx⟩ : ∃ x, (l.getD k noC).1 = x := ⟨_, rfl⟩
      obtain ⟨y, hy⟩ : ∃ y, (l.getD k noC).2 = y := ⟨_, rfl⟩
      rw [hx] at c1
      rw [hy] at c2 HV
      have H0 := hide (And.intro ho hb)
      generalize vls (l.take k) = Lk at *
      clear hx hy r2 ho hb
      go_upto_region 5 with (fail)
      obtain ⟨w5, hw5⟩ : ∃ w5, wr.alloc (.cells #[.int .u64 (x : Int), .string y] 46) = w5 := ⟨_, rfl⟩
      try rw [hw5]
      have H5 : Hid (OwnS w5 w.heap.size u3 Lk ∧ Below w.heap.size w w5) := by rw [← hw5]; exact ⟨own_al H0.out.1 _, bal H0.out.2 _⟩
      have k5 := ((rdk_one wr x y HV.out.2).at (j := 0) (by decide)).2
      rw [hw5] at k5
      simp only [Nat.zero_mul, Nat.add_zero, Nat.zero_add] at k5
      clear hw5 H0 c1 c2
      go_wp2_with (at_builtin; refine wpList_append_S _ rfl _ _ rfl w.heap.size _ Lk rfl (own_al H5.out.1 _) (some ⟨w5.heap.size, 0, none⟩) w5.heap.size 0 1 [y] rfl (rds_one w5 y HV.out.2) (fun h => by cases h) ?c1 ?c2 ?_)
      case c1 => have := HLn.out; simp; omega
      case c2 => have := H5.out.2.size; simp; omega
      intro v' w3 o3 hb3
      have HO3 := hide (And.intro o3 ((bal H5.out.2 (.cells #[.string y] 9)).trans hb3))
      clear o3 hb3
      go_wp2
      go_roundg (cn - (k + 1))
      case rel =>
        go_light
        exact ⟨k + 1, by omega, rfl, by go_num, by rw [HV.out.1]; exact HO3.out.1, HO3.out.2⟩
      case measure => go_light; omega
    · have hz : ¬ (k : Int) < (cn : Int) := by omega
      obtain rfl : k = cn := by omega
      have HO := hide (And.intro ho hb)
      clear ho hb
      go_wp2
      go_ret
      refine ⟨_, rfl, ?_, HO.out.2⟩
      have := HO.out.1
      rw [List.take_of_length_le (by have := HL.out.1; omega)] at this
      exact this
end Go.Proofs.YtipcenbndhnnhaaGreatDoor
namespace Go.Proofs.YtipcenbndhnnhaaGreatDoor
open Go.RowKit
theorem list_loop (bs : ByteArray) : ∀ (n i : Nat) (r : List UInt8), bs.size - i = n → ByteArray.toList.loop bs i r = r.reverse ++ bs.data.toList.drop i := by
  intro n
  induction n with
  | zero =>
    intro i r h
    rw [ByteArray.toList.loop, if_neg (by omega)]
    rw [List.drop_eq_nil_of_le (by simp; exact (by omega : bs.size ≤ i)), List.append_nil]
  | succ n ih =>
    intro i r h
    have hi : i < bs.size := by omega
    rw [ByteArray.toList.loop, if_pos hi, ih (i + 1) _ (by omega)]
    have hl : i < bs.data.toList.length := by simp; exact hi
    rw [List.drop_eq_getElem_cons hl, List.reverse_cons, List.append_assoc]
    have : bs.get! i = bs.data.toList[i] := by
      show bs.data[i]! = _
      have hi2 : i < bs.data.size := hi
      rw [getElem!_pos bs.data i hi2]
      simp
    rw [this]; rfl
theorem list_eq (bs : ByteArray) : bs.toList = bs.data.toList := by
  rw [ByteArray.toList, list_loop bs bs.size 0 [] rfl]; rfl
theorem list_beq {x y : ByteArray} (h : x ≠ y) : (x.toList == y.toList) = false := by
  rw [list_eq, list_eq]
  simp only [beq_eq_false_iff_ne, ne_eq]
  intro e
  exact h (ByteArray.ext (Array.toList_inj.1 e))
theorem list_ne {x y : ByteArray} (h : x ≠ y) : ¬ x.toList = y.toList := fun e => by
  have := list_beq h
  rw [e] at this
  simp at this
theorem root_ne {n o : Nat} {d c : ByteArray} (h : ¬ (n = o ∧ d = c)) : ¬ n = o ∨ (n = o ∧ d ≠ c) := by
  by_cases h1 : n = o
  · exact .inr ⟨h1, fun h2 => h ⟨h1, h2⟩⟩
  · exact .inl h1
end Go.Proofs.YtipcenbndhnnhaaGreatDoor
namespace Go.Proofs.YtipcenbndhnnhaaGreatDoor
open Go.RowKit
attribute [local go_sem ↓] Go.wp_at_zero Go.wp_at_succ
set_option maxRecDepth 100000 in
set_option maxHeartbeats 1000000 in
theorem leads_batch (w : World) (kd k : Int) (h1 : kd ≠ 1) (old size : Nat) (sa : Option Addr) (ns sc : Nat) (da : Option Addr) (dn dc : Nat) (xa : Option Addr) (xn xc : Nat) (n : Nat) (d : ByteArray) (er : Int)
    (hR : ∀ W, Below w.heap.size w W → Calls Tryz.prog 73 #[vP kd k old size (.slice sa ns sc) (.slice da dn dc), .slice xa xn xc] W fun e w' => e = .returned (.tuple #[.agg #[.int .u64 (n : Int), .string d], .int .i64 er]) ∧ Below W.heap.size W w') :
    Calls Tryz.prog 37 #[vP kd k old size (.slice sa ns sc) (.slice da dn dc), .slice xa xn xc] w fun e w' => e = .returned (.tuple #[.agg #[.int .u64 (n : Int), .string d], .int .i64 er]) ∧ Below w.heap.size w w' := by
  obtain ⟨W0, hW0⟩ : ∃ W0, (w.alloc (.cells #[.int .i64 kd, .int .i64 k, .int .u64 (old : Int), .int .u64 (size : Int), .slice sa ns sc, .slice da dn dc] 38)).alloc (.cells #[.int .u64 0, .string ⟨#[]⟩] 32) = W0 := ⟨_, rfl⟩
  obtain ⟨hb0, h6, hR0, hz0⟩ := root_start hW0
  obtain ⟨m0, m1, m2, m3, m4, m5⟩ := h6.cells
  have h1b : (kd == 1) = false := by simpa using h1
  have HC := (hR W0 hb0)
  have HR0 : Hid (Rt W0 (w.heap.size + 1) 0 ⟨#[]⟩ ∧ Below w.heap.size w W0 ∧ w.heap.size + 1 < W0.heap.size) := ⟨hR0, hb0, by omega⟩
  clear hR hb0 h6 hR0 hz0
  unfold vP at HC
  unfold vP
  go_enter Tryz.func37, Tryz.ntmps37
  go_upto_region 1 with (fail)
  try rw [hW0]
  clear hW0
  go_wp2_with (go_at_call 73; with_reducible refine HC.mono ?_; rintro e w1 ⟨rfl, hb1⟩; have hR := HR0.out.1.below hb1 HR0.out.2.2; have k0 := hR.c0; have k1 := hR.c1; have f0 := hR.f0; have f1 := hR.f1)
  obtain ⟨s0, s1, hch⟩ := rt_put hR (n : Int) d
  refine bodyPost_ret (v := .tuple #[.agg #[.int .u64 (n : Int), .string d], .int .i64 er]) (by simp [results, Tryz.results37, go_sem, s0, s1]) rfl ⟨rfl, ?_⟩
  exact (bnext HR0.out.2.1 hb1).trans (hch.below (by rintro b rfl; omega))
end Go.Proofs.YtipcenbndhnnhaaGreatDoor
