/-
  Own work: LClmA, LClmB, LBase, BWalkD.
-/
import Derived.Test.YtdocjikpcbmcgaaGreatDoorQs21
namespace Go.Proofs.YtdocjikpcbmcgaaGreatDoor
open Go.RowKit
attribute [local go_sem ↓] Go.wp_at_zero Go.wp_at_succ
def cK (l : List (Nat × ByteArray)) : List Value := l.flatMap fun c => [.int .u64 (c.1 : Int), .string c.2]
theorem cK_cons (c : Nat × ByteArray) (l : List (Nat × ByteArray)) : cK (c :: l) = .int .u64 (c.1 : Int) :: .string c.2 :: cK l := rfl
theorem cK_len (l : List (Nat × ByteArray)) : (cK l).length = 2 * l.length := by
  induction l with
  | nil => rfl
  | cons c l ih => rw [cK_cons, List.length_cons, List.length_cons, List.length_cons, ih]; omega
abbrev noC : Nat × ByteArray := (0, ByteArray.empty)
theorem cK_at (l : List (Nat × ByteArray)) : ∀ j, j < l.length → (cK l)[j * 2]? = some (.int .u64 ((l.getD j noC).1 : Int)) ∧ (cK l)[j * 2 + 1]? = some (.string (l.getD j noC).2) := by
  induction l with
  | nil => intro j hj; exact absurd hj (by simp)
  | cons c l ih =>
    intro j hj
    cases j with
    | zero => exact ⟨rfl, rfl⟩
    | succ j =>
      have := ih j (by simpa using hj)
      rw [cK_cons, show (j + 1) * 2 = j * 2 + 1 + 1 by omega, List.getElem?_cons_succ, List.getElem?_cons_succ, List.getElem?_cons_succ, List.getElem?_cons_succ, List.getD_cons_succ]
      exact this
structure RdK (w : World) (ao : Option Addr) (b off n : Nat) (l : List (Nat × ByteArray)) : Prop where
  hl : l.length = n
  ptr : 0 < n → ao = some ⟨b, off, none⟩
  rng : w.rangeAt b off (cK l)
  sz : ∀ c ∈ l, c.2.size ≤ 9223372036854775807
theorem RdK.at {w : World} {ao : Option Addr} {b off n : Nat} {l : List (Nat × ByteArray)} (h : RdK w ao b off n l) {j : Nat} (hj : j < n) : w.cell? ⟨b, off + j * 2, none⟩ = some (.int .u64 ((l.getD j noC).1 : Int)) ∧ w.cell? ⟨b, off + j * 2 + 1, none⟩ = some (.string (l.getD j noC).2) := by
  have := cK_at l j (by rw [h.hl]; exact hj)
  exact ⟨h.rng _ _ this.1, by rw [Nat.add_assoc]; exact h.rng _ _ this.2⟩
theorem RdK.lt {w : World} {ao : Option Addr} {b off n : Nat} {l : List (Nat × ByteArray)} (h : RdK w ao b off n l) (h0 : 0 < n) : b < w.heap.size := World.block_lt_of_cell? w _ (h.at h0).1
theorem RdK.next {w W : World} {ao : Option Addr} {b off n : Nat} {l : List (Nat × ByteArray)} (h : RdK w ao b off n l) (hb : Below w.heap.size w W) : RdK W ao b off n l := by
  refine ⟨h.hl, h.ptr, ?_, h.sz⟩
  by_cases h0 : 0 < n
  · exact range_below hb (h.lt h0) h.rng
  · have : l = [] := List.length_eq_zero_iff.1 (by rw [h.hl]; omega)
    rw [this]; intro j v hv; cases hv
theorem rdk_nil (w : World) (ao : Option Addr) : RdK w ao 0 0 0 [] := ⟨rfl, fun h => absurd h (Nat.lt_irrefl 0), (fun j v h => by cases h), (fun c h => by cases h)⟩
theorem rdk_one (w : World) (i : Nat) (s : ByteArray) (hs : s.size ≤ 9223372036854775807) : RdK (w.alloc (.cells #[.int .u64 (i : Int), .string s] 38)) (some ⟨w.heap.size, 0, none⟩) w.heap.size 0 1 [(i, s)] :=
  ⟨rfl, fun _ => rfl, range_new w [.int .u64 (i : Int), .string s] 38, fun c hc => by rw [List.mem_singleton.1 hc]; exact hs⟩
abbrev ixs (l : List (Nat × ByteArray)) : List Nat := l.map Prod.fst
abbrev vls (l : List (Nat × ByteArray)) : List ByteArray := l.map Prod.snd
theorem ixs_at (l : List (Nat × ByteArray)) (j : Nat) : (ixs l).getD j 0 = (l.getD j noC).1 := by
  rw [List.getD_eq_getElem?_getD, List.getD_eq_getElem?_getD, List.getElem?_map]
  cases l[j]? <;> rfl
theorem ixs_eq {S : List Nat} {l : List (Nat × ByteArray)} (h : S.length = l.length) (he : ∀ j, j < S.length → S.getD j 0 = (l.getD j noC).1) : S = ixs l := by
  refine List.ext_getElem (by rw [h, List.length_map]) fun j h1 h2 => ?_
  have := he j h1
  rw [← ixs_at, List.getD_eq_getElem?_getD, List.getD_eq_getElem?_getD, List.getElem?_eq_getElem h1, List.getElem?_eq_getElem h2] at this
  exact this
set_option maxRecDepth 100000 in
set_option maxHeartbeats 1000000 in
theorem areof_any (w : World) (sa : Option Addr) (sb so sc : Nat) (S : List Nat) (hs : RdU w sa sb so S.length S) (hm : S.length ≤ 17592186044416) (ca : Option Addr) (cb co cn cc : Nat) (l : List (Nat × ByteArray)) (hc : RdK w ca cb co cn l) (r : Bool) (hr : decide (S = ixs l) = r) :
    Calls Tryz.prog 62 #[.slice sa S.length sc, .slice ca cn cc] w fun e w' => e = .returned (.bool r) ∧ Below w.heap.size w w' := by
  have hcl := hc.hl
  by_cases hl : S.length = cn
  · have HR : Hid (∀ W, Below w.heap.size w W → RdU W sa sb so S.length S ∧ RdK W ca cb co cn l) := fun W hb => ⟨hs.next hb, hc.next hb⟩
    have HE : Hid (decide (S = ixs l) = r ∧ S.length = l.length) := ⟨hr, by omega⟩
    have hm5 : (S.length : Int) ≤ 17592186044416 := by omega
    clear hs hc hr hm
    obtain ⟨n, hn⟩ : ∃ n, S.length = n := ⟨_, rfl⟩
    rw [hn] at hl hm5 HR ⊢
    have HN := hide hn
    clear hn hcl
    subst hl
    go_enter Tryz.func62, Tryz.ntmps62
    go_wp2
    go_loopg [14] n (fun g i wr => ∃ k : Nat, k ≤ n ∧ g = n - k ∧ i = .int .i64 (k : Int) ∧ (∀ j, j < k → S.getD j 0 = (l.getD j noC).1) ∧ Below w.heap.size w wr)
    case atStart =>
      go_light
      exact ⟨0, Nat.zero_le _, rfl, rfl, fun j hj => absurd hj (Nat.not_lt_zero j), Below.refl _ _⟩
    case round =>
      obtain ⟨k, hk, rfl, rfl, he, hb⟩ := hrel
      have hk0 : (0 : Int) ≤ (k : Int) := Int.natCast_nonneg _
      by_cases hlt : k < n
      · obtain ⟨r1, r2⟩ := HR.out wr hb
        obtain rfl := r1.ptr (by omega)
        obtain rfl := r2.ptr (by omega)
        have c1 := r1.at hlt
        have c2 := (r2.at hlt).1
        have hz : (k : Int) < (n : Int) := by omega
        obtain ⟨x, hx⟩ : ∃ x, S.getD k 0 = x := ⟨_, rfl⟩
        obtain ⟨y, hy⟩ : ∃ y, (l.getD k noC).1 = y := ⟨_, rfl⟩
        rw [hx] at c1
        rw [hy] at c2
        have HX : Hid (S.getD k 0 = x ∧ (l.getD k noC).1 = y) := ⟨hx, hy⟩
        have H0 : Hid ((∀ j, j < k → S.getD j 0 = (l.getD j noC).1) ∧ Below w.heap.size w wr) := ⟨he, hb⟩
        clear hx hy r1 r2 he hb
        by_cases hxy : y = x
        · subst hxy
          go_wp2
          go_roundg (n - (k + 1))
          case rel =>
            go_light
            refine ⟨k + 1, by omega, rfl, by go_num, fun j hj => ?_, H0.out.2⟩
            by_cases hjk : j = k
            · subst hjk; rw [HX.out.1, HX.out.2]
            · exact H0.out.1 j (by omega)
          case measure => go_light; omega
        · have hxz : ¬ (y : Int) = (x : Int) := by omega
          have hxb : ((y : Int) == (x : Int)) = false := by simpa using hxz
          have HF : Hid (false = r) := by
            rw [← HE.out.1]
            refine (decide_eq_false fun he => hxy ?_).symm
            have := congrArg (fun t => List.getD t k 0) he
            simp only [ixs_at] at this
            rw [HX.out.1, HX.out.2] at this
            exact this.symm
          go_wp2
          go_ret
          obtain rfl := HF.out
          exact ⟨rfl, H0.out.2⟩
      · have hz : ¬ (k : Int) < (n : Int) := by omega
        have HF : Hid (true = r) := by
          rw [← HE.out.1]
          exact (decide_eq_true (ixs_eq HE.out.2 fun j hj => he j (by have := HN.out; omega))).symm
        go_wp2
        go_ret
        obtain rfl := HF.out
        exact ⟨rfl, hb⟩
  · have HF : false = r := by
      rw [← hr]
      exact (decide_eq_false fun he => hl (by rw [he, List.length_map, hcl])).symm
    subst HF
    have hz : ¬ (S.length : Int) = (cn : Int) := by omega
    have hzb : ((S.length : Int) == (cn : Int)) = false := by simpa using hz
    clear hs hc hr hm
    go_enter Tryz.func62, Tryz.ntmps62
    go_wp2
    go_ret
    exact ⟨rfl, Below.refl _ _⟩
end Go.Proofs.YtdocjikpcbmcgaaGreatDoor
namespace Go.Proofs.YtdocjikpcbmcgaaGreatDoor
open Go.RowKit
attribute [local go_sem ↓] Go.wp_at_zero Go.wp_at_succ
set_option maxRecDepth 100000 in
theorem isof_any (w : World) (kd k : Int) (old size : Nat) (sa : Option Addr) (sb so sc : Nat) (S : List Nat) (hs : RdU w sa sb so S.length S) (hm : S.length ≤ 17592186044416) (da : Option Addr) (dn dc : Nat) (ca : Option Addr) (cb co cn cc : Nat) (l : List (Nat × ByteArray)) (hc : RdK w ca cb co cn l) (r : Bool) (hr : decide ((kd = 1 ∨ kd = 2) ∧ S = ixs l) = r) :
    Calls Tryz.prog 28 #[vP kd k old size (.slice sa S.length sc) (.slice da dn dc), .slice ca cn cc] w fun e w' => e = .returned (.bool r) ∧ Below w.heap.size w w' := by
  obtain ⟨W0, hW0, h6, hb0, _⟩ := box6 w (.int .i64 kd) (.int .i64 k) (.int .u64 (old : Int)) (.int .u64 (size : Int)) (.slice sa S.length sc) (.slice da dn dc)
  obtain ⟨m0, m1, m2, m3, m4, m5⟩ := h6.cells
  have HA : Hid (∀ q, decide (S = ixs l) = q → Calls Tryz.prog 62 #[.slice sa S.length sc, .slice ca cn cc] W0 fun e w' => e = .returned (.bool q) ∧ Below W0.heap.size W0 w') := fun q hq => areof_any W0 sa sb so sc S (hs.next hb0) hm ca cb co cn cc l (hc.next hb0) q hq
  clear hs hc hm h6
  unfold vP
  by_cases h1 : kd = 1
  · subst h1
    have HA' := HA.out r (by rw [← hr]; simp)
    clear hr HA
    go_enter Tryz.func28, Tryz.ntmps28
    go_upto_region 1 with (fail)
    try rw [hW0]
    clear hW0
    go_wp2_with (go_at_call 62; with_reducible refine HA'.mono ?_; rintro e w1 ⟨rfl, hb1⟩)
    go_ret
    exact ⟨rfl, bnext hb0 hb1⟩
  · have h1b : (kd == 1) = false := by simpa using h1
    by_cases h2 : kd = 2
    · subst h2
      have HA' := HA.out r (by rw [← hr]; simp)
      clear hr HA
      go_enter Tryz.func28, Tryz.ntmps28
      go_upto_region 1 with (fail)
      try rw [hW0]
      clear hW0
      go_wp2_with (go_at_call 62; with_reducible refine HA'.mono ?_; rintro e w1 ⟨rfl, hb1⟩)
      go_ret
      exact ⟨rfl, bnext hb0 hb1⟩
    · have h2b : (kd == 2) = false := by simpa using h2
      obtain rfl : false = r := by rw [← hr]; exact (decide_eq_false fun h => h.1.elim h1 h2).symm
      clear hr HA
      go_enter Tryz.func28, Tryz.ntmps28
      go_upto_region 1 with (fail)
      try rw [hW0]
      clear hW0
      go_wp2
      go_ret
      exact ⟨rfl, hb0⟩
theorem vls_take (l : List (Nat × ByteArray)) {j : Nat} (h : j < l.length) : vls (l.take (j + 1)) = vls (l.take j) ++ [(l.getD j noC).2] := by
  unfold vls
  rw [List.take_add_one, List.map_append, List.getD_eq_getElem?_getD, List.getElem?_eq_getElem h]; rfl
set_option maxRecDepth 100000 in
set_option maxHeartbeats 1000000 in
theorem values_any (w : World) (ca : Option Addr) (cb co cn cc : Nat) (l : List (Nat × ByteArray)) (hc : RdK w ca cb co cn l) (hm : cn ≤ 8796093021952) :
    Calls Tryz.prog 30 #[.slice ca cn cc] w fun e w' => ∃ v, e = .returned v ∧ OwnS w' w.heap.size v (vls l) ∧ Below w.heap.size w w' := by
  have HR : Hid (∀ W, Below w.heap.size w W → RdK W ca cb co cn l) := fun W hb => hc.next hb
  have HL : Hid (l.length = cn ∧ ∀ c ∈ l, c.2.size ≤ 9223372036854775807) := ⟨hc.hl, hc.sz⟩
  have hM := make_S w cn (by omega)
  have hO := own_made w cn (by omega)
  have hm5 : (cn : Int) ≤ 8796093021952 := by omega
  have hb0 := bal (Below.refl w.heap.size w) (.cells (madeCells #[.string ByteArray.empty] cn) 9)
  obtain ⟨W0, hW0⟩ : ∃ W0, w.alloc (.cells (madeCells #[.string ByteArray.empty] cn) 9) = W0 := ⟨_, rfl⟩
  rw [hW0] at hM hO hb0
  have HS : Hid (OwnS W0 w.heap.size (.slice (some ⟨w.heap.size, 0, none⟩) 0 cn) [] ∧ Below w.heap.size w W0) := ⟨hO, hb0⟩
  clear hc hm hO hb0 hW0
  go_enter Tryz.func30, Tryz.ntmps30
  go_wp2
  go_loopg [3, 11] cn (fun g v i wr => ∃ k : Nat, k ≤ cn ∧ g = cn - k ∧ i = .int .i64 (k : Int) ∧ OwnS wr w.heap.size v (vls (l.take k)) ∧ Below w.heap.size w wr)
  case atStart =>
    go_light
    exact ⟨0, Nat.zero_le _, rfl, rfl, HS.out.1, HS.out.2⟩
  case round =>
    obtain ⟨k, hk, rfl, rfl, ho, hb⟩ := hrel
    have hk0 : (0 : Int) ≤ (k : Int) := Int.natCast_nonneg _
    by_cases hlt : k < cn
    · have r2 := HR.out wr hb
      obtain rfl := r2.ptr (by omega)
      obtain ⟨c1, c2⟩ := r2.at hlt
      have hz : (k : Int) < (cn : Int) := by omega
      have HV : Hid (vls (l.take (k + 1)) = vls (l.take k) ++ [(l.getD k noC).2] ∧ (l.getD k noC).2.size ≤ 9223372036854775807) := ⟨vls_take l (by have := HL.out.1; omega), by
        have hk' : k < l.length := by have := HL.out.1; omega
        refine HL.out.2 _ ?_
        rw [List.getD_eq_getElem?_getD, List.getElem?_eq_getElem hk']; exact List.getElem_mem _⟩
      have HLn : Hid ((vls (l.take k)).length ≤ 8796093021952) := by
        show (vls (l.take k)).length ≤ 8796093021952
        rw [List.length_map, List.length_take]; omega
      obtain ⟨x, hx⟩ : ∃ x, (l.getD k noC).1 = x := ⟨_, rfl⟩
      obtain ⟨y, hy⟩ : ∃ y, (l.getD k noC).2 = y := ⟨_, rfl⟩
      rw [hx] at c1
      rw [hy] at c2 HV
      have H0 := hide (And.intro ho hb)
      generalize vls (l.take k) = Lk at *
      clear hx hy r2 ho hb
      go_upto_region 5 with (fail)
      obtain ⟨w5, hw5⟩ : ∃ w5, wr.alloc (.cells #[.int .u64 (x : Int), .string y] 38) = w5 := ⟨_, rfl⟩
      try rw [hw5]
      have H5 : Hid (OwnS w5 w.heap.size u3 Lk ∧ Below w.heap.size w w5) := by rw [← hw5]; exact ⟨own_al H0.out.1 _, bal H0.out.2 _⟩
      have k5 := ((rdk_one wr x y HV.out.2).at (j := 0) (by decide)).2
      rw [hw5] at k5
      simp only [Nat.zero_mul, Nat.add_zero, Nat.zero_add] at k5
      clear hw5 H0 c1 c2
      go_wp2_with (at_builtin; refine wpList_append_S _ rfl _ _ rfl w.heap.size _ Lk rfl (own_al H5.out.1 _) (some ⟨w5.heap.size, 0, none⟩) w5.heap.size 0 1 [y] rfl (rds_one w5 y HV.out.2) (fun h => by cases h) ?c1 ?c2 ?_)
      case c1 => have := HLn.out; simp; omega
      case c2 => have := H5.out.2.size; simp; omega
      intro v' w3 o3 hb3
      have HO3 := hide (And.intro o3 ((bal H5.out.2 (.cells #[.string y] 9)).trans hb3))
      clear o3 hb3
      go_wp2
      go_roundg (cn - (k + 1))
      case rel =>
        go_light
        exact ⟨k + 1, by omega, rfl, by go_num, by rw [HV.out.1]; exact HO3.out.1, HO3.out.2⟩
      case measure => go_light; omega
    · have hz : ¬ (k : Int) < (cn : Int) := by omega
      obtain rfl : k = cn := by omega
      have HO := hide (And.intro ho hb)
      clear ho hb
      go_wp2
      go_ret
      refine ⟨_, rfl, ?_, HO.out.2⟩
      have := HO.out.1
      rw [List.take_of_length_le (by have := HL.out.1; omega)] at this
      exact this
end Go.Proofs.YtdocjikpcbmcgaaGreatDoor
namespace Go.Proofs.YtdocjikpcbmcgaaGreatDoor
open Go.RowKit
theorem list_loop (bs : ByteArray) : ∀ (n i : Nat) (r : List UInt8), bs.size - i = n → ByteArray.toList.loop bs i r = r.reverse ++ bs.data.toList.drop i := by
  intro n
  induction n with
  | zero =>
    intro i r h
    rw [ByteArray.toList.loop, if_neg (by omega)]
    rw [List.drop_eq_nil_of_le (by simp; exact (by omega : bs.size ≤ i)), List.append_nil]
  | succ n ih =>
    intro i r h
    have hi : i < bs.size := by omega
    rw [ByteArray.toList.loop, if_pos hi, ih (i + 1) _ (by omega)]
    have hl : i < bs.data.toList.length := by simp; exact hi
    rw [List.drop_eq_getElem_cons hl, List.reverse_cons, List.append_assoc]
    have : bs.get! i = bs.data.toList[i] := by
      show bs.data[i]! = _
      have hi2 : i < bs.data.size := hi
      rw [getElem!_pos bs.data i hi2]
      simp
    rw [this]; rfl
theorem list_eq (bs : ByteArray) : bs.toList = bs.data.toList := by
  rw [ByteArray.toList, list_loop bs bs.size 0 [] rfl]; rfl
theorem list_beq {x y : ByteArray} (h : x ≠ y) : (x.toList == y.toList) = false := by
  rw [list_eq, list_eq]
  simp only [beq_eq_false_iff_ne, ne_eq]
  intro e
  exact h (ByteArray.ext (Array.toList_inj.1 e))
theorem list_ne {x y : ByteArray} (h : x ≠ y) : ¬ x.toList = y.toList := fun e => by
  have := list_beq h
  rw [e] at this
  simp at this
theorem root_ne {n o : Nat} {d c : ByteArray} (h : ¬ (n = o ∧ d = c)) : ¬ n = o ∨ (n = o ∧ d ≠ c) := by
  by_cases h1 : n = o
  · exact .inr ⟨h1, fun h2 => h ⟨h1, h2⟩⟩
  · exact .inl h1
end Go.Proofs.YtdocjikpcbmcgaaGreatDoor
namespace Go.Proofs.YtdocjikpcbmcgaaGreatDoor
open Go.RowKit
open Cv (RdC zl cU tno)
open Pl (pw)
attribute [local go_sem ↓] Go.wp_at_zero Go.wp_at_succ
theorem Rt.drew {w : World} {g n : Nat} {d : ByteArray} (h : Rt w g n d) : Rt w.drew g n d := ⟨h.c0, h.c1, h.f0, h.f1⟩
abbrev noR : Value := .agg #[.int .u64 0, .string ⟨#[]⟩]
theorem root_start {w W0 : World} {kd k : Int} {old size : Nat} {vs vd : Value} (h : (w.alloc (.cells #[.int .i64 kd, .int .i64 k, .int .u64 (old : Int), .int .u64 (size : Int), vs, vd] 55)).alloc (.cells #[.int .u64 0, .string ⟨#[]⟩] 30) = W0) :
    Below w.heap.size w W0 ∧ Six W0 w.heap.size (.int .i64 kd) (.int .i64 k) (.int .u64 (old : Int)) (.int .u64 (size : Int)) vs vd ∧ Rt W0 (w.heap.size + 1) 0 ⟨#[]⟩ ∧ W0.heap.size = w.heap.size + 2 := by
  subst h
  refine ⟨bal (bal (Below.refl _ _) _) _, ?_, ?_, by simp⟩
  · exact (six_new w _ _ _ _ _ _).next (bal (Below.refl _ _) _)
  · have := rt_new (w.alloc (.cells #[.int .i64 kd, .int .i64 k, .int .u64 (old : Int), .int .u64 (size : Int), vs, vd] 55)) 0 ⟨#[]⟩ 30
    rw [World.size_alloc] at this
    exact this
theorem rt_put {w : World} {g n : Nat} {d : ByteArray} (h : Rt w g n d) (a : Int) (b : ByteArray) :
    ((w.setCell ⟨g, 0, none⟩ (.int .u64 a)).setCell ⟨g, 1, none⟩ (.string b)).cell? ⟨g, 0, none⟩ = some (.int .u64 a) ∧ ((w.setCell ⟨g, 0, none⟩ (.int .u64 a)).setCell ⟨g, 1, none⟩ (.string b)).cell? ⟨g, 1, none⟩ = some (.string b) ∧ ChT (fun x => x = g) w ((w.setCell ⟨g, 0, none⟩ (.int .u64 a)).setCell ⟨g, 1, none⟩ (.string b)) := by
  refine ⟨?_, ?_, ((ChT.refl (fun x => x = g) w).set g 0 _ rfl).set g 1 _ rfl⟩
  · exact (World.cell?_setCell_other _ _ _ _ (by simp)).trans (World.cell?_setCell_same _ _ _ h.c0)
  · exact World.cell?_setCell_same _ _ _ ((World.cell?_setCell_other _ _ _ _ (by simp)).trans h.c1)
def okB (kd k : Int) (old size : Nat) (S : List Nat) (D : List ByteArray) : Prop := (kd = 2 ∧ (1 ≤ k ∧ k ≤ 32) ∧ old = 0) ∧ (Cv.errS size S = 0 ∧ fil k (Cv.rstS size S).length D)
instance (kd k : Int) (old size : Nat) (S : List Nat) (D : List ByteArray) : Decidable (okB kd k old size S D) := by unfold okB; infer_instance
set_option maxRecDepth 100000 in
set_option maxHeartbeats 1000000 in
theorem broot_no (w : World) (kd k : Int) (old size : Nat) (sa : Option Addr) (sb so ns sc : Nat) (S : List Nat) (hs : RdU w sa sb so ns S) (hns : ns ≤ 8796093022208) (da : Option Addr) (db dO dn dc : Nat) (D : List ByteArray) (hr : RdS w da db dO dn D) (hm : dn ≤ 8796093022208) (xa : Option Addr) (xn xc : Nat) (hno : ¬ (okB kd k old size S D ∧ xn = ns)) :
    Calls Tryz.prog 64 #[vP kd k old size (.slice sa ns sc) (.slice da dn dc), .slice xa xn xc] w fun e w' => e = .returned (.tuple #[noR, .int .i64 150]) ∧ Below w.heap.size w w' := by
  have hl := hs.hl
  have hdl := hr.hl
  subst hdl
  obtain ⟨r1, hr1⟩ : ∃ r, decide (kd = 2 ∧ (1 ≤ k ∧ k ≤ 32) ∧ old = 0) = r := ⟨_, rfl⟩
  obtain ⟨r2, hr2⟩ : ∃ r, decide (Cv.errS size S = 0 ∧ fil k (Cv.rstS size S).length D) = r := ⟨_, rfl⟩
  have HI : Hid (∀ W, Calls Tryz.prog 118 #[vP kd k old size (.slice sa ns sc) (.slice da D.length dc)] W fun e w' => e = .returned (.bool r1) ∧ Below W.heap.size W w') := fun W => isb_core W kd k old size sa ns sc da D.length dc r1 hr1
  have HF : Hid (∀ W, Below w.heap.size w W → Calls Tryz.prog 119 #[vP kd k old size (.slice sa ns sc) (.slice da D.length dc)] W fun e w' => e = .returned (.bool r2) ∧ Below W.heap.size W w') := fun W hb => bfilled_core W kd k old size sa sb so ns sc S (hs.next hb) hns da db dO dc D (hr.next hb (Nat.le_refl _)) hm _ rfl _ rfl r2 hr2
  have HN : Hid (r1 = true → r2 = true → ¬ xn = ns) := fun h1 h2 h3 => hno ⟨⟨of_decide_eq_true (hr1.trans h1), of_decide_eq_true (hr2.trans h2)⟩, h3⟩
  obtain ⟨W0, hW0⟩ : ∃ W0, (w.alloc (.cells #[.int .i64 kd, .int .i64 k, .int .u64 (old : Int), .int .u64 (size : Int), .slice sa ns sc, .slice da D.length dc] 55)).alloc (.cells #[.int .u64 0, .string ⟨#[]⟩] 30) = W0 := ⟨_, rfl⟩
  obtain ⟨hb, h6, hRt, hz⟩ := root_start hW0
  obtain ⟨c0, c1, c2, c3, c4, c5⟩ := h6.cells
  have HR := hide (And.intro hRt hz)
  have H6 := hide h6
  clear hs hr hm hno hr1 hr2 h6 hRt hz
  cases r1 with
  | false =>
    clear HF HN
    go_enter Tryz.func64, Tryz.ntmps64
    go_wp2_with (go_at_call 118; with_reducible refine (HI.out _).mono ?_; rintro e w1 ⟨rfl, hb1⟩; have hR := HR.out.1.below hb1 (by rw [HR.out.2]; omega); have k0 := hR.c0; have k1 := hR.c1; have f0 := hR.f0; have f1 := hR.f1)
    obtain ⟨s0, s1, hch⟩ := rt_put hR 0 ⟨#[]⟩
    refine bodyPost_ret (v := .tuple #[noR, .int .i64 150]) (by simp [results, Tryz.results64, go_sem, s0, s1]) rfl ⟨rfl, ?_⟩
    exact (bnext hb hb1).trans (hch.below (by rintro b rfl; omega))
  | true =>
    cases r2 with
    | false =>
      clear HN
      go_enter Tryz.func64, Tryz.ntmps64
      go_wp2_with (first
        | (go_at_call 118; with_reducible refine (HI.out _).mono ?_; rintro e w1 ⟨rfl, hb1⟩; obtain ⟨d0, d1, d2, d3, d4, d5⟩ := (H6.out.next hb1).cells)
        | (go_at_call 119; with_reducible refine (HF.out _ (bnext hb hb1)).mono ?_; rintro e w2 ⟨rfl, hb2⟩; have hR := HR.out.1.below (bnext hb1 hb2) (by rw [HR.out.2]; omega); have k0 := hR.c0; have k1 := hR.c1; have f0 := hR.f0; have f1 := hR.f1))
      obtain ⟨s0, s1, hch⟩ := rt_put hR 0 ⟨#[]⟩
      refine bodyPost_ret (v := .tuple #[noR, .int .i64 150]) (by simp [results, Tryz.results64, go_sem, s0, s1]) rfl ⟨rfl, ?_⟩
      exact (bnext (bnext hb hb1) hb2).trans (hch.below (by rintro b rfl; omega))
    | true =>
      have hne := HN.out rfl rfl
      have hz : ¬ (xn : Int) = (ns : Int) := by omega
      clear HN hne
      go_enter Tryz.func64, Tryz.ntmps64
      go_wp2_with (first
        | (go_at_call 118; with_reducible refine (HI.out _).mono ?_; rintro e w1 ⟨rfl, hb1⟩; obtain ⟨d0, d1, d2, d3, d4, d5⟩ := (H6.out.next hb1).cells)
        | (go_at_call 119; with_reducible refine (HF.out _ (bnext hb hb1)).mono ?_; rintro e w2 ⟨rfl, hb2⟩; have hR := HR.out.1.below (bnext hb1 hb2) (by rw [HR.out.2]; omega); have k0 := hR.c0; have k1 := hR.c1; have f0 := hR.f0; have f1 := hR.f1; obtain ⟨g0, g1, g2, g3, g4, g5⟩ := (H6.out.next (bnext hb1 hb2)).cells))
      obtain ⟨s0, s1, hch⟩ := rt_put hR 0 ⟨#[]⟩
      refine bodyPost_ret (v := .tuple #[noR, .int .i64 150]) (by simp [results, Tryz.results64, go_sem, s0, s1]) rfl ⟨rfl, ?_⟩
      exact (bnext (bnext hb hb1) hb2).trans (hch.below (by rintro b rfl; omega))
set_option maxRecDepth 100000 in
set_option maxHeartbeats 1000000 in
theorem broot_long (w : World) (k : Int) (size : Nat) (sa : Option Addr) (sb so sc : Nat) (S : List Nat) (X : List ByteArray) (hs : RdU w sa sb so X.length S) (hns : X.length ≤ 8796093022208) (da : Option Addr) (db dO dc : Nat) (D : List ByteArray) (hr : RdS w da db dO D.length D) (hm : D.length ≤ 8796093022208) (xa : Option Addr) (xb xo xc : Nat) (hx : RdS w xa xb xo X.length X) (hok : okB 2 k 0 size S D) (hlong : ¬ ∀ s ∈ X, s.size ≤ 1048576) :
    Calls Tryz.prog 64 #[vP 2 k 0 size (.slice sa X.length sc) (.slice da D.length dc), .slice xa X.length xc] w fun e w' => e = .returned (.tuple #[noR, .int .i64 100]) ∧ Below w.heap.size w w' := by
  have HI : Hid (∀ W, Calls Tryz.prog 118 #[vP 2 k 0 size (.slice sa X.length sc) (.slice da D.length dc)] W fun e w' => e = .returned (.bool true) ∧ Below W.heap.size W w') := fun W => isb_core W 2 k 0 size sa X.length sc da D.length dc true (decide_eq_true hok.1)
  have HF : Hid (∀ W, Below w.heap.size w W → Calls Tryz.prog 119 #[vP 2 k 0 size (.slice sa X.length sc) (.slice da D.length dc)] W fun e w' => e = .returned (.bool true) ∧ Below W.heap.size W w') := fun W hb => bfilled_core W 2 k 0 size sa sb so X.length sc S (hs.next hb) hns da db dO dc D (hr.next hb (Nat.le_refl _)) hm _ rfl _ rfl true (decide_eq_true hok.2)
  have HX : Hid (∀ W, Below w.heap.size w W → RdS W xa xb xo X.length X) := fun W hb => hx.next hb (Nat.le_refl _)
  obtain ⟨W0, hW0⟩ : ∃ W0, (w.alloc (.cells #[.int .i64 2, .int .i64 k, .int .u64 ((0 : Nat) : Int), .int .u64 (size : Int), .slice sa X.length sc, .slice da D.length dc] 55)).alloc (.cells #[.int .u64 0, .string ⟨#[]⟩] 30) = W0 := ⟨_, rfl⟩
  obtain ⟨hb, h6, hRt, hz⟩ := root_start hW0
  rw [show ((0 : Nat) : Int) = 0 from rfl] at hW0 h6
  obtain ⟨c0, c1, c2, c3, c4, c5⟩ := h6.cells
  have HR := hide (And.intro hRt hz)
  have H6 := hide h6
  have HN := hide hlong
  have hn5 : (X.length : Int) ≤ 8796093022208 := by omega
  clear hs hr hm hok h6 hRt hz hx hlong
  unfold vP at HI HF
  rw [show ((0 : Nat) : Int) = 0 from rfl] at HI HF
  unfold vP
  rw [show ((0 : Nat) : Int) = 0 from rfl]
  go_enter Tryz.func64, Tryz.ntmps64
  go_upto_region 3 with (first
    | (go_at_call 118; with_reducible refine (HI.out _).mono ?_; rintro e w1 ⟨rfl, hb1⟩; obtain ⟨d0, d1, d2, d3, d4, d5⟩ := (H6.out.next hb1).cells)
    | (go_at_call 119; with_reducible refine (HF.out _ (bnext hb hb1)).mono ?_; rintro e w2 ⟨rfl, hb2⟩; have hR := HR.out.1.below (bnext hb1 hb2) (by rw [HR.out.2]; omega); have k0 := hR.c0; have k1 := hR.c1; have f0 := hR.f0; have f1 := hR.f1; obtain ⟨g0, g1, g2, g3, g4, g5⟩ := (H6.out.next (bnext hb1 hb2)).cells))
  have hbw := bnext (bnext hb hb1) hb2
  clear hb hb1 hb2 c0 c1 c2 c3 c4 c5 d0 d1 d2 d3 d4 d5 HI HF
  go_wp2
  go_loopg [36] X.length (fun g i wr => ∃ j : Nat, j ≤ X.length ∧ g = X.length - j ∧ i = .int .i64 (j : Int) ∧ (∀ t, t < j → (X.getD t ByteArray.empty).size ≤ 1048576) ∧ w2 = wr)
  case atStart =>
    go_light
    exact ⟨0, Nat.zero_le _, rfl, rfl, fun t ht => absurd ht (Nat.not_lt_zero _), rfl⟩
  case round =>
    obtain ⟨j, hj, rfl, rfl, hal, rfl⟩ := hrel
    by_cases hlt : j < X.length
    · have hz : (j : Int) < (X.length : Int) := by omega
      have hz0 : (0 : Int) ≤ (j : Int) := Int.natCast_nonneg _
      have hrd := HX.out w2 hbw
      obtain rfl := hrd.ptr (by omega)
      have cj := hrd.at hlt
      obtain ⟨d, hd⟩ : ∃ d, X.getD j ByteArray.empty = d := ⟨_, rfl⟩
      rw [hd] at cj
      by_cases hk : d.size ≤ 1048576
      · have HN2 : Hid (∀ t, t < j + 1 → (X.getD t ByteArray.empty).size ≤ 1048576) := fun t ht => by
          rcases Nat.lt_or_eq_of_le (Nat.le_of_lt_succ ht) with hx | rfl
          · exact hal t hx
          · rw [hd]; exact hk
        have hkz : ¬ (1048576 : Int) < (d.size : Int) := by omega
        clear hd hal hrd hk
        go_wp2
        go_roundg (X.length - (j + 1))
        case rel =>
          go_light
          exact ⟨j + 1, by omega, rfl, by go_num, HN2.out, rfl⟩
        case measure => go_light; omega
      · have hkz : (1048576 : Int) < (d.size : Int) := by omega
        clear hd hal hrd hk
        go_wp2
        obtain ⟨s0, s1, hch⟩ := rt_put hR 0 ⟨#[]⟩
        refine bodyPost_ret (v := .tuple #[noR, .int .i64 100]) (by simp [results, Tryz.results64, go_sem, s0, s1]) rfl ⟨rfl, ?_⟩
        exact hbw.trans (hch.below (by rintro b rfl; omega))
    · exfalso
      refine HN.out fun s hs => ?_
      obtain ⟨t, ht, rfl⟩ := List.getElem_of_mem hs
      have := hal t (by omega)
      rwa [List.getD_eq_getElem?_getD, List.getElem?_eq_getElem ht] at this
end Go.Proofs.YtdocjikpcbmcgaaGreatDoor
