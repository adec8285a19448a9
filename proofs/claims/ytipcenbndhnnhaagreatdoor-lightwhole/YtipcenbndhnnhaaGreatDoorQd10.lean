/-
  Own work: HWalkC, Plan, HList, PSpec, PWalkA, PWalkB, PlWalkB, PlWalkC.
-/
import Derived.Test.YtipcenbndhnnhaaGreatDoorProg
import Derived.Below
import Derived.WalkKit
import Derived.WalkSpells
import Derived.KernelRfl
import Derived.Deep.RegionHeld3
import Derived.Deep.RegionWith
import Derived.BigQuiet
import Derived.Test.YtipcenbndhnnhaaGreatDoorQd04
import Derived.Test.YtipcenbndhnnhaaGreatDoorQd09
namespace Go.Proofs.YtipcenbndhnnhaaGreatDoor
open Go.RowKit
attribute [local go_sem ↓] Go.wp_at_zero Go.wp_at_succ
structure RdS (w : World) (ao : Option Addr) (b off len : Nat) (ss : List ByteArray) : Prop where
  hl : ss.length = len
  ptr : 0 < len → ao = some ⟨b, off, none⟩
  rng : w.rangeAt b off (ss.map Value.string)
  sz : ∀ s ∈ ss, s.size ≤ 9223372036854775807
theorem RdS.lt {w : World} {ao : Option Addr} {b off len : Nat} {ss : List ByteArray} (h : RdS w ao b off len ss) (h0 : 0 < len) : b < w.heap.size :=
  range_lt h.rng (by intro e; have := congrArg List.length e; rw [List.length_map, List.length_nil, h.hl] at this; omega)
theorem RdS.next {w W : World} {ao : Option Addr} {b off len B : Nat} {ss : List ByteArray} (h : RdS w ao b off len ss) (hb : Below B w W) (hB : w.heap.size ≤ B) : RdS W ao b off len ss := by
  refine ⟨h.hl, h.ptr, ?_, h.sz⟩
  by_cases h0 : 0 < len
  · exact range_below hb (Nat.lt_of_lt_of_le (h.lt h0) hB) h.rng
  · have : ss = [] := List.length_eq_zero_iff.1 (by rw [h.hl]; omega)
    rw [this]; intro j v hv; cases hv
theorem RdS.at {w : World} {ao : Option Addr} {b off len : Nat} {ss : List ByteArray} (h : RdS w ao b off len ss) {k : Nat} (hk : k < len) : w.cell? ⟨b, off + k, none⟩ = some (.string (ss.getD k ByteArray.empty)) :=
  h.rng k _ (by have := h.hl; simp [List.getElem?_eq_getElem (show k < ss.length by omega), List.getD_eq_getElem?_getD])
theorem getD_mem {ss : List ByteArray} {k : Nat} (hk : k < ss.length) : ss.getD k ByteArray.empty ∈ ss := by
  rw [List.getD_eq_getElem?_getD, List.getElem?_eq_getElem hk]; exact List.getElem_mem _
set_option maxRecDepth 100000 in
theorem leaf_any (w : World) (ht : Tb w) (k : Int) (s : ByteArray) (hs : s.size < 2305843009213693952) (r : ByteArray) (hr : dg (clk k) (leafT s) = r) :
    Calls Tryz.prog 49 #[.int .i64 k, .string s] w fun e w' => e = .returned (.string r) ∧ Below w.heap.size w w' := by
  have HL := leaft_any w s hs
  have HO : Hid (∀ W, Below w.heap.size w W → Calls Tryz.prog 94 #[.int .i64 k, .string (leafT s)] W fun e w' => e = .returned (.string r) ∧ Below W.heap.size W w') := fun W hb => hof_any W (ht.next hb) k _ (by rw [leafT_size]; omega) r hr
  clear hr ht hs
  generalize leafT s = t at *
  go_enter Tryz.func49, Tryz.ntmps49
  go_wp2_with (first
    | (go_at_call 95; with_reducible refine HL.mono ?_; rintro e w1 ⟨rfl, hb1⟩)
    | (go_at_call 94; with_reducible refine (HO.out _ hb1).mono ?_; rintro e w2 ⟨rfl, hb2⟩))
  go_ret
  exact ⟨rfl, bnext hb1 hb2⟩
set_option maxRecDepth 100000 in
theorem node_any (w : World) (ht : Tb w) (k : Int) (a b : ByteArray) (hs : a.size < 2305843009213693952) (hs2 : b.size < 2305843009213693952) (r : ByteArray) (hr : dg (clk k) (nodeT a b) = r) :
    Calls Tryz.prog 51 #[.int .i64 k, .string a, .string b] w fun e w' => e = .returned (.string r) ∧ Below w.heap.size w w' := by
  have HL := nodet_any w a b hs hs2
  have HO : Hid (∀ W, Below w.heap.size w W → Calls Tryz.prog 94 #[.int .i64 k, .string (nodeT a b)] W fun e w' => e = .returned (.string r) ∧ Below W.heap.size W w') := fun W hb => hof_any W (ht.next hb) k _ (by rw [nodeT_size]; omega) r hr
  clear hr ht hs hs2
  generalize nodeT a b = t at *
  go_enter Tryz.func51, Tryz.ntmps51
  go_wp2_with (first
    | (go_at_call 97; with_reducible refine HL.mono ?_; rintro e w1 ⟨rfl, hb1⟩)
    | (go_at_call 94; with_reducible refine (HO.out _ hb1).mono ?_; rintro e w2 ⟨rfl, hb2⟩))
  go_ret
  exact ⟨rfl, bnext hb1 hb2⟩
def bagL (c : Nat) : List ByteArray → ByteArray
  | [] => ByteArray.empty
  | [p] => p
  | p :: q :: r => dg c (bagT p (bagL c (q :: r)))
theorem bagL_size {c : Nat} (hc : c ≤ 32) {M : Nat} (hM : 32 ≤ M) : ∀ (ss : List ByteArray), (∀ s ∈ ss, s.size ≤ M) → (bagL c ss).size ≤ M
  | [], _ => by simp [bagL]
  | [p], h => h p (by simp)
  | p :: q :: r, _ => by rw [bagL, dg_size hc]; omega
theorem bagL_drop (c : Nat) (ss : List ByteArray) (i : Nat) (h : i + 1 < ss.length) : bagL c (ss.drop i) = dg c (bagT (ss.getD i ByteArray.empty) (bagL c (ss.drop (i + 1)))) := by
  rw [List.drop_eq_getElem_cons (by omega), List.drop_eq_getElem_cons h, bagL, List.getD_eq_getElem?_getD, List.getElem?_eq_getElem (by omega)]
  rfl
theorem bagL_last (c : Nat) (ss : List ByteArray) (h : 0 < ss.length) : bagL c (ss.drop (ss.length - 1)) = ss.getD (ss.length - 1) ByteArray.empty := by
  rw [List.drop_eq_getElem_cons (by omega), show ss.length - 1 + 1 = ss.length by omega, List.drop_length, bagL, List.getD_eq_getElem?_getD, List.getElem?_eq_getElem (by omega)]
  rfl
set_option maxRecDepth 100000 in
theorem bagged_any (w : World) (ht : Tb w) (k : Int) (ao : Option Addr) (b off len cap : Nat) (ss : List ByteArray) (hr : RdS w ao b off len ss) (hsz : ∀ s ∈ ss, s.size ≤ 140737488351232) (hmx : len ≤ 8796093022208) (r : ByteArray) (hq : bagL (clk k) ss = r) :
    Calls Tryz.prog 125 #[.int .i64 k, .slice ao len cap] w fun e w' => e = .returned (.string r) ∧ Below w.heap.size w w' := by
  by_cases h0 : len = 0
  · subst h0
    have : ss = [] := List.length_eq_zero_iff.1 hr.hl
    subst this
    subst hq
    go_enter Tryz.func125, Tryz.ntmps125
    go_wp2
    go_ret
    exact ⟨rfl, Below.refl _ _⟩
  · have hlen : 0 < len := by omega
    obtain rfl := hr.ptr hlen
    obtain ⟨m, rfl⟩ : ∃ m, len = m + 1 := ⟨len - 1, by omega⟩
    have hc := clk_le k
    have hne : ¬ ((m : Int) + 1 = 0) := by omega
    have cm := hr.at (k := m) (by omega)
    have HL : Hid (bagL (clk k) (ss.drop m) = ss.getD m ByteArray.empty) := by
      have := bagL_last (clk k) ss (by rw [hr.hl]; omega)
      rw [hr.hl] at this; exact this
    have HSZ : Hid (∀ d, d = bagL (clk k) ss → True) := fun _ _ => trivial
    have HM : Hid (∀ j, j < m + 1 → (ss.getD j ByteArray.empty).size ≤ 140737488351232) := fun j hj => hsz _ (getD_mem (by rw [hr.hl]; exact hj))
    have HD : Hid (∀ j, (bagL (clk k) (ss.drop j)).size ≤ 140737488351232) := fun j => bagL_size hc (by decide) _ (fun s hs => hsz s (List.mem_of_mem_drop hs))
    have HN : Hid (∀ j, j < m → bagL (clk k) (ss.drop j) = dg (clk k) (bagT (ss.getD j ByteArray.empty) (bagL (clk k) (ss.drop (j + 1))))) := fun j hj => bagL_drop _ _ _ (by rw [hr.hl]; omega)
    have HT : Hid (Tb w) := ht
    have HR : Hid (RdS w (some ⟨b, off, none⟩) b off (m + 1) ss) := hr
    have HQ : Hid (bagL (clk k) (ss.drop 0) = r) := hq
    obtain ⟨d0, hd0⟩ : ∃ d0, ss.getD m ByteArray.empty = d0 := ⟨_, rfl⟩
    rw [hd0] at cm
    have HL2 : Hid (bagL (clk k) (ss.drop m) = d0) := by rw [← hd0]; exact HL
    clear hd0 HL ht hr hq hsz HSZ h0 hlen
    go_enter Tryz.func125, Tryz.ntmps125
    go_wp2
    go_loopg [6, 7] m (fun g x i wr => ∃ (j : Nat) (d : ByteArray), j = g ∧ x = .string d ∧ i = .int .i64 ((j : Int) - 1) ∧ j ≤ m ∧ Hid (bagL (clk k) (ss.drop j) = d) ∧ Below w.heap.size w wr)
    case atStart =>
      go_light
      exact ⟨m, d0, rfl, rfl, rfl, Nat.le_refl _, HL2, Below.refl _ _⟩
    case round =>
      obtain ⟨j, d, hg, rfl, rfl, hj, HE, hb⟩ := hrel
      subst hg
      cases j with
      | zero =>
        have hz : ¬ ((0 : Int) ≤ -1) := by decide
        rw [show ((0 : Nat) : Int) - 1 = -1 from rfl]
        have HF : Hid (d = r) := HE.out.symm.trans HQ.out
        clear HE HN HQ HM HD HR HT cm
        obtain rfl := HF.out
        go_wp2
        go_ret
        exact ⟨rfl, hb⟩
      | succ j =>
        have e1 : ((j + 1 : Nat) : Int) - 1 = (j : Int) := by omega
        have hz : (0 : Int) ≤ (j : Int) := by omega
        have hz2 : (j : Int) < (m : Int) + 1 := by omega
        have hjm : j < m := by omega
        have cj := (HR.out.next hb (Nat.le_refl _)).at (k := j) (by omega)
        have z1 := HM.out j (by omega)
        have z2 := HD.out (j + 1)
        have hn := HN.out j hjm
        rw [HE.out] at z2 hn
        generalize ss.getD j ByteArray.empty = p at *
        have HG := fun W => bagt_any W p d (by omega) (by omega) _ rfl
        obtain ⟨t, ht⟩ : ∃ t, bagT p d = t := ⟨_, rfl⟩
        have zt := bagT_size p d
        rw [ht] at zt
        simp only [ht] at HG hn
        obtain ⟨d', hd'⟩ : ∃ d', dg (clk k) t = d' := ⟨_, rfl⟩
        have HO : Hid (∀ W, Below w.heap.size w W → Calls Tryz.prog 94 #[.int .i64 k, .string t] W fun e w' => e = .returned (.string d') ∧ Below W.heap.size W w') := fun W hb => hof_any W (HT.out.next hb) k t (by omega) d' hd'
        have HE2 : Hid (bagL (clk k) (ss.drop j) = d') := hn.trans hd'
        rw [e1]
        clear HE hn hd' ht zt z1 z2 e1 cm HL2
        go_wp2_with (first
          | (go_at_call 161; with_reducible refine (HG _).mono ?_; rintro e w1 ⟨rfl, hb1⟩; replace hb := bnext hb hb1; clear hb1)
          | (go_at_call 94; with_reducible refine (HO.out _ hb).mono ?_; rintro e w2 ⟨rfl, hb2⟩; replace hb := bnext hb hb2; clear hb2))
        go_roundg j
        case rel =>
          go_light
          exact ⟨j, d', rfl, rfl, by go_num, by omega, HE2.out, hb⟩
        case measure => go_light; omega
set_option maxRecDepth 100000 in
theorem root_any (w : World) (ht : Tb w) (k : Int) (n : Nat) (ao : Option Addr) (b off len cap : Nat) (ss : List ByteArray) (hr : RdS w ao b off len ss) (hsz : ∀ s ∈ ss, s.size ≤ 140737488351232) (hmx : len ≤ 8796093022208) (r : ByteArray) (hq : dg (clk k) (rootT n (bagL (clk k) ss)) = r) :
    Calls Tryz.prog 77 #[.int .i64 k, .int .u64 (n : Int), .slice ao len cap] w fun e w' => e = .returned (.string r) ∧ Below w.heap.size w w' := by
  have hz : (bagL (clk k) ss).size ≤ 140737488351232 := bagL_size (clk_le k) (by decide) _ hsz
  obtain ⟨d, hd⟩ : ∃ d, bagL (clk k) ss = d := ⟨_, rfl⟩
  have HBg := bagged_any w ht k ao b off len cap ss hr hsz hmx d hd
  rw [hd] at hq hz
  obtain ⟨t, hrt⟩ : ∃ t, rootT n d = t := ⟨_, rfl⟩
  have HRt := fun W => roott_any W n d (by omega) t hrt
  have zt := rootT_size n d
  rw [hrt] at hq zt
  have HO : Hid (∀ W, Below w.heap.size w W → Calls Tryz.prog 94 #[.int .i64 k, .string t] W fun e w' => e = .returned (.string r) ∧ Below W.heap.size W w') := fun W hb => hof_any W (ht.next hb) k t (by omega) r hq
  have hb := Below.refl w.heap.size w
  clear hq ht hd hrt zt hz hr hsz hmx
  go_enter Tryz.func77, Tryz.ntmps77
  go_wp2_with (first
    | (go_at_call 125; with_reducible refine HBg.mono ?_; rintro e w1 ⟨rfl, hb1⟩; replace hb := bnext hb hb1; clear hb1)
    | (go_at_call 124; with_reducible refine (HRt _).mono ?_; rintro e w1 ⟨rfl, hb1⟩; replace hb := bnext hb hb1; clear hb1)
    | (go_at_call 94; with_reducible refine (HO.out _ hb).mono ?_; rintro e w2 ⟨rfl, hb2⟩; replace hb := bnext hb hb2; clear hb2))
  go_ret
  exact ⟨rfl, hb⟩
end Go.Proofs.YtipcenbndhnnhaaGreatDoor
namespace Go.Proofs.YtipcenbndhnnhaaGreatDoor
open Go.RowKit
def cntU (p : Nat → Bool) : Nat → Nat
  | 0 => 0
  | n + 1 => cntU p n + (if p n then 0 else 1)
theorem cntU_zero {p : Nat → Bool} {n : Nat} (h : cntU p n = 0) : ∀ k, k < n → p k = true := by
  induction n with
  | zero => intro k hk; omega
  | succ n ih =>
    intro k hk
    simp only [cntU] at h
    by_cases hp : p n = true
    · by_cases e : k = n
      · rw [e]; exact hp
      · exact ih (by omega) k (by omega)
    · rw [if_neg hp] at h; omega
theorem cntU_congr {p q : Nat → Bool} {n : Nat} (h : ∀ k, k < n → p k = q k) : cntU p n = cntU q n := by
  induction n with
  | zero => rfl
  | succ n ih => simp only [cntU]; rw [ih (fun k hk => h k (by omega)), h n (by omega)]
theorem cntU_set {p q : Nat → Bool} {i : Nat} (hp : p i = false) (hq : q i = true) (hne : ∀ k, k ≠ i → q k = p k) : ∀ n, i < n → cntU q n + 1 = cntU p n
  | 0, h => by omega
  | n + 1, h => by
    simp only [cntU]
    by_cases e : i = n
    · subst e
      rw [hp, hq, cntU_congr (fun k hk => hne k (by omega))]
      simp
    · have := cntU_set hp hq hne n (by omega)
      rw [hne n (fun h => e h.symm)]; omega
theorem cntU_none (n : Nat) : cntU (fun _ => false) n = n := by
  induction n with
  | zero => rfl
  | succ n ih => simp only [cntU, ih]; rfl
def StepAll (St : Nat → Oper → Prop) : Nat → List Oper → Prop
  | _, [] => True
  | n, o :: r => St n o ∧ StepAll St (n + 1) r
theorem stepAll_at {St : Nat → Oper → Prop} : ∀ {l : List Oper} {n j : Nat} {o : Oper}, StepAll St n l → l[j]? = some o → St (n + j) o
  | _ :: _, n, 0, o, h, e => by simp at e; subst e; exact h.1
  | _ :: r, n, j + 1, o, h, e => by
    have := stepAll_at (l := r) (j := j) h.2 (by simpa using e)
    rw [show n + (j + 1) = n + 1 + j by omega]; exact this
  | [], _, _, _, _, e => by simp at e
theorem any_mem {xs : Array Edge} {p : Edge → Bool} (h : xs.toList.any p = true) : ∃ e, e ∈ xs ∧ p e = true := by
  obtain ⟨e, he, hp⟩ := List.any_eq_true.1 h
  exact ⟨e, by simpa using he, hp⟩
theorem getD_put (a : Act) (d : Nat) (v : Value) (h : d < a.tmps.size) : (a.put (some d) v).tmps.getD d undef = v := by
  simp [Act.put, h]
theorem getD_put_ne (a : Act) (d t : Nat) (v : Value) (h : d ≠ t) : (a.put (some d) v).tmps.getD t undef = a.tmps.getD t undef := by
  simp only [Act.put]
  by_cases ht : t < a.tmps.size
  · simp [Array.getD, ht, h]
  · simp [Array.getD, ht]
def puts (a : Act) : List Nat → List Value → Act
  | t :: sl, v :: vs => puts (a.put (some t) v) sl vs
  | _, _ => a
theorem puts_defers : ∀ (sl : List Nat) (vs : List Value) (a : Act), (puts a sl vs).defers = a.defers
  | [], _, _ => rfl
  | _ :: _, [], _ => rfl
  | t :: sl, v :: vs, a => by rw [puts, puts_defers sl vs]; rfl
theorem puts_size : ∀ (sl : List Nat) (vs : List Value) (a : Act), (puts a sl vs).tmps.size = a.tmps.size
  | [], _, _ => rfl
  | _ :: _, [], _ => rfl
  | t :: sl, v :: vs, a => by rw [puts, puts_size sl vs]; simp [Act.put]
theorem puts_other : ∀ (sl : List Nat) (vs : List Value) (a : Act) (t : Nat), sl.contains t = false → (puts a sl vs).tmps.getD t undef = a.tmps.getD t undef
  | [], _, _, _, _ => rfl
  | _ :: _, [], _, _, _ => rfl
  | u :: sl, v :: vs, a, t, h => by
    simp only [List.contains_cons, Bool.or_eq_false_iff, beq_eq_false_iff_ne] at h
    rw [puts, puts_other sl vs _ t h.2, getD_put_ne _ _ _ _ (fun e => h.1 e.symm)]
end Go.Proofs.YtipcenbndhnnhaaGreatDoor
namespace Go.Proofs.YtipcenbndhnnhaaGreatDoor
open Go.RowKit
attribute [local go_sem ↓] Go.wp_at_zero Go.wp_at_succ
theorem Tryz.infoS : (Tryz.prog.info? 9).map (fun i => (i.zero, i.size, i.bytes)) = some (some (.string ByteArray.empty), 1, 16) := by kernel_rfl
theorem rds_one (w : World) (s : ByteArray) (hs : s.size ≤ 9223372036854775807) : RdS (w.alloc (.cells #[.string s] 9)) (some ⟨w.heap.size, 0, none⟩) w.heap.size 0 1 [s] :=
  ⟨rfl, fun _ => rfl, range_new w [.string s] 9, fun x hx => by simp at hx; subst hx; exact hs⟩
def OwnS (w : World) (B : Nat) (v : Value) (ss : List ByteArray) : Prop := w.ownsRow B 9 1 v ss.length (ss.map Value.string)
theorem owns_rds {w : World} {B : Nat} {v : Value} {ss : List ByteArray} (h : OwnS w B v ss) (hs : ∀ s ∈ ss, s.size ≤ 9223372036854775807) : ∃ ao b cap, v = .slice ao ss.length cap ∧ RdS w ao b 0 ss.length ss ∧ ss.length ≤ cap ∧ (ao = none → cap = 0) := by
  obtain ⟨h1, h2⟩ := h
  rcases h2 with ⟨hv, h0⟩ | ⟨g, cap, cur, rfl, hg, hh, hc1, hc, hsz, ht⟩
  · have : ss = [] := List.length_eq_zero_iff.1 h0
    subst this
    exact ⟨none, 0, 0, by rw [hv]; rfl, ⟨rfl, fun h => absurd h (Nat.lt_irrefl 0), (fun j v h => by cases h), hs⟩, Nat.le_refl _, fun _ => rfl⟩
  · refine ⟨some ⟨g, 0, none⟩, g, cap, rfl, ⟨rfl, fun _ => rfl, fun j v hj => ?_, hs⟩, hc1, fun h => by cases h⟩
    rw [Nat.zero_add, cell_of_row w g j cur 9 (0, 0) hh]
    rw [← ht, List.getElem?_take] at hj
    split at hj
    · simpa using hj
    · cases hj
theorem wpList_append_S (w : World) {ops : Array Oper} {rest : List Oper} {o : Oper} {a : Act} {Q : Exit → Act → World → Prop}
    (hg : o.guard = none) (s x : Operand) (hop : o.op = Op.call { callee := Callee.builtin Builtin.append, args := #[s, x], argTypes := #[22, 22] })
    (B : Nat) (v : Value) (L : List ByteArray) (hs : a.eval s = v) (hown : OwnS w B v L) (ao : Option Addr) (b off cap : Nat) (M : List ByteArray) (hx : a.eval x = .slice ao M.length cap) (hr : RdS w ao b off M.length M) (hn : ao = none → cap = 0)
    (hlen : L.length + M.length ≤ 8796093022208) (hB : B ≤ w.heap.size)
    (hK : ∀ v' w', OwnS w' B v' (L ++ M) → Below B w w' → wpList Tryz.prog ops Q rest (a.put o.dst v') w') : wpList Tryz.prog ops Q (o :: rest) a w := by
  obtain ⟨i0, hi, hz0, hz1, hz2⟩ := info_parts Tryz.infoS
  have hlt : ∀ k, v.ownBlock = some k → B ≤ k := by
    obtain ⟨_, h2⟩ := hown
    rcases h2 with ⟨rfl, _⟩ | ⟨g, cp, cur, rfl, hg, _⟩
    · intro k hk; cases hk
    · intro k hk; cases hk; exact hg
  cases ao with
  | none =>
    obtain rfl := hn rfl
    have hM : M = [] := by
      cases M with
      | nil => rfl
      | cons m r => exact absurd (hr.ptr (by simp)) (by simp)
    subst hM
    refine wpList_append_own_none hg s x _ hop B 9 i0 1 Tryz.underlying22 hi _ _ _ hs hown hx (hK _ w ?_ (Below.refl _ _))
    rw [List.append_nil]; exact hown
  | some ad =>
    have hnews : ∀ j u, (M.map Value.string)[j]? = some u → w.cell? (ad.add j) = some u := fun j u hu => by
      have hj : j < M.length := by have := (List.getElem?_eq_some_iff.1 hu).1; rwa [List.length_map] at this
      have := Option.some.inj (hr.ptr (by omega))
      subst this
      rw [Addr.add_mid]; exact hr.rng j u hu
    refine wpList_append_own w hg s x _ hop B 9 i0 (.string ByteArray.empty) 1 16 Tryz.underlying22 hi hz0 hz1 hz2 rfl (by decide) _ _ _ hs hown ad M.length cap (M.map Value.string) hx (by simp) hnews (by intro u hu; obtain ⟨y, _, rfl⟩ := List.mem_map.1 hu; rfl) (by unfold maxLen; omega) (by omega) hB ?_
    intro v' w' h1 h2 _
    refine hK v' w' ?_ ((Below.refl _ _).grown h2 hB hlt)
    rw [OwnS, List.length_append, List.map_append]; exact h1
theorem own_al {w : World} {B : Nat} {v : Value} {l : List ByteArray} (h : OwnS w B v l) (o : Obj) : OwnS (w.alloc o) B v l := by
  obtain ⟨h1, h2⟩ := h
  refine ⟨h1, ?_⟩
  rcases h2 with h2 | ⟨g, cap, cur, rfl, hg, hh, r⟩
  · exact .inl h2
  · exact .inr ⟨g, cap, cur, rfl, hg, by rw [Below.heap_alloc _ _ _ (Array.getElem?_eq_some_iff.1 hh).1]; exact hh, r⟩
theorem own_next {w W : World} {B B' : Nat} {v : Value} {l : List ByteArray} (h : OwnS w B v l) (hb : Below B' w W) (hB : w.heap.size ≤ B') : OwnS W B v l := by
  obtain ⟨h1, h2⟩ := h
  refine ⟨h1, ?_⟩
  rcases h2 with h2 | ⟨g, cap, cur, rfl, hg, hh, r⟩
  · exact .inl h2
  · exact .inr ⟨g, cap, cur, rfl, hg, by rw [hb.block g (Nat.lt_of_lt_of_le (Array.getElem?_eq_some_iff.1 hh).1 hB)]; exact hh, r⟩
theorem own_form {w : World} {B : Nat} {v : Value} {l : List ByteArray} (h : OwnS w B v l) (h0 : 0 < l.length) : ∃ g cap, v = .slice (some ⟨g, 0, none⟩) l.length cap ∧ B ≤ g ∧ l.length ≤ cap ∧ cap ≤ maxLen := by
  obtain ⟨h1, h2⟩ := h
  rcases h2 with ⟨_, h2⟩ | ⟨g, cap, cur, hv, hg, _, hc, hm, _⟩
  · omega
  · exact ⟨g, cap, hv, hg, hc, hm⟩
theorem own_cell {w : World} {B g n cap : Nat} {l : List ByteArray} (h : OwnS w B (.slice (some ⟨g, 0, none⟩) n cap) l) {j : Nat} (hj : j < l.length) : w.cell? ⟨g, j, none⟩ = some (.string (l.getD j ByteArray.empty)) ∧ w.frozen? ⟨g, j, none⟩ = false := by
  obtain ⟨h1, h2⟩ := h
  rcases h2 with ⟨h2, _⟩ | ⟨g', cap', cur, hv, hg, hh, hc, hm, hz, ht⟩
  · cases h2
  · obtain ⟨e1, e2, e3⟩ := Value.slice.inj hv
    cases e1
    refine ⟨?_, frozen_of_row w g j cur 9 hh⟩
    rw [cell_of_row w g j cur 9 (0, 0) hh]
    have : (cur.toList.take (l.length * 1))[j]? = some (.string (l.getD j ByteArray.empty)) := by
      rw [ht]; simp [List.getElem?_eq_getElem hj, List.getD_eq_getElem?_getD]
    rw [List.getElem?_take_of_lt (by omega)] at this
    simpa using this
theorem owns_nil (w : World) (B : Nat) : OwnS w B (.slice none 0 0) [] := ⟨rfl, .inl ⟨rfl, rfl⟩⟩
end Go.Proofs.YtipcenbndhnnhaaGreatDoor
namespace Go.Proofs.YtipcenbndhnnhaaGreatDoor
open Go.RowKit
def nd (c : Nat) (L : List ByteArray) : Nat → Nat → ByteArray
  | 0, i => dg c (leafT (L.getD i ByteArray.empty))
  | h + 1, i => dg c (nodeT (nd c L h (2 * i)) (nd c L h (2 * i + 1)))
theorem nd_size {c : Nat} (hc : c ≤ 32) (L : List ByteArray) (h i : Nat) : (nd c L h i).size = c := by
  cases h with
  | zero => rw [nd, dg_size hc]
  | succ h => rw [nd, dg_size hc]
theorem nd_alike {c : Nat} {L M : List ByteArray} : ∀ (h i j : Nat), (∀ t, t < 2 ^ h → L.getD (i * 2 ^ h + t) ByteArray.empty = M.getD (j * 2 ^ h + t) ByteArray.empty) → nd c L h i = nd c M h j
  | 0, i, j, e => by
    have := e 0 (by decide)
    simp only [Nat.pow_zero, Nat.mul_one, Nat.add_zero] at this
    rw [nd, nd, this]
  | h + 1, i, j, e => by
    have p : 2 ^ (h + 1) = 2 * 2 ^ h := by rw [Nat.pow_succ]; omega
    rw [nd, nd, nd_alike h (2 * i) (2 * j), nd_alike h (2 * i + 1) (2 * j + 1)]
    · intro t ht
      have := e (2 ^ h + t) (by omega)
      rw [p] at this
      rw [show (2 * i + 1) * 2 ^ h + t = i * (2 * 2 ^ h) + (2 ^ h + t) by rw [Nat.add_mul, Nat.mul_assoc, Nat.mul_left_comm]; omega, show (2 * j + 1) * 2 ^ h + t = j * (2 * 2 ^ h) + (2 ^ h + t) by rw [Nat.add_mul, Nat.mul_assoc, Nat.mul_left_comm]; omega]
      exact this
    · intro t ht
      have := e t (by omega)
      rw [p] at this
      rw [show 2 * i * 2 ^ h + t = i * (2 * 2 ^ h) + t by rw [Nat.mul_assoc, Nat.mul_left_comm], show 2 * j * 2 ^ h + t = j * (2 * 2 ^ h) + t by rw [Nat.mul_assoc, Nat.mul_left_comm]]
      exact this
theorem getD_cut (L : List ByteArray) (a n t : Nat) (h : t < n) : ((L.drop a).take n).getD t ByteArray.empty = L.getD (a + t) ByteArray.empty := by
  rw [List.getD_eq_getElem?_getD, List.getD_eq_getElem?_getD, List.getElem?_take_of_lt h, List.getElem?_drop]
theorem nd_cut (c : Nat) (L : List ByteArray) (h i : Nat) : nd c ((L.drop (i * 2 ^ h)).take (2 ^ h)) h 0 = nd c L h i :=
  nd_alike h 0 i fun t ht => by rw [Nat.zero_mul, Nat.zero_add, getD_cut _ _ _ _ ht]
def pks (c : Nat) (L : List ByteArray) : Nat → List ByteArray
  | 0 => []
  | h + 1 => (if L.length / 2 ^ h % 2 = 1 then [nd c L h (L.length / 2 ^ h - 1)] else []) ++ pks c L h
theorem pks_one {c : Nat} {L : List ByteArray} {h : Nat} (e : L.length / 2 ^ h % 2 = 1) : pks c L (h + 1) = nd c L h (L.length / 2 ^ h - 1) :: pks c L h := by rw [pks, if_pos e]; rfl
theorem pks_none {c : Nat} {L : List ByteArray} {h : Nat} (e : L.length / 2 ^ h % 2 ≠ 1) : pks c L (h + 1) = pks c L h := by rw [pks, if_neg e]; rfl
theorem pks_len (c : Nat) (L : List ByteArray) : ∀ h, (pks c L h).length ≤ h
  | 0 => Nat.le_refl _
  | h + 1 => by
    have := pks_len c L h
    by_cases e : L.length / 2 ^ h % 2 = 1
    · rw [pks_one e, List.length_cons]; omega
    · rw [pks_none e]; omega
theorem pks_size {c : Nat} (hc : c ≤ 32) (L : List ByteArray) : ∀ h, ∀ s ∈ pks c L h, s.size = c
  | 0 => by intro s hs; cases hs
  | h + 1 => by
    intro s hs
    have := pks_size hc L h
    by_cases e : L.length / 2 ^ h % 2 = 1
    · rw [pks_one e] at hs
      rcases List.mem_cons.1 hs with rfl | hs
      · exact nd_size hc _ _ _
      · exact this s hs
    · rw [pks_none e] at hs
      exact this s hs
theorem below_two {n h : Nat} (e : n < 2 ^ h) : n / 2 ^ h % 2 ≠ 1 := by rw [Nat.div_eq_of_lt e]; decide
theorem bit_mod {n g s : Nat} (h : s < g) : n % 2 ^ g / 2 ^ s % 2 = n / 2 ^ s % 2 := by
  obtain ⟨d, rfl⟩ : ∃ d, g = s + (d + 1) := ⟨g - s - 1, by omega⟩
  rw [Nat.pow_add, Nat.mod_mul_right_div_self, Nat.pow_succ, Nat.mul_comm, Nat.mod_mul_right_mod]
theorem top_bit {n g s : Nat} (h1 : 2 ^ s ≤ n % 2 ^ g) (h2 : n % 2 ^ g < 2 ^ (s + 1)) : s < g ∧ n / 2 ^ s % 2 = 1 ∧ n % 2 ^ g = n % 2 ^ (s + 1) ∧ n % 2 ^ (s + 1) = 2 ^ s + n % 2 ^ s := by
  have hsg : s < g := by
    apply Nat.lt_of_not_le
    intro hle
    have := Nat.pow_le_pow_right (n := 2) (by decide) hle
    have := Nat.mod_lt n (Nat.two_pow_pos g)
    omega
  have e1 : n % 2 ^ g = n % 2 ^ (s + 1) := by
    have := Nat.mod_mod_of_dvd n (Nat.pow_dvd_pow 2 (show s + 1 ≤ g by omega))
    rw [← this, Nat.mod_eq_of_lt h2]
  rw [e1] at h1 h2
  have e2 : n / 2 ^ s % 2 = 1 := by
    rw [← bit_mod (show s < s + 1 by omega)]
    have : n % 2 ^ (s + 1) / 2 ^ s = 1 := by
      have hp : 2 ^ (s + 1) = 2 ^ s * 2 := Nat.pow_succ ..
      rw [Nat.div_eq_iff (Nat.two_pow_pos s)]
      generalize n % 2 ^ (s + 1) = m at *
      omega
    rw [this]
  refine ⟨hsg, e2, e1, ?_⟩
  rw [Nat.pow_succ, Nat.mod_mul, e2]
  omega
theorem mount_at {n s : Nat} (e : n / 2 ^ s % 2 = 1) : (n / 2 ^ s - 1) * 2 ^ s = n - n % 2 ^ (s + 1) ∧ 1 ≤ n / 2 ^ s := by
  have h1 : 1 ≤ n / 2 ^ s := by
    generalize n / 2 ^ s = x at *
    omega
  refine ⟨?_, h1⟩
  have := Nat.div_add_mod n (2 ^ s)
  rw [Nat.pow_succ, Nat.mod_mul, e, Nat.sub_mul, Nat.mul_comm (n / 2 ^ s)]
  omega
theorem within {n h k : Nat} : k < n / 2 ^ h ↔ (k + 1) * 2 ^ h ≤ n := by
  rw [Nat.lt_iff_add_one_le, Nat.le_div_iff_mul_le (Nat.two_pow_pos h)]
def rowN (c : Nat) (L : List ByteArray) (h m : Nat) : List ByteArray := (List.range m).map (nd c L h)
theorem rowN_len (c : Nat) (L : List ByteArray) (h m : Nat) : (rowN c L h m).length = m := by simp [rowN]
theorem rowN_at (c : Nat) (L : List ByteArray) (h m : Nat) {j : Nat} (hj : j < m) : (rowN c L h m).getD j ByteArray.empty = nd c L h j := by
  simp [rowN, List.getD_eq_getElem?_getD, hj]
theorem rowN_more (c : Nat) (L : List ByteArray) (h m : Nat) : rowN c L h m ++ [nd c L h m] = rowN c L h (m + 1) := by
  simp [rowN, List.range_succ]
end Go.Proofs.YtipcenbndhnnhaaGreatDoor
namespace Go.Proofs.YtipcenbndhnnhaaGreatDoor
open Go.RowKit
attribute [local go_sem ↓] Go.wp_at_zero Go.wp_at_succ
theorem wrap_u (x : Int) (h0 : 0 ≤ x) (h1 : x < 18446744073709551616) : IntKind.u64.wrap x = x := by
  simp [IntKind.wrap, IntKind.signed, IntKind.bits]; omega
end Go.Proofs.YtipcenbndhnnhaaGreatDoor
namespace Go.Proofs.YtipcenbndhnnhaaGreatDoor
open Go.RowKit
attribute [local go_sem ↓] Go.wp_at_zero Go.wp_at_succ
theorem RdS.take {w : World} {ao : Option Addr} {b off len : Nat} {ss : List ByteArray} (h : RdS w ao b off len ss) {n : Nat} (hn : n ≤ len) : RdS w ao b off n (ss.take n) := by
  refine ⟨by rw [List.length_take, h.hl]; omega, fun h0 => h.ptr (by omega), fun j v hv => ?_, fun s hs => h.sz s (List.mem_of_mem_take hs)⟩
  rw [List.map_take, List.getElem?_take] at hv
  split at hv
  · exact h.rng j v hv
  · cases hv
theorem small {c : Nat} (hc : c ≤ 32) {L : List ByteArray} {h : Nat} : ∀ s ∈ pks c L h, s.size ≤ 140737488351232 := fun s hs => by rw [pks_size hc L h s hs]; omega
theorem chk_ok {k : Int} (h1 : 1 ≤ k) (h2 : k ≤ 32) : chk k = 0 := by rw [chk, if_neg (by omega)]
structure Rt (w : World) (g n : Nat) (d : ByteArray) : Prop where
  c0 : w.cell? ⟨g, 0, none⟩ = some (.int .u64 (n : Int))
  c1 : w.cell? ⟨g, 1, none⟩ = some (.string d)
  f0 : w.frozen? ⟨g, 0, none⟩ = false
  f1 : w.frozen? ⟨g, 1, none⟩ = false
theorem Rt.below {w w' : World} {B g n : Nat} {d : ByteArray} (t : Rt w g n d) (hb : Below B w w') (hg : g < B) : Rt w' g n d :=
  ⟨(hb.cell (p := ⟨g, 0, none⟩) hg).trans t.c0, (hb.cell (p := ⟨g, 1, none⟩) hg).trans t.c1, (hb.frozen (p := ⟨g, 0, none⟩) hg).trans t.f0, (hb.frozen (p := ⟨g, 1, none⟩) hg).trans t.f1⟩
theorem rt_new (w : World) (n : Nat) (d : ByteArray) (t : Nat) : Rt (w.alloc (.cells #[.int .u64 (n : Int), .string d] t)) w.heap.size n d := by
  refine ⟨?_, ?_, ?_, ?_⟩ <;> simp
def rtD (c : Nat) (L : List ByteArray) (n : Nat) : ByteArray := dg c (rootT n (bagL c (pks c (L.take n) 41)))
end Go.Proofs.YtipcenbndhnnhaaGreatDoor
namespace Go.Proofs.YtipcenbndhnnhaaGreatDoor.Pl
open Go.RowKit
attribute [local go_sem ↓] Go.wp_at_zero Go.wp_at_succ
theorem below_drewN {B : Nat} {a w : World} (h : Below B a w) (n : Nat) : Below B a (w.drewN n) := ⟨h.os, h.tape, h.output, h.size, h.block⟩
end Go.Proofs.YtipcenbndhnnhaaGreatDoor.Pl
namespace Go.Proofs.YtipcenbndhnnhaaGreatDoor.Pl
open Go.RowKit
attribute [local go_sem ↓] Go.wp_at_zero Go.wp_at_succ
structure Two (w : World) (g : Nat) (h : Int) (k : Nat) : Prop where
  c0 : w.cell? ⟨g, 0, none⟩ = some (.int .i64 h)
  c1 : w.cell? ⟨g, 1, none⟩ = some (.int .u64 (k : Int))
  f0 : w.frozen? ⟨g, 0, none⟩ = false
  f1 : w.frozen? ⟨g, 1, none⟩ = false
theorem Two.below {w w' : World} {B g k : Nat} {h : Int} (t : Two w g h k) (hb : Below B w w') (hg : g < B) : Two w' g h k :=
  ⟨(hb.cell (p := ⟨g, 0, none⟩) hg).trans t.c0, (hb.cell (p := ⟨g, 1, none⟩) hg).trans t.c1, (hb.frozen (p := ⟨g, 0, none⟩) hg).trans t.f0, (hb.frozen (p := ⟨g, 1, none⟩) hg).trans t.f1⟩
theorem Two.set {w : World} {g k : Nat} {h : Int} (t : Two w g h k) (h' : Int) (k' : Nat) : Two ((w.setCell ⟨g, 0, none⟩ (.int .i64 h')).setCell ⟨g, 1, none⟩ (.int .u64 (k' : Int))) g h' k' := by
  refine ⟨?_, ?_, ?_, ?_⟩
  · exact (World.cell?_setCell_other _ _ _ _ (by simp)).trans (World.cell?_setCell_same _ _ _ t.c0)
  · exact World.cell?_setCell_same _ _ _ ((World.cell?_setCell_other _ _ _ _ (by simp)).trans t.c1)
  · exact (World.frozen?_setCell _ _ _ _).trans ((World.frozen?_setCell _ _ _ _).trans t.f0)
  · exact (World.frozen?_setCell _ _ _ _).trans ((World.frozen?_setCell _ _ _ _).trans t.f1)
theorem Two.other {w : World} {g k b : Nat} {h : Int} (t : Two w g h k) (hne : g ≠ b) (i : Nat) (v : Value) : Two (w.setCell ⟨b, i, none⟩ v) g h k := by
  have hn : ∀ o, (⟨b, i, none⟩ : Addr) ≠ ⟨g, o, none⟩ := fun o e => hne (by have := congrArg Addr.block e; simpa using this.symm)
  refine ⟨?_, ?_, (World.frozen?_setCell _ _ _ _).trans t.f0, (World.frozen?_setCell _ _ _ _).trans t.f1⟩
  · exact (World.cell?_setCell_other _ _ _ _ (hn 0)).trans t.c0
  · exact (World.cell?_setCell_other _ _ _ _ (hn 1)).trans t.c1
end Go.Proofs.YtipcenbndhnnhaaGreatDoor.Pl
