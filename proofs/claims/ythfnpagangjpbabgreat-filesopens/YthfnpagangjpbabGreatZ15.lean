/-
  DKd, DLawA, DLawB, DAlive, DAlive2, DPlain, DTwo. Own work.
-/
import Derived.Test.YthfnpagangjpbabGreatZ12
import Derived.Test.YthfnpagangjpbabGreatZ14
import Derived.BigQuiet
/-
  Appends whose end is known. Own work.
-/
namespace Go.Proofs.YthfnpagangjpbabGreat
open Go.RowKit
/-- No list at all. -/
abbrev dv : Value := .slice none 0 0
/-- What is left of a run that has come to its end. -/
def resO (r : Result Value) : Option (Value × World) :=
  match r with
  | .ok v w => some (v, w)
  | .halt _ _ => none
theorem resO_ok (r : Result Value) (hs : (resO r).isSome = true) (d : Value × World) : r = .ok ((resO r).getD d).1 ((resO r).getD d).2 := by
  cases r with
  | ok v w => rfl
  | halt x w => cases hs
/-- What an append comes to. -/
noncomputable def appR (t ty : Nat) (v u : Value) (w : World) : Option (Value × World) := resO ((Builtin.append_ #[t, t] ty #[v, u]).run Tryz.prog w)
theorem appR_of {t ty : Nat} {v u v' : Value} {w w' : World} (h : (Builtin.append_ #[t, t] ty #[v, u]).run Tryz.prog w = .ok v' w') : appR t ty v u w = some (v', w') := congrArg resO h
/-- An append that is known to come to its end is not opened. -/
theorem run_appR (t ty : Nat) (v u : Value) (w : World) (hs : (appR t ty v u w).isSome = true) : (Builtin.append_ #[t, t] ty #[v, u]).run Tryz.prog w = .ok ((appR t ty v u w).getD (dv, w)).1 ((appR t ty v u w).getD (dv, w)).2 := resO_ok _ hs (dv, w)
theorem exec_appR (ρ : Operand → Value) (d : Option Tmp) (s x : Operand) (t ty : Nat) (ps : String) (af : Array Edge) (gd : Option (Nat × Bool)) (w : World) (hs : (appR t ty (ρ s) (ρ x) w).isSome = true) :
    (execOp ρ { dst := d, op := Op.call { callee := Callee.builtin Builtin.append, args := #[s, x], argTypes := #[t, t] }, type := ty, pos := ps, after := af, guard := gd }).run Tryz.prog w = .ok (.value ((appR t ty (ρ s) (ρ x) w).getD (dv, w)).1) ((appR t ty (ρ s) (ρ x) w).getD (dv, w)).2 := by
  have hrun := run_appR t ty (ρ s) (ρ x) w hs
  generalize (appR t ty (ρ s) (ρ x) w).getD (dv, w) = r at *
  simp [execOp, resolve, invoke, builtin, hrun, Result.andThen]
/-- Cells that can be read. -/
def RdC (w : World) (u : Value) (m : Nat) (news : List Value) : Prop :=
  ∃ ao cap, u = .slice ao m cap ∧ (ao = none → m = 0 ∧ cap = 0) ∧ ∀ ad, ao = some ad → ∀ j c, news[j]? = some c → w.cell? (ad.add j) = some c
theorem run_all (w : World) (t ty e B size bytes : Nat) (i : TypeInfo) (z : Value) (h1 : Tryz.prog.underlying t = some (.slice e)) (h2 : Tryz.prog.info? e = some i) (h3 : i.zero = some z) (h4 : i.size = size) (h5 : i.bytes = bytes) (h6 : z.cells.size = size) (h7 : 0 < size)
    (v : Value) (n : Nat) (xs : List Value) (hown : w.ownsRow B e size v n xs) (u : Value) (m : Nat) (news : List Value) (hr : RdC w u m news) (hn : news.length = m * size) (h1c : ∀ u ∈ news, u.oneCell' = true)
    (b1 : n + m ≤ maxLen) (b2 : (n + m) * bytes ≤ 140737488355328) (hB : B ≤ w.heap.size) :
    ∃ v' w', (Builtin.append_ #[t, t] ty #[v, u]).run Tryz.prog w = .ok v' w' ∧ w'.ownsRow B e size v' (n + m) (xs ++ news) ∧ w.grownBy w' v.ownBlock := by
  obtain ⟨ao, cap, rfl, hnone, hcells⟩ := hr
  cases ao with
  | none =>
    obtain ⟨rfl, rfl⟩ := hnone rfl
    have hnil : news = [] := List.length_eq_zero_iff.1 (by rw [hn]; omega)
    subst hnil
    exact ⟨v, w, run_append_owned_none (P := Tryz.prog) (w := w) B t ty e i size h1 h2 v n xs hown, by simpa using hown, World.grownBy.refl w _⟩
  | some ad =>
    obtain ⟨v', w', q1, q2, q3, _⟩ := run_append_own (P := Tryz.prog) w B t ty e i z size bytes h1 h2 h3 h4 h5 h6 h7 v n xs hown ad m cap news hn (hcells ad rfl) h1c b1 b2 hB
    exact ⟨v', w', q1, q2, q3⟩
end Go.Proofs.YthfnpagangjpbabGreat
/-
  What the laws have of their own. Own work.
-/
namespace Go.Proofs.YthfnpagangjpbabGreat
open Go.RowKit
set_option maxRecDepth 100000 in
set_option maxHeartbeats 1000000 in
theorem same_yes (w : World) (l : List (List UInt8 × List UInt8)) (a1 : Option Addr) (b1 o1 c1 : Nat) (h1 : RdF w a1 b1 o1 l) (a2 : Option Addr) (b2 o2 c2 : Nat) (h2 : RdF w a2 b2 o2 l) (hl : l.length ≤ 4611686018427387904) :
    Calls Tryz.prog 46 #[.slice a1 l.length c1, .slice a2 l.length c2] w fun e w' => e = .returned (.bool true) ∧ Below w.heap.size w w' := by
  obtain ⟨n, hn⟩ : ∃ n, l.length = n := ⟨_, rfl⟩
  have HH : Hid (RdF w a1 b1 o1 l ∧ RdF w a2 b2 o2 l ∧ l.length = n ∧ n ≤ 4611686018427387904) := ⟨h1, h2, hn, by omega⟩
  rw [hn]
  clear h1 h2 hl hn
  go_enter Tryz.func46, Tryz.ntmps46
  go_wp2
  go_loopg [5] n (fun g x wr => ∃ j : Nat, j ≤ n ∧ g = n - j ∧ x = .int .i64 (j : Int) ∧ Below w.heap.size w wr)
  case atStart =>
    go_light
    exact ⟨0, Nat.zero_le _, rfl, rfl, Below.refl _ _⟩
  case round =>
    obtain ⟨j, hj, rfl, rfl, hb⟩ := hrel
    have HB := hide hb
    by_cases hlt : j < n
    · have hz : (j : Int) < (n : Int) := by omega
      have hz0 : (0 : Int) ≤ (j : Int) := Int.natCast_nonneg _
      obtain ⟨q1, q2, q3, q4⟩ := HH.out
      have r1 := q1.next hb
      have r2 := q2.next hb
      obtain rfl := r1.ptr (by omega)
      obtain rfl := r2.ptr (by omega)
      have x1 := r1.c0 j (by omega)
      have x2 := r1.c1 j (by omega)
      have x3 := r2.c0 j (by omega)
      have x4 := r2.c1 j (by omega)
      generalize l.getD j ([], []) = v at *
      obtain ⟨nm, hnm⟩ : ∃ nm : ByteArray, (⟨v.1.toArray⟩ : ByteArray) = nm := ⟨_, rfl⟩
      obtain ⟨dt, hdt⟩ : ∃ dt : ByteArray, (⟨v.2.toArray⟩ : ByteArray) = dt := ⟨_, rfl⟩
      rw [hnm] at x1 x3
      rw [hdt] at x2 x4
      have hw : IntKind.i64.wrap ((j : Int) + 1) = (j : Int) + 1 := by rw [IntKind.wrap_i64]; omega
      clear q1 q2 q3 r1 r2 hb hnm hdt
      go_upto_region 6 with (fail)
      go_quiet (fail)
      go_wp2
      go_roundg (n - (j + 1))
      case rel =>
        go_light
        exact ⟨j + 1, by omega, rfl, by go_num, below_drewN HB.out _⟩
      case measure => go_light; omega
    · obtain rfl : j = n := by omega
      have hz : ¬ ((j : Int) < (j : Int)) := by omega
      clear hb hlt
      go_wp2
      go_ret
      exact ⟨rfl, HB.out⟩
/-- bent. -/
def bentV (n : Int) (m : Nat) : Nat := ((n % 18446744073709551616).toNat) % (m + 1)
theorem bentV_le (n : Int) (m : Nat) : bentV n m ≤ m := by
  exact Nat.lt_succ_iff.1 (Nat.mod_lt _ (Nat.succ_pos m))
theorem ba_take (s : ByteArray) (n : Nat) : s.extract 0 n = ⟨(s.data.toList.take n).toArray⟩ := by
  apply ByteArray.ext
  apply Array.ext'
  simp [ByteArray.data_extract, Array.toList_extract, List.extract]
end Go.Proofs.YthfnpagangjpbabGreat
/-
  The laws' act. Own work.
-/
namespace Go.Proofs.YthfnpagangjpbabGreat
open Go.RowKit
/-- An Op. -/
structure OpV where
  kind : Int
  which : Int
  name : ByteArray
  data : ByteArray
  at_ : Int
  n : Int
  ka : Option Addr
  kc : Nat
  kb : Nat
  ko : Nat
  keep : List Bool
/-- Its value. -/
def OpV.val (o : OpV) : Value := .agg #[.int .i64 o.kind, .int .i64 o.which, .string o.name, .string o.data, .int .i64 o.at_, .int .i64 o.n, .slice o.ka o.keep.length o.kc]
/-- Its cells. -/
def OpV.cells (o : OpV) : Array Value := #[.int .i64 o.kind, .int .i64 o.which, .string o.name, .string o.data, .int .i64 o.at_, .int .i64 o.n, .slice o.ka o.keep.length o.kc]
/-- act. -/
def actO (D : DV) (kind : Int) (s : List UInt8) (x : Int) (t : List UInt8) : DV × Int :=
  if kind = 1 then wrD D s x (t.take 300) else if kind = 2 then cutD D s x else synD D s
section
variable {p : Nat} {S : Nat → Prop} {D : DV}
theorem Mvd.next {w w1 w' : World} {D' : DV} (hb : Below w.heap.size w w1) (h : Mvd w1 w' p S D') : Mvd w w' p S D' := by
  obtain ⟨S', h1, h2, h3⟩ := h
  exact ⟨S', h1, fun x hx => (h2 x hx).imp id (fun q => Nat.le_trans hb.size q), (Upo.of hb).trans h3 (fun _ _ q => q)⟩
end
end Go.Proofs.YthfnpagangjpbabGreat
/-
  The laws' alive. Own work.
-/
namespace Go.Proofs.YthfnpagangjpbabGreat
open Go.RowKit
/-- A disk that was made since w. -/
def Nw (w W : World) (p : Nat) (D : DV) : Prop := ∃ S, Dsk W p S D ∧ (∀ x, S x → w.heap.size ≤ x) ∧ Below w.heap.size w W
theorem upo_below {w W W' : World} {S : Nat → Prop} (h : Below w.heap.size w W) (hS : ∀ x, S x → w.heap.size ≤ x) (hu : Upo S W W') : Below w.heap.size w W' :=
  ⟨hu.os.trans h.os, hu.tape.trans h.tape, hu.output.trans h.output, Nat.le_trans h.size hu.size, fun b hb => (hu.block b (by have := h.size; omega) (fun q => by have := hS b q; omega)).trans (h.block b hb)⟩
section
variable {w W : World} {p : Nat} {D D' : DV} {r : Int}
theorem Nw.below (h : Nw w W p D) : Below w.heap.size w W := by obtain ⟨S, _, _, h⟩ := h; exact h
theorem Nw.next {W' : World} (h : Nw w W p D) (hb : Below W.heap.size W W') : Nw w W' p D := by
  obtain ⟨S, h1, h2, h3⟩ := h
  exact ⟨S, h1.next hb, h2, bnext h3 hb⟩
theorem Nw.mvd {W' : World} {S : Nat → Prop} (h3 : Below w.heap.size w W) (h2 : ∀ x, S x → w.heap.size ≤ x) (hm : Mvd W W' p S D') : Nw w W' p D' := by
  obtain ⟨S', q1, q2, q3⟩ := hm
  exact ⟨S', q1, fun x hx => (q2 x hx).elim (h2 x) (fun e => by have := h3.size; omega), upo_below h3 h2 q3⟩
/-- Room for one act more. -/
def Roomy (D : DV) : Prop := D.acts + 1 ≤ 4611686018427387904 ∧ D.L.length < 1099511627776 ∧ D.free ≤ 4611686018427387904
theorem Dsk.small {S : Nat → Prop} (h : Dsk w p S D) (hr : Roomy D) (s : List UInt8) : D.down = false → D.free + (fget D.L s).now.length ≤ 9223372036854775807 := fun _ => by
  obtain ⟨m, R, ka, kb, ko, kc, h1, h2⟩ := h
  have : (fget D.L s).now.length ≤ 268435456 := by
    by_cases hm : s ∈ keys D.L
    · exact (h1.fil s hm (by simp)).b1
    · rw [fget_none hm]; exact Nat.zero_le _
  have := hr.2.2
  omega
theorem Nw.write (h : Nw w W p D) (hr : Roomy D) (nm dt : ByteArray) (hs : nm.size ≤ maxLen) (off : Int) (ho1 : -9223372036854775808 ≤ off) (ho2 : off ≤ 9223372036854775807) (ht : dt.size ≤ 140737488355328) (he : wrD D nm.data.toList off dt.data.toList = (D', r)) :
    Calls Tryz.prog 107 #[.pointer (some ⟨p, 0, none⟩), .string nm, .int .i64 off, .string dt] W fun e w' => e = .returned (.int .i64 r) ∧ Nw w w' p D' := by
  obtain ⟨S, h1, h2, h3⟩ := h
  have := h1.write nm dt hs off ho1 ho2 ht hr.1 hr.2.1 (h1.small hr _)
  rw [he] at this
  exact this.mono fun e w' q => ⟨q.1, Nw.mvd h3 h2 q.2⟩
theorem Nw.cut (h : Nw w W p D) (hr : Roomy D) (nm : ByteArray) (hs : nm.size ≤ maxLen) (off : Int) (ho1 : -9223372036854775808 ≤ off) (ho2 : off ≤ 9223372036854775807) (he : cutD D nm.data.toList off = (D', r)) :
    Calls Tryz.prog 101 #[.pointer (some ⟨p, 0, none⟩), .string nm, .int .i64 off] W fun e w' => e = .returned (.int .i64 r) ∧ Nw w w' p D' := by
  obtain ⟨S, h1, h2, h3⟩ := h
  have := h1.cut nm hs off ho1 ho2 hr.1 hr.2.1 (h1.small hr _)
  rw [he] at this
  exact this.mono fun e w' q => ⟨q.1, Nw.mvd h3 h2 q.2⟩
theorem Nw.sync (h : Nw w W p D) (hr : Roomy D) (nm : ByteArray) (hs : nm.size ≤ maxLen) (he : synD D nm.data.toList = (D', r)) :
    Calls Tryz.prog 64 #[.pointer (some ⟨p, 0, none⟩), .string nm] W fun e w' => e = .returned (.int .i64 r) ∧ Nw w w' p D' := by
  obtain ⟨S, h1, h2, h3⟩ := h
  have := h1.sync nm hs hr.1 hr.2.1 (h1.small hr _)
  rw [he] at this
  exact this.mono fun e w' q => ⟨q.1, Nw.mvd h3 h2 q.2⟩
theorem Nw.read (h : Nw w W p D) (nm : ByteArray) (hs : nm.size ≤ maxLen) (off q : Int) (ho1 : -9223372036854775808 ≤ off) (ho2 : off ≤ 9223372036854775807) (hq1 : -9223372036854775808 ≤ q) (hq2 : q ≤ 9223372036854775807) {t : List UInt8} {T : ByteArray} (he : rdD D nm.data.toList off q = (t, r)) (hT : (⟨t.toArray⟩ : ByteArray) = T) :
    Calls Tryz.prog 77 #[.pointer (some ⟨p, 0, none⟩), .string nm, .int .i64 off, .int .i64 q] W fun e w' => e = .returned (.tuple #[.string T, .int .i64 r]) ∧ Nw w w' p D := by
  obtain ⟨S, h1, h2, h3⟩ := h
  have := h1.read nm hs off q ho1 ho2 hq1 hq2
  rw [he] at this
  exact this.mono fun e w' q => ⟨by rw [q.1, hT], S, h1.next q.2, h2, bnext h3 q.2⟩
theorem Nw.size (h : Nw w W p D) (nm : ByteArray) (hs : nm.size ≤ maxLen) {n : Int} (he : (sizD D nm.data.toList : Int) = n) :
    Calls Tryz.prog 98 #[.pointer (some ⟨p, 0, none⟩), .string nm] W fun e w' => e = .returned (.int .i64 n) ∧ Nw w w' p D := by
  obtain ⟨S, h1, h2, h3⟩ := h
  rw [← he]
  exact (h1.size nm hs).mono fun e w' q => ⟨q.1, S, by rw [q.2]; exact h1, h2, by rw [q.2]; exact h3⟩
theorem Nw.acts (h : Nw w W p D) {n : Int} (he : (D.acts : Int) = n) :
    Calls Tryz.prog 21 #[.pointer (some ⟨p, 0, none⟩)] W fun e w' => e = .returned (.int .i64 n) ∧ Nw w w' p D := by
  obtain ⟨S, h1, h2, h3⟩ := h
  rw [← he]
  exact h1.acts.mono fun e w' q => ⟨q.1, S, by rw [q.2]; exact h1, h2, by rw [q.2]; exact h3⟩
theorem Nw.down (h : Nw w W p D) {b : Bool} (he : D.down = b) :
    Calls Tryz.prog 45 #[.pointer (some ⟨p, 0, none⟩)] W fun e w' => e = .returned (.bool b) ∧ Nw w w' p D := by
  obtain ⟨S, h1, h2, h3⟩ := h
  rw [← he]
  exact h1.down.mono fun e w' q => ⟨q.1, S, by rw [q.2]; exact h1, h2, by rw [q.2]; exact h3⟩
theorem Nw.files (h : Nw w W p D) {l : List (List UInt8 × List UInt8)} (he : tell D.L = l) :
    Calls Tryz.prog 47 #[.pointer (some ⟨p, 0, none⟩)] W fun e w' => ∃ ao b c, e = .returned (.slice ao l.length c) ∧ RdF w' ao b 0 l ∧ Nw w w' p D := by
  obtain ⟨S, h1, h2, h3⟩ := h
  rw [← he]
  refine h1.files.mono fun e w' q => ?_
  obtain ⟨v, q1, q2, q3⟩ := q
  obtain ⟨ao, b, c, rfl, q4, _⟩ := ownF_rd q2
  exact ⟨ao, b, c, q1, q4, S, h1.next q3, h2, bnext h3 q3⟩
theorem Nw.after (h : Nw w W p D) (ao : Option Addr) (b o c : Nat) (ks : List Bool) (hk : RdL W ao b o ks) (hkl : ks.length ≤ 9223372036854775807) {l : List (List UInt8 × List UInt8)} (he : aft ks D.L 0 = l) :
    Calls Tryz.prog 49 #[.pointer (some ⟨p, 0, none⟩), .slice ao ks.length c] W fun e w' => ∃ ao b c, e = .returned (.slice ao l.length c) ∧ RdF w' ao b 0 l ∧ Nw w w' p D ∧ Below W.heap.size W w' := by
  obtain ⟨S, h1, h2, h3⟩ := h
  rw [← he]
  refine (h1.after ao b o c ks hk hkl).mono fun e w' q => ?_
  obtain ⟨v, q1, q2, q3⟩ := q
  obtain ⟨ao, b, c, rfl, q4, _⟩ := ownF_rd q2
  exact ⟨ao, b, c, q1, q4, ⟨S, h1.next q3, h2, bnext h3 q3⟩, q3⟩
end
/-- The disk as the examples go. -/
def eD1 : DV := ⟨197, [([97], ⟨[120, 121, 122], []⟩)], 1, 0, 0, [], false⟩
def eD2 : DV := ⟨196, [([97], ⟨[120, 121, 122, 113], []⟩)], 2, 0, 0, [], false⟩
def eD3 : DV := ⟨196, [([97], ⟨[120, 121, 122, 113], [120, 121, 122, 113]⟩)], 3, 0, 0, [], false⟩
def eD4 : DV := ⟨196, [([97], ⟨[88, 121, 122, 113], [120, 121, 122, 113]⟩)], 4, 0, 0, [], false⟩
def eD5 : DV := ⟨198, [([97], ⟨[88, 121], [120, 121, 122, 113]⟩)], 5, 0, 0, [], false⟩
theorem ex1 : wrD (newD 200) [97] 0 [120, 121, 122] = (eD1, 0) := by rfl
theorem ex2 : wrD eD1 [97] 5 [113] = (eD1, 173) := by rfl
theorem ex3 : wrD eD1 [97] 3 [113] = (eD2, 0) := by rfl
theorem ex4 : rdD eD2 [97] 1 3 = ([121, 122, 113], 0) := by rfl
theorem ex5 : synD eD2 [97] = (eD3, 0) := by rfl
theorem ex6 : wrD eD3 [97] 0 [88] = (eD4, 0) := by rfl
theorem ex7 : cutD eD4 [97] 2 = (eD5, 0) := by rfl
theorem ex8 : aft [] eD2.L 0 = [] := by rfl
theorem ex9 : aft [false, true] eD5.L 0 = [([97], [88, 121, 0, 0])] := by rfl
theorem ex10 : aft [true, false] eD5.L 0 = [([97], [120, 121])] := by rfl
theorem ex11 : tell eD5.L = [([97], [88, 121])] := by rfl
end Go.Proofs.YthfnpagangjpbabGreat
/-
  The laws' alive: its walk. Own work.
-/
namespace Go.Proofs.YthfnpagangjpbabGreat
open Go.RowKit
theorem roomy_e {D : DV} (h1 : D.acts ≤ 1000) (h2 : D.L.length ≤ 1000) (h3 : D.free ≤ 1048576) : Roomy D := ⟨by omega, by omega, by omega⟩
theorem rdl_two {w : World} {b : Nat} {x y : Bool} {T : TypeId} (h : w.heap[b]? = some (.cells #[.bool x, .bool y] T (0, 0))) : RdL w (some ⟨b, 0, none⟩) b 0 [x, y] := by
  refine ⟨fun _ => rfl, fun j hj => ?_⟩
  rw [cell_of_row w b (0 + j) _ _ (0, 0) h]
  match j, hj with
  | 0, _ => rfl
  | 1, _ => rfl
theorem rdf_one {w : World} {b : Nat} {x y : ByteArray} {T : TypeId} (h : w.heap[b]? = some (.cells #[.string x, .string y] T (0, 0))) : RdF w (some ⟨b, 0, none⟩) b 0 [(x.data.toList, y.data.toList)] := by
  refine ⟨fun _ => rfl, fun j hj => ?_, fun j hj => ?_⟩
  · match j, hj with
    | 0, _ => rw [cell_of_row w b (0 + 0 * 2) _ _ (0, 0) h]; rfl
  · match j, hj with
    | 0, _ => rw [cell_of_row w b (0 + 0 * 2 + 1) _ _ (0, 0) h]; rfl
end Go.Proofs.YthfnpagangjpbabGreat
/-
  A disk without a fate. Own work.
-/
namespace Go.Proofs.YthfnpagangjpbabGreat
open Go.RowKit
/-- All bytes. -/
def tot : List (List UInt8 × FV) → Nat
  | [] => 0
  | (_, f) :: r => f.now.length + tot r
theorem ord_tail {x : List UInt8 × FV} {r : List (List UInt8 × FV)} (h : Ord (x :: r)) : Ord r := ⟨(List.pairwise_cons.1 h.1).2, fun p hp => h.2 p (List.mem_cons_of_mem _ hp)⟩
theorem tot_put : ∀ {L : List (List UInt8 × FV)} (_ : Ord L) (s : List UInt8) (f : FV), tot (fput L s f) + (fget L s).now.length = tot L + f.now.length
  | [], _, s, f => by
    rw [fput, fget]
    split
    · rename_i h; have := gone_len.1 h; simp only [tot, fz]; simp; omega
    · simp [tot, fz]
  | (t, g) :: r, h, s, f => by
    rw [fput, fget]
    by_cases e : t = s
    · rw [if_pos e, if_pos e]
      split
      · rename_i hg; have := gone_len.1 hg; simp only [tot]; omega
      · simp only [tot]; omega
    · rw [if_neg e, if_neg e]
      by_cases e2 : s < t
      · rw [if_pos e2]
        have hn : fget r s = fz := by
          apply fget_none
          intro hm
          obtain ⟨p, hp, hps⟩ := List.mem_map.1 hm
          have h3 := (List.pairwise_cons.1 h.1).1 p hp
          have h4 : t < s := by rw [← hps]; exact h3
          exact List.lt_irrefl _ (List.lt_trans h4 e2)
        rw [hn]
        split
        · rename_i hg; have := gone_len.1 hg; rw [this.1]; rfl
        · simp only [tot, fz]; simp; omega
      · rw [if_neg e2]
        have := tot_put (ord_tail h) s f
        simp only [tot]
        omega
theorem actD_plain {D : DV} (h : D.fk = 0) (s : List UInt8) (f : FV) : actD D s f = (dput { D with acts := D.acts + 1 } s f, 0) := by
  have e : metD { D with acts := D.acts + 1 } = ({ D with acts := D.acts + 1 }, 0, []) := by
    unfold metD
    exact if_pos h
  unfold actD
  rw [e]
  rfl
/-- No fate lies; so many bytes in all, so many acts. -/
structure Pln (D : DV) (r j : Nat) : Prop where
  down : D.down = false
  fk : D.fk = 0
  ord : Ord D.L
  tot : D.free + tot D.L ≤ r
  acts : D.acts ≤ j
  cnt : D.L.length ≤ j
theorem Pln.roomy {D : DV} {r j : Nat} (h : Pln D r j) (hr : r ≤ 4611686018427387904) (hj : j ≤ 1000000) : Roomy D := ⟨by have := h.acts; omega, by have := h.cnt; omega, by have := h.tot; omega⟩
theorem pln_new (r : Nat) : Pln (newD r) r 0 := ⟨rfl, rfl, ord_nil, Nat.le_refl _, Nat.le_refl _, Nat.le_refl _⟩
theorem Pln.mono {D : DV} {r j : Nat} (h : Pln D r j) : Pln D r (j + 1) := ⟨h.down, h.fk, h.ord, h.tot, by have := h.acts; omega, by have := h.cnt; omega⟩
theorem Pln.put {D : DV} {r j : Nat} (h : Pln D r j) (s : List UInt8) (f : FV) (hf : f.now.length ≤ D.free + (fget D.L s).now.length) : Pln (dput { D with acts := D.acts + 1 } s f) r (j + 1) := by
  refine ⟨h.down, h.fk, ord_fput h.ord s f, ?_, by have := h.acts; show D.acts + 1 ≤ _; omega, ?_⟩
  · have := tot_put h.ord s f
    have := h.tot
    show D.free + (fget D.L s).now.length - f.now.length + Go.Proofs.YthfnpagangjpbabGreat.tot (fput D.L s f) ≤ r
    omega
  · have := len_put (L := D.L) s f
    have := h.cnt
    show (fput D.L s f).length ≤ _
    omega
theorem Pln.act {D : DV} {r j : Nat} (h : Pln D r j) (kind : Int) (s : List UInt8) (x : Int) (t : List UInt8) : Pln (actO D kind s x t).1 r (j + 1) := by
  unfold actO
  split
  · unfold wrD
    rw [if_neg (by simp [h.down])]
    split
    · exact h.mono
    · split
      · exact h.mono
      · rename_i h1 h2
        rw [actD_plain h.fk]
        refine h.put s _ ?_
        show (wr (fget D.L s).now x.toNat (t.take 300)).length ≤ _
        rw [wr_len _ _ _ (by omega)]
        omega
  · split
    · unfold cutD
      rw [if_neg (by simp [h.down])]
      split
      · exact h.mono
      · rw [actD_plain h.fk]
        refine h.put s _ ?_
        show ((fget D.L s).now.take x.toNat).length ≤ _
        rw [List.length_take]
        omega
    · unfold synD
      rw [if_neg (by simp [h.down]), actD_plain h.fk]
      exact h.put s _ (Nat.le_add_left _ _)
end Go.Proofs.YthfnpagangjpbabGreat
/-
  Two disks and a box. Own work.
-/
namespace Go.Proofs.YthfnpagangjpbabGreat
open Go.RowKit
/-- Two disks apart, made since w, and a block that is none of theirs. -/
def Tw (w W : World) (p q : Nat) (D E : DV) (bo : Nat) (ob : Obj) : Prop := ∃ S T, Dsk W p S D ∧ Dsk W q T E ∧ (∀ x, S x → T x → False) ∧ (∀ x, S x → w.heap.size ≤ x ∧ x ≠ bo) ∧ (∀ x, T x → w.heap.size ≤ x ∧ x ≠ bo) ∧ Below w.heap.size w W ∧ W.heap[bo]? = some ob
/-- Without a block. -/
def Tw0 (w W : World) (p q : Nat) (D E : DV) : Prop := ∃ S T, Dsk W p S D ∧ Dsk W q T E ∧ (∀ x, S x → T x → False) ∧ (∀ x, S x → w.heap.size ≤ x) ∧ (∀ x, T x → w.heap.size ≤ x) ∧ Below w.heap.size w W
section
variable {w W W' : World} {p q bo : Nat} {D E D' : DV} {ob : Obj}
theorem Tw.symm (h : Tw w W p q D E bo ob) : Tw w W q p E D bo ob := by
  obtain ⟨S, T, h1, h2, h3, h4, h5, h6, h7⟩ := h
  exact ⟨T, S, h2, h1, fun x a b => h3 x b a, h5, h4, h6, h7⟩
theorem Tw.below (h : Tw w W p q D E bo ob) : Below w.heap.size w W := by
  obtain ⟨S, T, h1, h2, h3, h4, h5, h6, h7⟩ := h
  exact h6
theorem Tw.box (h : Tw w W p q D E bo ob) : W.heap[bo]? = some ob := by
  obtain ⟨S, T, h1, h2, h3, h4, h5, h6, h7⟩ := h
  exact h7
theorem Tw.next (h : Tw w W p q D E bo ob) (hb : Below W.heap.size W W') : Tw w W' p q D E bo ob := by
  obtain ⟨S, T, h1, h2, h3, h4, h5, h6, h7⟩ := h
  exact ⟨S, T, h1.next hb, h2.next hb, h3, h4, h5, bnext h6 hb, (hb.block bo (Array.getElem?_eq_some_iff.1 h7).1).trans h7⟩
theorem Tw.to0 (h : Tw w W p q D E bo ob) : Tw0 w W p q D E := by
  obtain ⟨S, T, h1, h2, h3, h4, h5, h6, h7⟩ := h
  exact ⟨S, T, h1, h2, h3, fun x hx => (h4 x hx).1, fun x hx => (h5 x hx).1, h6⟩
theorem Tw0.below (h : Tw0 w W p q D E) : Below w.heap.size w W := by
  obtain ⟨S, T, h1, h2, h3, h4, h5, h6⟩ := h
  exact h6
theorem Tw0.next (h : Tw0 w W p q D E) (hb : Below W.heap.size W W') : Tw0 w W' p q D E := by
  obtain ⟨S, T, h1, h2, h3, h4, h5, h6⟩ := h
  exact ⟨S, T, h1.next hb, h2.next hb, h3, h4, h5, bnext h6 hb⟩
/-- A box. -/
theorem Tw0.alloc (h : Tw0 w W p q D E) (o : Obj) : Tw w (W.alloc o) p q D E W.heap.size o := by
  obtain ⟨S, T, h1, h2, h3, h4, h5, h6⟩ := h
  exact ⟨S, T, h1.next (bal (Below.refl _ _) _), h2.next (bal (Below.refl _ _) _), h3, fun x hx => ⟨h4 x hx, fun e => by have := h1.lt hx; omega⟩, fun x hx => ⟨h5 x hx, fun e => by have := h2.lt hx; omega⟩, bal h6 _, new1 _ _⟩
/-- The box has been written. -/
theorem Tw.put (h : Tw w W p q D E bo ob) (hbo : w.heap.size ≤ bo) {o2 : Obj} (hu : Upo (fun x => x = bo) W W') (h2 : W'.heap[bo]? = some o2) : Tw w W' p q D E bo o2 := by
  obtain ⟨S, T, h1, h2', h3, h4, h5, h6, h7⟩ := h
  exact ⟨S, T, h1.keep hu (fun x hx e => (h4 x hx).2 e), h2'.keep hu (fun x hx e => (h5 x hx).2 e), h3, h4, h5, upo_below h6 (fun x e => by rw [e]; exact hbo) hu, h2⟩
theorem Tw.mvd {S T : Nat → Prop} (h2 : Dsk W q T E) (h3 : ∀ x, S x → T x → False) (h4 : ∀ x, S x → w.heap.size ≤ x ∧ x ≠ bo) (h5 : ∀ x, T x → w.heap.size ≤ x ∧ x ≠ bo) (h6 : Below w.heap.size w W) (h7 : W.heap[bo]? = some ob) (hm : Mvd W W' p S D') : Tw w W' p q D' E bo ob := by
  obtain ⟨S', q1, q2, q3⟩ := hm
  have hz := (Array.getElem?_eq_some_iff.1 h7).1
  refine ⟨S', T, q1, h2.keep q3 (fun x hx e => h3 x e hx), fun x hx ht => ?_, fun x hx => ?_, h5, upo_below h6 (fun x hx => (h4 x hx).1) q3, (q3.block bo hz (fun e => (h4 bo e).2 rfl)).trans h7⟩
  · rcases q2 x hx with e | e
    · exact h3 x e ht
    · have := h2.lt ht; omega
  · rcases q2 x hx with e | e
    · exact h4 x e
    · exact ⟨by have := h6.size; omega, by omega⟩
theorem Tw.size (h : Tw w W p q D E bo ob) (nm : ByteArray) (hs : nm.size ≤ maxLen) : Calls Tryz.prog 98 #[.pointer (some ⟨p, 0, none⟩), .string nm] W fun e w' => e = .returned (.int .i64 (sizD D nm.data.toList : Int)) ∧ w' = W := by
  obtain ⟨S, T, h1, _⟩ := h
  exact h1.size nm hs
theorem Tw.acts (h : Tw w W p q D E bo ob) : Calls Tryz.prog 21 #[.pointer (some ⟨p, 0, none⟩)] W fun e w' => e = .returned (.int .i64 (D.acts : Int)) ∧ w' = W := by
  obtain ⟨S, T, h1, _⟩ := h
  exact h1.acts
theorem Tw.down (h : Tw w W p q D E bo ob) : Calls Tryz.prog 45 #[.pointer (some ⟨p, 0, none⟩)] W fun e w' => e = .returned (.bool D.down) ∧ w' = W := by
  obtain ⟨S, T, h1, _⟩ := h
  exact h1.down
theorem Tw.read (h : Tw w W p q D E bo ob) (nm : ByteArray) (hs : nm.size ≤ maxLen) (off y : Int) (ho1 : -9223372036854775808 ≤ off) (ho2 : off ≤ 9223372036854775807) (hq1 : -9223372036854775808 ≤ y) (hq2 : y ≤ 9223372036854775807) :
    Calls Tryz.prog 77 #[.pointer (some ⟨p, 0, none⟩), .string nm, .int .i64 off, .int .i64 y] W fun e w' => (∃ t r, e = .returned (.tuple #[.string t, .int .i64 r])) ∧ Below W.heap.size W w' := by
  obtain ⟨S, T, h1, _⟩ := h
  exact (h1.read nm hs off y ho1 ho2 hq1 hq2).mono fun e w' z => ⟨⟨_, _, z.1⟩, z.2⟩
theorem Tw.files (h : Tw w W p q D E bo ob) {l : List (List UInt8 × List UInt8)} (he : tell D.L = l) :
    Calls Tryz.prog 47 #[.pointer (some ⟨p, 0, none⟩)] W fun e w' => ∃ ao b c, e = .returned (.slice ao l.length c) ∧ RdF w' ao b 0 l ∧ Tw w w' p q D E bo ob ∧ Below W.heap.size W w' := by
  have hh := h
  obtain ⟨S, T, h1, _⟩ := h
  rw [← he]
  refine h1.files.mono fun e w' z => ?_
  obtain ⟨v, q1, q2, q3⟩ := z
  obtain ⟨ao, b, c, rfl, q4, _⟩ := ownF_rd q2
  exact ⟨ao, b, c, q1, q4, hh.next q3, q3⟩
theorem Tw.after (h : Tw w W p q D E bo ob) (ao : Option Addr) (b o c : Nat) (ks : List Bool) (hk : RdL w ao b o ks) (hkl : ks.length ≤ 9223372036854775807) {l : List (List UInt8 × List UInt8)} (he : aft ks D.L 0 = l) :
    Calls Tryz.prog 49 #[.pointer (some ⟨p, 0, none⟩), .slice ao ks.length c] W fun e w' => ∃ ao b c, e = .returned (.slice ao l.length c) ∧ RdF w' ao b 0 l ∧ Tw w w' p q D E bo ob ∧ Below W.heap.size W w' := by
  have hh := h
  obtain ⟨S, T, h1, _⟩ := h
  rw [← he]
  refine (h1.after ao b o c ks (hk.next hh.below) hkl).mono fun e w' z => ?_
  obtain ⟨v, q1, q2, q3⟩ := z
  obtain ⟨ao, b, c, rfl, q4, _⟩ := ownF_rd q2
  exact ⟨ao, b, c, q1, q4, hh.next q3, q3⟩
end
theorem Dsk.sz {w : World} {p : Nat} {S : Nat → Prop} {D : DV} (h : Dsk w p S D) (s : List UInt8) : sizD D s ≤ 268435456 := by
  obtain ⟨m, R, ka, kb, ko, kc, h1, h2⟩ := h
  unfold sizD
  split
  · omega
  · by_cases hm : s ∈ keys D.L
    · exact (h1.fil s hm (by simp)).b1
    · rw [fget_none hm]; exact Nat.zero_le _
theorem Tw.sz {w W : World} {p q bo : Nat} {D E : DV} {ob : Obj} (h : Tw w W p q D E bo ob) (s : List UInt8) : sizD D s ≤ 268435456 := by
  obtain ⟨S, T, h1, _⟩ := h
  exact h1.sz s
/-- Two new disks. -/
theorem tw_new {w w1 w2 : World} {p q : Nat} {S T : Nat → Prop} {D E : DV} (h1 : Dsk w1 p S D) (s1 : ∀ x, S x → w.heap.size ≤ x) (b1 : Below w.heap.size w w1) (h2 : Dsk w2 q T E) (s2 : ∀ x, T x → w1.heap.size ≤ x) (b2 : Below w1.heap.size w1 w2) : Tw0 w w2 p q D E := by
  refine ⟨S, T, h1.next b2, h2, fun x a b => ?_, s1, fun x hx => ?_, bnext b1 b2⟩
  · have := h1.lt a; have := s2 x b; omega
  · have := s2 x hx; have := b1.size; omega
/-- What an Op is held to. -/
structure OpOk (w : World) (o : OpV) : Prop where
  nm : o.name.size ≤ maxLen
  a1 : -9223372036854775808 ≤ o.at_
  a2 : o.at_ ≤ 9223372036854775807
  n1 : -9223372036854775808 ≤ o.n
  n2 : o.n ≤ 9223372036854775807
  kp : RdL w o.ka o.kb o.ko o.keep
  kl : o.keep.length ≤ 9223372036854775807
/-- A list of them that can be read. -/
structure RdO (w : World) (ao : Option Addr) (b off len : Nat) (l : Nat → OpV) : Prop where
  ptr : 0 < len → ao = some ⟨b, off, none⟩
  cell : ∀ j, j < len → w.cell? ⟨b, off + (j * 7 + 0), none⟩ = some (.int .i64 (l j).kind) ∧ w.cell? ⟨b, off + (j * 7 + 1), none⟩ = some (.int .i64 (l j).which) ∧ w.cell? ⟨b, off + (j * 7 + 2), none⟩ = some (.string (l j).name) ∧ w.cell? ⟨b, off + (j * 7 + 3), none⟩ = some (.string (l j).data) ∧ w.cell? ⟨b, off + (j * 7 + 4), none⟩ = some (.int .i64 (l j).at_) ∧ w.cell? ⟨b, off + (j * 7 + 5), none⟩ = some (.int .i64 (l j).n) ∧ w.cell? ⟨b, off + (j * 7 + 6), none⟩ = some (.slice (l j).ka (l j).keep.length (l j).kc) ∧ OpOk w (l j)
/-- Its seven cells, its place as a letter. -/
theorem RdO.seven {w W : World} {ao : Option Addr} {b off len : Nat} {l : Nat → OpV} (h : RdO w ao b off len l) (hb : Below w.heap.size w W) {j : Nat} (hj : j < len) {a : Nat} (ha : off + j * 7 = a) :
    W.cell? ⟨b, a, none⟩ = some (.int .i64 (l j).kind) ∧ W.cell? ⟨b, a + 1, none⟩ = some (.int .i64 (l j).which) ∧ W.cell? ⟨b, a + 2, none⟩ = some (.string (l j).name) ∧ W.cell? ⟨b, a + 3, none⟩ = some (.string (l j).data) ∧ W.cell? ⟨b, a + 4, none⟩ = some (.int .i64 (l j).at_) ∧ W.cell? ⟨b, a + 5, none⟩ = some (.int .i64 (l j).n) ∧ W.cell? ⟨b, a + 6, none⟩ = some (.slice (l j).ka (l j).keep.length (l j).kc) := by
  obtain ⟨h0, h1, h2, h3, h4, h5, h6, _⟩ := h.cell j hj
  have hlt : b < w.heap.size := World.block_lt_of_cell? _ _ h0
  subst ha
  exact ⟨(hb.cell (p := ⟨b, _, none⟩) hlt).trans h0, (hb.cell (p := ⟨b, _, none⟩) hlt).trans h1, (hb.cell (p := ⟨b, _, none⟩) hlt).trans h2, (hb.cell (p := ⟨b, _, none⟩) hlt).trans h3, (hb.cell (p := ⟨b, _, none⟩) hlt).trans h4, (hb.cell (p := ⟨b, _, none⟩) hlt).trans h5, (hb.cell (p := ⟨b, _, none⟩) hlt).trans h6⟩
/-- A block of seven cells. -/
theorem seven_at {W : World} {q : Nat} {a b c d e f g : Value} {T : TypeId} (h : W.heap[q]? = some (.cells #[a, b, c, d, e, f, g] T (0, 0))) : W.cell? ⟨q, 0, none⟩ = some a ∧ W.cell? ⟨q, 1, none⟩ = some b ∧ W.cell? ⟨q, 2, none⟩ = some c ∧ W.cell? ⟨q, 3, none⟩ = some d ∧ W.cell? ⟨q, 4, none⟩ = some e ∧ W.cell? ⟨q, 5, none⟩ = some f ∧ W.cell? ⟨q, 6, none⟩ = some g :=
  ⟨by rw [cell_of_row W q 0 _ _ (0, 0) h]; rfl, by rw [cell_of_row W q 1 _ _ (0, 0) h]; rfl, by rw [cell_of_row W q 2 _ _ (0, 0) h]; rfl, by rw [cell_of_row W q 3 _ _ (0, 0) h]; rfl, by rw [cell_of_row W q 4 _ _ (0, 0) h]; rfl, by rw [cell_of_row W q 5 _ _ (0, 0) h]; rfl, by rw [cell_of_row W q 6 _ _ (0, 0) h]; rfl⟩
end Go.Proofs.YthfnpagangjpbabGreat
