/-
  Own work: DLawA, DLawB, DAlive, DAlive2, DPlain, DTwo, DKd.
-/
import Derived.BigQuiet
import Derived.Test.YthfnpagangjpbabGreatV14
namespace Go.Proofs.YthfnpagangjpbabGreat
open Go.RowKit
set_option maxRecDepth 100000 in
set_option maxHeartbeats 1000000 in
theorem same_yes (w : World) (l : List (List UInt8 × List UInt8)) (a1 : Option Addr) (b1 o1 c1 : Nat) (h1 : RdF w a1 b1 o1 l) (a2 : Option Addr) (b2 o2 c2 : Nat) (h2 : RdF w a2 b2 o2 l) (hl : l.length ≤ 4611686018427387904) :
    Calls Tryz.prog 46 #[.slice a1 l.length c1, .slice a2 l.length c2] w fun e w' => e = .returned (.bool true) ∧ Below w.heap.size w w' := by
  obtain ⟨n, hn⟩ : ∃ n, l.length = n := ⟨_, rfl⟩
  have HH : Hid (RdF w a1 b1 o1 l ∧ RdF w a2 b2 o2 l ∧ l.length = n ∧ n ≤ 4611686018427387904) := ⟨h1, h2, hn, by omega⟩
  rw [hn]
  clear h1 h2 hl hn
  go_enter Tryz.func46, Tryz.ntmps46
  go_wp2
  go_loopg [5] n (fun g x wr => ∃ j : Nat, j ≤ n ∧ g = n - j ∧ x = .int .i64 (j : Int) ∧ Below w.heap.size w wr)
  case atStart =>
    go_light
    exact ⟨0, Nat.zero_le _, rfl, rfl, Below.refl _ _⟩
  case round =>
    obtain ⟨j, hj, rfl, rfl, hb⟩ := hrel
    have HB := hide hb
    by_cases hlt : j < n
    · have hz : (j : Int) < (n : Int) := by omega
      have hz0 : (0 : Int) ≤ (j : Int) := Int.natCast_nonneg _
      obtain ⟨q1, q2, q3, q4⟩ := HH.out
      have r1 := q1.next hb
      have r2 := q2.next hb
      obtain rfl := r1.ptr (by omega)
      obtain rfl := r2.ptr (by omega)
      have x1 := r1.c0 j (by omega)
      have x2 := r1.c1 j (by omega)
      have x3 := r2.c0 j (by omega)
      have x4 := r2.c1 j (by omega)
      generalize l.getD j ([], []) = v at *
      obtain ⟨nm, hnm⟩ : ∃ nm : ByteArray, (⟨v.1.toArray⟩ : ByteArray) = nm := ⟨_, rfl⟩
      obtain ⟨dt, hdt⟩ : ∃ dt : ByteArray, (⟨v.2.toArray⟩ : ByteArray) = dt := ⟨_, rfl⟩
      rw [hnm] at x1 x3
      rw [hdt] at x2 x4
      have hw : IntKind.i64.wrap ((j : Int) + 1) = (j : Int) + 1 := by rw [IntKind.wrap_i64]; omega
      clear q1 q2 q3 r1 r2 hb hnm hdt
      go_upto_region 6 with (fail)
      go_quiet (fail)
      go_wp2
      go_roundg (n - (j + 1))
      case rel =>
        go_light
        exact ⟨j + 1, by omega, rfl, by go_num, below_drewN HB.out _⟩
      case measure => go_light; omega
    · obtain rfl : j = n := by omega
      have hz : ¬ ((j : Int) < (j : Int)) := by omega
      clear hb hlt
      go_wp2
      go_ret
      exact ⟨rfl, HB.out⟩
theorem ba_take (s : ByteArray) (n : Nat) : s.extract 0 n = ⟨(s.data.toList.take n).toArray⟩ := by
  apply ByteArray.ext
  apply Array.ext'
  simp [ByteArray.data_extract, Array.toList_extract, List.extract]
end Go.Proofs.YthfnpagangjpbabGreat
namespace Go.Proofs.YthfnpagangjpbabGreat
open Go.RowKit
section
variable {p : Nat} {S : Nat → Prop} {D : DV}
theorem Mvd.next {w w1 w' : World} {D' : DV} (hb : Below w.heap.size w w1) (h : Mvd w1 w' p S D') : Mvd w w' p S D' := by
  obtain ⟨S', h1, h2, h3⟩ := h
  exact ⟨S', h1, fun x hx => (h2 x hx).imp id (fun q => Nat.le_trans hb.size q), (Upo.of hb).trans h3 (fun _ _ q => q)⟩
end
end Go.Proofs.YthfnpagangjpbabGreat
namespace Go.Proofs.YthfnpagangjpbabGreat
open Go.RowKit
def Nw (w W : World) (p : Nat) (D : DV) : Prop := ∃ S, Dsk W p S D ∧ (∀ x, S x → w.heap.size ≤ x) ∧ Below w.heap.size w W
theorem upo_below {w W W' : World} {S : Nat → Prop} (h : Below w.heap.size w W) (hS : ∀ x, S x → w.heap.size ≤ x) (hu : Upo S W W') : Below w.heap.size w W' :=
  ⟨hu.os.trans h.os, hu.tape.trans h.tape, hu.output.trans h.output, Nat.le_trans h.size hu.size, fun b hb => (hu.block b (by have := h.size; omega) (fun q => by have := hS b q; omega)).trans (h.block b hb)⟩
section
variable {w W : World} {p : Nat} {D D' : DV} {r : Int}
theorem Nw.below (h : Nw w W p D) : Below w.heap.size w W := by obtain ⟨S, _, _, h⟩ := h; exact h
theorem Nw.next {W' : World} (h : Nw w W p D) (hb : Below W.heap.size W W') : Nw w W' p D := by
  obtain ⟨S, h1, h2, h3⟩ := h
  exact ⟨S, h1.next hb, h2, bnext h3 hb⟩
theorem Nw.mvd {W' : World} {S : Nat → Prop} (h3 : Below w.heap.size w W) (h2 : ∀ x, S x → w.heap.size ≤ x) (hm : Mvd W W' p S D') : Nw w W' p D' := by
  obtain ⟨S', q1, q2, q3⟩ := hm
  exact ⟨S', q1, fun x hx => (q2 x hx).elim (h2 x) (fun e => by have := h3.size; omega), upo_below h3 h2 q3⟩
def Roomy (D : DV) : Prop := D.acts + 1 ≤ 4611686018427387904 ∧ D.L.length < 1099511627776 ∧ D.free ≤ 4611686018427387904
theorem Dsk.small {S : Nat → Prop} (h : Dsk w p S D) (hr : Roomy D) (s : List UInt8) : D.down = false → D.free + (fget D.L s).now.length ≤ 9223372036854775807 := fun _ => by
  obtain ⟨m, R, ka, kb, ko, kc, h1, h2⟩ := h
  have : (fget D.L s).now.length ≤ 268435456 := by
    by_cases hm : s ∈ keys D.L
    · exact (h1.fil s hm (by simp)).b1
    · rw [fget_none hm]; exact Nat.zero_le _
  have := hr.2.2
  omega
theorem Nw.write (h : Nw w W p D) (hr : Roomy D) (nm dt : ByteArray) (hs : nm.size ≤ maxLen) (off : Int) (ho1 : -9223372036854775808 ≤ off) (ho2 : off ≤ 9223372036854775807) (ht : dt.size ≤ 140737488355328) (he : wrD D nm.data.toList off dt.data.toList = (D', r)) :
    Calls Tryz.prog 107 #[.pointer (some ⟨p, 0, none⟩), .string nm, .int .i64 off, .string dt] W fun e w' => e = .returned (.int .i64 r) ∧ Nw w w' p D' := by
  obtain ⟨S, h1, h2, h3⟩ := h
  have := h1.write nm dt hs off ho1 ho2 ht hr.1 hr.2.1 (h1.small hr _)
  rw [he] at this
  exact this.mono fun e w' q => ⟨q.1, Nw.mvd h3 h2 q.2⟩
theorem Nw.cut (h : Nw w W p D) (hr : Roomy D) (nm : ByteArray) (hs : nm.size ≤ maxLen) (off : Int) (ho1 : -9223372036854775808 ≤ off) (ho2 : off ≤ 9223372036854775807) (he : cutD D nm.data.toList off = (D', r)) :
    Calls Tryz.prog 101 #[.pointer (some ⟨p, 0, none⟩), .string nm, .int .i64 off] W fun e w' => e = .returned (.int .i64 r) ∧ Nw w w' p D' := by
  obtain ⟨S, h1, h2, h3⟩ := h
  have := h1.cut nm hs off ho1 ho2 hr.1 hr.2.1 (h1.small hr _)
  rw [he] at this
  exact this.mono fun e w' q => ⟨q.1, Nw.mvd h3 h2 q.2⟩
theorem Nw.sync (h : Nw w W p D) (hr : Roomy D) (nm : ByteArray) (hs : nm.size ≤ maxLen) (he : synD D nm.data.toList = (D', r)) :
    Calls Tryz.prog 64 #[.pointer (some ⟨p, 0, none⟩), .string nm] W fun e w' => e = .returned (.int .i64 r) ∧ Nw w w' p D' := by
  obtain ⟨S, h1, h2, h3⟩ := h
  have := h1.sync nm hs hr.1 hr.2.1 (h1.small hr _)
  rw [he] at this
  exact this.mono fun e w' q => ⟨q.1, Nw.mvd h3 h2 q.2⟩
theorem Nw.read (h : Nw w W p D) (nm : ByteArray) (hs : nm.size ≤ maxLen) (off q : Int) (ho1 : -9223372036854775808 ≤ off) (ho2 : off ≤ 9223372036854775807) (hq1 : -9223372036854775808 ≤ q) (hq2 : q ≤ 9223372036854775807) {t : List UInt8} {T : ByteArray} (he : rdD D nm.data.toList off q = (t, r)) (hT : (⟨t.toArray⟩ : ByteArray) = T) :
    Calls Tryz.prog 77 #[.pointer (some ⟨p, 0, none⟩), .string nm, .int .i64 off, .int .i64 q] W fun e w' => e = .returned (.tuple #[.string T, .int .i64 r]) ∧ Nw w w' p D := by
  obtain ⟨S, h1, h2, h3⟩ := h
  have := h1.read nm hs off q ho1 ho2 hq1 hq2
  rw [he] at this
  exact this.mono fun e w' q => ⟨by rw [q.1, hT], S, h1.next q.2, h2, bnext h3 q.2⟩
theorem Nw.size (h : Nw w W p D) (nm : ByteArray) (hs : nm.size ≤ maxLen) {n : Int} (he : (sizD D nm.data.toList : Int) = n) :
    Calls Tryz.prog 98 #[.pointer (some ⟨p, 0, none⟩), .string nm] W fun e w' => e = .returned (.int .i64 n) ∧ Nw w w' p D := by
  obtain ⟨S, h1, h2, h3⟩ := h
  rw [← he]
  exact (h1.size nm hs).mono fun e w' q => ⟨q.1, S, by rw [q.2]; exact h1, h2, by rw [q.2]; exact h3⟩
theorem Nw.acts (h : Nw w W p D) {n : Int} (he : (D.acts : Int) = n) :
    Calls Tryz.prog 21 #[.pointer (some ⟨p, 0, none⟩)] W fun e w' => e = .returned (.int .i64 n) ∧ Nw w w' p D := by
  obtain ⟨S, h1, h2, h3⟩ := h
  rw [← he]
  exact h1.acts.mono fun e w' q => ⟨q.1, S, by rw [q.2]; exact h1, h2, by rw [q.2]; exact h3⟩
theorem Nw.down (h : Nw w W p D) {b : Bool} (he : D.down = b) :
    Calls Tryz.prog 45 #[.pointer (some ⟨p, 0, none⟩)] W fun e w' => e = .returned (.bool b) ∧ Nw w w' p D := by
  obtain ⟨S, h1, h2, h3⟩ := h
  rw [← he]
  exact h1.down.mono fun e w' q => ⟨q.1, S, by rw [q.2]; exact h1, h2, by rw [q.2]; exact h3⟩
theorem Nw.files (h : Nw w W p D) {l : List (List UInt8 × List UInt8)} (he : tell D.L = l) :
    Calls Tryz.prog 47 #[.pointer (some ⟨p, 0, none⟩)] W fun e w' => ∃ ao b c, e = .returned (.slice ao l.length c) ∧ RdF w' ao b 0 l ∧ Nw w w' p D := by
  obtain ⟨S, h1, h2, h3⟩ := h
  rw [← he]
  refine h1.files.mono fun e w' q => ?_
  obtain ⟨v, q1, q2, q3⟩ := q
  obtain ⟨ao, b, c, rfl, q4, _⟩ := ownF_rd q2
  exact ⟨ao, b, c, q1, q4, S, h1.next q3, h2, bnext h3 q3⟩
theorem Nw.after (h : Nw w W p D) (ao : Option Addr) (b o c : Nat) (ks : List Bool) (hk : RdL W ao b o ks) (hkl : ks.length ≤ 9223372036854775807) {l : List (List UInt8 × List UInt8)} (he : aft ks D.L 0 = l) :
    Calls Tryz.prog 49 #[.pointer (some ⟨p, 0, none⟩), .slice ao ks.length c] W fun e w' => ∃ ao b c, e = .returned (.slice ao l.length c) ∧ RdF w' ao b 0 l ∧ Nw w w' p D ∧ Below W.heap.size W w' := by
  obtain ⟨S, h1, h2, h3⟩ := h
  rw [← he]
  refine (h1.after ao b o c ks hk hkl).mono fun e w' q => ?_
  obtain ⟨v, q1, q2, q3⟩ := q
  obtain ⟨ao, b, c, rfl, q4, _⟩ := ownF_rd q2
  exact ⟨ao, b, c, q1, q4, ⟨S, h1.next q3, h2, bnext h3 q3⟩, q3⟩
end
end Go.Proofs.YthfnpagangjpbabGreat
namespace Go.Proofs.YthfnpagangjpbabGreat
open Go.RowKit
theorem rdl_two {w : World} {b : Nat} {x y : Bool} {T : TypeId} (h : w.heap[b]? = some (.cells #[.bool x, .bool y] T (0, 0))) : RdL w (some ⟨b, 0, none⟩) b 0 [x, y] := by
  refine ⟨fun _ => rfl, fun j hj => ?_⟩
  rw [cell_of_row w b (0 + j) _ _ (0, 0) h]
  match j, hj with
  | 0, _ => rfl
  | 1, _ => rfl
end Go.Proofs.YthfnpagangjpbabGreat
namespace Go.Proofs.YthfnpagangjpbabGreat
open Go.RowKit
def tot : List (List UInt8 × FV) → Nat
  | [] => 0
  | (_, f) :: r => f.now.length + tot r
theorem ord_tail {x : List UInt8 × FV} {r : List (List UInt8 × FV)} (h : Ord (x :: r)) : Ord r := ⟨(List.pairwise_cons.1 h.1).2, fun p hp => h.2 p (List.mem_cons_of_mem _ hp)⟩
theorem tot_put : ∀ {L : List (List UInt8 × FV)} (_ : Ord L) (s : List UInt8) (f : FV), tot (fput L s f) + (fget L s).now.length = tot L + f.now.length
  | [], _, s, f => by
    rw [fput, fget]
    split
    · rename_i h; have := gone_len.1 h; simp only [tot, fz]; simp; omega
    · simp [tot, fz]
  | (t, g) :: r, h, s, f => by
    rw [fput, fget]
    by_cases e : t = s
    · rw [if_pos e, if_pos e]
      split
      · rename_i hg; have := gone_len.1 hg; simp only [tot]; omega
      · simp only [tot]; omega
    · rw [if_neg e, if_neg e]
      by_cases e2 : s < t
      · rw [if_pos e2]
        have hn : fget r s = fz := by
          apply fget_none
          intro hm
          obtain ⟨p, hp, hps⟩ := List.mem_map.1 hm
          have h3 := (List.pairwise_cons.1 h.1).1 p hp
          have h4 : t < s := by rw [← hps]; exact h3
          exact List.lt_irrefl _ (List.lt_trans h4 e2)
        rw [hn]
        split
        · rename_i hg; have := gone_len.1 hg; rw [this.1]; rfl
        · simp only [tot, fz]; simp; omega
      · rw [if_neg e2]
        have := tot_put (ord_tail h) s f
        simp only [tot]
        omega
theorem actD_plain {D : DV} (h : D.fk = 0) (s : List UInt8) (f : FV) : actD D s f = (dput { D with acts := D.acts + 1 } s f, 0) := by
  have e : metD { D with acts := D.acts + 1 } = ({ D with acts := D.acts + 1 }, 0, []) := by
    unfold metD
    exact if_pos h
  unfold actD
  rw [e]
  rfl
end Go.Proofs.YthfnpagangjpbabGreat
namespace Go.Proofs.YthfnpagangjpbabGreat
open Go.RowKit
section
variable {w W W' : World} {p q bo : Nat} {D E D' : DV} {ob : Obj}
end
theorem Dsk.sz {w : World} {p : Nat} {S : Nat → Prop} {D : DV} (h : Dsk w p S D) (s : List UInt8) : sizD D s ≤ 268435456 := by
  obtain ⟨m, R, ka, kb, ko, kc, h1, h2⟩ := h
  unfold sizD
  split
  · omega
  · by_cases hm : s ∈ keys D.L
    · exact (h1.fil s hm (by simp)).b1
    · rw [fget_none hm]; exact Nat.zero_le _
theorem seven_at {W : World} {q : Nat} {a b c d e f g : Value} {T : TypeId} (h : W.heap[q]? = some (.cells #[a, b, c, d, e, f, g] T (0, 0))) : W.cell? ⟨q, 0, none⟩ = some a ∧ W.cell? ⟨q, 1, none⟩ = some b ∧ W.cell? ⟨q, 2, none⟩ = some c ∧ W.cell? ⟨q, 3, none⟩ = some d ∧ W.cell? ⟨q, 4, none⟩ = some e ∧ W.cell? ⟨q, 5, none⟩ = some f ∧ W.cell? ⟨q, 6, none⟩ = some g :=
  ⟨by rw [cell_of_row W q 0 _ _ (0, 0) h]; rfl, by rw [cell_of_row W q 1 _ _ (0, 0) h]; rfl, by rw [cell_of_row W q 2 _ _ (0, 0) h]; rfl, by rw [cell_of_row W q 3 _ _ (0, 0) h]; rfl, by rw [cell_of_row W q 4 _ _ (0, 0) h]; rfl, by rw [cell_of_row W q 5 _ _ (0, 0) h]; rfl, by rw [cell_of_row W q 6 _ _ (0, 0) h]; rfl⟩
end Go.Proofs.YthfnpagangjpbabGreat
namespace Go.Proofs.YthfnpagangjpbabGreat
open Go.RowKit
abbrev dv : Value := .slice none 0 0
def resO (r : Result Value) : Option (Value × World) :=
  match r with
  | .ok v w => some (v, w)
  | .halt _ _ => none
theorem resO_ok (r : Result Value) (hs : (resO r).isSome = true) (d : Value × World) : r = .ok ((resO r).getD d).1 ((resO r).getD d).2 := by
  cases r with
  | ok v w => rfl
  | halt x w => cases hs
noncomputable def appR (t ty : Nat) (v u : Value) (w : World) : Option (Value × World) := resO ((Builtin.append_ #[t, t] ty #[v, u]).run Tryz.prog w)
theorem appR_of {t ty : Nat} {v u v' : Value} {w w' : World} (h : (Builtin.append_ #[t, t] ty #[v, u]).run Tryz.prog w = .ok v' w') : appR t ty v u w = some (v', w') := congrArg resO h
theorem run_appR (t ty : Nat) (v u : Value) (w : World) (hs : (appR t ty v u w).isSome = true) : (Builtin.append_ #[t, t] ty #[v, u]).run Tryz.prog w = .ok ((appR t ty v u w).getD (dv, w)).1 ((appR t ty v u w).getD (dv, w)).2 := resO_ok _ hs (dv, w)
theorem exec_appR (ρ : Operand → Value) (d : Option Tmp) (s x : Operand) (t ty : Nat) (ps : String) (af : Array Edge) (gd : Option (Nat × Bool)) (w : World) (hs : (appR t ty (ρ s) (ρ x) w).isSome = true) :
    (execOp ρ { dst := d, op := Op.call { callee := Callee.builtin Builtin.append, args := #[s, x], argTypes := #[t, t] }, type := ty, pos := ps, after := af, guard := gd }).run Tryz.prog w = .ok (.value ((appR t ty (ρ s) (ρ x) w).getD (dv, w)).1) ((appR t ty (ρ s) (ρ x) w).getD (dv, w)).2 := by
  have hrun := run_appR t ty (ρ s) (ρ x) w hs
  generalize (appR t ty (ρ s) (ρ x) w).getD (dv, w) = r at *
  simp [execOp, resolve, invoke, builtin, hrun, Result.andThen]
def RdC (w : World) (u : Value) (m : Nat) (news : List Value) : Prop :=
  ∃ ao cap, u = .slice ao m cap ∧ (ao = none → m = 0 ∧ cap = 0) ∧ ∀ ad, ao = some ad → ∀ j c, news[j]? = some c → w.cell? (ad.add j) = some c
theorem run_all (w : World) (t ty e B size bytes : Nat) (i : TypeInfo) (z : Value) (h1 : Tryz.prog.underlying t = some (.slice e)) (h2 : Tryz.prog.info? e = some i) (h3 : i.zero = some z) (h4 : i.size = size) (h5 : i.bytes = bytes) (h6 : z.cells.size = size) (h7 : 0 < size)
    (v : Value) (n : Nat) (xs : List Value) (hown : w.ownsRow B e size v n xs) (u : Value) (m : Nat) (news : List Value) (hr : RdC w u m news) (hn : news.length = m * size) (h1c : ∀ u ∈ news, u.oneCell' = true)
    (b1 : n + m ≤ maxLen) (b2 : (n + m) * bytes ≤ 140737488355328) (hB : B ≤ w.heap.size) :
    ∃ v' w', (Builtin.append_ #[t, t] ty #[v, u]).run Tryz.prog w = .ok v' w' ∧ w'.ownsRow B e size v' (n + m) (xs ++ news) ∧ w.grownBy w' v.ownBlock := by
  obtain ⟨ao, cap, rfl, hnone, hcells⟩ := hr
  cases ao with
  | none =>
    obtain ⟨rfl, rfl⟩ := hnone rfl
    have hnil : news = [] := List.length_eq_zero_iff.1 (by rw [hn]; omega)
    subst hnil
    exact ⟨v, w, run_append_owned_none (P := Tryz.prog) (w := w) B t ty e i size h1 h2 v n xs hown, by simpa using hown, World.grownBy.refl w _⟩
  | some ad =>
    obtain ⟨v', w', q1, q2, q3, _⟩ := run_append_own (P := Tryz.prog) w B t ty e i z size bytes h1 h2 h3 h4 h5 h6 h7 v n xs hown ad m cap news hn (hcells ad rfl) h1c b1 b2 hB
    exact ⟨v', w', q1, q2, q3⟩
end Go.Proofs.YthfnpagangjpbabGreat
