/-
  Walks of package place: Peaks; and of the laws' own same and trail. Own work.
-/
import Derived.Test.YtilflepomeoffabWalkD
namespace Go.Proofs.Ytilflepomeoffab
open Go.RowKit
attribute [local go_sem ↓] Go.wp_at_zero Go.wp_at_succ
theorem Try.infoU : (Try.prog.info? 22).map (fun i => (i.zero, i.size, i.bytes)) = some (some (.int .u64 0), 1, 8) := by kernel_rfl
/-- Numbers as cells. -/
abbrev cU (l : List Nat) : List Value := l.map (fun x : Nat => Value.int .u64 (x : Int))
/-- A list of numbers of one's own. -/
abbrev Own (w : World) (base : Nat) (v : Value) (l : List Nat) : Prop := w.ownsRow base 22 1 v l.length (cU l)
theorem own_step {B : Nat} {w wr w1 : World} {v v' : Value} {l : List Nat} {x : Nat} {o : Obj} (hB : Below B w wr) (hs : B ≤ wr.heap.size) (hown : Own wr B v l)
    (hown' : w1.ownsRow B 22 1 v' (l.length + 1) (cU l ++ [.int .u64 (x : Int)])) (hg : (wr.alloc o).grownBy w1 v.ownBlock) : Own w1 B v' (l ++ [x]) ∧ Below B w w1 ∧ B ≤ w1.heap.size := by
  have h1 := hg.size
  rw [World.size_alloc] at h1
  refine ⟨by simpa [Own, cU] using hown', (hB.alloc hs o).grown hg (by simp; omega) (fun j hj => (hown.lt j hj).1), by omega⟩
theorem peaks_yes (n : Nat) (w : World) (hn : n ≤ 2 ^ 40) :
    Calls Try.prog 21 #[.int .u64 n] w fun e w' => ∃ v, e = .returned v ∧ Own w' w.heap.size v (pk 41 n) ∧ Below w.heap.size w w' := by
  obtain ⟨i0, hi, hz0, hz1, hz2⟩ := info_parts Try.infoU
  have ht : decide ((1099511627776 : Int) < (n : Int)) = false := decide_eq_false (by omega)
  have HF0 : Hid (fr 41 (n / pw 41) = 0) := fill_start n hn
  go_enter Try.func21, Try.ntmps21
  go_wp2
  go_loopg [3, 4, 5] 41 (fun g v f h wr => ∃ d fl : Nat, d ≤ 41 ∧ g = 41 - d ∧ h = .int .i64 (40 - (d : Int)) ∧ f = .int .u64 (fl : Int) ∧ fl = fr (41 - d) (n / pw (41 - d)) ∧ Own wr w.heap.size v (pk d n) ∧ Below w.heap.size w wr)
  case atStart =>
    go_light
    exact ⟨0, 0, Nat.zero_le _, rfl, rfl, rfl, HF0.out.symm, World.ownsRow_nil _ _ _ _, Below.refl _ _⟩
  case round =>
    clear HF0
    obtain ⟨d, fl, hd, rfl, rfl, rfl, hf, hown, hb⟩ := hrel
    by_cases hlt : d < 41
    · obtain ⟨j, hj⟩ : ∃ j : Nat, 40 - d = j := ⟨_, rfl⟩
      have ej : (40 - (d : Int)) = (j : Int) := by omega
      have hj0 : (0 : Int) ≤ (j : Int) := Int.natCast_nonneg _
      have hj1 : (j : Int) < 64 := by omega
      have hj2 : ¬ (j : Int) < 0 := by omega
      have HT : ∀ w', Calls Try.prog 25 #[.int .i64 (j : Int)] w' fun e w'' => e = .returned (.int .u64 (2 * pw j - 1 : Nat)) ∧ w' = w'' := fun w' => (tree_any j w' (by omega)).mono fun e w'' h => ⟨h.1, h.2.symm⟩
      have hbit := bit_eq n j (by omega)
      have hd40 : 40 - d = j := hj
      have hd41 : 41 - d = j + 1 := by omega
      have hd42 : 41 - (d + 1) = j := by omega
      rw [hd41] at hf
      have hfl := fill_le n (j + 1) hn
      have hpl := pk_len d n
      have hsz := hb.size
      rw [ej]
      by_cases hbo : n / 2 ^ j % 2 = 1
      · rw [decide_eq_true hbo] at hbit
        obtain ⟨hx1, hx2⟩ := fill_one n j hn hbo
        have hp2 : pk (d + 1) n = pk d n ++ [at' j (n / pw j - 1)] := by rw [pk_one d n (by rw [hd40]; exact hbo), hd40]
        rw [← hf] at hx1 hx2 hfl
        obtain ⟨f2, hf2⟩ : ∃ f2, fl + (2 * pw j - 1) = f2 := ⟨_, rfl⟩
        rw [hf2] at hx1 hx2
        generalize at' j (n / pw j - 1) = x at *
        have hfl2 := fill_le n j hn
        have hpj := pw_40 j (by omega)
        rw [← hx1] at hfl2
        have ef : IntKind.u64.wrap ((fl : Int) + ((2 * pw j - 1 : Nat) : Int)) = (f2 : Int) := by rw [IntKind.wrap_u64]; omega
        have ex : IntKind.u64.wrap ((f2 : Int) - 1) = (x : Int) := by rw [IntKind.wrap_u64]; omega
        have HX : Hid (f2 = fr j (n / pw j) ∧ pk (d + 1) n = pk d n ++ [x] ∧ 41 - (d + 1) = j ∧ (j : Int) = 40 - (d : Int)) := ⟨hx1, hp2, hd42, ej.symm⟩
        have HB : Hid (Below w.heap.size w wr) := hb
        clear hx1 hx2 hp2 hf hfl hfl2 hpj hf2 hd42 hd41 hd40 ej hj hb hbo hn
        generalize 2 * pw j - 1 = t at *
        go_wp2_with (first
          | (go_at_call 25; with_reducible refine (HT _).mono ?_; rintro e w' ⟨rfl, rfl⟩)
          | (at_builtin; refine wpList_append_own _ rfl _ _ 35 rfl w.heap.size 22 i0 (.int .u64 0) 1 8 Try.underlying35 hi hz0 hz1 hz2 rfl (by decide) _ _ _ rfl (hown.alloc _) ⟨wr.heap.size, 0, none⟩ 1 1 [.int .u64 (x : Int)] rfl rfl ?c1 ?c2 ?c3 ?c4 ?c5 ?_))
        case c1 =>
          intro j u hj
          match j, hj with
          | 0, hj => simp at hj; subst hj; simp [Addr.add]
        case c2 => intro u hu; simp at hu; subst hu; rfl
        case c3 => unfold maxLen; omega
        case c4 => omega
        case c5 => simp; omega
        · intro v' w1 hown' hgrow _
          have R := own_step HB.out hsz hown hown' hgrow
          clear hown' hgrow hown
          go_wp2
          go_roundg (41 - (d + 1))
          case rel =>
            go_light
            obtain ⟨x1, x2, x3, x4⟩ := HX.out
            exact ⟨d + 1, f2, by omega, rfl, by go_num, rfl, by rw [x3]; exact x1, by rw [x2]; exact R.1, R.2.1⟩
          case measure => go_light; omega
      · rw [decide_eq_false hbo] at hbit
        have hx := fill_none n j hn hbo
        have hp2 : pk (d + 1) n = pk d n := pk_none d n (by rw [hd40]; exact hbo)
        rw [← hf] at hx
        have HX : Hid (fl = fr j (n / pw j) ∧ pk (d + 1) n = pk d n ∧ 41 - (d + 1) = j ∧ (j : Int) = 40 - (d : Int)) := ⟨hx, hp2, hd42, ej.symm⟩
        have HB : Hid (Below w.heap.size w wr) := hb
        clear hx hp2 hf hfl hd42 hd41 hd40 ej hj hb hbo hn HT
        go_wp2
        go_roundg (41 - (d + 1))
        case rel =>
          go_light
          obtain ⟨x1, x2, x3, x4⟩ := HX.out
          exact ⟨d + 1, fl, by omega, rfl, by go_num, rfl, by rw [x3]; exact x1, by rw [x2]; exact hown, HB.out⟩
        case measure => go_light; omega
    · obtain rfl : d = 41 := by omega
      have HB : Hid (Below w.heap.size w wr) := hb
      have HO : Hid (Own wr w.heap.size u3 (pk 41 n)) := hown
      clear hd hlt hf hb hown
      go_wp2
      go_ret
      exact ⟨_, rfl, HO.out, HB.out⟩
theorem peaks_no (n : Nat) (w : World) (hn : 2 ^ 40 < n) :
    Calls Try.prog 21 #[.int .u64 n] w fun e w' => ∃ v, e = .returned v ∧ Own w' w.heap.size v [] ∧ Below w.heap.size w w' := by
  have ht : decide ((1099511627776 : Int) < (n : Int)) = true := decide_eq_true (by omega)
  clear hn
  go_enter Try.func21, Try.ntmps21
  go_wp2
  go_ret
  exact ⟨_, rfl, World.ownsRow_nil _ _ _ _, Below.refl _ _⟩
/-- The peaks' places. -/
def pks (n : Nat) : List Nat := if n ≤ 2 ^ 40 then pk 41 n else []
theorem peaks_any (n : Nat) (w : World) :
    Calls Try.prog 21 #[.int .u64 n] w fun e w' => ∃ v, e = .returned v ∧ Own w' w.heap.size v (pks n) ∧ Below w.heap.size w w' := by
  by_cases h : n ≤ 2 ^ 40
  · rw [pks, if_pos h]; exact peaks_yes n w h
  · rw [pks, if_neg h]; exact peaks_no n w (by omega)
end Go.Proofs.Ytilflepomeoffab
