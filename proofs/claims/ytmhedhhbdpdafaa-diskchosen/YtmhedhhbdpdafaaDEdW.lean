/-
  The laws' edited. Own work.
-/
import Derived.Test.YtmhedhhbdpdafaaDEd
import Derived.Test.YtmhedhhbdpdafaaDBx
namespace Go.Proofs.Ytmhedhhbdpdafaa
open Go.RowKit
/-- An Edit. -/
structure EdV where
  at_ : Int
  data : ByteArray
  cut : Bool
/-- A list of them that can be read. -/
structure RdE (w : World) (ao : Option Addr) (b off len : Nat) (l : Nat → EdV) : Prop where
  ptr : 0 < len → ao = some ⟨b, off, none⟩
  cell : ∀ j, j < len → w.cell? ⟨b, off + (j * 3 + 0), none⟩ = some (.int .i64 (l j).at_) ∧ w.cell? ⟨b, off + (j * 3 + 1), none⟩ = some (.string (l j).data) ∧ w.cell? ⟨b, off + (j * 3 + 2), none⟩ = some (.bool (l j).cut)
theorem RdE.three {w W : World} {ao : Option Addr} {b off len : Nat} {l : Nat → EdV} (h : RdE w ao b off len l) (hb : Below w.heap.size w W) {j : Nat} (hj : j < len) {a : Nat} (ha : off + j * 3 = a) :
    W.cell? ⟨b, a, none⟩ = some (.int .i64 (l j).at_) ∧ W.cell? ⟨b, a + 1, none⟩ = some (.string (l j).data) ∧ W.cell? ⟨b, a + 2, none⟩ = some (.bool (l j).cut) := by
  obtain ⟨h0, h1, h2⟩ := h.cell j hj
  have hlt : b < w.heap.size := World.block_lt_of_cell? _ _ h0
  subst ha
  exact ⟨(hb.cell (p := ⟨b, _, none⟩) hlt).trans h0, (hb.cell (p := ⟨b, _, none⟩) hlt).trans h1, (hb.cell (p := ⟨b, _, none⟩) hlt).trans h2⟩
theorem RdE.next {w W : World} {ao : Option Addr} {b off len : Nat} {l : Nat → EdV} (h : RdE w ao b off len l) (hb : Below w.heap.size w W) : RdE W ao b off len l := by
  refine ⟨h.ptr, fun j hj => ?_⟩
  obtain ⟨h0, h1, h2⟩ := h.cell j hj
  have hlt : b < w.heap.size := World.block_lt_of_cell? _ _ h0
  exact ⟨(hb.cell (p := ⟨b, _, none⟩) hlt).trans h0, (hb.cell (p := ⟨b, _, none⟩) hlt).trans h1, (hb.cell (p := ⟨b, _, none⟩) hlt).trans h2⟩
theorem Ed.mono {D : DV} {now was : List UInt8} {i j : Nat} (h : Ed D now was i) (hij : i ≤ j) : Ed D now was j := ⟨h.down, h.fk, h.L, h.free, Nat.le_trans h.acts hij, by have := h.sz; omega⟩
theorem rdf_new (w : World) (t : ByteArray) : RdF (w.alloc (.cells #[.string ⟨#[102]⟩, .string t] 42)) (some ⟨w.heap.size, 0, none⟩) w.heap.size 0 [([102], t.data.toList)] := by
  have k := new1 w (.cells #[.string ⟨#[102]⟩, .string t] 42)
  refine ⟨fun _ => rfl, fun j hj => ?_, fun j hj => ?_⟩
  · obtain rfl : j = 0 := by simpa using hj
    rw [cell_of_row _ _ 0 _ _ (0, 0) k]; rfl
  · obtain rfl : j = 0 := by simpa using hj
    rw [cell_of_row _ _ 1 _ _ (0, 0) k]; rfl
set_option maxRecDepth 100000 in
set_option maxHeartbeats 4000000 in
theorem edited_any (w : World) (was : ByteArray) (hwas : was.size ≤ 1500) (ao : Option Addr) (b off n c : Nat) (l : Nat → EdV) (hl : RdE w ao b off n l) (hn : n ≤ maxLen) :
    Calls Try.prog 26 #[.string was, .slice ao n c] w fun e w' => ∃ p D now, e = .returned (.pointer (some ⟨p, 0, none⟩)) ∧ Ed D now was.data.toList 12 ∧ Bx w w' p D [] := by
  obtain ⟨w1, hw1⟩ : ∃ W, w.alloc (.cells #[.string ⟨#[102]⟩, .string was] 42) = W := ⟨_, rfl⟩
  have HW1 := hide hw1
  have u1 : Below w.heap.size w w1 := by rw [← hw1]; exact bal (Below.refl _ _) _
  have hwl : was.data.toList.length ≤ 1500 := by rw [size_list]; exact hwas
  have HO : Hid (Calls Try.prog 24 #[.int .i64 1048576, .slice (some ⟨w.heap.size, 0, none⟩) 1 1] w1 fun e w' => ∃ p S, e = .returned (.tuple #[.pointer (some ⟨p, 0, none⟩), .int .i64 0]) ∧ Dsk w' p S (openD 1048576 [([102], was.data.toList)]) ∧ (∀ x, S x → w1.heap.size ≤ x) ∧ Below w1.heap.size w1 w') := by
    refine open_yes w1 1048576 (by decide) _ w.heap.size 0 1 [([102], was.data.toList)] (by rw [← hw1]; exact rdf_new w was) ?_ (by simp) ⟨by simp [nms], ?_⟩ ?_
    · intro x hx
      simp only [List.mem_singleton] at hx
      rw [hx]; exact (by decide : 1 ≤ maxLen)
    · intro x hx
      simp only [List.mem_singleton] at hx
      rw [hx]; simp only; omega
    · simp only [byt]; omega
  have HL : Hid (RdE w ao b off n l ∧ n ≤ maxLen ∧ was.data.toList.length ≤ 1500) := ⟨hl, hn, hwl⟩
  have HU := hide u1
  clear hl hn hwl hwas hw1 u1
  go_enter Try.func26, Try.ntmps26
  go_upto_region 2 with (go_at_call 24; rw [HW1.out]; (with_reducible refine HO.out.mono ?_); rintro e w2 ⟨p, S, rfl, d2, s2, u2⟩)
  have b2 : Bx w w2 p (openD 1048576 [([102], was.data.toList)]) [] := bx_new d2 (fun x hx => Nat.le_trans HU.out.size (s2 x hx)) (bnext HU.out u2)
  have HB2 := hide b2
  have HE2 := hide (ed_open was.data.toList HL.out.2.2)
  clear d2 s2 u2 b2 HO HW1 HU
  go_wp2
  go_loopg [7] 12 (fun g x wr => ∃ (j : Nat) (D : DV) (now : List UInt8), j ≤ 12 ∧ g = 12 - j ∧ x = .int .i64 (j : Int) ∧ Ed D now was.data.toList j ∧ Bx w wr p D [] ∧ j ≤ n)
  case atStart =>
    exact ⟨0, _, _, by omega, rfl, rfl, HE2.out, HB2.out, Nat.zero_le _⟩
  case round =>
    clear HE2 HB2
    obtain ⟨j, D, now, hj, rfl, rfl, hE, bx, hjn⟩ := hrel
    by_cases hlt : j < n ∧ j < 12
    · obtain ⟨hl1, hl2⟩ := hlt
      obtain ⟨q0, q1, q2⟩ := HL.out
      obtain ⟨a, ha⟩ : ∃ a, off + j * 3 = a := ⟨_, rfl⟩
      obtain ⟨k0, k1, k2⟩ := q0.three bx.below hl1 ha
      have HC : Hid (∀ W, Below w.heap.size w W → W.cell? ⟨b, a, none⟩ = some (.int .i64 (l j).at_) ∧ W.cell? ⟨b, a + 1, none⟩ = some (.string (l j).data)) := fun W hW => by
        obtain ⟨y0, y1, _⟩ := q0.three hW hl1 ha
        exact ⟨y0, y1⟩
      obtain rfl := q0.ptr (by omega)
      generalize l j = o at *
      obtain ⟨at_, dt, ct⟩ := o
      simp only at k0 k1 k2 HC
      have hx1 : (j : Int) < (n : Int) := by omega
      have hx2 : (j : Int) < 12 := by omega
      have hx0 : (0 : Int) ≤ (j : Int) := by omega
      have hro := hE.roomy (by omega : j ≤ 100)
      have hsz := hE.sz
      obtain ⟨sz, hs⟩ : ∃ sz, now.length = sz := ⟨_, rfl⟩
      have hsz2 : sz ≤ 10000 := by omega
      have HSz : Hid (∀ W, Bx w W p D [] → Calls Try.prog 17 #[.pointer (some ⟨p, 0, none⟩), .string ⟨#[102]⟩] W fun e w' => e = .returned (.int .i64 (sz : Int)) ∧ w' = W) := fun W h => h.size ⟨#[102]⟩ (by decide) (by rw [← hs]; exact hE.siz)
      have hz1 : ¬ ((sz : Int) < 0) := by omega
      have hz2 : ¬ ((1048576 : Int) < (sz : Int)) := by omega
      obtain ⟨z, hz⟩ : ∃ z, bentV at_ sz = z := ⟨_, rfl⟩
      have hzl : z ≤ sz := by rw [← hz]; exact bentV_le _ _
      have HBt : Hid (∀ W, Calls Try.prog 10 #[.int .i64 at_, .int .i64 (sz : Int)] W fun e w' => e = .returned (.int .i64 (z : Int)) ∧ w' = W) := fun W => by rw [← hz]; exact bent_any W at_ sz (by omega)
      have hwj : IntKind.i64.wrap ((j : Int) + 1) = (j : Int) + 1 := by rw [IntKind.wrap_i64]; omega
      cases ct with
      | true =>
        obtain ⟨D', hc, hE'⟩ := hE.cut z (by omega)
        have HCt : Hid (∀ W, Bx w W p D [] → Calls Try.prog 14 #[.pointer (some ⟨p, 0, none⟩), .string ⟨#[102]⟩, .int .i64 (z : Int)] W fun e w' => e = .returned (.int .i64 0) ∧ Bx w w' p D' []) := fun W h => h.cut hro ⟨#[102]⟩ (by decide) _ (by omega) (by omega) hc
        have HE' := hide hE'
        clear hc hE' hE hro hsz hs hz q0 q1 q2 HC hzl
        go_wp2_with (first
          | (go_at_call 17; (with_reducible refine (HSz.out _ bx).mono ?_); rintro e w6 ⟨rfl, rfl⟩)
          | (go_at_call 10; (with_reducible refine (HBt.out _).mono ?_); rintro e w6 ⟨rfl, rfl⟩)
          | (go_at_call 14; (with_reducible refine (HCt.out _ bx).mono ?_); rintro e w7 ⟨rfl, b7⟩))
        go_roundg (12 - (j + 1))
        case rel =>
          go_light
          exact ⟨j + 1, D', _, by omega, rfl, by go_num, HE'.out, b7, by omega⟩
        case measure => go_light; omega
      | false =>
        obtain ⟨t4, ht4⟩ : ∃ t : ByteArray, (⟨(dt.data.toList.take 400).toArray⟩ : ByteArray) = t := ⟨_, rfl⟩
        have hts : t4.data.toList.length ≤ 400 := by rw [← ht4, List.length_take]; omega
        have hts2 : t4.size ≤ 400 := by rw [← size_list]; exact hts
        have HS : Hid (∀ W, Calls Try.prog 12 #[.string dt, .int .i64 400] W fun e w' => e = .returned (.string t4) ∧ w' = W) := fun W => by
          have := short_any W dt 400 (by omega)
          rw [ht4] at this
          exact this
        obtain ⟨D', hc, hE'⟩ := hE.wr (by omega) z (by omega) t4.data.toList hts
        have HCt : Hid (∀ W, Bx w W p D [] → Calls Try.prog 13 #[.pointer (some ⟨p, 0, none⟩), .string ⟨#[102]⟩, .int .i64 (z : Int), .string t4] W fun e w' => e = .returned (.int .i64 0) ∧ Bx w w' p D' []) := fun W h => h.write hro ⟨#[102]⟩ t4 (by decide) _ (by omega) (by omega) (by omega) hc
        have HE' := hide hE'
        clear hc hE' hE hro hsz hs hz q0 q1 q2 hzl ht4 hts hts2
        go_upto_region 12 with (go_at_call 17; (with_reducible refine (HSz.out _ bx).mono ?_); rintro e w6 ⟨rfl, h6⟩; rw [h6]; clear h6 w6)
        have tw := bx.next (bdw wr)
        go_region_held3 (fun Z => Z.cell? ⟨b, a, none⟩ = some (.int .i64 at_) ∧ Z.cell? ⟨b, a + 1, none⟩ = some (.string dt)) (first | assumption | (exact ⟨k0, k1⟩) | (exact HC.out _ tw.below) | (exact HC.out _ b7.below)) (first
          | (go_at_call 10; (with_reducible refine (HBt.out _).mono ?_); rintro e w6 ⟨rfl, rfl⟩)
          | (go_at_call 12; (with_reducible refine (HS.out _).mono ?_); rintro e w6 ⟨rfl, rfl⟩)
          | (go_at_call 13; (with_reducible refine (HCt.out _ tw).mono ?_); rintro e w7 ⟨rfl, b7⟩))
        all_goals
          go_wp2
          go_roundg (12 - (j + 1))
          case rel =>
            go_light
            exact ⟨j + 1, D', _, by omega, rfl, by go_num, HE'.out, b7, by omega⟩
          case measure => go_light; omega
    · have HB := hide bx
      have HE' := hide (hE.mono hj)
      clear bx hE
      by_cases hl1 : (j : Int) < (n : Int)
      · have hl2 : ¬ ((j : Int) < 12) := by omega
        clear hlt
        go_wp2
        go_ret
        exact ⟨p, rfl, D, ⟨now, HE'.out⟩, HB.out⟩
      · clear hlt
        go_wp2
        go_ret
        exact ⟨p, rfl, D, ⟨now, HE'.out⟩, HB.out⟩
end Go.Proofs.Ytmhedhhbdpdafaa
