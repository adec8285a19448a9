/-
  The walk of fixed. Own work.
-/
import Derived.Test.YtfgpmpopmpobgaaWWalkD
namespace Go.Proofs.Ytfgpmpopmpobgaa
open Go.RowKit
attribute [local go_sem ↓] Go.wp_at_zero Go.wp_at_succ
/-- A Reader of one's own, at p. -/
structure St (w W : World) (p : Nat) (s : ByteArray) (e : Nat) : Prop where
  rdr : Rdr W p s e
  below : Below p w W
theorem St.later {w W w' : World} {p e : Nat} {s : ByteArray} (h : St w W p s e) (hb : Below W.heap.size W w') : St w w' p s e :=
  ⟨h.rdr.next hb h.rdr.lt, h.below.trans (hb.mono (Nat.le_of_lt h.rdr.lt))⟩
theorem st_num {w W : World} {p e : Nat} {s : ByteArray} (h : St w W p s e) (n : Nat) (hn : n < 18446744073709551616) (l : List UInt8) (hl : num n = l) (x : Value) (hx : x = .string ⟨l.toArray⟩) (y : Int) (hy : y = n) :
    Calls Try.prog 7 #[.int .u64 y] W fun e' w' => e' = .returned x ∧ St w w' p s e := by
  subst hl
  subst hx
  subst hy
  refine (num_any W n hn).mono ?_
  rintro e w' ⟨rfl, hb⟩
  exact ⟨rfl, h.later hb⟩
theorem st_rnum {w W : World} {p e : Nat} {s : ByteArray} (h : St w W p s e) (hs : s.size ≤ 9223372036854775807) (n e' : Nat) (s' : ByteArray) (hn : nb s e = (n, e', s')) (y z : Int) (hy : y = n) (hz : z = e') :
    Calls Try.prog 9 #[.pointer (some ⟨p, 0, none⟩)] W fun x w' => x = .returned (.tuple #[.int .u64 y, .int .i64 z]) ∧ St w w' p s' e' := by
  subst hy
  subst hz
  refine (rnum_any W p e s h.rdr hs).mono ?_
  rw [hn]
  rintro x w' ⟨rfl, h1, h2⟩
  exact ⟨rfl, h1, h.below.trans h2.below⟩
theorem st_take {w W : World} {p e : Nat} {s : ByteArray} (h : St w W p s e) (n : Int) (t : ByteArray) (e' : Nat) (s' : ByteArray) (hn : tk s e n = (t, e', s')) (z : Int) (hz : z = e') :
    Calls Try.prog 13 #[.pointer (some ⟨p, 0, none⟩), .int .i64 n] W fun x w' => x = .returned (.tuple #[.string t, .int .i64 z]) ∧ St w w' p s' e' := by
  subst hz
  refine (take_any W p e s n h.rdr).mono ?_
  rw [hn]
  rintro x w' ⟨rfl, h1, h2⟩
  exact ⟨rfl, h1, h.below.trans h2.below⟩
theorem st_left {w W : World} {p e : Nat} {s : ByteArray} (h : St w W p s e) (n : Int) (hn : (s.size : Int) = n) :
    Calls Try.prog 10 #[.pointer (some ⟨p, 0, none⟩)] W fun x w' => x = .returned (.int .i64 n) ∧ St w w' p s e := by
  subst hn
  refine (left_any W p e s h.rdr).mono ?_
  rintro x w' ⟨rfl, rfl⟩
  exact ⟨rfl, h⟩
theorem st_first (w : World) (p : Nat) (hp : p = w.heap.size) (s : ByteArray) :
    Calls Try.prog 8 #[.string s] w fun e w' => e = .returned (.pointer (some ⟨p, 0, none⟩)) ∧ St w w' p s 0 := by
  subst hp
  refine (new_any w s).mono ?_
  rintro e w' ⟨rfl, rfl⟩
  exact ⟨rfl, rdr_new w s _, (Below.refl _ _).alloc (Nat.le_refl _) _⟩
theorem num300 : num 300 = [172, 2] := by
  rw [num_high (by decide), num_low (by decide)]; rfl
theorem num0 : num 0 = [0] := by rw [num_low (by decide)]; rfl
set_option maxRecDepth 100000 in
set_option maxHeartbeats 2000000 in
theorem fixed_any (w : World) : Calls Try.prog 6 #[] w fun e w' => e = .returned (.bool true) ∧ Below w.heap.size w w' := by
  obtain ⟨p, hp⟩ : ∃ p, p = w.heap.size := ⟨_, rfl⟩
  have H0 := st_first w p hp ⟨#[5, 97, 98]⟩
  have H1 := fun W (h : St w W p ⟨#[5, 97, 98]⟩ 0) => st_num h 300 (by decide) _ num300 (.string ⟨#[172, 2]⟩) rfl 300 rfl
  have H2 := fun W (h : St w W p ⟨#[5, 97, 98]⟩ 0) => st_num h 0 (by decide) _ num0 (.string ⟨#[0]⟩) rfl 0 rfl
  have H3 := fun W (h : St w W p ⟨#[5, 97, 98]⟩ 0) => st_rnum h (by decide) 5 0 ⟨#[97, 98]⟩ (by decide) 5 0 rfl rfl
  have H4 := fun W (h : St w W p ⟨#[97, 98]⟩ 0) => st_left h 2 (by decide)
  have H5 := fun W (h : St w W p ⟨#[97, 98]⟩ 0) => st_take h 1 ⟨#[97]⟩ 0 ⟨#[98]⟩ (by decide) 0 rfl
  have H6 := fun W (h : St w W p ⟨#[98]⟩ 0) => st_take h 2 ByteArray.empty 60 ByteArray.empty (by decide) 60 rfl
  have H7 := fun W (h : St w W p ByteArray.empty 60) => st_take h 0 ByteArray.empty 60 ByteArray.empty (by decide) 60 rfl
  have H8 := fun W (h : St w W p ByteArray.empty 60) => st_left h 0 (by decide)
  have HP := hide hp
  clear hp
  go_enter Try.func6, Try.ntmps6
  go_wp2_with (first
    | (go_at_call 8; with_reducible refine H0.mono ?_; rintro e w' ⟨rfl, hS⟩; clear H0)
    | (go_at_call 7; with_reducible refine (H1 _ hS).mono ?_; clear hS; rintro e w' ⟨rfl, hS⟩)
    | (go_at_call 7; with_reducible refine (H2 _ hS).mono ?_; clear hS; rintro e w' ⟨rfl, hS⟩)
    | (go_at_call 9; with_reducible refine (H3 _ hS).mono ?_; clear hS; rintro e w' ⟨rfl, hS⟩)
    | (go_at_call 10; with_reducible refine (H4 _ hS).mono ?_; clear hS; rintro e w' ⟨rfl, hS⟩)
    | (go_at_call 13; with_reducible refine (H5 _ hS).mono ?_; clear hS; rintro e w' ⟨rfl, hS⟩)
    | (go_at_call 13; with_reducible refine (H6 _ hS).mono ?_; clear hS; rintro e w' ⟨rfl, hS⟩)
    | (go_at_call 13; with_reducible refine (H7 _ hS).mono ?_; clear hS; rintro e w' ⟨rfl, hS⟩)
    | (go_at_call 10; with_reducible refine (H8 _ hS).mono ?_; clear hS; rintro e w' ⟨rfl, hS⟩))
  go_ret
  exact ⟨rfl, HP.out ▸ hS.below⟩
end Go.Proofs.Ytfgpmpopmpobgaa
