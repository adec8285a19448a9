/-
  The laws' alive: its walk. Own work.
-/
import Derived.Test.YtmhedhhbdpdafaaDAlive
namespace Go.Proofs.Ytmhedhhbdpdafaa
open Go.RowKit
theorem roomy_e {D : DV} (h1 : D.acts ≤ 1000) (h2 : D.L.length ≤ 1000) (h3 : D.free ≤ 1048576) : Roomy D := ⟨by omega, by omega, by omega⟩
theorem rdl_two {w : World} {b : Nat} {x y : Bool} {T : TypeId} (h : w.heap[b]? = some (.cells #[.bool x, .bool y] T (0, 0))) : RdL w (some ⟨b, 0, none⟩) b 0 [x, y] := by
  refine ⟨fun _ => rfl, fun j hj => ?_⟩
  rw [cell_of_row w b (0 + j) _ _ (0, 0) h]
  match j, hj with
  | 0, _ => rfl
  | 1, _ => rfl
theorem rdf_one {w : World} {b : Nat} {x y : ByteArray} {T : TypeId} (h : w.heap[b]? = some (.cells #[.string x, .string y] T (0, 0))) : RdF w (some ⟨b, 0, none⟩) b 0 [(x.data.toList, y.data.toList)] := by
  refine ⟨fun _ => rfl, fun j hj => ?_, fun j hj => ?_⟩
  · match j, hj with
    | 0, _ => rw [cell_of_row w b (0 + 0 * 2) _ _ (0, 0) h]; rfl
  · match j, hj with
    | 0, _ => rw [cell_of_row w b (0 + 0 * 2 + 1) _ _ (0, 0) h]; rfl
set_option maxRecDepth 100000 in
set_option maxHeartbeats 2000000 in
theorem alive_any (w : World) : Calls Try.prog 9 #[] w fun e w' => e = .returned (.bool true) ∧ Below w.heap.size w w' := by
  have HN := new_any w 200 200 rfl (by decide)
  have lim : ∀ {s : ByteArray}, s.size ≤ 10 → s.size ≤ maxLen := fun h => by unfold maxLen; omega
  have H1 : Hid (∀ W p, Nw w W p (newD 200) → Calls Try.prog 13 #[.pointer (some ⟨p, 0, none⟩), .string ⟨#[97]⟩, .int .i64 0, .string ⟨#[120, 121, 122]⟩] W fun e w' => e = .returned (.int .i64 0) ∧ Nw w w' p eD1) := fun W p h => h.write (roomy_e (by decide) (by decide) (by decide)) _ _ (lim (by decide)) _ (by decide) (by decide) (by decide) ex1
  have H2 : Hid (∀ W p, Nw w W p eD1 → Calls Try.prog 13 #[.pointer (some ⟨p, 0, none⟩), .string ⟨#[97]⟩, .int .i64 5, .string ⟨#[113]⟩] W fun e w' => e = .returned (.int .i64 173) ∧ Nw w w' p eD1) := fun W p h => h.write (roomy_e (by decide) (by decide) (by decide)) _ _ (lim (by decide)) _ (by decide) (by decide) (by decide) ex2
  have H3 : Hid (∀ W p, Nw w W p eD1 → Calls Try.prog 13 #[.pointer (some ⟨p, 0, none⟩), .string ⟨#[97]⟩, .int .i64 3, .string ⟨#[113]⟩] W fun e w' => e = .returned (.int .i64 0) ∧ Nw w w' p eD2) := fun W p h => h.write (roomy_e (by decide) (by decide) (by decide)) _ _ (lim (by decide)) _ (by decide) (by decide) (by decide) ex3
  have H4 : Hid (∀ W p, Nw w W p eD2 → Calls Try.prog 16 #[.pointer (some ⟨p, 0, none⟩), .string ⟨#[97]⟩, .int .i64 1, .int .i64 3] W fun e w' => e = .returned (.tuple #[.string ⟨#[121, 122, 113]⟩, .int .i64 0]) ∧ Nw w w' p eD2) := fun W p h => h.read _ (lim (by decide)) _ _ (by decide) (by decide) (by decide) (by decide) ex4 rfl
  have H5 : Hid (∀ W p, Nw w W p eD2 → Calls Try.prog 17 #[.pointer (some ⟨p, 0, none⟩), .string ⟨#[97]⟩] W fun e w' => e = .returned (.int .i64 4) ∧ Nw w w' p eD2) := fun W p h => h.size _ (lim (by decide)) rfl
  have H6 : Hid (∀ W p, Nw w W p eD2 → Calls Try.prog 22 #[.pointer (some ⟨p, 0, none⟩), .slice none 0 0] W fun e w' => ∃ ao b c, e = .returned (.slice ao 0 c) ∧ RdF w' ao b 0 [] ∧ Nw w w' p eD2 ∧ Below W.heap.size W w') := fun W p h => h.after none 0 0 0 [] (rdl_nil _ _ _ _) (by decide) ex8
  have H7 : Hid (∀ W p, Nw w W p eD2 → Calls Try.prog 15 #[.pointer (some ⟨p, 0, none⟩), .string ⟨#[97]⟩] W fun e w' => e = .returned (.int .i64 0) ∧ Nw w w' p eD3) := fun W p h => h.sync (roomy_e (by decide) (by decide) (by decide)) _ (lim (by decide)) ex5
  have H8 : Hid (∀ W p, Nw w W p eD3 → Calls Try.prog 18 #[.pointer (some ⟨p, 0, none⟩)] W fun e w' => e = .returned (.int .i64 3) ∧ Nw w w' p eD3) := fun W p h => h.acts rfl
  have H9 : Hid (∀ W p, Nw w W p eD3 → Calls Try.prog 13 #[.pointer (some ⟨p, 0, none⟩), .string ⟨#[97]⟩, .int .i64 0, .string ⟨#[88]⟩] W fun e w' => e = .returned (.int .i64 0) ∧ Nw w w' p eD4) := fun W p h => h.write (roomy_e (by decide) (by decide) (by decide)) _ _ (lim (by decide)) _ (by decide) (by decide) (by decide) ex6
  have H10 : Hid (∀ W p, Nw w W p eD4 → Calls Try.prog 14 #[.pointer (some ⟨p, 0, none⟩), .string ⟨#[97]⟩, .int .i64 2] W fun e w' => e = .returned (.int .i64 0) ∧ Nw w w' p eD5) := fun W p h => h.cut (roomy_e (by decide) (by decide) (by decide)) _ (lim (by decide)) _ (by decide) (by decide) ex7
  have H11 : Hid (∀ W p b c, Nw w W p eD5 → RdL W (some ⟨b, 0, none⟩) b 0 [false, true] → Calls Try.prog 22 #[.pointer (some ⟨p, 0, none⟩), .slice (some ⟨b, 0, none⟩) 2 c] W fun e w' => ∃ ao b c, e = .returned (.slice ao 1 c) ∧ RdF w' ao b 0 [([97], [88, 121, 0, 0])] ∧ Nw w w' p eD5 ∧ Below W.heap.size W w') := fun W p b c h hk => h.after _ _ _ c [false, true] hk (by decide) ex9
  have H12 : Hid (∀ W p b c, Nw w W p eD5 → RdL W (some ⟨b, 0, none⟩) b 0 [true, false] → Calls Try.prog 22 #[.pointer (some ⟨p, 0, none⟩), .slice (some ⟨b, 0, none⟩) 2 c] W fun e w' => ∃ ao b c, e = .returned (.slice ao 1 c) ∧ RdF w' ao b 0 [([97], [120, 121])] ∧ Nw w w' p eD5 ∧ Below W.heap.size W w') := fun W p b c h hk => h.after _ _ _ c [true, false] hk (by decide) ex10
  have H13 : Hid (∀ W p, Nw w W p eD5 → Calls Try.prog 21 #[.pointer (some ⟨p, 0, none⟩)] W fun e w' => ∃ ao b c, e = .returned (.slice ao 1 c) ∧ RdF w' ao b 0 [([97], [88, 121])] ∧ Nw w w' p eD5) := fun W p h => h.files ex11
  have H14 : Hid (∀ W p, Nw w W p eD5 → Calls Try.prog 19 #[.pointer (some ⟨p, 0, none⟩)] W fun e w' => e = .returned (.bool false) ∧ Nw w w' p eD5) := fun W p h => h.down rfl
  have HNw : Hid (∀ W p S, Dsk W p S (newD 200) → (∀ x, S x → w.heap.size ≤ x) → Below w.heap.size w W → Nw w W p (newD 200)) := fun W p S h1 h2 h3 => ⟨S, h1, h2, h3⟩
  have HSm : Hid (∀ W x ao b c bb cc, RdF W ao b 0 [x] → RdF W (some ⟨bb, 0, none⟩) bb 0 [x] → Calls Try.prog 20 #[.slice ao 1 c, .slice (some ⟨bb, 0, none⟩) 1 cc] W fun e w' => e = .returned (.bool true) ∧ Below W.heap.size W w') := fun W x ao b c bb cc h1 h2 => same_yes W [x] ao b 0 c h1 _ bb 0 cc h2 (by decide : 1 ≤ 4611686018427387904)
  clear lim
  go_enter Try.func9, Try.ntmps9
  go_upto_region 2 with (go_at_call 11; (with_reducible refine HN.mono ?_); rintro e w1 ⟨p, S, rfl, q1, q2, q3⟩; have n1 := HNw.out _ _ _ q1 q2 q3; clear q1 q2 q3)
  go_upto_region 3 with (go_at_call 13; (with_reducible refine (H1.out _ _ n1).mono ?_); rintro e w2 ⟨rfl, n2⟩)
  clear n1
  go_upto_region 4 with (go_at_call 13; (with_reducible refine (H2.out _ _ n2).mono ?_); rintro e w3 ⟨rfl, n3⟩)
  clear n2
  go_upto_region 5 with (go_at_call 13; (with_reducible refine (H3.out _ _ n3).mono ?_); rintro e w4 ⟨rfl, n4⟩)
  clear n3
  go_upto_region 6 with (go_at_call 16; (with_reducible refine (H4.out _ _ n4).mono ?_); rintro e w5 ⟨rfl, n5⟩)
  clear n4
  go_upto_region 8 with (first
    | (go_at_call 17; (with_reducible refine (H5.out _ _ n5).mono ?_); rintro e w6 ⟨rfl, n6⟩)
    | (go_at_call 22; (with_reducible refine (H6.out _ _ n6).mono ?_); rintro e w7 ⟨ao, b, c, rfl, _, n7, _⟩)
    | (go_at_call 15; (with_reducible refine (H7.out _ _ n7).mono ?_); rintro e w8 ⟨rfl, n8⟩)
    | (go_at_call 18; (with_reducible refine (H8.out _ _ n8).mono ?_); rintro e w9 ⟨rfl, n9⟩))
  clear n5 n6 n7 n8
  go_upto_region 9 with (go_at_call 13; (with_reducible refine (H9.out _ _ n9).mono ?_); rintro e w10 ⟨rfl, n10⟩)
  clear n9
  go_upto_region 10 with (go_at_call 14; (with_reducible refine (H10.out _ _ n10).mono ?_); rintro e w11 ⟨rfl, n11⟩)
  clear n10 H1 H2 H3 H4 H5 H6 H7 H8 H9 H10 HNw HN
  go_upto_region 11 with (go_at_call 22; (with_reducible refine (H11.out _ _ w11.heap.size _ (n11.next (bal (Below.refl _ _) _)) (rdl_two (new1 _ _))).mono ?_); rintro e w12 ⟨a1, b1, c1, rfl, f1, n12, _⟩)
  go_upto_region 12 with (go_at_call 22; (with_reducible refine (H12.out _ _ w12.heap.size _ (n12.next (bal (Below.refl _ _) _)) (rdl_two (new1 _ _))).mono ?_); rintro e w13 ⟨a2, b2, c2, rfl, f2, n13, u13⟩; have u14 := bnext (bal (Below.refl _ w12) _) u13)
  clear n11 n12
  go_wp2_with (first
    | (go_at_call 20; (with_reducible refine (HSm.out _ _ _ _ _ w13.heap.size _ (f1.next (bnext u14 (bal (Below.refl _ _) _))) (rdf_one (new1 _ _))).mono ?_); rintro e w14 ⟨rfl, x14⟩; have n14 := n13.next (bnext (bal (Below.refl _ w13) _) x14); have g2 := f2.next (bnext (bal (Below.refl _ w13) _) x14))
    | (go_at_call 20; (with_reducible refine (HSm.out _ _ _ _ _ w14.heap.size _ (g2.next (bal (Below.refl _ _) _)) (rdf_one (new1 _ _))).mono ?_); rintro e w15 ⟨rfl, x15⟩; have n15 := n14.next (bnext (bal (Below.refl _ w14) _) x15))
    | (go_at_call 21; (with_reducible refine (H13.out _ _ n15).mono ?_); rintro e w16 ⟨a3, b3, c3, rfl, f3, n16⟩)
    | (go_at_call 20; (with_reducible refine (HSm.out _ _ _ _ _ w16.heap.size _ (f3.next (bal (Below.refl _ _) _)) (rdf_one (new1 _ _))).mono ?_); rintro e w17 ⟨rfl, x17⟩; have n17 := n16.next (bnext (bal (Below.refl _ w16) _) x17))
    | (go_at_call 19; (with_reducible refine (H14.out _ _ n17).mono ?_); rintro e w18 ⟨rfl, n18⟩))
  go_ret
  exact ⟨rfl, n18.below⟩
end Go.Proofs.Ytmhedhhbdpdafaa
