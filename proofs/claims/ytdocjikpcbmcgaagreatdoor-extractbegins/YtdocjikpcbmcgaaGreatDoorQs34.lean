/-
  Own work: TLawC, LBoth, EAcc, ETree, ETree2.
-/
import Derived.BigQuiet
import Derived.Deep.CutRange
import Derived.RegionTactic
import Derived.Deep.Onto
import Derived.ArgAppend
import Derived.Laws.AppendOwnNone
import Derived.Laws.IdiomStrings
import Derived.Handy
import Derived.Deep.RegionHeld3
import Derived.Lib.BufferMore
import Derived.Laws.StructEq
import Derived.Test.YtdocjikpcbmcgaaGreatDoorQs30
import Derived.Test.YtdocjikpcbmcgaaGreatDoorQs33
namespace Go.Proofs.YtdocjikpcbmcgaaGreatDoor
open Go.RowKit
open Cv (zl)
attribute [local go_sem ↓] Go.wp_at_zero Go.wp_at_succ
theorem pkP_at {c i a H : Nat} {D : List ByteArray} {x : ByteArray} (h : H + a ≤ D.length) (j : Nat) : (pkP c i a H D x).getD j ByteArray.empty = if j < a then D.getD (H + j) ByteArray.empty else if j = a then rs c i (dg c (leafT x)) (D.take H) else D.getD (H + (j - 1)) ByteArray.empty := by
  have lt : ((D.drop H).take a).length = a := by rw [List.length_take, List.length_drop]; omega
  rw [pkP, List.getD_eq_getElem?_getD]
  split
  · rename_i h1
    rw [List.getElem?_append_left (by omega), List.getElem?_take_of_lt h1, List.getElem?_drop, List.getD_eq_getElem?_getD]
  · rw [List.getElem?_append_right (by omega), lt]
    split
    · rename_i h2
      rw [h2, Nat.sub_self]; rfl
    · obtain ⟨u, rfl⟩ : ∃ u, j = a + (u + 1) := ⟨j - a - 1, by omega⟩
      rw [show a + (u + 1) - a = u + 1 by omega, List.getElem?_cons_succ, List.getElem?_drop, List.getElem?_drop, List.getD_eq_getElem?_getD]
      congr 2
end Go.Proofs.YtdocjikpcbmcgaaGreatDoor
namespace Go.Proofs.YtdocjikpcbmcgaaGreatDoor
open Go.RowKit
theorem vls_first (l : List (Nat × ByteArray)) : (vls l).getD 0 ByteArray.empty = (l.getD 0 noC).2 := by
  cases l with
  | nil => rfl
  | cons c l => rfl
end Go.Proofs.YtdocjikpcbmcgaaGreatDoor
namespace Go.Proofs.YtdocjikpcbmcgaaGreatDoor
open Go.RowKit
structure Acc (k : Int) (o1 : Nat) (c1 : ByteArray) (l : List (Nat × ByteArray)) (s : ByteArray) (P : PV) : Prop where
  k1 : 1 ≤ k
  k2 : k ≤ 32
  hd : dec s.data.toList = some P
  hk : P.k = k
  old : P.old = 0
  size : P.size = o1
  hS : P.S = ixs l
  n40 : o1 ≤ 2 ^ 40
  hv : ∀ x ∈ vls l, x.size ≤ 1048576
  how : (P.kd = 1 ∧ ∃ i A H B, P.S = [i] ∧ Wy o1 i A H B ∧ i < o1 ∧ fil k (H + A.length + B.length) P.D ∧ rtP (clk k) o1 i A.length H P.D ((vls l).getD 0 ByteArray.empty) = c1) ∨
    (P.kd = 2 ∧ okB 2 k 0 o1 P.S P.D ∧ dg (clk k) (rootT o1 (bagL (clk k) (pB (clk k) (Cv.dnL 41 0 o1) P.S (vls l) P.D))) = c1)
theorem clmD_zero {n : Nat} {d : ByteArray} {er : Int} {o1 : Nat} {c1 : ByteArray} (h : clmD n d er o1 c1 = 0) : er = 0 ∧ n = o1 ∧ d = c1 := by
  unfold clmD at h
  split at h
  · assumption
  · cases h
theorem path_led (kd k : Int) (old size : Nat) (S : List Nat) (D : List ByteArray) (hD : D.length ≤ 9223372036854775807) (x : ByteArray) : ∃ (n : Nat) (r : ByteArray) (er : Int),
    (∀ W sa sb so sc da db dO dc, Tb W → RdU W sa sb so S.length S → RdS W da db dO D.length D → D.length ≤ dc → dc ≤ 9223372036854775807 → (da = none → dc = 0) → Calls Tryz.prog 63 #[.agg #[.int .i64 kd, .int .i64 k, .int .u64 (old : Int), .int .u64 (size : Int), .slice sa S.length sc, .slice da D.length dc], .string x] W fun e w' => e = .returned (.tuple #[.agg #[.int .u64 (n : Int), .string r], .int .i64 er]) ∧ Below W.heap.size W w') ∧
    (er = 0 → n = size ∧ old = 0 ∧ size ≤ 2 ^ 40 ∧ x.size ≤ 1048576 ∧ ∃ i A H B, S = [i] ∧ Wy size i A H B ∧ i < size ∧ fil k (H + A.length + B.length) D ∧ rtP (clk k) size i A.length H D x = r) := by
  by_cases hp : kd = 1 ∧ (1 ≤ k ∧ k ≤ 32) ∧ size ≤ 2 ^ 40 ∧ old = 0 ∧ S.length = 1 ∧ S.getD 0 0 < size
  · obtain ⟨rfl, hk, hn, rfl, hS, hi⟩ := hp
    obtain ⟨i, hi'⟩ : ∃ i, S.getD 0 0 = i := ⟨_, rfl⟩
    rw [hi'] at hi
    obtain ⟨A, H, B, wy⟩ := wy_ex size i hn hi
    have hSi : S = [i] := by
      match S, hS, hi' with
      | [a], _, h => rw [show a = i from h]
    have ra : ∀ {W sa sb so}, RdU W sa sb so S.length S → sa = some ⟨sb, so, none⟩ ∧ RA W k size sb so i H A B := fun {W sa sb so} u => by
      refine ⟨u.ptr (by omega), hk, hn, hi, wy, ?_⟩
      have := u.at (j := 0) (by omega)
      rw [hi'] at this
      exact this
    by_cases hf : fil k (H + A.length + B.length) D
    · by_cases hx : 1048576 < x.size
      · refine ⟨0, ⟨#[]⟩, 100, fun W sa sb so sc da db dO dc tb u d h1 h2 h3 => ?_, fun h => absurd h (by decide)⟩
        obtain ⟨rfl, a⟩ := ra u
        rw [hS]
        exact proot_long W k size sb so sc i H A B a da db dO dc D d hD x hf hx
      · obtain ⟨r, hr⟩ : ∃ r, rtP (clk k) size i A.length H D x = r := ⟨_, rfl⟩
        refine ⟨size, r, 0, fun W sa sb so sc da db dO dc tb u d h1 h2 h3 => ?_, fun _ => ⟨rfl, rfl, hn, by omega, i, A, H, B, hSi, wy, hi, hf, hr⟩⟩
        obtain ⟨rfl, a⟩ := ra u
        rw [hS]
        exact proot_okT W k size sb so sc i H A B a da db dO dc D d hD x hf (by omega) tb h1 h2 h3 r hr
    · refine ⟨0, ⟨#[]⟩, 150, fun W sa sb so sc da db dO dc tb u d h1 h2 h3 => ?_, fun h => absurd h (by decide)⟩
      obtain ⟨rfl, a⟩ := ra u
      rw [hS]
      exact proot_fill W k size sb so sc i H A B a da db dO dc D d hD x hf
  · have hc : ∀ {W sa sb so}, RdU W sa sb so S.length S → S.length = 1 → ∃ b o, sa = some ⟨b, o, none⟩ ∧ W.cell? ⟨b, o, none⟩ = some (.int .u64 ((S.getD 0 0 : Nat) : Int)) := fun {W sa sb so} u h => ⟨sb, so, u.ptr (by omega), u.at (j := 0) (by omega)⟩
    exact ⟨0, ⟨#[]⟩, 150, fun W sa sb so sc da db dO dc tb u d h1 h2 h3 => proot_form W kd k old size sa S.length sc da D.length dc (S.getD 0 0) (hc u) hp x, fun h => absurd h (by decide)⟩
theorem batch_led (kd k : Int) (old size : Nat) (S : List Nat) (hS : S.length ≤ 8796093022208) (D X : List ByteArray) (hD : D.length ≤ 8796093022208) : ∃ (n : Nat) (rr : ByteArray) (er : Int),
    (∀ W sa sb so sc da db dO dc xa xb xo xc, Tb W → RdU W sa sb so S.length S → S.length ≤ sc → (sa = none → sc = 0) → RdS W da db dO D.length D → D.length ≤ dc → (da = none → dc = 0) → RdS W xa xb xo X.length X → X.length ≤ xc → (xa = none → xc = 0) → Calls Tryz.prog 64 #[vP kd k old size (.slice sa S.length sc) (.slice da D.length dc), .slice xa X.length xc] W fun e w' => e = .returned (.tuple #[.agg #[.int .u64 (n : Int), .string rr], .int .i64 er]) ∧ Below W.heap.size W w') ∧
    (er = 0 → n = size ∧ old = 0 ∧ (∀ s ∈ X, s.size ≤ 1048576) ∧ okB 2 k 0 size S D ∧ dg (clk k) (rootT size (bagL (clk k) (pB (clk k) (Cv.dnL 41 0 size) S X D))) = rr) := by
  by_cases h1 : okB kd k old size S D ∧ X.length = S.length
  · obtain ⟨hok, hXS⟩ := h1
    obtain rfl : kd = 2 := hok.1.1
    obtain rfl : old = 0 := hok.1.2.2
    by_cases h2 : ∀ s ∈ X, s.size ≤ 1048576
    · refine ⟨size, dg (clk k) (rootT size (bagL (clk k) (pB (clk k) (Cv.dnL 41 0 size) S X D))), 0, fun W sa sb so sc da db dO dc xa xb xo xc hT hU u1 u2 hR r1 r2 hx x1 x2 => ?_, fun _ => ⟨rfl, rfl, h2, hok, rfl⟩⟩
      have := broot_ok W hT k size sa sb so sc S X (by rw [hXS]; exact hU) (by omega) (by omega) u2 da db dO dc D hR hD r1 r2 xa xb xo xc hx x1 x2 hok h2 _ rfl
      rw [hXS] at this
      rw [hXS]
      exact this
    · refine ⟨0, ⟨#[]⟩, 100, fun W sa sb so sc da db dO dc xa xb xo xc hT hU u1 u2 hR r1 r2 hx x1 x2 => ?_, fun h => absurd h (by decide)⟩
      have := broot_long W k size sa sb so sc S X (by rw [hXS]; exact hU) (by omega) da db dO dc D hR hD xa xb xo xc hx hok h2
      rw [hXS] at this
      rw [hXS]
      exact this
  · exact ⟨0, ⟨#[]⟩, 150, fun W sa sb so sc da db dO dc xa xb xo xc hT hU u1 u2 hR r1 r2 hx x1 x2 => broot_no W kd k old size sa sb so S.length sc S hU (by omega) da db dO D.length dc D hR hD xa X.length xc h1, fun h => absurd h (by decide)⟩
theorem one_val : ∀ {l : List (Nat × ByteArray)}, l.length = 1 → (l.getD 0 noC).2.size ≤ 1048576 → ∀ x ∈ vls l, x.size ≤ 1048576
  | [c], _, n4, x, hx => by
    simp only [List.map_cons, List.map_nil, List.mem_singleton] at hx
    subst hx; exact n4
theorem claims_acc (k : Int) (o1 : Nat) (c1 : ByteArray) (l : List (Nat × ByteArray)) (hl : l.length ≤ 8796093021952) (hv : ∀ x ∈ vls l, x.size ≤ 9223372036854775807) (s : ByteArray) (hs2 : s.size ≤ 281474976710656) : ∃ r : Int,
    (∀ W ca cb co cc, Tb W → RdK W ca cb co l.length l → Calls Tryz.prog 11 #[.int .i64 k, .agg #[.int .u64 (o1 : Int), .string c1], .slice ca l.length cc, .string s] W fun e w' => e = .returned (.int .i64 r) ∧ Below W.heap.size W w') ∧
    (r = 0 → ∃ P, Acc k o1 c1 l s P) := by
  by_cases h0 : tkE k s = 0
  · obtain ⟨⟨k1, k2⟩, P, hd, hk⟩ := tkE_zero h0
    have hco := cnt_ok (enc_dec hd).1.1
    have hD : P.D.length ≤ 8796093022208 := by have := hco.hc; omega
    by_cases hS : P.S = ixs l
    · have hSl : P.S.length = l.length := by rw [hS, List.length_map]
      have hVl : (vls l).length = l.length := List.length_map ..
      by_cases h1 : P.kd = 1
      · have hl0 : 0 < l.length := by have := (hco.one h1).1; omega
        have hl1 : l.length = 1 := by have := (hco.one h1).1; omega
        obtain ⟨n, d, er, g1, g2⟩ := path_led 1 k P.old P.size P.S P.D (by omega) (l.getD 0 noC).2
        refine ⟨clmD n d er o1 c1, fun W ca cb co cc hT hc => ?_, fun h => ?_⟩
        · refine claims_led W k k1 k2 o1 c1 ca cb co l.length cc l hc (by omega) s hs2 P hd hk ⟨.inl h1, hS⟩ n d er (fun V sa sb sc da db dc ao m c hb hF ho => ?_) _ rfl
          obtain ⟨ao', xb, c', hv', hx, hxc, hxn⟩ := owns_rds ho hv
          injection hv' with e1 e2 e3
          subst e1 e2 e3
          rw [h1]
          refine leads_path V k P.old P.size sa P.S.length sc da P.D.length dc ao xb 0 (vls l).length c (vls l) hx (by omega) n d er fun Z hbZ => ?_
          have hF2 := hF.next hbZ
          rw [vls_first]
          exact g1 Z sa sb 0 sc da db 0 dc (hT.next (bnext hb hbZ)) hF2.p.rs hF2.p.rd hF2.p.cD hF2.mC hF2.nD
        · obtain ⟨e0, e1, e2⟩ := clmD_zero h
          obtain ⟨n1, n2, n3, n4, i, A, H, B, n5, n6, n7, n8, n9⟩ := g2 e0
          have hn : P.size = o1 := by rw [← n1, e1]
          rw [hn] at n3 n6 n7 n9
          refine ⟨P, k1, k2, hd, hk, n2, hn, hS, n3, one_val hl1 n4, .inl ⟨h1, i, A, H, B, n5, n6, n7, n8, ?_⟩⟩
          rw [vls_first, n9, e2]
      · by_cases h2 : P.kd = 2
        · obtain ⟨n, d, er, g1, g2⟩ := batch_led 2 k P.old P.size P.S (by omega) P.D (vls l) hD
          refine ⟨clmD n d er o1 c1, fun W ca cb co cc hT hc => ?_, fun h => ?_⟩
          · refine claims_led W k k1 k2 o1 c1 ca cb co l.length cc l hc (by omega) s hs2 P hd hk ⟨.inr h2, hS⟩ n d er (fun V sa sb sc da db dc ao m c hb hF ho => ?_) _ rfl
            obtain ⟨ao', xb, c', hv', hx, hxc, hxn⟩ := owns_rds ho hv
            injection hv' with e1 e2 e3
            subst e1 e2 e3
            refine leads_batch V P.kd k h1 P.old P.size sa P.S.length sc da P.D.length dc ao (vls l).length c n d er fun Z hbZ => ?_
            have hF2 := hF.next hbZ
            rw [h2]
            exact g1 Z sa sb 0 sc da db 0 dc ao xb 0 c (hT.next (bnext hb hbZ)) hF2.p.rs hF2.cS hF2.nS hF2.p.rd hF2.p.cD hF2.nD (hx.next hbZ (Nat.le_refl _)) hxc hxn
          · obtain ⟨e0, e1, e2⟩ := clmD_zero h
            obtain ⟨n1, n2, n3, n4, n5⟩ := g2 e0
            have hn : P.size = o1 := by rw [← n1, e1]
            rw [hn] at n4 n5
            exact ⟨P, k1, k2, hd, hk, n2, hn, hS, (Cv.errS_ok n4.2.1).1, n3, .inr ⟨h2, n4, by rw [n5, e2]⟩⟩
        · exact ⟨150, fun W ca cb co cc hT hc => claims_off W k k1 k2 o1 c1 ca cb co l.length cc l hc s hs2 P hd hk (fun h => h.1.elim h1 h2), fun h => absurd h (by decide)⟩
    · exact ⟨150, fun W ca cb co cc hT hc => claims_off W k k1 k2 o1 c1 ca cb co l.length cc l hc s hs2 P hd hk (fun h => hS h.2), fun h => absurd h (by decide)⟩
  · exact ⟨tkE k s, fun W ca cb co cc hT hc => claims_no W k o1 c1 ca l.length cc s hs2 _ rfl h0, fun h => absurd h h0⟩
end Go.Proofs.YtdocjikpcbmcgaaGreatDoor
namespace Go.Proofs.YtdocjikpcbmcgaaGreatDoor
open Pl (pw pw_succ pw_pos pw_zero)
open Cv (Row All Til But)
theorem in_div {h k i : Nat} : i / 2 ^ h = k ↔ k * pw h ≤ i ∧ i < (k + 1) * pw h := by
  unfold pw
  rw [Nat.div_eq_iff (Nat.two_pow_pos h)]
  have := Nat.two_pow_pos h
  rw [Nat.add_mul, Nat.one_mul]
  omega
theorem up_item {i h g : Nat} (hg : h ≤ g) : i / 2 ^ g = i / 2 ^ h / 2 ^ (g - h) := by
  rw [Nat.div_div_eq_div_mul, ← Nat.pow_add, show h + (g - h) = g by omega]
theorem row_one {q : Nat} : ∀ {L : List (Nat × Nat)} {p : Nat}, Row q p L → ∀ b ∈ L, ∀ b' ∈ L, ∀ i, i / 2 ^ b.1 = b.2 → i / 2 ^ b'.1 = b'.2 → b = b'
  | [], _, _, b, hb, _, _, _, _, _ => by cases hb
  | m :: L, p, h, b, hb, b', hb', i, e, e' => by
    have hf := row_from h.2.2.2
    have x := in_div.1 e
    have x' := in_div.1 e'
    rcases List.mem_cons.1 hb with h1 | h1
    · rcases List.mem_cons.1 hb' with h2 | h2
      · rw [h1, h2]
      · have := hf b' h2; rw [h1] at x; omega
    · rcases List.mem_cons.1 hb' with h2 | h2
      · have := hf b h1; rw [h2] at x'; omega
      · exact row_one h.2.2.2 b h1 b' h2 i e e'
theorem row_nodup {q : Nat} : ∀ {L : List (Nat × Nat)} {p : Nat}, Row q p L → L.Nodup
  | [], _, _ => List.nodup_nil
  | m :: L, p, h => List.nodup_cons.2 ⟨fun hm => by have := row_from h.2.2.2 m hm; have := Cv.blk_lt m.1 m.2; omega, row_nodup h.2.2.2⟩
theorem dn_row (n : Nat) (hn : n ≤ 2 ^ 40) : Row n 0 (Cv.dnL 41 0 n) := by rw [← Cv.cov_zero n hn]; exact Cv.cov_row 0 n (Nat.zero_le _) hn
theorem zip_mem {Bs : List (Nat × Nat)} {D : List ByteArray} (h : D.length = Bs.length) {j : Nat} (hj : j < Bs.length) : (Bs.getD j (0, 0), D.getD j ByteArray.empty) ∈ Bs.zip D := List.mem_of_getElem? (zip_at h hj)
theorem mem_zip {Bs : List (Nat × Nat)} {D : List ByteArray} (h : D.length = Bs.length) {e : He} (he : e ∈ Bs.zip D) : ∃ j, j < Bs.length ∧ e = (Bs.getD j (0, 0), D.getD j ByteArray.empty) := by
  obtain ⟨j, hj, hv⟩ := List.getElem_of_mem he
  rw [zip_len h] at hj
  refine ⟨j, hj, ?_⟩
  have := zip_at h hj
  rw [List.getElem?_eq_getElem (by rw [zip_len h]; exact hj), hv] at this
  exact Option.some.inj this
theorem nodup_ix {L : List (Nat × Nat)} (hn : L.Nodup) {i j : Nat} (hi : i < L.length) (hj : j < L.length) (h : L[i] = L[j]) : i = j := by
  have hw := List.pairwise_iff_getElem.1 hn
  rcases Nat.lt_trichotomy i j with h1 | h1 | h1
  · exact absurd h (hw i j hi hj h1)
  · exact h1
  · exact absurd h.symm (hw j i hj hi h1)
theorem ixM_is {Bs : List (Nat × Nat)} (hn : Bs.Nodup) {j : Nat} (hj : j < Bs.length) : ixM Bs (Bs.getD j (0, 0)).1 (Bs.getD j (0, 0)).2 = some j := by
  have hm : Bs.getD j (0, 0) ∈ Bs := mem_getD hj
  have e : ((Bs.getD j (0, 0)).1, (Bs.getD j (0, 0)).2) = Bs.getD j (0, 0) := rfl
  unfold ixM
  rw [e, if_pos hm]
  congr 1
  have hlt := List.idxOf_lt_length_of_mem hm
  have h1 : Bs[Bs.idxOf (Bs.getD j (0, 0))] = Bs[j] := by
    rw [List.getElem_idxOf hlt, List.getD_eq_getElem?_getD, List.getElem?_eq_getElem hj]; rfl
  exact nodup_ix hn hlt hj h1
theorem ixM_zip {Bs : List (Nat × Nat)} {D : List ByteArray} (h : D.length = Bs.length) {x k j : Nat} (e : ixM Bs x k = some j) : ((x, k), D.getD j ByteArray.empty) ∈ Bs.zip D := by
  have := zip_mem h (ixM_lt e)
  rwa [ixM_at e] at this
def vlC (l : List (Nat × ByteArray)) (i : Nat) : ByteArray := (l.getD ((ixs l).idxOf i) noC).2
theorem vlC_at {l : List (Nat × ByteArray)} {i : Nat} (h : i ∈ ixs l) : (ixs l).idxOf i < l.length ∧ l.getD ((ixs l).idxOf i) noC = (i, vlC l i) := by
  have hlt := List.idxOf_lt_length_of_mem h
  have hlt2 : (ixs l).idxOf i < l.length := by rwa [List.length_map] at hlt
  refine ⟨hlt2, Prod.ext ?_ rfl⟩
  have := List.getElem_idxOf hlt
  rw [List.getElem_map] at this
  rw [List.getD_eq_getElem?_getD, List.getElem?_eq_getElem hlt2]
  exact this
theorem vlC_is {l : List (Nat × ByteArray)} (hp : Asc (ixs l)) {j : Nat} (hj : j < l.length) : vlC l (l.getD j noC).1 = (l.getD j noC).2 := by
  have hm : (l.getD j noC).1 ∈ ixs l := List.mem_map.2 ⟨_, by rw [List.getD_eq_getElem?_getD, List.getElem?_eq_getElem hj]; exact List.getElem_mem _, rfl⟩
  obtain ⟨h1, h2⟩ := vlC_at hm
  have e : (ixs l).idxOf (l.getD j noC).1 = j := by
    refine asc_unlike hp (by rw [List.length_map]; exact h1) (by rw [List.length_map]; exact hj) ?_
    rw [ixs_at, ixs_at, h2]
  rw [vlC, e]
structure Tre (c n : Nat) (Bs : List (Nat × Nat)) (D : List ByteArray) (V : Nat → ByteArray) (Q : Nat → Prop) (K : List He) (R : List ByteArray) : Prop where
  nodup : Bs.Nodup
  fit : ∀ b ∈ Bs, b.1 ≤ 40 ∧ b.2 < 2 ^ 40
  len : D.length = Bs.length
  dsz : ∀ d ∈ D, d.size = c
  fn : Fn K
  tl : ∀ b ∈ Cv.dnL 41 0 n, Tl c K b.1 b.2 (xd c (ixM Bs) D V b.1 b.2)
  vis : ∀ b ∈ Cv.dnL 41 0 n, Vis (ixM Bs) Q b.1 b.2
  pk : (Cv.dnL 41 0 n).map (fun b => xd c (ixM Bs) D V b.1 b.2) = R
theorem Tre.lt {c n : Nat} {Bs : List (Nat × Nat)} {D : List ByteArray} {V : Nat → ByteArray} {Q : Nat → Prop} {K : List He} {R : List ByteArray} (t : Tre c n Bs D V Q K R) : ∀ h k j, ixM Bs h k = some j → j < D.length := fun h k j e => by rw [t.len]; exact ixM_lt e
theorem tre_of {c n : Nat} {Bs : List (Nat × Nat)} {D : List ByteArray} {V : Nat → ByteArray} {Q : Nat → Prop} {K : List He} {R : List ByteArray} (nodup : Bs.Nodup) (fit : ∀ b ∈ Bs, b.1 ≤ 40 ∧ b.2 < 2 ^ 40) (len : D.length = Bs.length) (dsz : ∀ d ∈ D, d.size = c) (fn : Fn K)
    (h1 : ∀ e ∈ K, e ∈ Bs.zip D ∨ (e.1 ∉ Bs ∧ e.1.1 = 0 ∧ Q e.1.2 ∧ e.2 = dg c (leafT (V e.1.2)))) (h2 : ∀ e ∈ Bs.zip D, e ∈ K)
    (hR : R.length = (Cv.dnL 41 0 n).length) (ht : ∀ j, j < (Cv.dnL 41 0 n).length → Tl c K ((Cv.dnL 41 0 n).getD j (0, 0)).1 ((Cv.dnL 41 0 n).getD j (0, 0)).2 (R.getD j ByteArray.empty)) : Tre c n Bs D V Q K R := by
  have key := xd_tl (c := c) (M := ixM Bs) (D := D) (V := V) (Q := Q) (K := K) (fun e he => by
    rcases h1 e he with h | ⟨h, h'⟩
    · obtain ⟨j, hj, rfl⟩ := mem_zip len h
      exact .inl ⟨j, ixM_is nodup hj, rfl⟩
    · exact .inr ⟨ixM_none.2 h, h'⟩) (fun h k j e => ⟨_, h2 _ (ixM_zip len e)⟩)
  have at' : ∀ b ∈ Cv.dnL 41 0 n, ∃ j, j < (Cv.dnL 41 0 n).length ∧ (Cv.dnL 41 0 n).getD j (0, 0) = b := fun b hb => by
    obtain ⟨j, hj, rfl⟩ := List.getElem_of_mem hb
    exact ⟨j, hj, by rw [List.getD_eq_getElem?_getD, List.getElem?_eq_getElem hj]; rfl⟩
  refine ⟨nodup, fit, len, dsz, fn, fun b hb => ?_, fun b hb => ?_, ?_⟩
  · obtain ⟨j, hj, rfl⟩ := at' b hb
    have := ht j hj
    rw [(key _ _ _ this).2]; exact this
  · obtain ⟨j, hj, rfl⟩ := at' b hb
    exact (key _ _ _ (ht j hj)).1
  · refine List.ext_getElem (by rw [List.length_map, hR]) fun j a b => ?_
    rw [List.length_map] at a
    have := (key _ _ _ (ht j a)).2
    rw [List.getElem_map]
    rw [List.getD_eq_getElem?_getD, List.getElem?_eq_getElem a, List.getD_eq_getElem?_getD, List.getElem?_eq_getElem b] at this
    exact this
section
variable {k : Int} {n : Nat} {l : List (Nat × ByteArray)} {D : List ByteArray}
theorem tre_batch (hok : okB 2 k 0 n (ixs l) D) : Tre (clk k) n (Cv.rst 0 n (ixs l)) D (vlC l) (fun i => i ∈ ixs l) (knS (clk k) (ixs l) (vls l) ++ (Cv.rst 0 n (ixs l)).zip D) (pB (clk k) (Cv.dnL 41 0 n) (ixs l) (vls l) D) := by
  obtain ⟨⟨_, hk, _⟩, he, hf⟩ := hok
  obtain ⟨h40, _, _, hc⟩ := Cv.errS_ok he
  have hp := chain_asc hc
  have ht := Cv.rst_but n (ixs l) h40 hc
  have hck : (clk k : Int) = k := clk_of hk.1 hk.2
  have hX : (vls l).length = (ixs l).length := by rw [List.length_map, List.length_map]
  have hlen : D.length = (Cv.rst 0 n (ixs l)).length := by rw [hf.1, Cv.rstS, if_pos he]
  have hnd : (Cv.rst 0 n (ixs l)).Nodup := List.pairwise_iff_getElem.2 fun i j hi hj hij => by
    have := til_unlike ht i j hij hj
    rwa [List.getD_eq_getElem?_getD, List.getElem?_eq_getElem hi, List.getD_eq_getElem?_getD, List.getElem?_eq_getElem hj] at this
  refine tre_of hnd (fun b hb => ?_) hlen (fun d hd => by have := hf.2 d hd; omega) (kn_fn he hX hlen) (fun e he' => ?_) (fun e he' => List.mem_append_right _ he') (pB_len ..) (kn_tl he hX hlen)
  · have := (Cv.til_mem ht b hb).2
    unfold pw at this
    have h1 : b.2 < n := idx_lt this
    refine ⟨Cv.pw40 (Nat.le_trans (by have := Nat.mul_le_mul_right (pw b.1) (show 1 ≤ b.2 + 1 by omega); rw [Nat.one_mul] at this; exact this) (Nat.le_trans this h40)), by omega⟩
  · rcases List.mem_append.1 he' with h | h
    · obtain ⟨j, hj, hv⟩ := List.getElem_of_mem h
      rw [knS_len _ _ _ hX] at hj
      have hat := knS_at (clk k) hX hj
      rw [List.getElem?_eq_getElem (by rw [knS_len _ _ _ hX]; exact hj), hv] at hat
      obtain rfl := Option.some.inj hat
      have hjl : j < l.length := by rwa [List.length_map] at hj
      have hm : (ixs l).getD j 0 ∈ ixs l := by rw [List.getD_eq_getElem?_getD, List.getElem?_eq_getElem hj]; exact List.getElem_mem _
      refine .inr ⟨fun hb => ?_, rfl, hm, ?_⟩
      · have h2 := (til_all ht _ hb).2 ((ixs l).getD j 0) (by simp [pw]) (by simp [pw])
        exact h2.2 hm
      · show dg (clk k) (leafT ((vls l).getD j ByteArray.empty)) = dg (clk k) (leafT (vlC l ((ixs l).getD j 0)))
        rw [ixs_at, vlC_is hp hjl]
        congr 2
        rw [List.getD_eq_getElem?_getD, List.getElem?_map, List.getD_eq_getElem?_getD]
        cases l[j]? <;> rfl
    · exact .inl h
theorem batch_free (hok : okB 2 k 0 n (ixs l) D) {i : Nat} (hi : i ∈ ixs l) (t : Nat) : ixM (Cv.rst 0 n (ixs l)) t (i / 2 ^ t) = none := by
  obtain ⟨_, he, _⟩ := hok
  obtain ⟨h40, _, _, hc⟩ := Cv.errS_ok he
  have ht := Cv.rst_but n (ixs l) h40 hc
  refine ixM_none.2 fun hb => ?_
  have x := in_div.1 (show i / 2 ^ t = i / 2 ^ t from rfl)
  exact ((til_all ht _ hb).2 i x.1 x.2).2 hi
end
end Go.Proofs.YtdocjikpcbmcgaaGreatDoor
namespace Go.Proofs.YtdocjikpcbmcgaaGreatDoor
open Pl (pw pw_succ pw_pos pw_zero)
open Cv (Row All Til But cov)
theorem sb_ne (q : Nat) : sb q ≠ q := by unfold sb; split <;> omega
theorem sb_half (q : Nat) : sb q / 2 = q / 2 := by unfold sb; split <;> omega
section
variable {n i H : Nat} {A B : List (Nat × Nat)}
theorem Wy.top (h : Wy n i A H B) : (H, i / 2 ^ H) ∈ Cv.dnL 41 0 n := by rw [h.all]; simp
theorem Wy.free (h : Wy n i A H B) (t : Nat) : (t, i / 2 ^ t) ∉ wyB i H A B := fun hm => by
  rw [wyB, List.mem_append, List.mem_append] at hm
  rcases hm with hm | hm | hm
  · obtain ⟨g, _, e⟩ := List.mem_map.1 hm
    injection e with e1 e2
    subst e1
    exact sb_ne _ e2
  · have := h.no_left hm
    simp at this
  · have := h.no_right hm
    simp at this
theorem Wy.others (h : Wy n i A H B) {b : Nat × Nat} (hb : b ∈ A ++ B) : b ∈ Cv.dnL 41 0 n ∧ b ≠ (H, i / 2 ^ H) := by
  refine ⟨?_, fun e => ?_⟩
  · rw [h.all]
    rcases List.mem_append.1 hb with hb | hb
    · exact List.mem_append_left _ hb
    · exact List.mem_append_right _ (List.mem_cons_of_mem _ hb)
  · refine h.free H ?_
    rw [wyB, ← e]
    exact List.mem_append_right _ hb
theorem Wy.nodup (h : Wy n i A H B) (hn : n ≤ 2 ^ 40) : (wyB i H A B).Nodup := by
  have hr := dn_row n hn
  refine List.nodup_append.2 ⟨?_, ?_, fun a ha b hb e => ?_⟩
  · refine List.pairwise_iff_getElem.2 fun x y hx hy hxy e => ?_
    simp only [bes, List.getElem_map, List.getElem_range] at e
    injection e with e1 _
    omega
  · have := row_nodup hr
    rw [h.all] at this
    exact this.sublist ((List.Sublist.refl A).append (List.sublist_cons_self _ _))
  · subst e
    obtain ⟨o1, o2⟩ := h.others hb
    obtain ⟨g, hg, e⟩ := List.mem_map.1 ha
    have hg := List.mem_range.1 hg
    subst e
    have hi : (sb (i / 2 ^ g) * 2 ^ g) / 2 ^ g = sb (i / 2 ^ g) := Nat.mul_div_cancel _ (Nat.two_pow_pos g)
    have hH : (sb (i / 2 ^ g) * 2 ^ g) / 2 ^ H = i / 2 ^ H := by
      rw [up_item (show g + 1 ≤ H by omega), up_item (i := i) (show g + 1 ≤ H by omega)]
      congr 1
      rw [up_item (show g ≤ g + 1 by omega), hi, up_item (i := i) (show g ≤ g + 1 by omega), show g + 1 - g = 1 by omega, Nat.pow_one]
      exact sb_half _
    exact o2 (row_one hr _ o1 _ h.top _ hi hH)
end
theorem bes_inX {i H : Nat} : ∀ b ∈ bes i H, (b.2 + 1) * 2 ^ b.1 ≤ (i / 2 ^ H + 1) * 2 ^ H := by
  intro b hb
  obtain ⟨h, hh, rfl⟩ := List.mem_map.1 hb
  have hh := List.mem_range.1 hh
  obtain ⟨d, rfl⟩ : ∃ d, H = h + 1 + d := ⟨H - h - 1, by omega⟩
  have h1 : (sb (i / 2 ^ h) + 1) ≤ (i / 2 ^ (h + 1) + 1) * 2 := by
    rw [← half_next]
    generalize i / 2 ^ h = q
    unfold sb
    split <;> omega
  have h2 : (sb (i / 2 ^ h) + 1) * 2 ^ h ≤ (i / 2 ^ (h + 1) + 1) * 2 ^ (h + 1) := by
    rw [Nat.pow_succ, ← Nat.mul_assoc, Nat.mul_right_comm]
    exact Nat.mul_le_mul_right _ (by rw [← Nat.pow_succ]; exact h1)
  refine Nat.le_trans h2 ?_
  have h3 : i / 2 ^ (h + 1) + 1 ≤ (i / 2 ^ (h + 1 + d) + 1) * 2 ^ d := by
    have e : i / 2 ^ (h + 1 + d) = i / 2 ^ (h + 1) / 2 ^ d := by rw [Nat.div_div_eq_div_mul, ← Nat.pow_add]
    rw [e]
    exact Nat.lt_mul_of_div_lt (Nat.lt_succ_self _) (Nat.two_pow_pos d)
  calc (i / 2 ^ (h + 1) + 1) * 2 ^ (h + 1) ≤ (i / 2 ^ (h + 1 + d) + 1) * 2 ^ d * 2 ^ (h + 1) := Nat.mul_le_mul_right _ h3
    _ = (i / 2 ^ (h + 1 + d) + 1) * 2 ^ (h + 1 + d) := by rw [Nat.mul_assoc, ← Nat.pow_add, Nat.add_comm d]
theorem Wy.innX {n i H : Nat} {A B : List (Nat × Nat)} (h : Wy n i A H B) (hn : n ≤ 2 ^ 40) : ∀ b ∈ wyB i H A B, (b.2 + 1) * 2 ^ b.1 ≤ n := by
  have hall := dn_in n hn
  rw [h.all] at hall
  intro b hb
  rw [wyB, List.mem_append, List.mem_append] at hb
  rcases hb with hb | hb | hb
  · exact Nat.le_trans (bes_inX b hb) (hall (H, i / 2 ^ H) (by simp))
  · exact hall b (by simp [hb])
  · exact hall b (by simp [hb])
section
variable {n i H : Nat} {A B : List (Nat × Nat)}
def knP (c : Nat) (i : Nat) (x : ByteArray) (Bs : List (Nat × Nat)) (D : List ByteArray) : List He := ((0, i), dg c (leafT x)) :: Bs.zip D
theorem wy_own (h : Wy n i A H B) (c : Nat) (x : ByteArray) {D : List ByteArray} (hD : D.length = (wyB i H A B).length) : ∀ g, g ≤ H → Tl c (knP c i x (wyB i H A B) D) g (i / 2 ^ g) (rs c i (dg c (leafT x)) (D.take g)) := by
  have hlen := wyB_len i H A B
  intro g
  induction g with
  | zero =>
    intro _
    rw [Nat.pow_zero, Nat.div_one, List.take_zero, rs]
    exact List.mem_cons_self ..
  | succ g ih =>
    intro hg
    have hgD : g < D.length := by omega
    have hsib : ((g, sb (i / 2 ^ g)), D.getD g ByteArray.empty) ∈ knP c i x (wyB i H A B) D := by
      refine List.mem_cons_of_mem _ ?_
      have := zip_mem hD (show g < (wyB i H A B).length by omega)
      have e : (wyB i H A B).getD g (0, 0) = (g, sb (i / 2 ^ g)) := by
        rw [wyB, getD_fst _ _ _ (by rw [bes_len]; omega), List.getD_eq_getElem?_getD, bes, List.getElem?_map, List.getElem?_range (by omega)]; rfl
      rwa [e] at this
    have hhalf : i / 2 ^ (g + 1) = i / 2 ^ g / 2 := by rw [half_next]
    rw [List.take_succ_eq_append_getElem hgD, rs_app, List.length_take, Nat.min_eq_left (by omega)]
    have hDg : D[g] = D.getD g ByteArray.empty := by rw [List.getD_eq_getElem?_getD, List.getElem?_eq_getElem hgD]; rfl
    rw [hDg]
    refine .inr ⟨fun u hu => ?_, ?_⟩
    · rcases List.mem_cons.1 hu with e | hu
      · injection e with e _
        injection e with e _
        cases e
      · obtain ⟨j, hj, e⟩ := mem_zip hD hu
        injection e with e _
        exact h.free (g + 1) (by rw [e]; exact mem_getD hj)
    · have own := ih (by omega)
      have oth := Tl.at (c := c) hsib
      generalize i / 2 ^ g = q at *
      rw [hhalf]
      unfold stT
      unfold sb at oth
      by_cases hq : q % 2 = 1
      · rw [if_pos hq] at oth ⊢
        refine ⟨_, _, ?_, ?_, rfl⟩
        · rwa [show 2 * (q / 2) = q - 1 by omega]
        · rwa [show 2 * (q / 2) + 1 = q by omega]
      · rw [if_neg hq] at oth ⊢
        refine ⟨_, _, ?_, ?_, rfl⟩
        · rwa [show 2 * (q / 2) = q by omega]
        · rwa [show 2 * (q / 2) + 1 = q + 1 by omega]
theorem tre_path {k : Int} (h : Wy n i A H B) (hn : n ≤ 2 ^ 40) (hk : 1 ≤ k ∧ k ≤ 32) {D : List ByteArray} (hf : fil k (H + A.length + B.length) D) {V : Nat → ByteArray} (x : ByteArray) (hx : V i = x) : Tre (clk k) n (wyB i H A B) D V (fun t => t = i) (knP (clk k) i x (wyB i H A B) D) (pkP (clk k) i A.length H D x) := by
  have hlen := wyB_len i H A B
  have hD : D.length = (wyB i H A B).length := by rw [hf.1, hlen]; omega
  have hck : (clk k : Int) = k := clk_of hk.1 hk.2
  have hnd := h.nodup hn
  have hin := h.innX hn
  have hfree : ∀ e ∈ (wyB i H A B).zip D, e.1 ≠ (0, i) := fun e he e0 => by
    obtain ⟨j, hj, rfl⟩ := mem_zip hD he
    refine h.free 0 ?_
    rw [Nat.pow_zero, Nat.div_one, ← e0]
    exact mem_getD hj
  have hlA : A.length + B.length + H = D.length := by omega
  have hM : (Cv.dnL 41 0 n).length = A.length + (B.length + 1) := by rw [h.all, List.length_append, List.length_cons]
  refine tre_of hnd (fun b hb => ?_) hD (fun d hd => by have := hf.2 d hd; omega) (fun e he e' he' heq => ?_) (fun e he => ?_) (fun e he => List.mem_cons_of_mem _ he) ?_ (fun j hj => ?_)
  · have := hin b hb
    have h1 : b.2 < n := idx_lt this
    refine ⟨Cv.pw40 (Nat.le_trans (by have := Nat.mul_le_mul_right (pw b.1) (show 1 ≤ b.2 + 1 by omega); rw [Nat.one_mul] at this; exact this) (Nat.le_trans this hn)), by omega⟩
  · rcases List.mem_cons.1 he with rfl | he <;> rcases List.mem_cons.1 he' with rfl | he'
    · rfl
    · exact absurd heq.symm (hfree e' he')
    · exact absurd heq (hfree e he)
    · obtain ⟨a, ha, rfl⟩ := mem_zip hD he
      obtain ⟨b, hb, rfl⟩ := mem_zip hD he'
      have heq : (wyB i H A B).getD a (0, 0) = (wyB i H A B).getD b (0, 0) := heq
      rw [List.getD_eq_getElem?_getD, List.getElem?_eq_getElem ha, List.getD_eq_getElem?_getD, List.getElem?_eq_getElem hb] at heq
      obtain rfl := nodup_ix hnd ha hb heq
      rfl
  · rcases List.mem_cons.1 he with rfl | he
    · refine .inr ⟨fun hb => h.free 0 ?_, rfl, rfl, ?_⟩
      · rw [Nat.pow_zero, Nat.div_one]; exact hb
      · show dg (clk k) (leafT x) = dg (clk k) (leafT (V i))
        rw [hx]
    · exact .inl he
  · rw [pkP, List.length_append, List.length_cons, List.length_take, List.length_drop, List.length_drop, List.length_drop, hM]; omega
  · have hmem : ∀ t, t < A.length + B.length → ((A ++ B).getD t (0, 0), D.getD (H + t) ByteArray.empty) ∈ knP (clk k) i x (wyB i H A B) D := fun t ht => by
      have := zip_mem hD (show H + t < (wyB i H A B).length by omega)
      have e : (wyB i H A B).getD (H + t) (0, 0) = (A ++ B).getD t (0, 0) := by
        rw [wyB]
        have := getD_app (0, 0) (bes i H) (A ++ B) t
        rwa [bes_len] at this
      rw [e] at this
      exact List.mem_cons_of_mem _ this
    rw [hM] at hj
    have hpk := pkP_at (c := clk k) (i := i) (a := A.length) (H := H) (D := D) (x := x) (by omega) j
    rw [hpk, h.all]
    by_cases h1 : j < A.length
    · rw [if_pos h1, getD_fst _ _ _ h1]
      have := hmem j (by omega)
      rw [getD_fst _ _ _ h1] at this
      exact Tl.at this
    · rw [if_neg h1]
      by_cases h2 : j = A.length
      · rw [if_pos h2, h2]
        have e : (A ++ (H, i / 2 ^ H) :: B).getD A.length (0, 0) = (H, i / 2 ^ H) := by
          have := getD_app (0, 0) A ((H, i / 2 ^ H) :: B) 0
          rwa [Nat.add_zero] at this
        rw [e]
        exact wy_own h (clk k) x hD H (Nat.le_refl _)
      · rw [if_neg h2]
        obtain ⟨t, rfl⟩ : ∃ t, j = A.length + (t + 1) := ⟨j - A.length - 1, by omega⟩
        have e : (A ++ (H, i / 2 ^ H) :: B).getD (A.length + (t + 1)) (0, 0) = B.getD t (0, 0) := by rw [getD_app, List.getD_cons_succ]
        have := hmem (A.length + t) (by omega)
        rw [getD_app] at this
        rw [e, show H + (A.length + (t + 1) - 1) = H + (A.length + t) by omega]
        exact Tl.at this
end
section
variable {k : Int} {m n : Nat} {D : List ByteArray}
end
end Go.Proofs.YtdocjikpcbmcgaaGreatDoor
