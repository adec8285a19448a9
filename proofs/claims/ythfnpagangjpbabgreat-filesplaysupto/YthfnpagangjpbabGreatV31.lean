/-
  Own work: FDig, FMade, FLaw.
-/
import Derived.Test.YthfnpagangjpbabGreatV30
namespace Go.Proofs.YthfnpagangjpbabGreat
open Go.RowKit
open Rc
attribute [local go_sem ↓] Go.wp_at_zero Go.wp_at_succ
theorem ktrl_at (k n : Nat) (hk : k < 64) (h : n / 2 ^ k % 2 = 1) : Pl.trl (64 - k) (n / 2 ^ k) = Pl.trl (64 - (k + 1)) (n / 2 ^ (k + 1)) + 1 := by
  rw [show 64 - k = (64 - (k + 1)) + 1 by omega, Pl.trl_step _ _ h, Pl.div_pow_succ]
theorem ktrl_end (k n : Nat) (h : ¬ n / 2 ^ k % 2 = 1) : Pl.trl (64 - k) (n / 2 ^ k) = 0 := by
  cases h64 : 64 - k with
  | zero => rfl
  | succ f => exact Pl.trl_none _ _ h
theorem ltrail_any (n : Nat) (w : World) (hn : n < 2 ^ 64) (r : Nat) (hr : Pl.trl 64 n = r) :
    Calls Tryz.prog 126 #[.int .u64 n] w fun e w' => e = .returned (.int .i64 (r : Int)) ∧ w = w' := by
  subst hr
  go_enter Tryz.func126, Tryz.ntmps126
  go_wp2
  go_loopg [0, 3] 64 (fun g a c wr => ∃ k m : Nat, k ≤ 64 ∧ g = 64 - k ∧ a = .int .u64 (m : Int) ∧ c = .int .i64 (k : Int) ∧ n / 2 ^ k = m ∧ k + Pl.trl (64 - k) (n / 2 ^ k) = Pl.trl 64 n ∧ w = wr)
  case atStart =>
    go_light
    exact ⟨0, n, Nat.zero_le _, rfl, rfl, rfl, by simp, by simp, rfl⟩
  case round =>
    obtain ⟨k, m, hk, rfl, rfl, rfl, hm, hs, rfl⟩ := hrel
    have hmb : m < 2 ^ 64 := by rw [← hm]; exact Nat.lt_of_le_of_lt (Nat.div_le_self _ _) hn
    by_cases hb : m % 2 = 1
    · have hk64 : k < 64 := by
        by_cases h64 : k < 64
        · exact h64
        · have : k = 64 := by omega
          subst this
          have : n / 2 ^ 64 = 0 := Nat.div_eq_of_lt hn
          omega
      have HS := ktrl_at k n hk64 (by rw [hm]; exact hb)
      have hd : ((m : Int) % 2 == 1) = true := by have : (m : Int) % 2 = 1 := by omega
                                                  rw [this]; rfl
      have hk1 : (k : Int) < 64 := by omega
      have HX : Hid (n / 2 ^ (k + 1) = m / 2 ∧ (k + 1) + Pl.trl (64 - (k + 1)) (n / 2 ^ (k + 1)) = Pl.trl 64 n) := ⟨by rw [Pl.div_pow_succ, hm], by omega⟩
      obtain ⟨k2, hk2⟩ : ∃ k2 : Nat, k + 1 = k2 := ⟨_, rfl⟩
      have ek : IntKind.i64.wrap ((k : Int) + 1) = (k2 : Int) := by rw [IntKind.wrap_i64]; omega
      obtain ⟨m2, hm2⟩ : ∃ m2 : Nat, m / 2 = m2 := ⟨_, rfl⟩
      have em : (m : Int) / 2 = (m2 : Int) := by omega
      have em2 : IntKind.u64.wrap (m2 : Int) = (m2 : Int) := by rw [IntKind.wrap_u64]; omega
      rw [hm2, hk2] at HX
      clear HS hs hm hb hmb hm2 hk
      go_wp2
      go_roundg (64 - k2)
      case rel =>
        go_light
        exact ⟨k2, m2, by omega, rfl, rfl, rfl, HX.out.1, HX.out.2, rfl⟩
      case measure => go_light; omega
    · have HS := ktrl_end k n (by rw [hm]; exact hb)
      have hd : ((m : Int) % 2 == 1) = false := by have : (m : Int) % 2 = 0 := by omega
                                                   rw [this]; rfl
      have HX : Hid (k = Pl.trl 64 n) := (by omega : k = Pl.trl 64 n)
      clear HS hs hm hb hmb
      go_wp2
      go_ret
      exact ⟨by rw [← HX.out]; rfl, rfl⟩
theorem ktrl_spec (f n : Nat) (h : n < 2 ^ f) : n % Pl.pw (Pl.trl f n) = Pl.pw (Pl.trl f n) - 1 ∧ ¬ n / Pl.pw (Pl.trl f n) % 2 = 1 := by
  induction f generalizing n with
  | zero =>
    have : n = 0 := by simp at h; omega
    subst this
    simp [Pl.trl, Pl.pw]
  | succ f ih =>
    by_cases ho : n % 2 = 1
    · rw [Pl.trl_step f n ho]
      obtain ⟨i1, i2⟩ := ih (n / 2) (by rw [Nat.pow_succ] at h; omega)
      have hp := Pl.pw_pos (Pl.trl f (n / 2))
      rw [Pl.pw_succ]
      refine ⟨?_, ?_⟩
      · rw [Nat.mod_mul, ho, i1]; omega
      · rw [← Nat.div_div_eq_div_mul]; exact i2
    · rw [Pl.trl_none f n ho]
      refine ⟨by simp [Pl.pw]; omega, by simp [Pl.pw]; omega⟩
theorem nn_next (n : Nat) (h : n ≤ 65536) : nn (n + 1) = nn n + (1 + Pl.trl 64 n) := by
  obtain ⟨h1, h2⟩ := ktrl_spec 64 n (by omega)
  unfold nn
  rw [Pl.new_N _ n h1 h2 (by omega)]
  omega
theorem u8_sum (n i j : Nat) : IntKind.u8.wrap (((n % 256 : Nat) : Int) + (((7 * i + j) % 256 : Nat) : Int)) = (((UInt8.ofNat (n + (7 * i + j))).toNat : Nat) : Int) := by
  rw [IntKind.wrap_u8]
  have : (UInt8.ofNat (n + (7 * i + j))).toNat = (n + (7 * i + j)) % 256 := by simp
  rw [this]
  omega
end Go.Proofs.YthfnpagangjpbabGreat
namespace Go.Proofs.YthfnpagangjpbabGreat
open Go.RowKit
open Rc
attribute [local go_sem ↓] Go.wp_at_zero Go.wp_at_succ
def MdS (w wr : World) (q p : Nat) (S0 : Nat → Prop) (D : DV) (S : SV) : Prop := ∃ T, Sk wr q p T D S ∧ (∀ y, T y → S0 y ∨ w.heap.size ≤ y) ∧ Upo S0 w wr
theorem MdS.next {w wr W : World} {q p : Nat} {S0 : Nat → Prop} {D : DV} {S : SV} (h : MdS w wr q p S0 D S) (hb : Below wr.heap.size wr W) : MdS w W q p S0 D S := by
  obtain ⟨T, h1, h2, h3⟩ := h
  exact ⟨T, h1.next hb, h2, h3.next hb⟩
theorem MdS.skm {w wr W : World} {q p : Nat} {S0 T : Nat → Prop} {D : DV} {S : SV} (h2 : ∀ y, T y → S0 y ∨ w.heap.size ≤ y) (h3 : Upo S0 w wr) (h : SkM wr W q p T D S) : MdS w W q p S0 D S := by
  obtain ⟨T', g1, g2, g3⟩ := h
  refine ⟨T', g1, fun y hy => ?_, h3.trans g3 (fun y hy ht => (h2 y ht).elim id (fun e => by omega))⟩
  rcases g2 y hy with e | e
  · exact h2 y e
  · exact .inr (Nat.le_trans h3.size e)
theorem MdS.cell {w wr : World} {q p : Nat} {S0 : Nat → Prop} {D : DV} {S : SV} (h : MdS w wr q p S0 D S) {b i : Nat} {v : Value} (hc : w.cell? ⟨b, i, none⟩ = some v) (hb : ¬ S0 b) : wr.cell? ⟨b, i, none⟩ = some v := by
  obtain ⟨T, h1, h2, h3⟩ := h
  exact (World.cell?_of_block (a := ⟨b, i, none⟩) (h3.block b (World.block_lt_of_cell? _ _ hc) hb)).trans hc
theorem new_ext (k R : Nat) : Ext k [] (newD R).L ∧ Qt R (newD R) := ⟨⟨rfl, rfl, rfl, fun _ _ _ _ => rfl⟩, rfl, rfl, ord_nil, rfl⟩
theorem qt_rm {R : Nat} {D : DV} (h : Qt R D) (he : Oth D.L) (hR : R ≤ 268435456) (ha : D.acts ≤ 1000000) : Rm 7 D := ⟨by omega, by have := (tot_three h.ord he).2; omega, by have := h.tot; omega⟩
end Go.Proofs.YthfnpagangjpbabGreat
namespace Go.Proofs.YthfnpagangjpbabGreat
open Go.RowKit
open Rc
abbrev Ms (w W : World) (q p : Nat) (D : DV) (S : SV) : Prop := MdS w W q p (fun _ => False) D S
section
variable {w W W' : World} {q p : Nat} {D D' : DV} {S S' : SV}
theorem Ms.below (h : Ms w W q p D S) : Below w.heap.size w W := by
  obtain ⟨T, _, _, h3⟩ := h
  exact h3.below (Nat.le_refl _) (fun _ q => q.elim)
theorem Ms.nw (h : Ms w W q p D S) : Nw w W p D := by
  have hb := h.below
  obtain ⟨T, ⟨S0, v, d1, d2, d3, d4, d5⟩, h2, h3⟩ := h
  exact ⟨S0, d1, fun x hx => (h2 x ((d5 x).2 (.inl hx))).elim (fun q => q.elim) id, hb⟩
theorem MdS.base {w1 : World} {S0 : Nat → Prop} (hb : Below w.heap.size w w1) (hS : ∀ x, S0 x → w.heap.size ≤ x) (h : MdS w1 W q p S0 D S) : Ms w W q p D S := by
  obtain ⟨T, h1, h2, h3⟩ := h
  refine ⟨T, h1, fun x hx => .inr ((h2 x hx).elim (hS x) (fun e => Nat.le_trans hb.size e)), ?_⟩
  exact (Upo.of hb).trans h3 (fun x hx hs => by have := hS x hs; omega)
theorem Ms.add (h : Ms w W q p D S) (hrm : Rm 7 D) (s : ByteArray) (hs : s.size ≤ 9223372036854775807) (ao : Option Addr) (b off len cap : Nat) (ds : List ByteArray) (hr : RdS W ao b off len ds) (hmx : len ≤ 9223372036854775807) (r : Int) (hR : addD D S s.data.toList ds = (D', S', r)) :
    Calls Tryz.prog 22 #[.pointer (some ⟨q, 0, none⟩), .string s, .slice ao len cap] W fun e w' => e = .returned (.int .i64 r) ∧ Ms w w' q p D' S' := by
  obtain ⟨T, h1, h2, h3⟩ := h
  exact (add_any W h1 hrm s hs ao b off len cap ds hr hmx D' S' r hR).mono fun e w' z => ⟨z.1, MdS.skm h2 h3 z.2⟩
theorem Ms.item (h : Ms w W q p D S) (i : Nat) (hi : i < 18446744073709551616) (t : ByteArray) (r : Int) (x : List UInt8) (he : itmD D S i = (x, r)) (ht : tx x = t) :
    Calls Tryz.prog 10 #[.pointer (some ⟨q, 0, none⟩), .int .u64 (i : Int)] W fun e w' => e = .returned (.tuple #[.string t, .int .i64 r]) ∧ Ms w w' q p D S := by
  have hh := h
  obtain ⟨T, h1, _⟩ := h
  exact (item_any W h1 i hi t r (by rw [he]; exact ht) (by rw [he])).mono fun e w' z => ⟨z.1, hh.next z.2⟩
theorem Ms.node (h : Ms w W q p D S) (i : Nat) (hi : i < 18446744073709551616) (t : ByteArray) (r : Int) (x : List UInt8) (he : nodD D S i = (x, r)) (ht : tx x = t) :
    Calls Tryz.prog 12 #[.pointer (some ⟨q, 0, none⟩), .int .u64 (i : Int)] W fun e w' => e = .returned (.tuple #[.string t, .int .i64 r]) ∧ Ms w w' q p D S := by
  have hh := h
  obtain ⟨T, h1, _⟩ := h
  exact (fnode_any W h1 i hi t r (by rw [he]; exact ht) (by rw [he])).mono fun e w' z => ⟨z.1, hh.next z.2⟩
theorem Ms.size (h : Ms w W q p D S) (n : Nat) (hn : S.ends.length = n) : Calls Tryz.prog 14 #[.pointer (some ⟨q, 0, none⟩)] W fun e w' => e = .returned (.int .u64 (n : Int)) ∧ w' = W := by
  obtain ⟨T, h1, _⟩ := h
  rw [← hn]; exact fsize_any W h1
theorem Ms.lame (h : Ms w W q p D S) (b : Bool) (hb : S.lame = b) : Calls Tryz.prog 15 #[.pointer (some ⟨q, 0, none⟩)] W fun e w' => e = .returned (.bool b) ∧ w' = W := by
  obtain ⟨T, h1, _⟩ := h
  rw [← hb]; exact flame_any W h1
theorem Nw.open1 (h : Nw w W p D) (hrm : Rm 7 D) (k : Int) (he : opnD D k = (D', some S, 0)) :
    Calls Tryz.prog 20 #[.pointer (some ⟨p, 0, none⟩), .int .i64 k] W fun e w' => ∃ q, e = .returned (.tuple #[.pointer (some ⟨q, 0, none⟩), .int .i64 0]) ∧ Ms w w' q p D' S := by
  obtain ⟨S0, h1, h2, h3⟩ := h
  exact (fopen_any W h1 hrm k _ he).mono fun e w' z => by
    obtain ⟨q, T, z1, z2, z3, _, z4⟩ := z
    exact ⟨q, z1, MdS.base h3 h2 ⟨T, z2, z3, z4⟩⟩
theorem Nw.open0 (h : Nw w W p D) (hrm : Rm 7 D) (k r : Int) (he : opnD D k = (D', none, r)) :
    Calls Tryz.prog 20 #[.pointer (some ⟨p, 0, none⟩), .int .i64 k] W fun e w' => e = .returned (.tuple #[.pointer none, .int .i64 r]) ∧ Nw w w' p D' := by
  obtain ⟨S0, h1, h2, h3⟩ := h
  exact (fopen_any W h1 hrm k _ he).mono fun e w' z => ⟨z.1, Nw.mvd h3 h2 z.2⟩
end
theorem tk_other {k k' : Nat} {A : List It} (h : OkA k A) (h0 : A ≠ []) (hk : k ≠ k') {I N t : List UInt8} (ht : t.length < 64 ∨ t = zer 64) : tkAll k' I N ((bA k A).m ++ t) = none := by
  obtain ⟨x, r, rfl⟩ := List.exists_cons_of_ne_nil h0
  have ho := h.take 1
  have hp := (bA_take k (x :: r) 1).2.2
  have e1 : (x :: r).take 1 = [] ++ [x] := by simp
  rw [e1] at ho hp
  have hr := rowM_at ho (hp.trans (List.prefix_append _ t))
  have hc := cntM_good h ht
  rw [tkAll, hc]
  refine tkA_none (j := 1) ?_ _ (by simp)
  rw [tkA, tkA]
  simp only
  rw [show (0 : Nat) = ([] : List It).length from rfl, hr]
  unfold tkN
  rw [rmrk_mrk _ ho.mvok]
  simp only
  split
  · rfl
  · split
    · rfl
    · rw [if_neg]
      intro e
      have := congrArg MV.k e
      have e2 : ((k : Nat) : Int) = ((k' : Nat) : Int) := this
      omega
def al1 : It := ([97], [tx [97, 97]])
def al2 : It := ([98], [tx [98, 98], tx [97, 98]])
theorem al1_ok : OkA 2 ([] ++ [al1]) := (okA_nil (by decide) (by decide)).add (by decide) ⟨by decide, by decide, by decide⟩
theorem al2_ok : OkA 2 (([] ++ [al1]) ++ [al2]) := al1_ok.add (by decide) ⟨by decide, by decide, by decide⟩
theorem al1_fit : (bA 2 ([] ++ [al1])).a.length + (bA 2 ([] ++ [al1])).b.length + (bA 2 ([] ++ [al1])).m.length ≤ 100000 := by
  have l := al1_ok.lens
  have h2 := l.b
  have h3 := l.m
  have h1 : (bA 2 ([] ++ [al1])).a.length = 9 := by
    rw [bA_snoc]
    show (([] : List UInt8) ++ pay [97]).length = _
    rw [List.length_append, pay_len]; rfl
  have h4 : nn ([] ++ [al1]).length = 1 := by decide
  have h5 : ([] ++ [al1]).length = 1 := rfl
  rw [h4] at h2
  rw [h5] at h3
  omega
theorem al2_fit : (bA 2 (([] ++ [al1]) ++ [al2])).a.length + (bA 2 (([] ++ [al1]) ++ [al2])).b.length + (bA 2 (([] ++ [al1]) ++ [al2])).m.length ≤ 100000 := by
  have l := al2_ok.lens
  have h2 := l.b
  have h3 := l.m
  have h1 : (bA 2 (([] ++ [al1]) ++ [al2])).a.length = 18 := by
    rw [bA_snoc, bA_snoc]
    show ((([] : List UInt8) ++ pay [97]) ++ pay [98]).length = _
    rw [List.length_append, List.length_append, pay_len, pay_len]; rfl
  have h4 : nn (([] ++ [al1]) ++ [al2]).length = 3 := by decide
  have h5 : (([] ++ [al1]) ++ [al2]).length = 2 := rfl
  rw [h4] at h2
  rw [h5] at h3
  omega
structure AlD (D1 D2 D4 D5 : DV) : Prop where
  o1 : opnD (newD 100000) 2 = (D1, some (sA 2 []), 0)
  a1 : D1.acts = 3
  p1 : addD D1 (sA 2 []) [97] [tx [97, 97]] = (D2, sA 2 ([] ++ [al1]), 0)
  p2 : addD D2 (sA 2 ([] ++ [al1])) [98] [tx [98, 98]] = (D2, sA 2 ([] ++ [al1]), 192)
  p3 : addD D2 (sA 2 ([] ++ [al1])) [98] [tx [98, 98], tx [97, 98]] = (D4, sA 2 (([] ++ [al1]) ++ [al2]), 0)
  i1 : itmD D4 (sA 2 (([] ++ [al1]) ++ [al2])) 1 = ([98], 0)
  n2 : nodD D4 (sA 2 (([] ++ [al1]) ++ [al2])) 2 = ([97, 98], 0)
  i2 : itmD D4 (sA 2 (([] ++ [al1]) ++ [al2])) 2 = ([], 31)
  sz : (sA 2 (([] ++ [al1]) ++ [al2])).ends.length = 2
  o3 : opnD D4 3 = (D4, none, 190)
  o0 : opnD D4 0 = (D4, none, 70)
  o2 : opnD D4 2 = (D5, some (sA 2 (([] ++ [al1]) ++ [al2])), 0)
  r0 : Rm 7 (newD 100000)
  r1 : Rm 7 D1
  r2 : Rm 7 D2
  r4 : Rm 7 D4
theorem al_data : ∃ D1 D2 D4 D5, AlD D1 D2 D4 D5 := by
  obtain ⟨e0, q0⟩ := new_ext 2 100000
  obtain ⟨D1, j1, o1, q1, x1, a1, _, z1⟩ := open_ok (okA_nil (k := 2) (by decide) (by decide)) q0 e0.beh
  obtain ⟨_, rfl⟩ := z1 e0
  obtain ⟨D2, p1, q2, x2, a2⟩ := add_ok al1_ok q1 x1 al1_fit (by decide)
  obtain ⟨D4, p3, q4, x4, a4⟩ := add_ok al2_ok q2 x2 al2_fit (by decide)
  obtain ⟨D5, j5, o5, q5, x5, a5, _, _⟩ := open_ok al2_ok q4 x4.beh
  have hlen : (sA 2 (([] ++ [al1]) ++ [al2])).ends.length = 2 := al2_ok.lens.ends
  have hl1 : (sA 2 ([] ++ [al1])).ends.length = 1 := al1_ok.lens.ends
  have ha1 : D1.acts = 3 := a1
  have hn2 : nodD D4 (sA 2 (([] ++ [al1]) ++ [al2])) (nn 1 + 1) = ([97, 98], 0) := node_ok al2_ok rfl rfl q4.down (by rw [x4.n]; exact List.prefix_rfl) 1 1 al2 (tx [97, 98]) rfl rfl
  refine ⟨D1, D2, D4, D5, ⟨o1, ha1, p1, ?_, p3, ?_, hn2, ?_, hlen, ?_, ?_, o5, qt_rm q0 e0.oth (by decide) (by decide), qt_rm q1 x1.oth (by decide) (by omega), qt_rm q2 x2.oth (by decide) (by omega), qt_rm q4 x4.oth (by decide) (by omega)⟩⟩
  · have hr : refD (sA 2 ([] ++ [al1])) [98] [tx [98, 98]] = 192 := by
      have hx : nxt (sA 2 ([] ++ [al1])) [tx [98, 98]] = false := by
        unfold nxt
        rw [hl1]
        decide
      unfold refD
      rw [if_neg (show ¬ (sA 2 ([] ++ [al1])).lame = true from Bool.false_ne_true), if_neg (by decide), if_neg (by rw [hl1]; decide), if_pos hx]
    unfold addD
    rw [hr, if_pos (by decide)]
  · exact item_ok al2_ok rfl q4.down (by rw [x4.i]; exact List.prefix_rfl) 1 al2 rfl
  · exact item_no _ (by rw [hlen]; exact Nat.le_refl _)
  · unfold opnD
    rw [if_neg (by decide), if_neg (by rw [q4.down]; exact Bool.false_ne_true)]
    have e := tk_other (k' := 3) al2_ok (by decide) (by decide) (I := now D4 nmI) (N := now D4 nmN) (t := []) (.inl (by decide))
    have em : now D4 nmM = (bA 2 (([] ++ [al1]) ++ [al2])).m ++ [] := by rw [List.append_nil]; show (fget D4.L nmM).now = _; rw [x4.m]
    rw [em]
    rw [show (3 : Int).toNat = 3 from rfl, e]
  · unfold opnD
    rw [if_pos (by decide)]
end Go.Proofs.YthfnpagangjpbabGreat
