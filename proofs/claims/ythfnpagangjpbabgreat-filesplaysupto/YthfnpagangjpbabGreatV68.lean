/-
  Own work: FHl, FRowP.
-/
import Derived.Test.YthfnpagangjpbabGreatRows
import Derived.Test.YthfnpagangjpbabGreatV58
import Derived.Test.YthfnpagangjpbabGreatV67
namespace Go.Proofs.YthfnpagangjpbabGreat
open Go.RowKit
open Rc
attribute [local go_sem ↓] Go.wp_at_zero Go.wp_at_succ
structure OpW where
  kind : Int
  it : ByteArray
  da : Option Addr
  dc : Nat
  db : Nat
  dof : Nat
  ds : List ByteArray
  rg : Bool
  an : Nat
  nn' : Int
  ft : Int
  yb : UInt8
  ka : Option Addr
  kc : Nat
  kb : Nat
  ko : Nat
  keep : List Bool
  kk : Int
def OpW.val (o : OpW) : Value := .agg #[.int .i64 o.kind, .string o.it, .slice o.da o.ds.length o.dc, .bool o.rg, .int .u64 (o.an : Int), .int .i64 o.nn', .int .i64 o.ft, .int .u8 ((o.yb.toNat : Nat) : Int), .slice o.ka o.keep.length o.kc, .int .i64 o.kk]
structure OpS (w : World) (o : OpW) : Prop where
  it : o.it.size ≤ 1048576
  rd : RdS w o.da o.db o.dof o.ds.length o.ds
  dl : o.ds.length ≤ 1048576
  dz : o.da = none → o.dc = 0
  kp : RdL w o.ka o.kb o.ko o.keep
  kl : o.keep.length ≤ 1048576
  kz : o.ka = none → o.kc = 0
  an : o.an < 18446744073709551616
  ft : o.ft ≤ 9223372036854775807
structure RdOp (w : World) (ao : Option Addr) (b off len : Nat) (l : Nat → OpW) : Prop where
  ptr : 0 < len → ao = some ⟨b, off, none⟩
  ten : ∀ j, j < len → w.cell? ⟨b, off + (j * 10 + 0), none⟩ = some (.int .i64 (l j).kind) ∧ w.cell? ⟨b, off + (j * 10 + 1), none⟩ = some (.string (l j).it) ∧ w.cell? ⟨b, off + (j * 10 + 2), none⟩ = some (.slice (l j).da (l j).ds.length (l j).dc) ∧ w.cell? ⟨b, off + (j * 10 + 3), none⟩ = some (.bool (l j).rg) ∧ w.cell? ⟨b, off + (j * 10 + 4), none⟩ = some (.int .u64 ((l j).an : Int)) ∧ w.cell? ⟨b, off + (j * 10 + 5), none⟩ = some (.int .i64 (l j).nn') ∧ w.cell? ⟨b, off + (j * 10 + 6), none⟩ = some (.int .i64 (l j).ft) ∧ w.cell? ⟨b, off + (j * 10 + 7), none⟩ = some (.int .u8 (((l j).yb.toNat : Nat) : Int)) ∧ w.cell? ⟨b, off + (j * 10 + 8), none⟩ = some (.slice (l j).ka (l j).keep.length (l j).kc) ∧ w.cell? ⟨b, off + (j * 10 + 9), none⟩ = some (.int .i64 (l j).kk)
  ok : ∀ j, j < len → OpS w (l j)
theorem RdOp.at {w W : World} {ao : Option Addr} {b off len : Nat} {l : Nat → OpW} (h : RdOp w ao b off len l) (hb : Below w.heap.size w W) {j a : Nat} (hj : j < len) (ha : off + j * 10 = a) : W.cell? ⟨b, a, none⟩ = some (.int .i64 (l j).kind) ∧ W.cell? ⟨b, a + 1, none⟩ = some (.string (l j).it) ∧ W.cell? ⟨b, a + 2, none⟩ = some (.slice (l j).da (l j).ds.length (l j).dc) ∧ W.cell? ⟨b, a + 3, none⟩ = some (.bool (l j).rg) ∧ W.cell? ⟨b, a + 4, none⟩ = some (.int .u64 ((l j).an : Int)) ∧ W.cell? ⟨b, a + 5, none⟩ = some (.int .i64 (l j).nn') ∧ W.cell? ⟨b, a + 6, none⟩ = some (.int .i64 (l j).ft) ∧ W.cell? ⟨b, a + 7, none⟩ = some (.int .u8 (((l j).yb.toNat : Nat) : Int)) ∧ W.cell? ⟨b, a + 8, none⟩ = some (.slice (l j).ka (l j).keep.length (l j).kc) ∧ W.cell? ⟨b, a + 9, none⟩ = some (.int .i64 (l j).kk) := by
  obtain ⟨h0, h1, h2, h3, h4, h5, h6, h7, h8, h9⟩ := h.ten j hj
  have hl : b < w.heap.size := World.block_lt_of_cell? w _ h0
  have e := hb.block b hl
  subst ha
  refine ⟨(World.cell?_of_block (a := ⟨b, off + j * 10, none⟩) e).trans h0, (World.cell?_of_block (a := ⟨b, off + j * 10 + 1, none⟩) e).trans h1, (World.cell?_of_block (a := ⟨b, off + j * 10 + 2, none⟩) e).trans h2, (World.cell?_of_block (a := ⟨b, off + j * 10 + 3, none⟩) e).trans h3, (World.cell?_of_block (a := ⟨b, off + j * 10 + 4, none⟩) e).trans h4, (World.cell?_of_block (a := ⟨b, off + j * 10 + 5, none⟩) e).trans h5, (World.cell?_of_block (a := ⟨b, off + j * 10 + 6, none⟩) e).trans h6, (World.cell?_of_block (a := ⟨b, off + j * 10 + 7, none⟩) e).trans h7, (World.cell?_of_block (a := ⟨b, off + j * 10 + 8, none⟩) e).trans h8, (World.cell?_of_block (a := ⟨b, off + j * 10 + 9, none⟩) e).trans h9⟩
section
variable {w0 w W w1 w2 w3 : World} {bx p r n c : Nat} {k : Int} {D : DV} {so : Option (Nat × Nat × SV)}
theorem plays_any19 (h : Bth w0 w bx k p r D so n) (hn : n + 6 ≤ 2097152) (hw : Wt D c) (hc : c ≤ 16777216) (o : OpW) (ho : OpS w0 o) :
    Calls Tryz.prog 18 #[.pointer (some ⟨bx, 0, none⟩), o.val] w (StQ w0 bx k (n + 6) (c + 5000)) := by
  have hb : Below w0.heap.size w0 w := by
    obtain ⟨V, T, U, _, _, _, _, _, _, _, _, g, _⟩ := h
    exact g
  obtain ⟨kind, it, da, dc, db, dof, ds, rg, an, nn', ft, yb, ka, kc, kb, ko, ks, kk⟩ := o
  obtain ⟨o1, o2, o3, o4, o5, o6, o7, o8, o9⟩ := ho
  simp only at o1 o2 o3 o4 o5 o6 o7 o8 o9
  have hkb : 0 < ks.length → kb < w0.heap.size := fun h0 => World.block_lt_of_cell? _ _ (o5.cell 0 h0)
  have hk := o5.next hb
  have hd := o2.next hb (Nat.le_refl _)
  unfold OpW.val
  simp only
  by_cases k4 : kind = 4
  · subst k4
    exact plays_lay19 h hn hw it da ds.length dc rg an nn' ft yb ka ks.length kc kk kb ko ks hk rfl (by omega) o7 hkb o9
  by_cases k5 : kind = 5
  · subst k5
    exact plays_open19 h hn hw it da ds.length dc rg an nn' ft yb ka ks.length kc kk
  by_cases k6 : kind = 6
  · subst k6
    exact plays_crash19 h hn hw hc it da ds.length dc rg an nn' ft yb ka ks.length kc kk kb ko ks hk rfl (by omega)
  by_cases k7 : kind = 7
  · subst k7
    exact plays_turn19 h hn hw hc it da ds.length dc rg an nn' ft yb ka ks.length kc kk o8
  cases so with
  | none => exact plays_none19 h hn hw kind it da ds.length dc rg an nn' ft yb ka ks.length kc kk k4 k5 k6 k7
  | some z =>
    obtain ⟨a, q, S⟩ := z
    by_cases k1 : kind = 1
    · subst k1
      exact plays_add19 h hn hw it da ds.length dc rg an nn' ft yb ka ks.length kc kk o1 db dof ds hd o3 o4 (fun h0 => o2.lt h0)
    by_cases k2 : kind = 2
    · subst k2
      exact plays_item19 h hn hw it da ds.length dc rg an nn' ft yb ka ks.length kc kk o8
    by_cases k3 : kind = 3
    · subst k3
      exact plays_node19 h hn hw it da ds.length dc rg an nn' ft yb ka ks.length kc kk o8
    exact plays_look19 h hn hw kind it da ds.length dc rg an nn' ft yb ka ks.length kc kk k1 k2 k3 k4 k5 k6 k7
theorem bdk_new0 {N p r m : Nat} {S T : Nat → Prop} (u0 : Below w.heap.size w w1) (hd : Dsk w2 p S (newD N)) (hS : ∀ x, S x → w1.heap.size ≤ x) (u1 : Below w1.heap.size w1 w2) (u2 : Below w2.heap.size w2 w3) (hr : Rsk w3 r T (newR N)) (hT : ∀ x, T x → w2.heap.size ≤ x) (hN : N ≤ 1099511627776) (hm : m ≤ 2097152) :
    Bdk w (w3.alloc (.cells #[.int .i64 k, .pointer (some ⟨p, 0, none⟩), .pointer (some ⟨r, 0, none⟩), .pointer none, .pointer none] 37)) w3.heap.size k p r (newD N) (.pointer none) (.pointer none) m := by
  have ha := bal (Below.refl w3.heap.size w3) (.cells #[.int .i64 k, .pointer (some ⟨p, 0, none⟩), .pointer (some ⟨r, 0, none⟩), .pointer none, .pointer none] 37)
  have s0 := u0.size
  have s1 := u1.size
  have s2 := u2.size
  refine ⟨newR N, S, T, new1 _ _, (hd.next u2).next ha, hr.next ha, fun x hx hq => ?_, fun q => ?_, fun q => ?_, fun x hx => ?_, fun x hx => ?_, ?_, bal (bnext (bnext u0 u1) u2) _, ⟨sim_new N, Nat.zero_le _, Nat.zero_le _, hm, hN, hN⟩⟩
  · have := hd.lt hx; have := hT x hq; omega
  · have := hd.lt q; omega
  · exact Nat.lt_irrefl _ (hr.lt q)
  · have := hS x hx; omega
  · have := hT x hx; omega
  · omega
end
set_option maxRecDepth 100000 in
set_option maxHeartbeats 8000000 in
theorem filesplays_walk (w : World) (k : Int) (sa : Option Addr) (sb off sn sc : Nat) (lo : Nat → OpW) (hs : RdOp w sa sb off sn lo) (hsl : sn ≤ 9223372036854775807) :
    Calls Tryz.prog 4 #[.int .i64 k, .slice sa sn sc] w fun e w' => e = .returned (.bool true) ∧ Below w.heap.size w w' := by
  have HA := hide (falive_any w)
  have HNd : Hid (∀ W : World, Calls Tryz.prog 16 #[.int .i64 16777216] W fun e w' => ∃ p S, e = .returned (.pointer (some ⟨p, 0, none⟩)) ∧ Dsk w' p S (newD 16777216) ∧ (∀ x, S x → W.heap.size ≤ x) ∧ Below W.heap.size W w') := fun W => new_any W 16777216 _ rfl (by decide)
  have HNr : Hid (∀ W : World, Calls Tryz.prog 17 #[.int .i64 16777216] W fun e w' => ∃ p S, e = .returned (.pointer (some ⟨p, 0, none⟩)) ∧ Rsk w' p S (newR 16777216) ∧ (∀ x, S x → W.heap.size ≤ x) ∧ Below W.heap.size W w') := fun W => rnew_any W 16777216 _ rfl (by decide)
  have HB : Hid (∀ (w1 w2 w3 : World) (p r : Nat) (S T : Nat → Prop), Below w.heap.size w w1 → Dsk w2 p S (newD 16777216) → (∀ x, S x → w1.heap.size ≤ x) → Below w1.heap.size w1 w2 → Below w2.heap.size w2 w3 → Rsk w3 r T (newR 16777216) → (∀ x, T x → w2.heap.size ≤ x) → Bdk w (w3.alloc (.cells #[.int .i64 k, .pointer (some ⟨p, 0, none⟩), .pointer (some ⟨r, 0, none⟩), .pointer none, .pointer none] 37)) w3.heap.size k p r (newD 16777216) (.pointer none) (.pointer none) 0) := fun w1 w2 w3 p r S T g0 g1 g2 g3 g4 g5 g6 => bdk_new0 g0 g1 g2 g3 g4 g5 g6 (by decide) (by decide)
  have HOp : Hid (∀ (W : World) (bx p r : Nat), Bdk w W bx k p r (newD 16777216) (.pointer none) (.pointer none) 0 → Calls Tryz.prog 8 #[.pointer (some ⟨bx, 0, none⟩), .int .i64 k] W (StQ w bx k 6 0)) := fun W bx p r hB => (opens_any hB (by decide) k k (by split <;> rfl) _ rfl).mono fun e w' z => by
    obtain ⟨z1, so, z2, _⟩ := z
    exact ⟨z1, _, _, _, so, z2, (wt_new _).opn _⟩
  have HP : Hid (∀ (W : World) (bx j : Nat) (n c : Nat), (∃ p r D so, Bth w W bx k p r D so n ∧ Wt D c) → n + 6 ≤ 2097152 → c ≤ 16777216 → j < sn → Calls Tryz.prog 18 #[.pointer (some ⟨bx, 0, none⟩), (lo j).val] W (StQ w bx k (n + 6) (c + 5000))) := fun W bx j n c hB hn hc hj => by
    obtain ⟨p, r, D, so, h1, h2⟩ := hB
    exact plays_any19 h1 hn h2 hc (lo j) (hs.ok j hj)
  have HAl : Hid (∀ (W : World) (bx n c : Nat), (∃ p r D so, Bth w W bx k p r D so n ∧ Wt D c) → Calls Tryz.prog 19 #[.pointer (some ⟨bx, 0, none⟩)] W fun e w' => e = .returned (.bool true) ∧ Below w.heap.size w w') := fun W bx n c hB => by
    obtain ⟨p, r, D, so, h1, h2⟩ := hB
    refine (h1.alike W (Below.refl _ _)).mono fun e w' z => ⟨z.1, ?_⟩
    obtain ⟨V, T, U, _, _, _, _, _, _, _, _, g, _⟩ := h1
    exact bnext g z.2
  have HS : Hid (∀ (W : World) (bx n c j a : Nat), (∃ p r D so, Bth w W bx k p r D so n ∧ Wt D c) → j < sn → off + j * 10 = a → sa = some ⟨sb, off, none⟩ ∧ W.cell? ⟨sb, a, none⟩ = some (.int .i64 (lo j).kind) ∧ W.cell? ⟨sb, a + 1, none⟩ = some (.string (lo j).it) ∧ W.cell? ⟨sb, a + 2, none⟩ = some (.slice (lo j).da (lo j).ds.length (lo j).dc) ∧ W.cell? ⟨sb, a + 3, none⟩ = some (.bool (lo j).rg) ∧ W.cell? ⟨sb, a + 4, none⟩ = some (.int .u64 ((lo j).an : Int)) ∧ W.cell? ⟨sb, a + 5, none⟩ = some (.int .i64 (lo j).nn') ∧ W.cell? ⟨sb, a + 6, none⟩ = some (.int .i64 (lo j).ft) ∧ W.cell? ⟨sb, a + 7, none⟩ = some (.int .u8 (((lo j).yb.toNat : Nat) : Int)) ∧ W.cell? ⟨sb, a + 8, none⟩ = some (.slice (lo j).ka (lo j).keep.length (lo j).kc) ∧ W.cell? ⟨sb, a + 9, none⟩ = some (.int .i64 (lo j).kk)) := fun W bx n c j a hB hj ha => by
    obtain ⟨p, r, D, so, ⟨V, T, U, _, _, _, _, _, _, _, _, g, _⟩, h2⟩ := hB
    exact ⟨hs.ptr (by omega), hs.at g hj ha⟩
  clear hs
  go_enter Tryz.func4, Tryz.ntmps4
  go_upto_region 4 with (first
    | (go_at_call 5; (with_reducible refine HA.out.mono ?_); rintro e w1 ⟨rfl, u1⟩)
    | (go_at_call 16; (with_reducible refine (HNd.out _).mono ?_); rintro e w2 ⟨p, S, rfl, hd, hS, u2⟩)
    | (go_at_call 17; (with_reducible refine (HNr.out _).mono ?_); rintro e w3 ⟨r, T, rfl, hr, hT, u3⟩))
  have tb := HB.out _ _ _ _ _ _ _ u1 hd hS u2 u3 hr hT
  obtain ⟨bx, hbx⟩ : ∃ x, w3.heap.size = x := ⟨_, rfl⟩
  rw [hbx] at tb ⊢
  generalize w3.alloc (.cells #[.int .i64 k, .pointer (some ⟨p, 0, none⟩), .pointer (some ⟨r, 0, none⟩), .pointer none, .pointer none] 37) = w4 at *
  clear hbx hd hS u1 u2 u3 hr hT HB HNd HNr HA
  go_upto_region 5 with (go_at_call 8; (with_reducible refine (HOp.out _ _ _ _ tb).mono ?_); rintro e w5 hQ; obtain ⟨rfl, hQ⟩ := hQ)
  have HQ := hide hQ
  clear hQ tb HOp
  go_wp2
  go_loopg [6, 7] 50 (fun g x y wr => ∃ j : Nat, j ≤ 50 ∧ j ≤ sn ∧ g = 50 - j ∧ x = .bool true ∧ y = .int .i64 (j : Int) ∧ Hid (∃ p r D so, Bth w wr bx k p r D so (6 + 6 * j) ∧ Wt D (5000 * j)))
  case atStart =>
    go_light
    exact ⟨0, by omega, by omega, rfl, rfl, rfl, HQ.out⟩
  case round =>
    clear HQ
    obtain ⟨j, hj, hjn, rfl, rfl, rfl, HW⟩ := hrel
    by_cases hlt : j < sn ∧ j < 50
    · obtain ⟨hl1, hl2⟩ := hlt
      obtain ⟨a, ha⟩ : ∃ a, off + j * 10 = a := ⟨_, rfl⟩
      obtain ⟨hsa, k0, k1, k2, k3, k4, k5, k6, k7, k8, k9⟩ := HS.out wr bx (6 + 6 * j) (5000 * j) j a HW.out hl1 ha
      subst hsa
      have HP1 : Hid (Calls Tryz.prog 18 #[.pointer (some ⟨bx, 0, none⟩), (lo j).val] wr (StQ w bx k (6 + 6 * (j + 1)) (5000 * (j + 1)))) := by
        have h := HP.out wr bx j (6 + 6 * j) (5000 * j) HW.out (by omega) (by omega) hl1
        rw [show 6 + 6 * j + 6 = 6 + 6 * (j + 1) by omega, show 5000 * j + 5000 = 5000 * (j + 1) by omega] at h
        exact h
      have hx1 : (j : Int) < (sn : Int) := by omega
      have hx2 : (j : Int) < 50 := by omega
      have hx0 : (0 : Int) ≤ (j : Int) := by omega
      have hw : IntKind.i64.wrap ((j : Int) + 1) = (j : Int) + 1 := by rw [IntKind.wrap_i64]; omega
      unfold OpW.val at HP1
      generalize lo j = o at *
      obtain ⟨kind, it, da, dc, db, dof, ds, rg, an, nn', ft, yb, ka, kc, kb, ko, ks, kk⟩ := o
      simp only at k0 k1 k2 k3 k4 k5 k6 k7 k8 k9 HP1
      generalize ks.length = kl at *
      generalize ds.length = dl at *
      have HJ : Hid (j < sn ∧ j < 50) := ⟨hl1, hl2⟩
      clear hj hjn hl1 hl2 HP HAl HS HW
      go_wp2_with (go_at_call 18; (with_reducible refine HP1.out.mono ?_); rintro e w6 hQ; obtain ⟨rfl, hQ⟩ := hQ)
      have HQ := hide hQ
      clear hQ
      go_roundg (50 - (j + 1))
      case rel =>
        go_light
        exact ⟨j + 1, by have := HJ.out; omega, by have := HJ.out; omega, rfl, rfl, by go_num, HQ.out⟩
      case measure => go_light; have := HJ.out; omega
    · have HA2 := hide (HAl.out wr bx (6 + 6 * j) (5000 * j) HW.out)
      have hcond : ¬ (j < sn) ∨ (j < sn ∧ ¬ (j < 50)) := by omega
      clear HP HAl HS HW hlt
      rcases hcond with hz | ⟨hz, hz2⟩
      · have hz1 : ¬ ((j : Int) < (sn : Int)) := by omega
        clear hz hj hjn
        go_wp2_with (go_at_call 19; (with_reducible refine HA2.out.mono ?_); rintro e w6 ⟨rfl, u6⟩)
        go_ret
        exact ⟨rfl, u6⟩
      · have hz1 : (j : Int) < (sn : Int) := by omega
        have hz3 : ¬ ((j : Int) < 50) := by omega
        clear hz hz2 hj hjn
        go_wp2_with (go_at_call 19; (with_reducible refine HA2.out.mono ?_); rintro e w6 ⟨rfl, u6⟩)
        go_ret
        exact ⟨rfl, u6⟩
end Go.Proofs.YthfnpagangjpbabGreat
namespace Go.Proofs.YthfnpagangjpbabGreat
open Go.RowKit Go.ChangeShapes Go.WideShapes
open Rc
theorem bul_one {H : Type} (d : DataW H) : 1 ≤ Rows.uptoBulk d := by
  cases d with
  | lit l => cases l <;> simp [Rows.uptoBulk]
  | nil => simp [Rows.uptoBulk]
  | ptr d => simp [Rows.uptoBulk]
  | slice elems spare => simp [Rows.uptoBulk]
  | agg parts => simp [Rows.uptoBulk]
  | iface t d => simp [Rows.uptoBulk]
  | map entries => simp [Rows.uptoBulk]
  | held h => simp [Rows.uptoBulk]
theorem bul_part {H : Type} {d : DataW H} {l : List (DataW H)} (h : d ∈ l) : Rows.uptoBulk d ≤ Rows.uptoBulkAll l := by
  induction l with
  | nil => cases h
  | cons x r ih =>
    simp only [Rows.uptoBulkAll]
    rcases List.mem_cons.1 h with rfl | e
    · omega
    · have := ih e; omega
theorem bul_len {H : Type} (l : List (DataW H)) : l.length ≤ Rows.uptoBulkAll l := by
  induction l with
  | nil => simp [Rows.uptoBulkAll]
  | cons x r ih => have := bul_one x; simp only [Rows.uptoBulkAll, List.length_cons]; omega
theorem bul_slice {H : Type} {enc : TypeId × Value → H} {W : World} {fuel : Nat} {t e : TypeId} {ao : Option Addr} {n cap : Nat} {x : DataW H × List MemPlace} (ht : Tryz.prog.underlying t = some (.slice e)) (hf : DataW.trod enc Tryz.prog W 0 (fun _ => true) true fuel t [.slice ao n cap] = some x) : n ≤ Rows.uptoBulk x.1 := by
  rcases Go.Deep.open_slice ht hf with ⟨hcs, hx⟩ | ⟨a, len', cap', m, n', D, Pl, hcs, _, hl, hm, hmm, hx, hcell⟩
  · simp at hcs
    omega
  · simp at hcs
    obtain ⟨_, rfl, _⟩ := hcs
    have := bul_len (H := H) ((List.range n).map D)
    rw [hx]
    simp only [Rows.uptoBulk]
    simp only [List.length_map, List.length_range] at this
    omega
theorem bul_string {H : Type} (s : ByteArray) : s.size + 1 = Rows.uptoBulk (DataW.lit (H := H) (.string s.data.toList)) := by
  simp only [Rows.uptoBulk]
  rw [Array.length_toList]; rfl
theorem rowCellsW : Tryz.prog.cellsOf 51 = 10 := by kernel_rfl
theorem rowCellsU : Tryz.prog.cellsOf 39 = 1 := by kernel_rfl
theorem rowCellsY : Tryz.prog.cellsOf 5 = 1 := by kernel_rfl
theorem rowCellsSs : Tryz.prog.cellsOf 48 = 1 := by kernel_rfl
theorem openSs {H : Type} {enc : TypeId × Value → H} {W : World} {fuel : Nat} {v : Value} {x : DataW H × List MemPlace} (hf : DataW.trod enc Tryz.prog W 0 (fun _ => true) true fuel 48 [v] = some x) :
    ∃ (ao : Option Addr) (b off cap : Nat) (ss : List ByteArray), v = .slice ao ss.length cap ∧ RdS W ao b off ss.length ss ∧ (ao = none → cap = 0) := by
  rcases Go.Deep.open_slice Tryz.underlying48 hf with ⟨hcs, hx⟩ | ⟨a, len, cap, m, n, D, Pl, hcs, _, hl, hm, hmm, hx, hcell⟩
  · simp at hcs
    subst hcs
    exact ⟨none, 0, 0, 0, [], rfl, ⟨rfl, fun h => absurd h (Nat.lt_irrefl 0), (fun j v h => by cases h), (fun s h => by cases h)⟩, fun _ => rfl⟩
  · simp at hcs
    subst hcs
    simp only [if_true] at hmm
    have each : ∀ i, i < len → ∃ s : ByteArray, W.cell? (a.add i) = some (.string s) ∧ s.size ≤ maxLen := fun i hi => by
      obtain ⟨cs', h1, h2⟩ := hcell i (by omega)
      rw [rowCellsS] at h1
      obtain ⟨_, hlen, hc⟩ := World.cells?_some h1
      obtain ⟨s, rfl, _, hs⟩ := DataW.trod_string Tryz.underlying9 h2
      have q := hc 0 (by decide)
      simp only [Go.Deep.add_add, Nat.mul_one, Nat.add_zero] at q
      exact ⟨s, by simpa using q, hs⟩
    obtain ⟨l, hL⟩ := Go.Deep.choose_lt each
    by_cases h0 : len = 0
    · subst h0
      exact ⟨some a, 0, 0, cap, [], rfl, ⟨rfl, fun h => absurd h (Nat.lt_irrefl 0), (fun j v h => by cases h), (fun s h => by cases h)⟩, fun h => by cases h⟩
    · obtain ⟨b, off, spot⟩ := a
      have hspot : spot = none := by simpa [Addr.add] using World.cell?_spot (hL 0 (by omega)).1
      subst hspot
      have hlen : ((List.range len).map l).length = len := by simp
      refine ⟨some ⟨b, off, none⟩, b, off, cap, (List.range len).map l, by rw [hlen], ⟨rfl, fun _ => rfl, fun j v hj => ?_, fun s hs => ?_⟩, fun h => by cases h⟩
      · have hj2 : j < len := by have := (List.getElem?_eq_some_iff.1 hj).1; simpa using this
        have := (hL j hj2).1
        rw [Addr.add_mid] at this
        rw [this, ← hj]
        simp [hj2]
      · obtain ⟨i, hi, rfl⟩ := List.mem_map.1 hs
        have := (hL i (List.mem_range.1 hi)).2
        unfold maxLen at this
        omega
instance : Inhabited OpW := ⟨⟨0, ⟨#[]⟩, none, 0, 0, 0, [], false, 0, 0, 0, 0, none, 0, 0, 0, [], 0⟩⟩
set_option maxRecDepth 100000 in
theorem openOpW {H : Type} {enc : TypeId × Value → H} {W : World} {fuel : Nat} {cs : List Value} {x : DataW H × List MemPlace} (hl : cs.length = 10) (hf : DataW.trod enc Tryz.prog W 0 (fun _ => true) true fuel 51 cs = some x) (hb : Rows.uptoBulk x.1 ≤ 1048576) :
    ∃ o : OpW, cs = [.int .i64 o.kind, .string o.it, .slice o.da o.ds.length o.dc, .bool o.rg, .int .u64 (o.an : Int), .int .i64 o.nn', .int .i64 o.ft, .int .u8 ((o.yb.toNat : Nat) : Int), .slice o.ka o.keep.length o.kc, .int .i64 o.kk] ∧ OpS W o := by
  obtain ⟨xs, k, hk, hxy, _, hxl, hg⟩ := DataW.trod_struct Tryz.underlying51 hf
  match xs, hxl, cs, hl with
  | [y0, y1, y2, y3, y4, y5, y6, y7, y8, y9], _, [v0, v1, v2, v3, v4, v5, v6, v7, v8, v9], _ =>
    have g0 := hg 0 _ rfl
    have g1 := hg 1 _ rfl
    have g2 := hg 2 _ rfl
    have g3 := hg 3 _ rfl
    have g4 := hg 4 _ rfl
    have g5 := hg 5 _ rfl
    have g6 := hg 6 _ rfl
    have g7 := hg 7 _ rfl
    have g8 := hg 8 _ rfl
    have g9 := hg 9 _ rfl
    simp [rowCellsI, rowCellsS, rowCellsL, rowCellsB, rowCellsU, rowCellsY, rowCellsSs] at g0 g1 g2 g3 g4 g5 g6 g7 g8 g9
    obtain ⟨z0, e0, f0, _⟩ := DataW.trod_int Tryz.underlying3 g0
    obtain ⟨z1, e1, f1, w1⟩ := DataW.trod_string Tryz.underlying9 g1
    obtain ⟨z3, e3, f3⟩ := DataW.trod_bool Tryz.underlying4 g3
    obtain ⟨z4, e4, f4, w4⟩ := DataW.trod_int Tryz.underlying39 g4
    obtain ⟨z5, e5, f5, _⟩ := DataW.trod_int Tryz.underlying3 g5
    obtain ⟨z6, e6, f6, w6⟩ := DataW.trod_int Tryz.underlying3 g6
    obtain ⟨z7, e7, f7, w7⟩ := DataW.trod_int Tryz.underlying5 g7
    obtain ⟨z9, e9, f9, _⟩ := DataW.trod_int Tryz.underlying3 g9
    simp only [List.cons.injEq, and_true] at e0 e1 e3 e4 e5 e6 e7 e9
    subst e0 e1 e3 e4 e5 e6 e7 e9
    have b6 := bounds_i64 w6
    have b4 := bounds_u64 w4
    have b7 := bounds_u8 w7
    obtain ⟨da, db, dof, dc, ds, rfl, hd1, hd2⟩ := openSs g2
    obtain ⟨ao, b, off, cap, ks, rfl, h1, h2, h3, h4⟩ := openL g8
    have q8 := bul_slice Tryz.underlying49 g8
    have q2 := bul_slice Tryz.underlying48 g2
    have q1 := bul_string (H := H) z1
    have q : Rows.uptoBulk y1.1 + Rows.uptoBulk y2.1 + Rows.uptoBulk y8.1 ≤ Rows.uptoBulk x.1 := by
      rw [hxy]
      simp only [List.map_cons, List.map_nil, Rows.uptoBulk, Rows.uptoBulkAll]
      omega
    rw [f1] at q
    simp only at q
    obtain ⟨a4, ha4⟩ : ∃ m : Nat, z4 = (m : Int) := ⟨z4.toNat, by omega⟩
    obtain ⟨a7, ha7⟩ : ∃ m : UInt8, z7 = ((m.toNat : Nat) : Int) := ⟨UInt8.ofNat z7.toNat, by rw [UInt8.toNat_ofNat']; omega⟩
    subst ha4 ha7
    exact ⟨⟨z0, z1, da, dc, db, dof, ds, z3, a4, z5, z6, a7, ao, cap, b, off, ks, z9⟩, rfl, ⟨by simp only; omega, hd1, by simp only; omega, hd2, h1, by simp only; omega, h4, by simp only; omega, by simp only; omega⟩⟩
theorem sliceRdW {H : Type} {enc : TypeId × Value → H} {W : World} {fuel : Nat} {ao : Option Addr} {len cap : Nat} {x : DataW H × List MemPlace} (hf : DataW.trod enc Tryz.prog W 0 (fun _ => true) true fuel 44 [.slice ao len cap] = some x) (hb : Rows.uptoBulk x.1 ≤ 1048576) :
    ∃ (b off : Nat) (l : Nat → OpW), RdOp W ao b off len l ∧ len ≤ maxLen := by
  rcases Go.Deep.open_slice Tryz.underlying44 hf with ⟨hcs, hx⟩ | ⟨a, len', cap', m, n, D, Pl, hcs, _, hl, hm, hmm, hx, hcell⟩
  · simp at hcs
    obtain ⟨rfl, rfl, rfl⟩ := hcs
    exact ⟨0, 0, fun _ => default, ⟨fun h => absurd h (Nat.lt_irrefl 0), fun j hj => absurd hj (Nat.not_lt_zero j), fun j hj => absurd hj (Nat.not_lt_zero j)⟩, Nat.zero_le _⟩
  · simp at hcs
    obtain ⟨rfl, rfl, rfl⟩ := hcs
    simp only [if_true] at hmm
    have each : ∀ i, i < len → ∃ o : OpW, (W.cell? (a.add (i * 10 + 0)) = some (.int .i64 o.kind) ∧ W.cell? (a.add (i * 10 + 1)) = some (.string o.it) ∧ W.cell? (a.add (i * 10 + 2)) = some (.slice o.da o.ds.length o.dc) ∧ W.cell? (a.add (i * 10 + 3)) = some (.bool o.rg) ∧ W.cell? (a.add (i * 10 + 4)) = some (.int .u64 (o.an : Int)) ∧ W.cell? (a.add (i * 10 + 5)) = some (.int .i64 o.nn') ∧ W.cell? (a.add (i * 10 + 6)) = some (.int .i64 o.ft) ∧ W.cell? (a.add (i * 10 + 7)) = some (.int .u8 ((o.yb.toNat : Nat) : Int)) ∧ W.cell? (a.add (i * 10 + 8)) = some (.slice o.ka o.keep.length o.kc) ∧ W.cell? (a.add (i * 10 + 9)) = some (.int .i64 o.kk)) ∧ OpS W o := fun i hi => by
      obtain ⟨cs', h1, h2⟩ := hcell i (by omega)
      rw [rowCellsW] at h1
      obtain ⟨_, hlen, hc⟩ := World.cells?_some h1
      have hq : Rows.uptoBulk (D i) ≤ 1048576 := by
        have h3 : Rows.uptoBulk (D i) ≤ Rows.uptoBulkAll ((List.range len).map D) := bul_part (List.mem_map.2 ⟨i, List.mem_range.2 hi, rfl⟩)
        rw [hx] at hb
        simp only [Rows.uptoBulk] at hb
        omega
      obtain ⟨o, rfl, ho⟩ := openOpW hlen h2 hq
      have q := fun t (ht : t < 10) => hc t ht
      simp only [Go.Deep.add_add] at q
      exact ⟨o, ⟨by simpa using q 0 (by decide), by simpa using q 1 (by decide), by simpa using q 2 (by decide), by simpa using q 3 (by decide), by simpa using q 4 (by decide), by simpa using q 5 (by decide), by simpa using q 6 (by decide), by simpa using q 7 (by decide), by simpa using q 8 (by decide), by simpa using q 9 (by decide)⟩, ho⟩
    obtain ⟨l, hL⟩ := Go.Deep.choose_lt each
    by_cases h0 : len = 0
    · subst h0
      exact ⟨0, 0, l, ⟨fun h => absurd h (Nat.lt_irrefl 0), fun j hj => absurd hj (Nat.not_lt_zero j), fun j hj => absurd hj (Nat.not_lt_zero j)⟩, Nat.zero_le _⟩
    · obtain ⟨b, off, spot⟩ := a
      have hspot : spot = none := by simpa [Addr.add] using World.cell?_spot (hL 0 (by omega)).1.1
      subst hspot
      refine ⟨b, off, l, ⟨fun _ => rfl, fun j hj => ?_, fun j hj => (hL j hj).2⟩, Nat.le_trans hl hm⟩
      have := (hL j hj).1
      simp only [Addr.add_mid] at this
      exact this
end Go.Proofs.YthfnpagangjpbabGreat
