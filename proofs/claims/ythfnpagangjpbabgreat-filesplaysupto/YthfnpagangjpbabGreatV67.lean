/-
  Own work: FHp.
-/
import Derived.Test.YthfnpagangjpbabGreatV64
import Derived.Test.YthfnpagangjpbabGreatV66
namespace Go.Proofs.YthfnpagangjpbabGreat
open Go.RowKit
open Rc
attribute [local go_sem ↓] Go.wp_at_zero Go.wp_at_succ
section
variable {w0 w W w1 w2 w3 w4 : World} {bx p r n c m d a q : Nat} {k : Int} {D : DV} {V : RV} {T U : Nat → Prop} {S : SV} {so : Option (Nat × Nat × SV)} {e : Ending}
theorem Bth.mono (h : Bth w0 w bx k p r D so n) (hm : n ≤ m) (hj : m ≤ 2097152) : Bth w0 w bx k p r D so m := by
  obtain ⟨V, T, U, g1, g2, g3, g4, g5, g6, g7, g8, g9, gA⟩ := h
  exact ⟨V, T, U, g1, g2, g3, g4, g5, g6, g7, g8, g9, gA.mono hm hj⟩
theorem StQ.mono (h : StQ w0 bx k n c e w) (hm : n ≤ m) (hj : m ≤ 2097152) (hd : c ≤ d) : StQ w0 bx k m d e w := by
  obtain ⟨h1, p, r, D, so, h2, h3⟩ := h
  exact ⟨h1, p, r, D, so, h2.mono hm hj, h3.mono hd⟩
theorem stq_of (h : Bth w0 w bx k p r D so n) (hn : n + 6 ≤ 2097152) (hw : Wt D c) : StQ w0 bx k (n + 6) (c + 5000) (.returned (.bool true)) w := ⟨rfl, p, r, D, so, h.mono (by omega) hn, hw.mono (by omega)⟩
def StP (w : World) (p : Nat) (T : Nat → Prop) (D : DV) (so : Option (Nat × Nat × SV)) : Prop := match so with
  | none => Dsk w p T D
  | some z => Sk w z.1 p T D z.2.2
def StR (w : World) (r : Nat) (U : Nat → Prop) (V : RV) (so : Option (Nat × Nat × SV)) : Prop := match so with
  | none => Rsk w r U V
  | some z => RSk w z.2.1 r U V z.2.2
theorem sts_iff : Sts w p r T U D V so ↔ StP w p T D so ∧ StR w r U V so := by cases so <;> exact Iff.rfl
theorem StP.same (h : StP w p T D so) (hb : ∀ x, T x → W.heap[x]? = w.heap[x]?) : StP W p T D so := by
  cases so with
  | none => exact Dsk.same h hb
  | some z => exact Sk.same h hb
theorem StR.same (h : StR w r U V so) (hb : ∀ x, U x → W.heap[x]? = w.heap[x]?) : StR W r U V so := by
  cases so with
  | none => exact Rsk.same h hb
  | some z => exact RSk.same h hb
theorem StP.lt (h : StP w p T D so) {x : Nat} (hx : T x) : x < w.heap.size := by
  cases so with
  | none => exact Dsk.lt h hx
  | some z => exact Sk.lt h hx
theorem StR.lt (h : StR w r U V so) {x : Nat} (hx : U x) : x < w.heap.size := by
  cases so with
  | none => exact Rsk.lt h hx
  | some z => exact RSk.lt h hx
theorem StP.lay (h : StP w p T D so) (x y : Int) (ha : x ≤ 9223372036854775807) (qa : Option Addr) (qb qo qc qn : Nat) (ks : List Bool) (hk : RdL w qa qb qo ks) (hl : ks.length = qn) (hkl : qn ≤ 140737488355328) (hne : 0 < qn → ¬ T qb) :
    Calls Tryz.prog 38 #[.pointer (some ⟨p, 0, none⟩), .agg #[.int .i64 x, .int .i64 y, .slice qa qn qc]] w fun e w' => e = .returned (.tuple #[]) ∧ ∃ T', StP w' p T' (layD D x y ks) so ∧ (∀ z, T' z → T z ∨ w.heap.size ≤ z) ∧ Upo T w w' := by
  subst hl
  cases so with
  | none => exact Dsk.lay h x y ha qa qb qo qc ks hk hkl hne
  | some z =>
    obtain ⟨S0, v, h1, h2, h3, h4, h5⟩ := h
    exact (h1.lay x y ha qa qb qo qc ks hk hkl (fun h0 hs => hne h0 ((h5 _).2 (.inl hs)))).mono fun e w' q => ⟨q.1, sk_mvd h2 h3 h4 h5 q.2⟩
theorem StR.lay (h : StR w r U V so) (x y : Int) (ha : x ≤ 9223372036854775807) (qa : Option Addr) (qb qo qc qn : Nat) (ks : List Bool) (hk : RdL w qa qb qo ks) (hl : ks.length = qn) (hkl : qn ≤ 140737488355328) (hqn : qa = none → qc = 0) (hne : 0 < qn → ¬ U qb) :
    Calls Tryz.prog 39 #[.pointer (some ⟨r, 0, none⟩), .agg #[.int .i64 x, .int .i64 y, .slice qa qn qc]] w fun e w' => e = .returned (.tuple #[]) ∧ ∃ U', StR w' r U' (rlay V x y ks) so ∧ (∀ z, U' z → U z ∨ w.heap.size ≤ z) ∧ Upo U w w' := by
  subst hl
  cases so with
  | none => exact Rsk.lay h x y ha qa qb qo qc ks hk hkl hqn hne
  | some z =>
    obtain ⟨S0, v, l, h1, h2, h3, h4, h5⟩ := h
    exact (h1.lay x y ha qa qb qo qc ks hk hkl hqn (fun h0 hs => hne h0 ((h5 _).2 (.inl hs)))).mono fun e w' q => ⟨q.1, rsk_mvd h2 h3 h4 h5 q.2⟩
def LyP (w1 w2 : World) (p : Nat) (T : Nat → Prop) (D : DV) (so : Option (Nat × Nat × SV)) : Prop := ∃ T', StP w2 p T' D so ∧ (∀ z, T' z → T z ∨ w1.heap.size ≤ z) ∧ Upo T w1 w2
theorem RdL.sameL {ka : Option Addr} {kb ko : Nat} {ks : List Bool} (h : RdL w ka kb ko ks) (hb : 0 < ks.length → W.heap[kb]? = w.heap[kb]?) : RdL W ka kb ko ks := ⟨h.ptr, fun j hj => (World.cell?_of_block (a := ⟨kb, ko + j, none⟩) (hb (by omega))).trans (h.cell j hj)⟩
set_option maxRecDepth 100000 in
set_option maxHeartbeats 8000000 in
theorem plays_lay19 (h : Bth w0 w bx k p r D so n) (hn : n + 6 ≤ 2097152) (hw : Wt D c)   (it : ByteArray) (da : Option Addr) (dn dc : Nat) (rg : Bool) (an : Nat) (nn' ft : Int) (yb : UInt8) (ka : Option Addr) (kn kc : Nat) (kk : Int) (kb ko : Nat) (ks : List Bool) (hk : RdL w ka kb ko ks) (hkl : ks.length = kn) (hkn : kn ≤ 140737488355328) (hkz : ka = none → kc = 0) (hkb : 0 < kn → kb < w0.heap.size) (hft : ft ≤ 9223372036854775807) :
    Calls Tryz.prog 18 #[.pointer (some ⟨bx, 0, none⟩), .agg #[.int .i64 4, .string it, .slice da dn dc, .bool rg, .int .u64 (an : Int), .int .i64 nn', .int .i64 ft, .int .u8 ((yb.toNat : Nat) : Int), .slice ka kn kc, .int .i64 kk]] w (StQ w0 bx k (n + 6) (c + 5000)) := by
  obtain ⟨w1, hw1⟩ : ∃ W, w.alloc (.cells #[.int .i64 4, .string it, .slice da dn dc, .bool rg, .int .u64 (an : Int), .int .i64 nn', .int .i64 ft, .int .u8 ((yb.toNat : Nat) : Int), .slice ka kn kc, .int .i64 kk] 51) = W := ⟨_, rfl⟩
  have HW := hide hw1
  obtain ⟨bo, hbo⟩ : ∃ b, w.heap.size = b := ⟨_, rfl⟩
  have HBo := hide hbo
  have u1 : Below w.heap.size w w1 := by rw [← hw1]; exact bal (Below.refl _ _) _
  have k1 : w1.heap[bo]? = some (.cells #[.int .i64 4, .string it, .slice da dn dc, .bool rg, .int .u64 (an : Int), .int .i64 nn', .int .i64 ft, .int .u8 ((yb.toNat : Nat) : Int), .slice ka kn kc, .int .i64 kk] 51 (0, 0)) := by rw [← hw1, ← hbo]; exact new1 _ _
  have h1 := h.next u1
  obtain ⟨d0, d1, d2, d3, d4, d5, d6, d7, d8, d9⟩ := ten_at k1
  obtain ⟨V, T, U, g1, g2, g3, g4, g5, g6, g7, g8, g9, gA⟩ := h
  obtain ⟨p1, r1⟩ := sts_iff.1 g2
  have lbx := (Array.getElem?_eq_some_iff.1 g1).1
  have lbo : bo < w1.heap.size := (Array.getElem?_eq_some_iff.1 k1).1
  have hT : 0 < kn → ¬ T kb := fun h0 ht => by have := g6 kb ht; have := hkb h0; omega
  have hU : 0 < kn → ¬ U kb := fun h0 ht => by have := g7 kb ht; have := hkb h0; omega
  have hTo : ¬ T bo := fun ht => by have := p1.lt ht; omega
  have p1' : ∀ W, Below w1.heap.size w1 W → StP W p T D so := fun W hW => p1.same fun x hx => (bnext u1 hW).block x (p1.lt hx)
  obtain ⟨D', hD'⟩ : ∃ x, layD D ft nn' ks = x := ⟨_, rfl⟩
  have HD : Hid (∀ W, Below w1.heap.size w1 W → Calls Tryz.prog 38 #[.pointer (some ⟨p, 0, none⟩), .agg #[.int .i64 ft, .int .i64 nn', .slice ka kn kc]] W fun e w' => e = .returned (.tuple #[]) ∧ LyP w1 w' p T D' so) := fun W hW => by
    refine ((p1' W hW).lay ft nn' hft ka kb ko kc kn ks (hk.next (bnext u1 hW)) hkl hkn hT).mono fun e w' q => ⟨q.1, ?_⟩
    obtain ⟨T', q1, q2, q3⟩ := q.2
    rw [hD'] at q1
    have s1 := hW.size
    exact ⟨T', q1, fun z hz => (q2 z hz).imp id (fun e => by omega), (Upo.of hW).trans q3 (fun _ _ q => q)⟩
  have HC : Hid (∀ W, Below w1.heap.size w1 W → W.cell? ⟨bx, 1, none⟩ = some (.pointer (some ⟨p, 0, none⟩)) ∧ W.cell? ⟨bo, 5, none⟩ = some (.int .i64 nn') ∧ W.cell? ⟨bo, 6, none⟩ = some (.int .i64 ft) ∧ W.cell? ⟨bo, 8, none⟩ = some (.slice ka kn kc)) := fun W hW => by
    obtain ⟨_, q1, _, _, _⟩ := five_at (((bnext u1 hW).block bx lbx).trans g1)
    obtain ⟨_, _, _, _, _, y5, y6, _, y8, _⟩ := ten_at ((hW.block bo lbo).trans k1)
    exact ⟨q1, y5, y6, y8⟩
  have HE : Hid (∀ w2 W, LyP w1 w2 p T D' so → Below w2.heap.size w2 W → (W.cell? ⟨bx, 1, none⟩ = some (.pointer (some ⟨p, 0, none⟩)) ∧ W.cell? ⟨bx, 2, none⟩ = some (.pointer (some ⟨r, 0, none⟩)) ∧ W.cell? ⟨bo, 5, none⟩ = some (.int .i64 nn') ∧ W.cell? ⟨bo, 6, none⟩ = some (.int .i64 ft) ∧ W.cell? ⟨bo, 8, none⟩ = some (.slice ka kn kc)) ∧ Calls Tryz.prog 39 #[.pointer (some ⟨r, 0, none⟩), .agg #[.int .i64 ft, .int .i64 nn', .slice ka kn kc]] W fun e w' => e = .returned (.tuple #[]) ∧ StQ w0 bx k (n + 6) (c + 5000) (.returned (.bool true)) w' ∧ (w'.cell? ⟨bx, 2, none⟩ = some (.pointer (some ⟨r, 0, none⟩)) ∧ w'.cell? ⟨bo, 5, none⟩ = some (.int .i64 nn') ∧ w'.cell? ⟨bo, 6, none⟩ = some (.int .i64 ft) ∧ w'.cell? ⟨bo, 8, none⟩ = some (.slice ka kn kc))) := fun w2 W hL hW => by
    obtain ⟨T', q1, q2, q3⟩ := hL
    have q3w : Upo T w w2 := (Upo.of u1).trans q3 (fun _ _ q => q)
    have q2w : ∀ z, T' z → T z ∨ w.heap.size ≤ z := fun z hz => (q2 z hz).imp id (fun e => Nat.le_trans u1.size e)
    have hbx2 := (q3w.block bx lbx g4).trans g1
    have hbo2 := (q3.block bo lbo hTo).trans k1
    have hbxW := (hW.block bx (Array.getElem?_eq_some_iff.1 hbx2).1).trans hbx2
    have hboW := (hW.block bo (Array.getElem?_eq_some_iff.1 hbo2).1).trans hbo2
    obtain ⟨_, z1, z2, _, _⟩ := five_at hbxW
    obtain ⟨_, _, _, _, _, y5, y6, _, y8, _⟩ := ten_at hboW
    have r2 : StR w2 r U V so := r1.same fun x hx => q3w.block x (r1.lt hx) (fun ht => g3 x ht hx)
    have rW : StR W r U V so := r2.same fun x hx => hW.block x (r2.lt hx)
    have hk2 : RdL W ka kb ko ks := hk.sameL fun h0 => by
      have hlt : kb < w.heap.size := Nat.lt_of_lt_of_le (hkb (by omega)) g9.size
      rw [hW.block kb (Nat.lt_of_lt_of_le hlt q3w.size)]
      exact q3w.block kb hlt (hT (by omega))
    refine ⟨⟨z1, z2, y5, y6, y8⟩, (rW.lay ft nn' hft ka kb ko kc kn ks hk2 hkl hkn hkz hU).mono fun e w4 y => ⟨y.1, ?_⟩⟩
    obtain ⟨U', y1, y2, y3⟩ := y.2
    have hUo : ¬ U bo := fun ht => by have := r1.lt ht; omega
    have hb4 := (y3.block bo (Array.getElem?_eq_some_iff.1 hboW).1 hUo).trans hboW
    have hx4 := (y3.block bx (Array.getElem?_eq_some_iff.1 hbxW).1 g5).trans hbxW
    refine ⟨?_, (five_at hx4).2.2.1, (ten_at hb4).2.2.2.2.2.1, (ten_at hb4).2.2.2.2.2.2.1, (ten_at hb4).2.2.2.2.2.2.2.2.1⟩
    have s2 := hW.size
    obtain ⟨f1, f2, f3, f4, f5, f6, f7, f8⟩ := bth_of g1 g3 g4 g5 g6 g7 g8 g9 (fun x hx => r1.lt hx) q2w q3w (fun x hx => q1.lt hx) (fun x hx => (y2 x hx).imp id (fun e => Nat.le_trans s2 e)) ((Upo.of hW).trans y3 (fun _ _ q => q))
    refine ⟨rfl, p, r, D', so, ⟨rlay V ft nn' ks, T', U', f1, sts_iff.2 ⟨q1.same f8, y1⟩, f2, f3, f4, f5, f6, g8, f7, ?_⟩, ?_⟩
    · rw [← hD']
      exact (gA.lay (by omega) ft nn' ks).mono (by omega) hn
    · rw [← hD']
      exact (hw.lay ft nn' ks).mono (by omega)
  have t1 := Below.refl w1.heap.size w1
  clear h1 hn hw hk hkl hkn hkz hkb hft g1 g2 g3 g4 g5 g6 g7 g8 g9 gA p1 r1 lbx lbo hT hU hTo p1' hD' hw1 hbo u1 k1 d1 d2 d3 d4 d5 d6 d7 d8 d9
  go_enter Tryz.func18, Tryz.ntmps18
  go_upto_region 1 with (fail)
  rw [HW.out, HBo.out]
  go_upto_region 2 with (fail)
  have tw := t1.drew
  go_region_held3 (fun Z => Z.cell? ⟨bx, 1, none⟩ = some (.pointer (some ⟨p, 0, none⟩)) ∧ Z.cell? ⟨bo, 5, none⟩ = some (.int .i64 nn') ∧ Z.cell? ⟨bo, 6, none⟩ = some (.int .i64 ft) ∧ Z.cell? ⟨bo, 8, none⟩ = some (.slice ka kn kc)) (first | assumption | (with_reducible exact HC.out _ tw) | (exact ⟨hE1.1, hE1.2.2⟩) | (exact HC.out _ t1)) (first
    | (go_at_call 38; (with_reducible refine (HD.out _ tw).mono ?_); rintro e w2 ⟨rfl, hL⟩; have hE1 := (HE.out _ _ hL (Below.refl _ _)).1))
  all_goals
    obtain ⟨_, x2, x5, x6, x8⟩ := hE1
    go_upto_region 3 with (fail)
    have tv := bdq w2
    go_region_held3 (fun Z => Z.cell? ⟨bx, 2, none⟩ = some (.pointer (some ⟨r, 0, none⟩)) ∧ Z.cell? ⟨bo, 5, none⟩ = some (.int .i64 nn') ∧ Z.cell? ⟨bo, 6, none⟩ = some (.int .i64 ft) ∧ Z.cell? ⟨bo, 8, none⟩ = some (.slice ka kn kc)) (first | assumption | (with_reducible exact hC4) | (exact (HE.out _ _ hL tv).1.2) | (exact ⟨x2, x5, x6, x8⟩)) (first
      | (go_at_call 39; (with_reducible refine (HE.out _ _ hL tv).2.mono ?_); rintro e w4 ⟨rfl, hQ, hC4⟩))
    all_goals
      have HQ := hide hQ
      clear hQ hL hC4
      go_wp2
      go_ret
      exact HQ.out
set_option maxRecDepth 100000 in
set_option maxHeartbeats 8000000 in
theorem plays_open19 (h : Bth w0 w bx k p r D so n) (hn : n + 6 ≤ 2097152) (hw : Wt D c)   (it : ByteArray) (da : Option Addr) (dn dc : Nat) (rg : Bool) (an : Nat) (nn' ft : Int) (yb : UInt8) (ka : Option Addr) (kn kc : Nat) (kk : Int)  :
    Calls Tryz.prog 18 #[.pointer (some ⟨bx, 0, none⟩), .agg #[.int .i64 5, .string it, .slice da dn dc, .bool rg, .int .u64 (an : Int), .int .i64 nn', .int .i64 ft, .int .u8 ((yb.toNat : Nat) : Int), .slice ka kn kc, .int .i64 kk]] w (StQ w0 bx k (n + 6) (c + 5000)) := by
  obtain ⟨w1, hw1⟩ : ∃ W, w.alloc (.cells #[.int .i64 5, .string it, .slice da dn dc, .bool rg, .int .u64 (an : Int), .int .i64 nn', .int .i64 ft, .int .u8 ((yb.toNat : Nat) : Int), .slice ka kn kc, .int .i64 kk] 51) = W := ⟨_, rfl⟩
  have HW := hide hw1
  obtain ⟨bo, hbo⟩ : ∃ b, w.heap.size = b := ⟨_, rfl⟩
  have HBo := hide hbo
  have u1 : Below w.heap.size w w1 := by rw [← hw1]; exact bal (Below.refl _ _) _
  have k1 : w1.heap[bo]? = some (.cells #[.int .i64 5, .string it, .slice da dn dc, .bool rg, .int .u64 (an : Int), .int .i64 nn', .int .i64 ft, .int .u8 ((yb.toNat : Nat) : Int), .slice ka kn kc, .int .i64 kk] 51 (0, 0)) := by rw [← hw1, ← hbo]; exact new1 _ _
  have h1 := h.next u1
  obtain ⟨d0, d1, d2, d3, d4, d5, d6, d7, d8, d9⟩ := ten_at k1
  have HO : Hid (Calls Tryz.prog 8 #[.pointer (some ⟨bx, 0, none⟩), .int .i64 kk] w1 (StQ w0 bx k (n + 6) (c + 5000))) := (opens_any h1.dk hn kk _ rfl _ rfl).mono fun e w' z => by
    obtain ⟨z1, so', z2, _⟩ := z
    exact ⟨z1, _, _, _, so', z2, (hw.opn _).mono (by omega)⟩
  clear h h1 hn hw hw1 hbo u1 k1 d1 d2 d3 d4 d5 d6 d7 d8
  go_enter Tryz.func18, Tryz.ntmps18
  go_upto_region 1 with (fail)
  rw [HW.out, HBo.out]
  go_wp2_with (go_at_call 8; (with_reducible refine HO.out.mono ?_); rintro e w2 hQ; obtain ⟨rfl, hQ⟩ := hQ)
  go_ret
  exact ⟨rfl, hQ⟩
set_option maxRecDepth 100000 in
set_option maxHeartbeats 8000000 in
theorem plays_crash19 (h : Bth w0 w bx k p r D so n) (hn : n + 6 ≤ 2097152) (hw : Wt D c) (hc : c ≤ 16777216)  (it : ByteArray) (da : Option Addr) (dn dc : Nat) (rg : Bool) (an : Nat) (nn' ft : Int) (yb : UInt8) (ka : Option Addr) (kn kc : Nat) (kk : Int) (kb ko : Nat) (ks : List Bool) (hk : RdL w ka kb ko ks) (hkl : ks.length = kn) (hkn : kn ≤ 140737488355328) :
    Calls Tryz.prog 18 #[.pointer (some ⟨bx, 0, none⟩), .agg #[.int .i64 6, .string it, .slice da dn dc, .bool rg, .int .u64 (an : Int), .int .i64 nn', .int .i64 ft, .int .u8 ((yb.toNat : Nat) : Int), .slice ka kn kc, .int .i64 kk]] w (StQ w0 bx k (n + 6) (c + 5000)) := by
  obtain ⟨w1, hw1⟩ : ∃ W, w.alloc (.cells #[.int .i64 6, .string it, .slice da dn dc, .bool rg, .int .u64 (an : Int), .int .i64 nn', .int .i64 ft, .int .u8 ((yb.toNat : Nat) : Int), .slice ka kn kc, .int .i64 kk] 51) = W := ⟨_, rfl⟩
  have HW := hide hw1
  obtain ⟨bo, hbo⟩ : ∃ b, w.heap.size = b := ⟨_, rfl⟩
  have HBo := hide hbo
  have u1 : Below w.heap.size w w1 := by rw [← hw1]; exact bal (Below.refl _ _) _
  have k1 : w1.heap[bo]? = some (.cells #[.int .i64 6, .string it, .slice da dn dc, .bool rg, .int .u64 (an : Int), .int .i64 nn', .int .i64 ft, .int .u8 ((yb.toNat : Nat) : Int), .slice ka kn kc, .int .i64 kk] 51 (0, 0)) := by rw [← hw1, ← hbo]; exact new1 _ _
  have h1 := h.next u1
  obtain ⟨d0, d1, d2, d3, d4, d5, d6, d7, d8, d9⟩ := ten_at k1
  have HO : Hid (Calls Tryz.prog 40 #[.pointer (some ⟨bx, 0, none⟩), .agg #[.int .i64 6, .string it, .slice da dn dc, .bool rg, .int .u64 (an : Int), .int .i64 nn', .int .i64 ft, .int .u8 ((yb.toNat : Nat) : Int), .slice ka kn kc, .int .i64 kk]] w1 (StQ w0 bx k (n + 6) (c + 5000))) := (crashed_any h1.dk hn hw hc 6 it da dn dc rg (an : Int) nn' ft ((yb.toNat : Nat) : Int) ka kb ko kc kn ks (hk.next u1) hkl hkn kk).mono fun e w' z => z.mono (Nat.le_refl _) hn (by omega)
  
  clear h h1 hn hw hc hw1 hbo u1 k1 hk hkl hkn
  go_enter Tryz.func18, Tryz.ntmps18
  go_upto_region 1 with (fail)
  rw [HW.out, HBo.out]
  go_wp2_with (go_at_call 40; (with_reducible refine HO.out.mono ?_); rintro e w2 hQ; obtain ⟨rfl, hQ⟩ := hQ)
  go_ret
  exact ⟨rfl, hQ⟩
set_option maxRecDepth 100000 in
set_option maxHeartbeats 8000000 in
theorem plays_turn19 (h : Bth w0 w bx k p r D so n) (hn : n + 6 ≤ 2097152) (hw : Wt D c) (hc : c ≤ 16777216)  (it : ByteArray) (da : Option Addr) (dn dc : Nat) (rg : Bool) (an : Nat) (nn' ft : Int) (yb : UInt8) (ka : Option Addr) (kn kc : Nat) (kk : Int) (han : an < 18446744073709551616) :
    Calls Tryz.prog 18 #[.pointer (some ⟨bx, 0, none⟩), .agg #[.int .i64 7, .string it, .slice da dn dc, .bool rg, .int .u64 (an : Int), .int .i64 nn', .int .i64 ft, .int .u8 ((yb.toNat : Nat) : Int), .slice ka kn kc, .int .i64 kk]] w (StQ w0 bx k (n + 6) (c + 5000)) := by
  obtain ⟨w1, hw1⟩ : ∃ W, w.alloc (.cells #[.int .i64 7, .string it, .slice da dn dc, .bool rg, .int .u64 (an : Int), .int .i64 nn', .int .i64 ft, .int .u8 ((yb.toNat : Nat) : Int), .slice ka kn kc, .int .i64 kk] 51) = W := ⟨_, rfl⟩
  have HW := hide hw1
  obtain ⟨bo, hbo⟩ : ∃ b, w.heap.size = b := ⟨_, rfl⟩
  have HBo := hide hbo
  have u1 : Below w.heap.size w w1 := by rw [← hw1]; exact bal (Below.refl _ _) _
  have k1 : w1.heap[bo]? = some (.cells #[.int .i64 7, .string it, .slice da dn dc, .bool rg, .int .u64 (an : Int), .int .i64 nn', .int .i64 ft, .int .u8 ((yb.toNat : Nat) : Int), .slice ka kn kc, .int .i64 kk] 51 (0, 0)) := by rw [← hw1, ← hbo]; exact new1 _ _
  have h1 := h.next u1
  obtain ⟨d0, d1, d2, d3, d4, d5, d6, d7, d8, d9⟩ := ten_at k1
  have HO : Hid (Calls Tryz.prog 41 #[.pointer (some ⟨bx, 0, none⟩), .agg #[.int .i64 7, .string it, .slice da dn dc, .bool rg, .int .u64 (an : Int), .int .i64 nn', .int .i64 ft, .int .u8 ((yb.toNat : Nat) : Int), .slice ka kn kc, .int .i64 kk]] w1 (StQ w0 bx k (n + 6) (c + 5000))) := (turned_any h1 hn hw hc 7 it da dn dc rg an han nn' ft yb ka kc kn kk).mono fun e w' z => z.mono (Nat.le_refl _) hn (by omega)
  
  clear h h1 hn hw hc hw1 hbo u1 k1 han
  go_enter Tryz.func18, Tryz.ntmps18
  go_upto_region 1 with (fail)
  rw [HW.out, HBo.out]
  go_wp2_with (go_at_call 41; (with_reducible refine HO.out.mono ?_); rintro e w2 hQ; obtain ⟨rfl, hQ⟩ := hQ)
  go_ret
  exact ⟨rfl, hQ⟩
set_option maxRecDepth 100000 in
set_option maxHeartbeats 8000000 in
theorem plays_add19 (h : Bth w0 w bx k p r D (some (a, q, S)) n) (hn : n + 6 ≤ 2097152) (hw : Wt D c)   (it : ByteArray) (da : Option Addr) (dn dc : Nat) (rg : Bool) (an : Nat) (nn' ft : Int) (yb : UInt8) (ka : Option Addr) (kn kc : Nat) (kk : Int) (hit : it.size ≤ 1048576) (db dof : Nat) (ds : List ByteArray) (hd : RdS w da db dof dn ds) (hdl : dn ≤ 1048576) (hdz : da = none → dc = 0) (hdb : 0 < dn → db < w0.heap.size) :
    Calls Tryz.prog 18 #[.pointer (some ⟨bx, 0, none⟩), .agg #[.int .i64 1, .string it, .slice da dn dc, .bool rg, .int .u64 (an : Int), .int .i64 nn', .int .i64 ft, .int .u8 ((yb.toNat : Nat) : Int), .slice ka kn kc, .int .i64 kk]] w (StQ w0 bx k (n + 6) (c + 5000)) := by
  obtain ⟨w1, hw1⟩ : ∃ W, w.alloc (.cells #[.int .i64 1, .string it, .slice da dn dc, .bool rg, .int .u64 (an : Int), .int .i64 nn', .int .i64 ft, .int .u8 ((yb.toNat : Nat) : Int), .slice ka kn kc, .int .i64 kk] 51) = W := ⟨_, rfl⟩
  have HW := hide hw1
  obtain ⟨bo, hbo⟩ : ∃ b, w.heap.size = b := ⟨_, rfl⟩
  have HBo := hide hbo
  have u1 : Below w.heap.size w w1 := by rw [← hw1]; exact bal (Below.refl _ _) _
  have k1 : w1.heap[bo]? = some (.cells #[.int .i64 1, .string it, .slice da dn dc, .bool rg, .int .u64 (an : Int), .int .i64 nn', .int .i64 ft, .int .u8 ((yb.toNat : Nat) : Int), .slice ka kn kc, .int .i64 kk] 51 (0, 0)) := by rw [← hw1, ← hbo]; exact new1 _ _
  have h1 := h.next u1
  obtain ⟨d0, d1, d2, d3, d4, d5, d6, d7, d8, d9⟩ := ten_at k1
  have HO : Hid (Calls Tryz.prog 42 #[.pointer (some ⟨bx, 0, none⟩), .agg #[.int .i64 1, .string it, .slice da dn dc, .bool rg, .int .u64 (an : Int), .int .i64 nn', .int .i64 ft, .int .u8 ((yb.toNat : Nat) : Int), .slice ka kn kc, .int .i64 kk]] w1 (StQ w0 bx k (n + 6) (c + 5000))) := (adds_any h1 hn hw 1 it hit da db dof dn dc ds (hd.next u1 (Nat.le_refl _)) hdl hdz hdb rg (an : Int) nn' ft ((yb.toNat : Nat) : Int) ka kn kc kk).mono fun e w' z => z.mono (Nat.le_refl _) hn (by omega)
  have x4 : w1.cell? ⟨bx, 4, none⟩ = some (.pointer (some ⟨q, 0, none⟩)) := (h1.cells w1 (Below.refl _ _)).2
  clear h h1 hn hw  hw1 hbo u1 k1 hit hd hdl hdz hdb
  go_enter Tryz.func18, Tryz.ntmps18
  go_upto_region 1 with (fail)
  rw [HW.out, HBo.out]
  go_wp2_with (go_at_call 42; (with_reducible refine HO.out.mono ?_); rintro e w2 hQ; obtain ⟨rfl, hQ⟩ := hQ)
  go_ret
  exact ⟨rfl, hQ⟩
set_option maxRecDepth 100000 in
set_option maxHeartbeats 8000000 in
theorem plays_none19 (h : Bth w0 w bx k p r D none n) (hn : n + 6 ≤ 2097152) (hw : Wt D c)  (kind : Int) (it : ByteArray) (da : Option Addr) (dn dc : Nat) (rg : Bool) (an : Nat) (nn' ft : Int) (yb : UInt8) (ka : Option Addr) (kn kc : Nat) (kk : Int) (k4 : kind ≠ 4) (k5 : kind ≠ 5) (k6 : kind ≠ 6) (k7 : kind ≠ 7) :
    Calls Tryz.prog 18 #[.pointer (some ⟨bx, 0, none⟩), .agg #[.int .i64 kind, .string it, .slice da dn dc, .bool rg, .int .u64 (an : Int), .int .i64 nn', .int .i64 ft, .int .u8 ((yb.toNat : Nat) : Int), .slice ka kn kc, .int .i64 kk]] w (StQ w0 bx k (n + 6) (c + 5000)) := by
  obtain ⟨w1, hw1⟩ : ∃ W, w.alloc (.cells #[.int .i64 kind, .string it, .slice da dn dc, .bool rg, .int .u64 (an : Int), .int .i64 nn', .int .i64 ft, .int .u8 ((yb.toNat : Nat) : Int), .slice ka kn kc, .int .i64 kk] 51) = W := ⟨_, rfl⟩
  have HW := hide hw1
  obtain ⟨bo, hbo⟩ : ∃ b, w.heap.size = b := ⟨_, rfl⟩
  have HBo := hide hbo
  have u1 : Below w.heap.size w w1 := by rw [← hw1]; exact bal (Below.refl _ _) _
  have k1 : w1.heap[bo]? = some (.cells #[.int .i64 kind, .string it, .slice da dn dc, .bool rg, .int .u64 (an : Int), .int .i64 nn', .int .i64 ft, .int .u8 ((yb.toNat : Nat) : Int), .slice ka kn kc, .int .i64 kk] 51 (0, 0)) := by rw [← hw1, ← hbo]; exact new1 _ _
  have h1 := h.next u1
  obtain ⟨d0, d1, d2, d3, d4, d5, d6, d7, d8, d9⟩ := ten_at k1
  have x4 : w1.cell? ⟨bx, 4, none⟩ = some (.pointer none) := by
    obtain ⟨_, _, _, g, _⟩ := h1
    exact (five_at g).2.2.2.2
  have HZ := hide (stq_of h1 hn hw)
  clear h h1 hn hw hw1 hbo u1 k1
  go_enter Tryz.func18, Tryz.ntmps18
  go_upto_region 1 with (fail)
  rw [HW.out, HBo.out]
  go_wp2
  go_ret
  exact HZ.out
set_option maxRecDepth 100000 in
set_option maxHeartbeats 8000000 in
theorem plays_item19 (h : Bth w0 w bx k p r D (some (a, q, S)) n) (hn : n + 6 ≤ 2097152) (hw : Wt D c)   (it : ByteArray) (da : Option Addr) (dn dc : Nat) (rg : Bool) (an : Nat) (nn' ft : Int) (yb : UInt8) (ka : Option Addr) (kn kc : Nat) (kk : Int) (han : an < 18446744073709551616) :
    Calls Tryz.prog 18 #[.pointer (some ⟨bx, 0, none⟩), .agg #[.int .i64 2, .string it, .slice da dn dc, .bool rg, .int .u64 (an : Int), .int .i64 nn', .int .i64 ft, .int .u8 ((yb.toNat : Nat) : Int), .slice ka kn kc, .int .i64 kk]] w (StQ w0 bx k (n + 6) (c + 5000)) := by
  obtain ⟨w1, hw1⟩ : ∃ W, w.alloc (.cells #[.int .i64 2, .string it, .slice da dn dc, .bool rg, .int .u64 (an : Int), .int .i64 nn', .int .i64 ft, .int .u8 ((yb.toNat : Nat) : Int), .slice ka kn kc, .int .i64 kk] 51) = W := ⟨_, rfl⟩
  have HW := hide hw1
  obtain ⟨bo, hbo⟩ : ∃ b, w.heap.size = b := ⟨_, rfl⟩
  have HBo := hide hbo
  have u1 : Below w.heap.size w w1 := by rw [← hw1]; exact bal (Below.refl _ _) _
  have k1 : w1.heap[bo]? = some (.cells #[.int .i64 2, .string it, .slice da dn dc, .bool rg, .int .u64 (an : Int), .int .i64 nn', .int .i64 ft, .int .u8 ((yb.toNat : Nat) : Int), .slice ka kn kc, .int .i64 kk] 51 (0, 0)) := by rw [← hw1, ← hbo]; exact new1 _ _
  have h1 := h.next u1
  obtain ⟨d0, d1, d2, d3, d4, d5, d6, d7, d8, d9⟩ := ten_at k1
  obtain ⟨ti, hti⟩ : ∃ t, tx (itmD D S an).1 = t := ⟨_, rfl⟩
  obtain ⟨ei, hei⟩ : ∃ t, (itmD D S an).2 = t := ⟨_, rfl⟩
  have HI : Hid (∀ W, Below w1.heap.size w1 W → (Calls Tryz.prog 10 #[.pointer (some ⟨a, 0, none⟩), .int .u64 (an : Int)] W fun e' w' => e' = .returned (.tuple #[.string ti, .int .i64 ei]) ∧ Below W.heap.size W w') ∧ Calls Tryz.prog 11 #[.pointer (some ⟨q, 0, none⟩), .int .u64 (an : Int)] W fun e' w' => e' = .returned (.tuple #[.string ti, .int .i64 ei]) ∧ Below W.heap.size W w') := fun W hW => h1.item W hW an han ti ei hti hei
  have lbo := (Array.getElem?_eq_some_iff.1 k1).1
  have HC : Hid (∀ W, Below w1.heap.size w1 W → W.cell? ⟨bx, 3, none⟩ = some (.pointer (some ⟨a, 0, none⟩)) ∧ W.cell? ⟨bx, 4, none⟩ = some (.pointer (some ⟨q, 0, none⟩)) ∧ W.cell? ⟨bo, 4, none⟩ = some (.int .u64 (an : Int))) := fun W hW => by
    obtain ⟨z3, z4⟩ := h1.cells W hW
    obtain ⟨_, _, _, _, y4, _⟩ := ten_at ((hW.block bo lbo).trans k1)
    exact ⟨z3, z4, y4⟩
  have HZ := hide (fun W hW => stq_of (h1.next (W := W) hW) hn hw)
  have t1 := Below.refl w1.heap.size w1
  obtain ⟨x3, x4, _⟩ := HC.out w1 t1
  clear h h1 hn hw hw1 hbo u1 k1 han hti hei lbo d1 d2 d3 d5 d6 d7 d8 d9
  go_enter Tryz.func18, Tryz.ntmps18
  go_upto_region 1 with (fail)
  rw [HW.out, HBo.out]
  go_upto_region 16 with (fail)
  have tw := t1.drew
  go_region_held3 (fun Z => Z.cell? ⟨bx, 3, none⟩ = some (.pointer (some ⟨a, 0, none⟩)) ∧ Z.cell? ⟨bx, 4, none⟩ = some (.pointer (some ⟨q, 0, none⟩)) ∧ Z.cell? ⟨bo, 4, none⟩ = some (.int .u64 (an : Int))) (first | assumption | (exact HC.out _ tw) | (exact HC.out _ t1)) (first
    | (go_at_call 10; (with_reducible refine (HI.out _ tw).1.mono ?_); rintro e w2 ⟨rfl, uu⟩; have tw := bnext tw uu))
  all_goals
    have t2 := tw
    go_upto_region 17 with (fail)
    have tw := t2.drew
    go_region_held3 (fun Z => Z.cell? ⟨bx, 3, none⟩ = some (.pointer (some ⟨a, 0, none⟩)) ∧ Z.cell? ⟨bx, 4, none⟩ = some (.pointer (some ⟨q, 0, none⟩)) ∧ Z.cell? ⟨bo, 4, none⟩ = some (.int .u64 (an : Int))) (first | assumption | (exact HC.out _ tw) | (exact HC.out _ t2)) (first
      | (go_at_call 11; (with_reducible refine (HI.out _ tw).2.mono ?_); rintro e w3 ⟨rfl, uu⟩; have tw := bnext tw uu))
    all_goals
      have HQ := hide (HZ.out _ tw)
      go_wp2
      go_ret
      exact HQ.out
set_option maxRecDepth 100000 in
set_option maxHeartbeats 8000000 in
theorem plays_node19 (h : Bth w0 w bx k p r D (some (a, q, S)) n) (hn : n + 6 ≤ 2097152) (hw : Wt D c)   (it : ByteArray) (da : Option Addr) (dn dc : Nat) (rg : Bool) (an : Nat) (nn' ft : Int) (yb : UInt8) (ka : Option Addr) (kn kc : Nat) (kk : Int) (han : an < 18446744073709551616) :
    Calls Tryz.prog 18 #[.pointer (some ⟨bx, 0, none⟩), .agg #[.int .i64 3, .string it, .slice da dn dc, .bool rg, .int .u64 (an : Int), .int .i64 nn', .int .i64 ft, .int .u8 ((yb.toNat : Nat) : Int), .slice ka kn kc, .int .i64 kk]] w (StQ w0 bx k (n + 6) (c + 5000)) := by
  obtain ⟨w1, hw1⟩ : ∃ W, w.alloc (.cells #[.int .i64 3, .string it, .slice da dn dc, .bool rg, .int .u64 (an : Int), .int .i64 nn', .int .i64 ft, .int .u8 ((yb.toNat : Nat) : Int), .slice ka kn kc, .int .i64 kk] 51) = W := ⟨_, rfl⟩
  have HW := hide hw1
  obtain ⟨bo, hbo⟩ : ∃ b, w.heap.size = b := ⟨_, rfl⟩
  have HBo := hide hbo
  have u1 : Below w.heap.size w w1 := by rw [← hw1]; exact bal (Below.refl _ _) _
  have k1 : w1.heap[bo]? = some (.cells #[.int .i64 3, .string it, .slice da dn dc, .bool rg, .int .u64 (an : Int), .int .i64 nn', .int .i64 ft, .int .u8 ((yb.toNat : Nat) : Int), .slice ka kn kc, .int .i64 kk] 51 (0, 0)) := by rw [← hw1, ← hbo]; exact new1 _ _
  have h1 := h.next u1
  obtain ⟨d0, d1, d2, d3, d4, d5, d6, d7, d8, d9⟩ := ten_at k1
  obtain ⟨ti, hti⟩ : ∃ t, tx (nodD D S an).1 = t := ⟨_, rfl⟩
  obtain ⟨ei, hei⟩ : ∃ t, (nodD D S an).2 = t := ⟨_, rfl⟩
  have HI : Hid (∀ W, Below w1.heap.size w1 W → (Calls Tryz.prog 12 #[.pointer (some ⟨a, 0, none⟩), .int .u64 (an : Int)] W fun e' w' => e' = .returned (.tuple #[.string ti, .int .i64 ei]) ∧ Below W.heap.size W w') ∧ Calls Tryz.prog 13 #[.pointer (some ⟨q, 0, none⟩), .int .u64 (an : Int)] W fun e' w' => e' = .returned (.tuple #[.string ti, .int .i64 ei]) ∧ Below W.heap.size W w') := fun W hW => h1.node W hW an han ti ei hti hei
  have lbo := (Array.getElem?_eq_some_iff.1 k1).1
  have HC : Hid (∀ W, Below w1.heap.size w1 W → W.cell? ⟨bx, 3, none⟩ = some (.pointer (some ⟨a, 0, none⟩)) ∧ W.cell? ⟨bx, 4, none⟩ = some (.pointer (some ⟨q, 0, none⟩)) ∧ W.cell? ⟨bo, 4, none⟩ = some (.int .u64 (an : Int))) := fun W hW => by
    obtain ⟨z3, z4⟩ := h1.cells W hW
    obtain ⟨_, _, _, _, y4, _⟩ := ten_at ((hW.block bo lbo).trans k1)
    exact ⟨z3, z4, y4⟩
  have HZ := hide (fun W hW => stq_of (h1.next (W := W) hW) hn hw)
  have t1 := Below.refl w1.heap.size w1
  obtain ⟨x3, x4, _⟩ := HC.out w1 t1
  clear h h1 hn hw hw1 hbo u1 k1 han hti hei lbo d1 d2 d3 d5 d6 d7 d8 d9
  go_enter Tryz.func18, Tryz.ntmps18
  go_upto_region 1 with (fail)
  rw [HW.out, HBo.out]
  go_upto_region 20 with (fail)
  have tw := t1.drew
  go_region_held3 (fun Z => Z.cell? ⟨bx, 3, none⟩ = some (.pointer (some ⟨a, 0, none⟩)) ∧ Z.cell? ⟨bx, 4, none⟩ = some (.pointer (some ⟨q, 0, none⟩)) ∧ Z.cell? ⟨bo, 4, none⟩ = some (.int .u64 (an : Int))) (first | assumption | (exact HC.out _ tw) | (exact HC.out _ t1)) (first
    | (go_at_call 12; (with_reducible refine (HI.out _ tw).1.mono ?_); rintro e w2 ⟨rfl, uu⟩; have tw := bnext tw uu))
  all_goals
    have t2 := tw
    go_upto_region 21 with (fail)
    have tw := t2.drew
    go_region_held3 (fun Z => Z.cell? ⟨bx, 3, none⟩ = some (.pointer (some ⟨a, 0, none⟩)) ∧ Z.cell? ⟨bx, 4, none⟩ = some (.pointer (some ⟨q, 0, none⟩)) ∧ Z.cell? ⟨bo, 4, none⟩ = some (.int .u64 (an : Int))) (first | assumption | (exact HC.out _ tw) | (exact HC.out _ t2)) (first
      | (go_at_call 13; (with_reducible refine (HI.out _ tw).2.mono ?_); rintro e w3 ⟨rfl, uu⟩; have tw := bnext tw uu))
    all_goals
      have HQ := hide (HZ.out _ tw)
      go_wp2
      go_ret
      exact HQ.out
set_option maxRecDepth 100000 in
set_option maxHeartbeats 8000000 in
theorem plays_look19 (h : Bth w0 w bx k p r D (some (a, q, S)) n) (hn : n + 6 ≤ 2097152) (hw : Wt D c)  (kind : Int) (it : ByteArray) (da : Option Addr) (dn dc : Nat) (rg : Bool) (an : Nat) (nn' ft : Int) (yb : UInt8) (ka : Option Addr) (kn kc : Nat) (kk : Int) (k1n : kind ≠ 1) (k2n : kind ≠ 2) (k3n : kind ≠ 3) (k4n : kind ≠ 4) (k5n : kind ≠ 5) (k6n : kind ≠ 6) (k7n : kind ≠ 7) :
    Calls Tryz.prog 18 #[.pointer (some ⟨bx, 0, none⟩), .agg #[.int .i64 kind, .string it, .slice da dn dc, .bool rg, .int .u64 (an : Int), .int .i64 nn', .int .i64 ft, .int .u8 ((yb.toNat : Nat) : Int), .slice ka kn kc, .int .i64 kk]] w (StQ w0 bx k (n + 6) (c + 5000)) := by
  obtain ⟨w1, hw1⟩ : ∃ W, w.alloc (.cells #[.int .i64 kind, .string it, .slice da dn dc, .bool rg, .int .u64 (an : Int), .int .i64 nn', .int .i64 ft, .int .u8 ((yb.toNat : Nat) : Int), .slice ka kn kc, .int .i64 kk] 51) = W := ⟨_, rfl⟩
  have HW := hide hw1
  obtain ⟨bo, hbo⟩ : ∃ b, w.heap.size = b := ⟨_, rfl⟩
  have HBo := hide hbo
  have u1 : Below w.heap.size w w1 := by rw [← hw1]; exact bal (Below.refl _ _) _
  have k1 : w1.heap[bo]? = some (.cells #[.int .i64 kind, .string it, .slice da dn dc, .bool rg, .int .u64 (an : Int), .int .i64 nn', .int .i64 ft, .int .u8 ((yb.toNat : Nat) : Int), .slice ka kn kc, .int .i64 kk] 51 (0, 0)) := by rw [← hw1, ← hbo]; exact new1 _ _
  have h1 := h.next u1
  obtain ⟨d0, d1, d2, d3, d4, d5, d6, d7, d8, d9⟩ := ten_at k1
  obtain ⟨nS, hnS⟩ : ∃ x, S.ends.length = x := ⟨_, rfl⟩
  obtain ⟨lm, hlm⟩ : ∃ x, S.lame = x := ⟨_, rfl⟩
  have HS : Hid (∀ W, Below w1.heap.size w1 W → (Calls Tryz.prog 14 #[.pointer (some ⟨a, 0, none⟩)] W fun e' w' => e' = .returned (.int .u64 (nS : Int)) ∧ w' = W) ∧ (Calls Tryz.prog 9 #[.pointer (some ⟨q, 0, none⟩)] W fun e' w' => e' = .returned (.int .u64 (nS : Int)) ∧ w' = W) ∧ (Calls Tryz.prog 15 #[.pointer (some ⟨a, 0, none⟩)] W fun e' w' => e' = .returned (.bool lm) ∧ w' = W) ∧ (Calls Tryz.prog 43 #[.pointer (some ⟨q, 0, none⟩)] W fun e' w' => e' = .returned (.bool lm) ∧ w' = W)) := fun W hW => by
    obtain ⟨z1, z2, z3, z4, _⟩ := h1.sizes W hW
    rw [hnS] at z1 z2
    rw [hlm] at z3 z4
    exact ⟨z1, z2, z3, z4⟩
  have HA : Hid (∀ W, Below w1.heap.size w1 W → Calls Tryz.prog 19 #[.pointer (some ⟨bx, 0, none⟩)] W fun e w' => e = .returned (.bool true) ∧ Below W.heap.size W w') := fun W hW => h1.alike W hW
  have HC : Hid (∀ W, Below w1.heap.size w1 W → W.cell? ⟨bx, 3, none⟩ = some (.pointer (some ⟨a, 0, none⟩)) ∧ W.cell? ⟨bx, 4, none⟩ = some (.pointer (some ⟨q, 0, none⟩))) := fun W hW => h1.cells W hW
  have HZ := hide (fun W hW => stq_of (h1.next (W := W) hW) hn hw)
  have t1 := Below.refl w1.heap.size w1
  obtain ⟨x3, x4⟩ := HC.out w1 t1
  clear h h1 hn hw hw1 hbo u1 k1 hnS hlm d1 d2 d3 d4 d5 d6 d7 d8 d9
  go_enter Tryz.func18, Tryz.ntmps18
  go_upto_region 1 with (fail)
  rw [HW.out, HBo.out]
  go_upto_region 23 with (fail)
  have tw := t1.drew
  go_region_held3 (fun Z => Z.cell? ⟨bx, 3, none⟩ = some (.pointer (some ⟨a, 0, none⟩)) ∧ Z.cell? ⟨bx, 4, none⟩ = some (.pointer (some ⟨q, 0, none⟩))) (first | assumption | (exact HC.out _ tw) | (exact HC.out _ t1)) (first
    | (go_at_call 14; (with_reducible refine (HS.out _ tw).1.mono ?_); rintro e w2 ⟨rfl, rfl⟩)
    | (go_at_call 9; (with_reducible refine (HS.out _ tw).2.1.mono ?_); rintro e w2 ⟨rfl, rfl⟩)
    | (go_at_call 15; (with_reducible refine (HS.out _ tw).2.2.1.mono ?_); rintro e w2 ⟨rfl, rfl⟩)
    | (go_at_call 43; (with_reducible refine (HS.out _ tw).2.2.2.mono ?_); rintro e w2 ⟨rfl, rfl⟩)
    | (go_at_call 19; (with_reducible refine (HA.out _ tw).mono ?_); rintro e w2 ⟨rfl, uu⟩; have tw := bnext tw uu))
  all_goals
    have HQ := hide (HZ.out _ tw)
    go_wp2
    go_ret
    exact HQ.out
end
end Go.Proofs.YthfnpagangjpbabGreat
