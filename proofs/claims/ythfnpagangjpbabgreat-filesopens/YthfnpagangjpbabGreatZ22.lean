/-
  take. Own work.
-/
import Derived.Test.YthfnpagangjpbabGreatZ19
import Derived.Test.YthfnpagangjpbabGreatZ03
import Derived.Test.YthfnpagangjpbabGreatZ15
namespace Go.Proofs.YthfnpagangjpbabGreat
open Go.RowKit
open Rc
attribute [local go_sem ↓] Go.wp_at_zero Go.wp_at_succ
attribute [local go_sem ↓] exec_appR
theorem one_new (w : World) (a : Value) (T : TypeId) : ∀ j u, [a][j]? = some u → (w.alloc (.cells #[a] T)).cell? ((⟨w.heap.size, 0, none⟩ : Addr).add j) = some u := fun j u hu => by
  rw [Addr.add_mid, World.cell?_alloc_new, Nat.zero_add]
  simpa using hu
/-- Where an append went. -/
def WentE (w w' : World) (v v' : Value) : Prop := (∃ g n cap, v = .slice (some ⟨g, 0, none⟩) n cap ∧ v' = .slice (some ⟨g, 0, none⟩) (n + 1) cap ∧ w.grownBy w' (some g)) ∨ (w.grownBy w' none ∧ ∀ g, v'.ownBlock = some g → w.heap.size ≤ g)
/-- One end more. -/
theorem run_app_E (w : World) (ty B : Nat) (v : Value) (L : List Nat) (hown : OwnE w B v L) (ad : Addr) (mc : Nat) (z : Nat) (hr : ∀ j u, [Value.int .i64 (z : Int)][j]? = some u → w.cell? (ad.add j) = some u)
    (hlen : L.length + 1 ≤ 1048576) (hB : B ≤ w.heap.size) :
    ∃ v' w', (Builtin.append_ #[77, 77] ty #[v, .slice (some ad) 1 mc]).run Tryz.prog w = .ok v' w' ∧ OwnE w' B v' (L ++ [z]) ∧ WentE w w' v v' := by
  obtain ⟨i0, hi, hz0, hz1, hz2⟩ := info_parts Tryz.infoE
  have hap : ∀ {w' : World} {v' : Value} {n : Nat}, n = L.length + 1 → w'.ownsRow B 3 1 v' n (cE L ++ [.int .i64 (z : Int)]) → OwnE w' B v' (L ++ [z]) := fun hn h => by
    rw [OwnE, cE, List.map_append, List.length_append, List.length_cons, List.length_nil, Nat.zero_add, ← hn]; exact h
  have h1c : ∀ u ∈ ([.int .i64 (z : Int)] : List Value), u.oneCell' = true := by intro u hu; simp at hu; subst hu; rfl
  have hown0 := hown
  rcases hown.2 with ⟨rfl, h0⟩ | ⟨g, cp, cur, rfl, hgb, hh, hc⟩
  · have hL : L = [] := List.length_eq_zero_iff.1 h0
    subst hL
    obtain ⟨v', w', hrun, r1, r2, _⟩ := run_append_own (P := Tryz.prog) w w.heap.size 77 ty 3 i0 (.int .i64 0) 1 8 Tryz.underlying77 hi hz0 hz1 hz2 rfl (by decide) _ 0 [] (World.ownsRow_nil _ _ _ _) ad 1 mc [.int .i64 (z : Int)] rfl hr h1c (by decide) (by decide) (Nat.le_refl _)
    exact ⟨v', w', hrun, hap rfl (by simpa [cE] using World.ownsRow.mono r1 hB), .inr ⟨r2, fun k hk => (World.ownsRow.lt r1 k hk).1⟩⟩
  · by_cases hfit : L.length + 1 ≤ cp
    · obtain ⟨w', hrun, r1, r2⟩ := run_append_fits (P := Tryz.prog) w B 77 ty 3 i0 1 Tryz.underlying77 hi hz1 g L.length cp (cE L) hown0 ad 1 mc [.int .i64 (z : Int)] rfl hr h1c hfit
      exact ⟨_, w', hrun, hap rfl r1, .inl ⟨g, L.length, cp, rfl, rfl, r2⟩⟩
    · obtain ⟨v', w', hrun, r1, r2⟩ := run_append_arg_grows (P := Tryz.prog) w 77 ty 3 i0 (.int .i64 0) 1 8 Tryz.underlying77 hi hz0 hz1 hz2 rfl (by decide) ⟨g, 0, none⟩ L.length cp (cE L) hown0.1 (World.ownsRow.cells hown0 rfl) ad 1 mc [.int .i64 (z : Int)] rfl hr (by omega) (by unfold maxLen; omega) (by omega)
      exact ⟨v', w', hrun, hap rfl (World.ownsRow.mono r1 hB), .inr ⟨r2, fun k hk => (World.ownsRow.lt r1 k hk).1⟩⟩
section
variable {q p : Nat} {T : Nat → Prop} {D : DV} {S : SV}
set_option maxRecDepth 100000 in
theorem take_any (w : World) (h : Sk w q p T D S) (m : MV) (h1 : m.items ≤ 268435456) (h2 : S.ends.length < 65536) :
    Calls Tryz.prog 69 #[.pointer (some ⟨q, 0, none⟩), .agg (mC m)] w fun e w' => e = .returned (.tuple #[]) ∧ SkM w w' q p T D { S with ends := S.ends ++ [m.items], chain := m.chain } := by
  obtain ⟨S0, v, d1, d2, d3, d4, d5⟩ := h
  obtain ⟨ao, cap, rfl, _⟩ := ownE_form d2.own
  obtain ⟨mk, ma, mb, mc, md⟩ := m
  simp only at h1
  have hw : IntKind.i64.wrap (mb : Int) = (mb : Int) := by rw [IntKind.wrap_i64]; omega
  obtain ⟨w1, hw1⟩ : ∃ W, w.alloc (.cells #[.int .i64 mk, .int .u64 (ma : Int), .int .u64 (mb : Int), .int .u64 (mc : Int), .int .u32 (md.toNat : Int)] 100) = W := ⟨_, rfl⟩
  have u1 : Below w.heap.size w w1 := by rw [← hw1]; exact bal (Below.refl _ _) _
  have k1 : w1.heap[w.heap.size]? = some (.cells #[.int .i64 mk, .int .u64 (ma : Int), .int .u64 (mb : Int), .int .u64 (mc : Int), .int .u32 (md.toNat : Int)] 100 (0, 0)) := by rw [← hw1]; exact new1 _ _
  rw [show mC ⟨mk, ma, mb, mc, md⟩ = #[.int .i64 mk, .int .u64 (ma : Int), .int .u64 (mb : Int), .int .u64 (mc : Int), .int .u32 (md.toNat : Int)] from rfl]
  have s1 : Sto w1 q p (.slice ao S.ends.length cap) S := d2.same (u1.block q d2.lt) (fun g hg => u1.block g (ownE_lt d2.own hg))
  obtain ⟨w2, hw2⟩ : ∃ W, (w1.alloc (.cells #[.int .i64 (mb : Int)] 3)).drew = W := ⟨_, rfl⟩
  have u2 : Below w1.heap.size w1 w2 := by rw [← hw2]; exact below_drewN (bal (Below.refl _ _) _) 1
  have s2 : Sto w2 q p (.slice ao S.ends.length cap) S := s1.same (u2.block q s1.lt) (fun g hg => u2.block g (ownE_lt s1.own hg))
  obtain ⟨v', w3, hap, o3, g3⟩ := run_app_E w2 77 0 _ S.ends s2.own ⟨w1.heap.size, 0, none⟩ 1 mb (by rw [← hw2]; exact one_new _ _ _) (by omega) (Nat.zero_le _)
  have t3 : Upo (fun x => (Value.slice ao S.ends.length cap).ownBlock = some x) w2 w3 := by
    rcases g3 with ⟨g, n, c, e1, e2, g3⟩ | ⟨g3, _⟩
    · rw [e1]; exact Upo.grown g3 (fun b hb => by cases hb; rfl)
    · exact Upo.grown g3 (fun b hb => by cases hb)
  have hv3 : ∀ g, v'.ownBlock = some g → (Value.slice ao S.ends.length cap).ownBlock = some g ∨ w2.heap.size ≤ g := fun g hg => by
    rcases g3 with ⟨g', n, c, e1, e2, g3⟩ | ⟨_, g3⟩
    · rw [e1]; rw [e2] at hg; exact .inl hg
    · exact .inr (g3 g hg)
  obtain ⟨ao3, cap3, rfl, _⟩ := ownE_form o3
  have hq2 : q < w2.heap.size := s2.lt
  have kq : w3.heap[q]? = some (.cells #[.pointer (some ⟨p, 0, none⟩), .int .i64 (S.k : Int), .slice ao S.ends.length cap, .int .u32 (S.chain.toNat : Int), .bool S.lame] 80 (0, 0)) := (t3.block q hq2 (fun e => (d4 q e).1 rfl)).trans s2.blk
  have km : w3.heap[w.heap.size]? = some (.cells #[.int .i64 mk, .int .u64 (ma : Int), .int .u64 (mb : Int), .int .u64 (mc : Int), .int .u32 (md.toNat : Int)] 100 (0, 0)) := by
    have hz := (Array.getElem?_eq_some_iff.1 k1).1
    refine (t3.block _ (by have := u2.size; omega) (fun e => ?_)).trans ((u2.block _ hz).trans k1)
    have := ownE_lt d2.own e
    omega
  obtain ⟨c0, c1, c2, c3, c4⟩ := five_at s2.blk
  obtain ⟨x0, x1, x2, x3, x4⟩ := five_at ((u2.block _ (Array.getElem?_eq_some_iff.1 k1).1).trans k1)
  obtain ⟨_, _, c2a, _, _⟩ := five_at s1.blk
  obtain ⟨_, _, x2a, _, _⟩ := five_at k1
  have HW1 := hide hw1
  have HW2 := hide hw2
  have ha := appR_of hap
  have f2 : w3.frozen? ⟨q, 2, none⟩ = false := frozen_of_row w3 q 2 _ _ kq
  have f3 : w3.frozen? ⟨q, 3, none⟩ = false := frozen_of_row w3 q 3 _ _ kq
  obtain ⟨y0, y1, y2, y3, y4⟩ := five_at kq
  obtain ⟨z0, z1, z2, z3, z4⟩ := five_at km
  obtain ⟨bm, hbm⟩ : ∃ b, w.heap.size = b := ⟨_, rfl⟩
  have HBm := hide hbm
  rw [hbm] at x2a x0 x1 x2 x3 x4 z0 z1 z2 z3 z4
  rw [← hw2] at c2 x2 ha
  have hl3 : (S.ends ++ [mb]).length = S.ends.length + 1 := by simp
  rw [hl3] at ha o3 hv3
  have hne : ¬ bm = q := by have := d2.lt; omega
  have hne2 : ¬ q = bm := fun e => hne e.symm
  have HZ : Hid (SkM w ((w3.setCell ⟨q, 2, none⟩ (.slice ao3 (S.ends.length + 1) cap3)).setCell ⟨q, 3, none⟩ (.int .u32 (md.toNat : Int))) q p T D { S with ends := S.ends ++ [mb], chain := md }) := by
    have ub : Below w.heap.size w w2 := bnext u1 u2
    have kq2 : ((w3.setCell ⟨q, 2, none⟩ (.slice ao3 (S.ends.length + 1) cap3)).setCell ⟨q, 3, none⟩ (.int .u32 (md.toNat : Int))).heap[q]? = some (.cells #[.pointer (some ⟨p, 0, none⟩), .int .i64 (S.k : Int), .slice ao3 (S.ends.length + 1) cap3, .int .u32 (md.toNat : Int), .bool S.lame] 80 (0, 0)) :=
      heap_setCell_same _ q 3 _ _ _ (heap_setCell_same w3 q 2 _ _ _ kq)
    have up : Upo (fun x => x = q ∨ (Value.slice ao S.ends.length cap).ownBlock = some x) w ((w3.setCell ⟨q, 2, none⟩ (.slice ao3 (S.ends.length + 1) cap3)).setCell ⟨q, 3, none⟩ (.int .u32 (md.toNat : Int))) :=
      (((Upo.of ub).trans t3 (fun x _ e => .inr e)).set q 2 _ (.inl (.inl rfl))).set q 3 _ (.inl (.inl rfl))
    have oth : ∀ x, x ≠ q → ((w3.setCell ⟨q, 2, none⟩ (.slice ao3 (S.ends.length + 1) cap3)).setCell ⟨q, 3, none⟩ (.int .u32 (md.toNat : Int))).heap[x]? = w3.heap[x]? := fun x hx => (Below.heap_setCell _ _ _ _ hx).trans (Below.heap_setCell _ _ _ _ hx)
    have hvq : ∀ g, (Value.slice ao3 (S.ends.length + 1) cap3).ownBlock = some g → g ≠ q ∧ ¬ S0 g := fun g hg => by
      rcases hv3 g hg with e | e
      · exact d4 g e
      · exact ⟨by omega, fun hs => by have := d1.lt hs; have := ub.size; omega⟩
    refine ⟨fun x => S0 x ∨ x = q ∨ (Value.slice ao3 (S.ends.length + 1) cap3).ownBlock = some x, ⟨S0, .slice ao3 (S.ends.length + 1) cap3, ?_, ⟨kq2, row_keep (v := .slice ao3 (S.ends.length + 1) cap3) o3 (fun g hg => oth g (hvq g hg).1), d2.k1, d2.k2, by simp; omega, fun e he => ?_⟩, d3, hvq, fun _ => Iff.rfl⟩, fun x hx => ?_, up.mono (fun x _ e => (d5 x).2 (.inr e))⟩
    · exact d1.keep up (fun x hx e => by
        rcases e with rfl | e
        · exact d3 hx
        · exact (d4 x e).2 hx)
    · rcases List.mem_append.1 he with e1 | e1
      · exact d2.low e e1
      · rw [List.mem_singleton.1 e1]; exact h1
    · rcases hx with e | e | e
      · exact .inl ((d5 x).2 (.inl e))
      · exact .inl ((d5 x).2 (.inr (.inl e)))
      · rcases hv3 x e with e | e
        · exact .inl ((d5 x).2 (.inr (.inr e)))
        · exact .inr (by have := ub.size; omega)
  clear hw1 hw2 hbm u1 u2 s1 s2 hap o3 g3 t3 hv3 kq km k1 d1 d2 d3 d4 d5 h1 h2 hq2
  go_enter Tryz.func69, Tryz.ntmps69
  go_upto_region 1 with (fail)
  rw [HW1.out, HBm.out]
  go_region
  all_goals
    go_wp2
    exact bodyPost_end (results_none rfl _ Tryz.prog _) rfl ⟨rfl, HZ.out⟩
end
end Go.Proofs.YthfnpagangjpbabGreat
