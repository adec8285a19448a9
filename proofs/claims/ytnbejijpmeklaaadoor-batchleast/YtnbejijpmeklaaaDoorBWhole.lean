/-
  BatchWhole: a proof leads to the root; its length. Own work.
-/
import Derived.Test.YtnbejijpmeklaaaDoorBAlive
import Derived.Deep.RegionLaw
namespace Go.Proofs.YtnbejijpmeklaaaDoor
open Go.RowKit
open Cv (RdC zl cU)
open Pl (pw)
attribute [local go_sem ↓] Go.wp_at_zero Go.wp_at_succ
theorem wp_append_S (w : World) {o : Oper} {a : Act} {K : Act → World → Prop} {Q : Exit → Act → World → Prop}
    (s x : Operand) (hop : o.op = Op.call { callee := Callee.builtin Builtin.append, args := #[s, x], argTypes := #[22, 22] })
    (B : Nat) (v : Value) (L : List ByteArray) (hs : a.eval s = v) (hown : OwnS w B v L) (ad : Addr) (b off cap : Nat) (M : List ByteArray) (hx : a.eval x = .slice (some ad) M.length cap) (hr : RdS w (some ad) b off M.length M)
    (hlen : L.length + M.length ≤ 8796093022208) (hB : B ≤ w.heap.size)
    (hK : ∀ v' w', OwnS w' B v' (L ++ M) → Below B w w' → K (a.put o.dst v') w') : o.wp Tryd.prog a w K Q := by
  obtain ⟨i0, hi, hz0, hz1, hz2⟩ := info_parts Tryd.infoS
  have hlt : ∀ k, v.ownBlock = some k → B ≤ k := fun k hk => (World.ownsRow.lt hown k hk).1
  have hnews : ∀ j u, (M.map Value.string)[j]? = some u → w.cell? (ad.add j) = some u := fun j u hu => by
    have hj : j < M.length := by have := (List.getElem?_eq_some_iff.1 hu).1; rwa [List.length_map] at this
    have := Option.some.inj (hr.ptr (by omega))
    subst this
    rw [Addr.add_mid]; exact hr.rng j u hu
  obtain ⟨v', w', hrun, r1, r2, _⟩ := run_append_own (P := Tryd.prog) w B 22 o.type 9 i0 (.string ByteArray.empty) 1 16 Tryd.underlying22 hi hz0 hz1 hz2 rfl (by decide) v L.length _ hown ad M.length cap (M.map Value.string) (by simp) hnews (by intro u hu; obtain ⟨y, _, rfl⟩ := List.mem_map.1 hu; rfl) (by unfold maxLen; omega) (by omega) hB
  unfold Oper.wp
  simp [execOp, hop, resolve, invoke, builtin, hs, hx, hrun, Result.andThen]
  refine hK v' w' ?_ ((Below.refl _ _).grown r2 hB hlt)
  rw [OwnS, List.length_append, List.map_append]; exact r1
theorem step_append_S (w : World) {ops : Array Oper} {o : Oper} {a : Act} {K : Act → World → Prop} {Q : Exit → Act → World → Prop} {E : Prop} (hgd : o.guard = none)
    (s x : Operand) (hop : o.op = Op.call { callee := Callee.builtin Builtin.append, args := #[s, x], argTypes := #[22, 22] })
    (B : Nat) (v : Value) (L : List ByteArray) (hs : a.eval s = v) (hown : OwnS w B v L) (ad : Addr) (b off cap : Nat) (M : List ByteArray) (hx : a.eval x = .slice (some ad) M.length cap) (hr : RdS w (some ad) b off M.length M)
    (hlen : L.length + M.length ≤ 8796093022208) (hB : B ≤ w.heap.size)
    (hK : ∀ v' w', OwnS w' B v' (L ++ M) → Below B w w' → K (a.put o.dst v') w') : if Region.wanted o (yielded ops a.tmps) = true then Oper.wp Tryd.prog o a w K Q else E := by
  have hw : Region.wanted o (yielded ops a.tmps) = true := by simp [Region.wanted, hgd]
  rw [if_pos hw]
  exact wp_append_S w s x hop B v L hs hown ad b off cap M hx hr hlen hB hK
/-- A root in its row. -/
def Rz (w : World) (p : Nat) (a b : Value) : Prop := w.heap[p]? = some (.cells #[a, b] 38 (0, 0))
section
variable {w W : World} {p : Nat} {a b : Value}
theorem Rz.lt (h : Rz w p a b) : p < w.heap.size := (Array.getElem?_eq_some_iff.1 h).1
theorem Rz.next (h : Rz w p a b) (hb : Below w.heap.size w W) : Rz W p a b := (hb.block p h.lt).trans h
theorem Rz.cells (h : Rz w p a b) : w.cell? ⟨p, 0, none⟩ = some a ∧ w.cell? ⟨p, 1, none⟩ = some b ∧ ∀ j, w.frozen? ⟨p, j, none⟩ = false :=
  ⟨by rw [cell_of_row w p 0 _ _ (0, 0) h]; rfl, by rw [cell_of_row w p 1 _ _ (0, 0) h]; rfl, fun j => frozen_of_row w p j _ _ h⟩
theorem Rz.put (h : Rz w p a b) (a' b' : Value) : Rz (put2 w p a' b') p a' b' := heap_setCell_same _ p 1 _ _ b' (heap_setCell_same w p 0 _ _ a' h)
theorem rz_new (V : World) (a b : Value) : Rz (V.alloc (.cells #[a, b] 38)) V.heap.size a b := heap_alloc_new V _
theorem rz_newd (V : World) (a b : Value) : Rz (V.alloc (.cells #[a, b] 38)).drew V.heap.size a b := heap_alloc_new V _
end
/-- What a case holds. -/
structure Cs (w : World) (k : Int) (n : Nat) (la : Option Addr) (lb lo lc : Nat) (L : List ByteArray) (sa : Option Addr) (sb so sc : Nat) (S : List Nat) : Prop where
  tb : Tb w
  tr : Tr w
  rl : RdS w la lb lo L.length L
  lcap : L.length ≤ lc
  lmax : L.length ≤ 8796093021952
  rs : RdU w sa sb so S.length S
  scap : S.length ≤ sc
  smax : S.length ≤ 17592186043904
  snil : sa = none → sc = 0
section
variable {w W : World} {k : Int} {n : Nat} {la : Option Addr} {lb lo lc : Nat} {L : List ByteArray} {sa : Option Addr} {sb so sc : Nat} {S : List Nat}
theorem Cs.next (h : Cs w k n la lb lo lc L sa sb so sc S) (hb : Below w.heap.size w W) : Cs W k n la lb lo lc L sa sb so sc S :=
  ⟨h.tb.next hb, h.tr.next hb, h.rl.next hb (Nat.le_refl _), h.lcap, h.lmax, h.rs.next hb, h.scap, h.smax, h.snil⟩
end
/-- The case's own block. -/
def Cb (w : World) (p : Nat) (k : Int) (vl : Value) (n : Nat) (vs : Value) : Prop := w.heap[p]? = some (oC k vl n vs)
theorem Cb.next {w W : World} {p : Nat} {k : Int} {vl : Value} {n : Nat} {vs : Value} (h : Cb w p k vl n vs) (hb : Below w.heap.size w W) : Cb W p k vl n vs := (hb.block p (Array.getElem?_eq_some_iff.1 h).1).trans h
theorem Cb.lt {w : World} {p : Nat} {k : Int} {vl : Value} {n : Nat} {vs : Value} (h : Cb w p k vl n vs) : p < w.heap.size := (Array.getElem?_eq_some_iff.1 h).1
theorem Cb.cells {w : World} {p : Nat} {k : Int} {vl : Value} {n : Nat} {vs : Value} (h : Cb w p k vl n vs) : w.cell? ⟨p, 0, none⟩ = some (.int .i64 k) ∧ w.cell? ⟨p, 1, none⟩ = some vl ∧ w.cell? ⟨p, 2, none⟩ = some (.int .u64 (n : Int)) ∧ w.cell? ⟨p, 3, none⟩ = some vs := four_cells h
set_option maxRecDepth 100000 in
set_option maxHeartbeats 2000000 in
theorem whole_no (w : World) (k : Int) (n : Nat) (la : Option Addr) (lb lo lc : Nat) (L : List ByteArray) (sa : Option Addr) (sb so sc : Nat) (S : List Nat) (h : Cs w k n la lb lo lc L sa sb so sc S) (hno : ¬ ((1 ≤ k ∧ k ≤ 32) ∧ ∀ s ∈ L.take 300, s.size ≤ 1048576)) :
    Calls Tryd.prog 3 #[vC k (.slice la L.length lc) n (.slice sa S.length sc)] w fun e w' => e = .returned (.bool true) ∧ Below w.heap.size w w' := by
  obtain ⟨o1, ho1⟩ : ∃ o1, oC k (.slice la L.length lc) n (.slice sa S.length sc) = o1 := ⟨_, rfl⟩
  have hb := bal (Below.refl w.heap.size w) o1
  have e1 : Cb (w.alloc o1) w.heap.size k (.slice la L.length lc) n (.slice sa S.length sc) := by rw [← ho1]; exact heap_alloc_new w _
  have HA := alive_any (w.alloc o1) (h.tb.next hb) (h.tr.next hb)
  have HH := hide (And.intro (h.next hb) (And.intro hb e1))
  rw [← ho1] at HA HH
  unfold oC at HA HH
  clear hb e1 ho1 h
  by_cases hk : 1 ≤ k ∧ k ≤ 32
  · have HF : Hid (∀ W, Below (w.alloc (oC k (.slice la L.length lc) n (.slice sa S.length sc))).heap.size (w.alloc (oC k (.slice la L.length lc) n (.slice sa S.length sc))) W → Calls Tryd.prog 9 #[vC k (.slice la L.length lc) n (.slice sa S.length sc)] W fun e w' => ∃ m, e = .returned (.pointer (some ⟨m + 1, 0, none⟩)) ∧ Below W.heap.size W w') := fun W hW => (cforest_ok W (HH.out.1.next hW).tb k hk.1 hk.2 la lb lo L.length lc L (HH.out.1.next hW).rl (by have := HH.out.1.lmax; omega) n sa S.length sc _ rfl).mono fun e w' ⟨m, h1, _, h3⟩ => ⟨m, h1, h3⟩
    have HG : Hid (∀ W, Below (w.alloc (oC k (.slice la L.length lc) n (.slice sa S.length sc))).heap.size (w.alloc (oC k (.slice la L.length lc) n (.slice sa S.length sc))) W → Calls Tryd.prog 10 #[vC k (.slice la L.length lc) n (.slice sa S.length sc)] W fun e w' => e = .returned (.bool false) ∧ Below W.heap.size W w') := fun W hW => cfit_any W k hk.1 hk.2 la lb lo L.length lc L (HH.out.1.next hW).rl (by have := HH.out.1.lmax; omega) n sa S.length sc false (decide_eq_false fun h => hno ⟨hk, h⟩)
    unfold oC vC at HF HG
    unfold vC
    clear hno hk
    go_enter Tryd.func3, Tryd.ntmps3
    go_wp2_with (first
      | (go_at_call 8; with_reducible refine HA.mono ?_; rintro e w1 ⟨rfl, hb1⟩; obtain ⟨c0, c1, c2, c3⟩ := (HH.out.2.2.next hb1).cells)
      | (go_at_call 9; with_reducible refine (HF.out _ hb1).mono ?_; rintro e w2 ⟨m, rfl, hb2⟩; obtain ⟨d0, d1, d2, d3⟩ := (HH.out.2.2.next (bnext hb1 hb2)).cells)
      | (go_at_call 10; with_reducible refine (HG.out _ (bnext hb1 hb2)).mono ?_; rintro e w3 ⟨rfl, hb3⟩))
    go_ret
    exact ⟨rfl, bnext (bnext (bnext HH.out.2.1 hb1) hb2) hb3⟩
  · have HF : Hid (∀ W, Calls Tryd.prog 9 #[vC k (.slice la L.length lc) n (.slice sa S.length sc)] W fun e w' => e = .returned (.pointer none) ∧ Below W.heap.size W w') := fun W => cforest_no W k (by omega) la L.length lc n sa S.length sc
    have HC : Hid (∀ W, Calls Tryd.prog 11 #[.int .i64 k] W fun e w' => e = .returned (.int .i64 70) ∧ W = w') := fun W => by
      have := refcheck_any W k
      rw [show chk k = 70 by rw [chk, if_pos (by omega)]] at this
      exact this.mono fun _ _ h => ⟨h.1, h.2.symm⟩
    unfold vC at HF
    unfold vC
    clear hno hk
    go_enter Tryd.func3, Tryd.ntmps3
    go_wp2_with (first
      | (go_at_call 8; with_reducible refine HA.mono ?_; rintro e w1 ⟨rfl, hb1⟩; obtain ⟨c0, c1, c2, c3⟩ := (HH.out.2.2.next hb1).cells)
      | (go_at_call 9; with_reducible refine (HF.out _).mono ?_; rintro e w2 ⟨rfl, hb2⟩; obtain ⟨d0, d1, d2, d3⟩ := (HH.out.2.2.next (bnext hb1 hb2)).cells)
      | (go_at_call 11; with_reducible refine (HC.out _).mono ?_; rintro e w3 ⟨rfl, rfl⟩))
    go_ret
    exact ⟨rfl, bnext (bnext HH.out.2.1 hb1) hb2⟩
set_option maxRecDepth 100000 in
set_option maxHeartbeats 2000000 in
theorem whole_err (w : World) (k : Int) (n : Nat) (la : Option Addr) (lb lo lc : Nat) (L : List ByteArray) (sa : Option Addr) (sb so sc : Nat) (S : List Nat) (h : Cs w k n la lb lo lc L sa sb so sc S) (hk : 1 ≤ k ∧ k ≤ 32) (hfit : ∀ s ∈ L.take 300, s.size ≤ 1048576) (hno : ¬ (n ≤ (L.take 300).length ∧ Cv.errS n S = 0)) :
    Calls Tryd.prog 3 #[vC k (.slice la L.length lc) n (.slice sa S.length sc)] w fun e w' => e = .returned (.bool true) ∧ Below w.heap.size w w' := by
  obtain ⟨o1, ho1⟩ : ∃ o1, oC k (.slice la L.length lc) n (.slice sa S.length sc) = o1 := ⟨_, rfl⟩
  have hb := bal (Below.refl w.heap.size w) o1
  have e1 : Cb (w.alloc o1) w.heap.size k (.slice la L.length lc) n (.slice sa S.length sc) := by rw [← ho1]; exact heap_alloc_new w _
  have HA := alive_any (w.alloc o1) (h.tb.next hb) (h.tr.next hb)
  have HH := hide (And.intro (h.next hb) (And.intro hb e1))
  rw [← ho1] at HA HH
  clear hb e1 ho1 h
  obtain ⟨L', hL'⟩ : ∃ L', L.take 300 = L' := ⟨_, rfl⟩
  rw [hL'] at hfit
  have hl3 : L'.length = min L.length 300 := by rw [← hL', List.length_take, Nat.min_comm]
  have HF : Hid (∀ W, Below (w.alloc (oC k (.slice la L.length lc) n (.slice sa S.length sc))).heap.size (w.alloc (oC k (.slice la L.length lc) n (.slice sa S.length sc))) W → Calls Tryd.prog 9 #[vC k (.slice la L.length lc) n (.slice sa S.length sc)] W fun e w' => ∃ m, e = .returned (.pointer (some ⟨m + 1, 0, none⟩)) ∧ Frs w' m k L' ∧ Below W.heap.size W w') := fun W hW => cforest_ok W (HH.out.1.next hW).tb k hk.1 hk.2 la lb lo L.length lc L (HH.out.1.next hW).rl (by have := HH.out.1.lmax; omega) n sa S.length sc _ (by rw [hL']; exact tk_self hfit)
  have HG : Hid (∀ W, Below (w.alloc (oC k (.slice la L.length lc) n (.slice sa S.length sc))).heap.size (w.alloc (oC k (.slice la L.length lc) n (.slice sa S.length sc))) W → Calls Tryd.prog 10 #[vC k (.slice la L.length lc) n (.slice sa S.length sc)] W fun e w' => e = .returned (.bool true) ∧ Below W.heap.size W w') := fun W hW => cfit_any W k hk.1 hk.2 la lb lo L.length lc L (HH.out.1.next hW).rl (by have := HH.out.1.lmax; omega) n sa S.length sc true (decide_eq_true (by rw [hL']; exact hfit))
  rw [hL'] at hno
  obtain ⟨e0, he0, HP⟩ : ∃ e0 : Nat, e0 ≠ 0 ∧ Hid (∀ W m, Below (w.alloc (oC k (.slice la L.length lc) n (.slice sa S.length sc))).heap.size (w.alloc (oC k (.slice la L.length lc) n (.slice sa S.length sc))) W → Frs W m k L' → Calls Tryd.prog 12 #[.pointer (some ⟨m + 1, 0, none⟩), .int .u64 (n : Int), .slice sa S.length sc] W fun e w' => e = .returned (.tuple #[noP, .int .i64 (e0 : Int)]) ∧ Below W.heap.size W w') := by
    by_cases hn : n ≤ L'.length
    · exact ⟨Cv.errS n S, fun e => hno ⟨hn, e⟩, fun W m hW hF => bprove_err W m k L' hF n hn sa sb so S.length sc S (HH.out.1.next hW).rs (by have := HH.out.1.smax; unfold maxLen; omega) _ rfl (fun e => hno ⟨hn, e⟩)⟩
    · exact ⟨30, by decide, fun W m _ hF => bprove_size W m k L' hF n (by omega) sa S.length sc⟩
  have hz : ((e0 : Int) != 0) = true := by simp; omega
  unfold oC at HA HH
  unfold oC vC at HF HG
  unfold oC at HP
  unfold vC
  clear hno hk hfit hL' hl3 he0
  go_enter Tryd.func3, Tryd.ntmps3
  go_wp2_with (first
    | (go_at_call 8; with_reducible refine HA.mono ?_; rintro e w1 ⟨rfl, hb1⟩; obtain ⟨c0, c1, c2, c3⟩ := (HH.out.2.2.next hb1).cells)
    | (go_at_call 9; with_reducible refine (HF.out _ hb1).mono ?_; rintro e w2 ⟨m, rfl, hF2, hb2⟩; obtain ⟨d0, d1, d2, d3⟩ := (HH.out.2.2.next (bnext hb1 hb2)).cells)
    | (go_at_call 10; with_reducible refine (HG.out _ (bnext hb1 hb2)).mono ?_; rintro e w3 ⟨rfl, hb3⟩; obtain ⟨f0, f1, f2, f3⟩ := (HH.out.2.2.next (bnext (bnext hb1 hb2) hb3)).cells)
    | (go_at_call 12; with_reducible refine (HP.out _ _ (bnext (bnext hb1 hb2) hb3) (hF2.next hb3 (Nat.le_refl _))).mono ?_; rintro e w4 ⟨rfl, hb4⟩))
  go_ret
  exact ⟨rfl, bal (bnext (bnext (bnext (bnext HH.out.2.1 hb1) hb2) hb3) hb4) _⟩
set_option maxRecDepth 100000 in
set_option maxHeartbeats 4000000 in
theorem whole_ok (w : World) (k : Int) (n : Nat) (la : Option Addr) (lb lo lc : Nat) (L : List ByteArray) (sa : Option Addr) (sb so sc : Nat) (S : List Nat) (h : Cs w k n la lb lo lc L sa sb so sc S) (hk : 1 ≤ k ∧ k ≤ 32) (hfit : ∀ s ∈ L.take 300, s.size ≤ 1048576) (hn : n ≤ (L.take 300).length) (he : Cv.errS n S = 0) :
    Calls Tryd.prog 3 #[vC k (.slice la L.length lc) n (.slice sa S.length sc)] w fun e w' => e = .returned (.bool true) ∧ Below w.heap.size w w' := by
  obtain ⟨o1, ho1⟩ : ∃ o1, oC k (.slice la L.length lc) n (.slice sa S.length sc) = o1 := ⟨_, rfl⟩
  have hb := bal (Below.refl w.heap.size w) o1
  have e1 : Cb (w.alloc o1) w.heap.size k (.slice la L.length lc) n (.slice sa S.length sc) := by rw [← ho1]; exact heap_alloc_new w _
  have HA := alive_any (w.alloc o1) (h.tb.next hb) (h.tr.next hb)
  have HH := hide (And.intro (h.next hb) (And.intro hb e1))
  rw [← ho1] at HA HH
  clear hb e1 ho1 h
  obtain ⟨L', hL'⟩ : ∃ L', L.take 300 = L' := ⟨_, rfl⟩
  rw [hL'] at hfit
  have hl3 : L'.length = min L.length 300 := by rw [← hL', List.length_take, Nat.min_comm]
  have HF : Hid (∀ W, Below (w.alloc (oC k (.slice la L.length lc) n (.slice sa S.length sc))).heap.size (w.alloc (oC k (.slice la L.length lc) n (.slice sa S.length sc))) W → Calls Tryd.prog 9 #[vC k (.slice la L.length lc) n (.slice sa S.length sc)] W fun e w' => ∃ m, e = .returned (.pointer (some ⟨m + 1, 0, none⟩)) ∧ Frs w' m k L' ∧ Below W.heap.size W w') := fun W hW => cforest_ok W (HH.out.1.next hW).tb k hk.1 hk.2 la lb lo L.length lc L (HH.out.1.next hW).rl (by have := HH.out.1.lmax; omega) n sa S.length sc _ (by rw [hL']; exact tk_self hfit)
  have HG : Hid (∀ W, Below (w.alloc (oC k (.slice la L.length lc) n (.slice sa S.length sc))).heap.size (w.alloc (oC k (.slice la L.length lc) n (.slice sa S.length sc))) W → Calls Tryd.prog 10 #[vC k (.slice la L.length lc) n (.slice sa S.length sc)] W fun e w' => e = .returned (.bool true) ∧ Below W.heap.size W w') := fun W hW => cfit_any W k hk.1 hk.2 la lb lo L.length lc L (HH.out.1.next hW).rl (by have := HH.out.1.lmax; omega) n sa S.length sc true (decide_eq_true (by rw [hL']; exact hfit))
  rw [hL'] at hn
  obtain ⟨D, hD⟩ : ∃ D, dgB (clk k) L' n S = D := ⟨_, rfl⟩
  have hS := rst_num he
  obtain ⟨X, hX⟩ : ∃ X, S.map (fun i => L'.getD i ByteArray.empty) = X := ⟨_, rfl⟩
  have hXl : X.length = S.length := by rw [← hX, List.length_map]
  obtain ⟨h40, _, _, hch⟩ := Cv.errS_ok he
  have hmem : ∀ i ∈ S, i < n := fun i hi => (Cv.chain_mem hch i hi).2
  have hXs : ∀ s ∈ X, s.size ≤ 1048576 := fun s hs => by
    rw [← hX] at hs
    obtain ⟨i, hi, rfl⟩ := List.mem_map.1 hs
    exact hfit _ (getD_mem (by have := hmem i hi; omega))
  have HP : Hid (∀ W m, Below (w.alloc (oC k (.slice la L.length lc) n (.slice sa S.length sc))).heap.size (w.alloc (oC k (.slice la L.length lc) n (.slice sa S.length sc))) W → Frs W m k L' → Calls Tryd.prog 12 #[.pointer (some ⟨m + 1, 0, none⟩), .int .u64 (n : Int), .slice sa S.length sc] W fun e w' => ∃ gs cs ad bd cd, e = .returned (.tuple #[.agg #[.int .i64 2, .int .i64 k, .int .u64 0, .int .u64 (n : Int), .slice (some ⟨gs, 0, none⟩) S.length cs, .slice ad D.length cd], .int .i64 0]) ∧ RdU w' (some ⟨gs, 0, none⟩) gs 0 S.length S ∧ S.length ≤ cs ∧ RdS w' ad bd 0 D.length D ∧ D.length ≤ cd ∧ (ad = none → cd = 0) ∧ Below W.heap.size W w') := fun W m hW hF =>
    (bprove_rd W m k L' hF (by omega) n hn sa sb so sc S (HH.out.1.next hW).rs he D hD).mono fun e w' ⟨gs, cs, ad, bd, cd, h1, h2, h3, h4, h5, h6, _, _, h8⟩ => ⟨gs, cs, ad, bd, cd, h1, h2, h3, h4, h5, h6, h8⟩
  have HIt : Hid (∀ W, Calls Tryd.prog 13 #[vC k (.slice la L.length lc) n (.slice sa S.length sc)] W fun e w' => e = .returned (.slice la L'.length lc) ∧ Below W.heap.size W w') := fun W => citems_any W k la L.length lc n HH.out.1.lcap sa S.length sc L'.length hl3.symm
  obtain ⟨rr, hrr⟩ : ∃ rr, rtD (clk k) L' n = rr := ⟨_, rfl⟩
  have hrt : dg (clk k) (rootT n (bagL (clk k) (pB (clk k) (Cv.dnL 41 0 n) S X D))) = rr := by rw [← hrr, rtD, ← batch_complete (clk k) L' n S hn he, hX, hD]
  have hDs : D.length ≤ 100000 := by rw [← hD, dgB_len]; have := Cv.rst_len n h40 S 0 hch; omega
  have hcnt : ∀ C, n ≤ 2 ^ C → D.length ≤ S.length * C + 40 := fun C hC => by rw [← hD, dgB_len]; exact Cv.rst_count n C S h40 hch hC
  have HRo : Hid (∀ W gs cs ad bd cd xa xb xc, Tb W → RdU W (some ⟨gs, 0, none⟩) gs 0 S.length S → S.length ≤ cs → RdS W ad bd 0 D.length D → D.length ≤ cd → (ad = none → cd = 0) → RdS W xa xb 0 S.length X → S.length ≤ xc → (xa = none → xc = 0) → Calls Tryd.prog 14 #[.agg #[.int .i64 2, .int .i64 k, .int .u64 0, .int .u64 (n : Int), .slice (some ⟨gs, 0, none⟩) S.length cs, .slice ad D.length cd], .slice xa S.length xc] W fun e w' => e = .returned (.tuple #[.agg #[.int .u64 (n : Int), .string rr], .int .i64 0]) ∧ Below W.heap.size W w') := fun W gs cs ad bd cd xa xb xc hT hU h1 hR h2 h3 hx h4 h5 => by
    have := broot_ok W hT k n (some ⟨gs, 0, none⟩) gs 0 cs S X (by rw [hXl]; exact hU) (by omega) (by omega) (fun e => by cases e) ad bd 0 cd D hR (by omega) h2 h3 xa xb 0 xc (by rw [hXl]; exact hx) (by omega) h5 (by rw [← hD]; exact okB_dg hk.1 hk.2 L' he) hXs rr hrt
    rw [hXl] at this
    exact this
  have hLe : L.take L'.length = L' := by rw [hl3, Nat.min_comm, ← List.take_eq_take_min]; exact hL'
  have HPl : Hid (∀ W, Tb W → RdS W la lb lo L.length L → Calls Tryd.prog 15 #[.int .i64 k, .slice la L'.length lc, .int .u64 (n : Int)] W fun e w' => e = .returned (.tuple #[.agg #[.int .u64 (n : Int), .string rr], .int .i64 0]) ∧ Below W.heap.size W w') := fun W hT hR => proot_ok W hT k hk.1 hk.2 la lb lo L'.length lc L' (by have := hR.take (n := L'.length) (by omega); rwa [hLe] at this) (fun s hs => by have := hfit s hs; omega) (by omega) (by have := HH.out.1.lcap; omega) n hn rr hrr
  have HQ : Hid (n ≤ 300 ∧ L'.length ≤ 300 ∧ L'.length ≤ L.length ∧ S.length ≤ 300 ∧ 0 < S.length ∧ D.length ≤ 100000 ∧ (∀ C, n ≤ 2 ^ C → D.length ≤ S.length * C + 40) ∧ X.length = S.length ∧ (∀ s ∈ X, s.size ≤ 1048576) ∧ (∀ j, j < S.length → S.getD j 0 < L'.length ∧ S.getD j 0 < L.length ∧ X.getD j ByteArray.empty = L.getD (S.getD j 0) ByteArray.empty)) := by
    refine ⟨by omega, by omega, by omega, by omega, hS.2, hDs, hcnt, hXl, hXs, fun j hj => ?_⟩
    have hm := hmem (S.getD j 0) (by rw [List.getD_eq_getElem?_getD, List.getElem?_eq_getElem hj]; exact List.getElem_mem _)
    refine ⟨by omega, by omega, ?_⟩
    rw [← hX, List.getD_eq_getElem?_getD, List.getElem?_map, List.getElem?_eq_getElem hj, ← hL']
    show (L.take 300).getD (S[j]) ByteArray.empty = _
    rw [show S.getD j 0 = S[j] by rw [List.getD_eq_getElem?_getD, List.getElem?_eq_getElem hj]; rfl] at hm ⊢
    exact getD_tk _ _ (by omega)
  unfold oC at HA HH
  unfold oC vC at HF HG
  unfold oC at HP
  unfold vC at HIt
  unfold vC
  clear hk hfit hL' hl3 hD hX hXl hXs hmem hS hrr hrt hDs hcnt hLe hn he h40 hch
  go_enter Tryd.func3, Tryd.ntmps3
  go_upto_region 9 with (first
    | (go_at_call 8; with_reducible refine HA.mono ?_; rintro e w1 ⟨rfl, hb1⟩; obtain ⟨c0, c1, c2, c3⟩ := (HH.out.2.2.next hb1).cells)
    | (go_at_call 9; with_reducible refine (HF.out _ hb1).mono ?_; rintro e w2 ⟨m, rfl, hF2, hb2⟩; obtain ⟨d0, d1, d2, d3⟩ := (HH.out.2.2.next (bnext hb1 hb2)).cells)
    | (go_at_call 10; with_reducible refine (HG.out _ (bnext hb1 hb2)).mono ?_; rintro e w3 ⟨rfl, hb3⟩; obtain ⟨f0, f1, f2, f3⟩ := (HH.out.2.2.next (bnext (bnext hb1 hb2) hb3)).cells)
    | (go_at_call 12; with_reducible refine (HP.out _ _ (bnext (bnext hb1 hb2) hb3) (hF2.next hb3 (Nat.le_refl _))).mono ?_; rintro e w4 ⟨gs, cs, ad, bd, cd, rfl, hU, h1, hR, h2, h3, hb4⟩))
  have h6 := six_new w4 (.int .i64 2) (.int .i64 k) (.int .u64 0) (.int .u64 (n : Int)) (.slice (some ⟨gs, 0, none⟩) S.length cs) (.slice ad D.length cd)
  have hb5 := bal (Below.refl w4.heap.size w4) (.cells #[.int .i64 2, .int .i64 k, .int .u64 0, .int .u64 (n : Int), .slice (some ⟨gs, 0, none⟩) S.length cs, .slice ad D.length cd] 32)
  obtain ⟨w5, hw5⟩ : ∃ w5, w4.alloc (.cells #[.int .i64 2, .int .i64 k, .int .u64 0, .int .u64 (n : Int), .slice (some ⟨gs, 0, none⟩) S.length cs, .slice ad D.length cd] 32) = w5 := ⟨_, rfl⟩
  rw [hw5] at h6 hb5 ⊢
  have hb14 := bnext (bnext (bnext hb1 hb2) hb3) (bnext hb4 hb5)
  have HK : Hid (∀ W, Below w5.heap.size w5 W → Cs W k n la lb lo lc L sa sb so sc S ∧ Cb W w.heap.size k (.slice la L.length lc) n (.slice sa S.length sc) ∧ Six W w4.heap.size (.int .i64 2) (.int .i64 k) (.int .u64 0) (.int .u64 (n : Int)) (.slice (some ⟨gs, 0, none⟩) S.length cs) (.slice ad D.length cd) ∧ RdU W (some ⟨gs, 0, none⟩) gs 0 S.length S ∧ RdS W ad bd 0 D.length D ∧ Below w.heap.size w W) := fun W hW =>
    ⟨HH.out.1.next (bnext hb14 hW), HH.out.2.2.next (bnext hb14 hW), h6.next hW, hU.next (bnext hb5 hW), hR.next (bnext hb5 hW) (Nat.le_refl _), bnext HH.out.2.1 (bnext hb14 hW)⟩
  have HN := hide (And.intro h1 (And.intro h2 h3))
  generalize w4.heap.size = q4 at *
  clear hw5 h6 hb5 hb14 hU hR h1 h2 h3 hb1 hb2 hb3 hb4 c0 c1 c2 c3 d0 d1 d2 d3 f0 f1 f2 f3 hF2 HF HG HP HA HH
  go_wp2
  go_loopg [6, 7] S.length (fun g v i wr => ∃ j : Nat, j ≤ S.length ∧ g = S.length - j ∧ i = .int .i64 (j : Int) ∧ Hid (OwnS wr w5.heap.size v (X.take j) ∧ Below w5.heap.size w5 wr))
  case atStart =>
    go_light
    exact ⟨0, Nat.zero_le _, rfl, rfl, owns_nil _ _, Below.refl _ _⟩
  case round =>
    obtain ⟨j, hj, rfl, rfl, HO⟩ := hrel
    obtain ⟨hC, hB, h6, hU, hR, hbw⟩ := HK.out wr HO.out.2
    obtain ⟨c0, c1, c2, c3⟩ := hB.cells
    have hs3 : (S.length : Int) ≤ 300 := by have := HQ.out.2.2.2.1; omega
    by_cases hlt : j < S.length
    · have hz : (j : Int) < (S.length : Int) := by omega
      have hz0 : (0 : Int) ≤ (j : Int) := Int.natCast_nonneg _
      have hpt := hC.rs.ptr (by omega)
      subst hpt
      have cj := hC.rs.at hlt
      obtain ⟨i, hi⟩ : ∃ i, S.getD j 0 = i := ⟨_, rfl⟩
      obtain ⟨q1, q2, q3⟩ := HQ.out.2.2.2.2.2.2.2.2.2 j hlt
      rw [hi] at cj q1 q2 q3
      have hpl := hC.rl.ptr (by omega)
      subst hpl
      obtain ⟨x, hx⟩ : ∃ x, X.getD j ByteArray.empty = x := ⟨_, rfl⟩
      have cl := hC.rl.at q2
      rw [← q3, hx] at cl
      have HKc : Hid (∀ Z, Below wr.heap.size wr Z → Z.cell? ⟨w.heap.size, 0, none⟩ = some (.int .i64 k) ∧ Z.cell? ⟨w.heap.size, 1, none⟩ = some (.slice (some ⟨lb, lo, none⟩) L.length lc) ∧ Z.cell? ⟨w.heap.size, 2, none⟩ = some (.int .u64 (n : Int)) ∧ Z.cell? ⟨w.heap.size, 3, none⟩ = some (.slice (some ⟨sb, so, none⟩) S.length sc) ∧ Z.cell? ⟨sb, so + j, none⟩ = some (.int .u64 (i : Int)) ∧ Z.cell? ⟨lb, lo + i, none⟩ = some (.string x)) := fun Z hZ => by
        obtain ⟨a0, a1, a2, a3⟩ := (hB.next hZ).cells
        exact ⟨a0, a1, a2, a3, (hZ.cell (p := ⟨sb, so + j, none⟩) (World.block_lt_of_cell? wr _ cj)).trans cj, (hZ.cell (p := ⟨lb, lo + i, none⟩) (World.block_lt_of_cell? wr _ cl)).trans cl⟩
      have HX : Hid (x.size ≤ 9223372036854775807 ∧ X.take (j + 1) = X.take j ++ [x] ∧ (X.take j).length ≤ 300) := by
        have hjX : j < X.length := by rw [HQ.out.2.2.2.2.2.2.2.1]; exact hlt
        refine ⟨?_, ?_, ?_⟩
        · have := HQ.out.2.2.2.2.2.2.2.2.1 _ (getD_mem hjX); rw [hx] at this; omega
        · rw [← hx]; exact take_succ_getD ByteArray.empty X j hjX
        · rw [List.length_take]; have := HQ.out.2.2.2.1; omega
      have e9 : IntKind.u64.wrap (L'.length : Int) = (L'.length : Int) := by have := HQ.out.2.1; rw [IntKind.wrap_u64]; omega
      have q1' : ¬ (L'.length : Int) ≤ (i : Int) := by omega
      have q1'' : ¬ L'.length ≤ i := by omega
      have q2' : (i : Int) < (L.length : Int) := by omega
      have q20 : (0 : Int) ≤ (i : Int) := Int.natCast_nonneg _
      clear q1 q2 q3 hi hx cj cl hC hB h6 hU hR hbw
      go_upto_region 13 with (fail)
      go_region_held3 (fun Z => Z.cell? ⟨w.heap.size, 0, none⟩ = some (.int .i64 k) ∧ Z.cell? ⟨w.heap.size, 1, none⟩ = some (.slice (some ⟨lb, lo, none⟩) L.length lc) ∧ Z.cell? ⟨w.heap.size, 2, none⟩ = some (.int .u64 (n : Int)) ∧ Z.cell? ⟨w.heap.size, 3, none⟩ = some (.slice (some ⟨sb, so, none⟩) S.length sc) ∧ Z.cell? ⟨sb, so + j, none⟩ = some (.int .u64 (i : Int)) ∧ Z.cell? ⟨lb, lo + i, none⟩ = some (.string x))
        (exact HKc.out _ (by repeat (first | exact Below.refl _ _ | refine Below.drew ?_ | refine bnext ?_ hb7))) (first
        | (go_at_call 13; with_reducible refine (HIt.out _).mono ?_; rintro e w7 ⟨rfl, hb7⟩))
      have hw7 : Below wr.heap.size wr w7 := bnext (Below.refl wr.heap.size wr).drew hb7
      obtain ⟨a0, a1, a2, a3, a4, a5⟩ := HKc.out w7 hw7
      have hlo : w5.heap.size ≤ w7.heap.size := (bnext HO.out.2 hw7).size
      have HOw : Hid (OwnS (w7.alloc (.cells #[.string x] 9)).drew w5.heap.size u6 (X.take j) ∧ RdS (w7.alloc (.cells #[.string x] 9)).drew (some ⟨w7.heap.size, 0, none⟩) w7.heap.size 0 1 [x] ∧ Below w5.heap.size w5 (w7.alloc (.cells #[.string x] 9)).drew) := ⟨own_al (own_next HO.out.1 hw7 (Nat.le_refl _)) _, (rds_one w7 x HX.out.1).next ((Below.refl _ _).drew) (Nat.le_refl _), (bal (bnext HO.out.2 hw7) _).drew⟩
      clear HKc hb7 c0 c1 c2 c3 HIt
      go_upto_region 15 with (fail)
      go_region_law (first
        | (refine step_append_S _ (by rfl) _ _ (by rfl) w5.heap.size _ (X.take j) (by rfl) HOw.out.1 ⟨w7.heap.size, 0, none⟩ w7.heap.size 0 1 [x] (by rfl) HOw.out.2.1 (by have := HX.out.2.2; show _ + 1 ≤ _; omega) (by have := HOw.out.2.2.size; exact this) ?_; intro v' w8 o1 o2; obtain ⟨xa, xm, xc, rfl⟩ := Cv.own_slice o1))
      all_goals
        go_wp2
        go_simp
        go_roundg (S.length - (j + 1))
        case rel =>
          go_light
          exact ⟨j + 1, by omega, rfl, by go_num, by show OwnS _ _ _ _ ∧ _; rw [HX.out.2.1]; exact ⟨o1, HOw.out.2.2.trans o2⟩⟩
        case measure => go_light; omega
    · obtain rfl : j = S.length := by omega
      have hz : ¬ ((S.length : Int) < (S.length : Int)) := by omega
      have hxl := HQ.out.2.2.2.2.2.2.2.1
      have hO := HO.out.1
      rw [List.take_of_length_le (by rw [hxl]; exact Nat.le_refl _)] at hO
      obtain ⟨xa, xb, xc, rfl, rX, hxc, hxn⟩ := owns_rds hO (fun s hs => by have := HQ.out.2.2.2.2.2.2.2.2.1 s hs; omega)
      rw [hxl] at rX hxc ⊢
      have HR1 := HRo.out wr gs cs ad bd cd xa xb xc hC.tb hU HN.out.1 hR HN.out.2.1 HN.out.2.2 rX hxc hxn
      obtain ⟨s0, s1, s2, s3, s4, s5⟩ := h6.cells
      clear hO rX hxc hxn hlt hxl hC hB h6 hU hR hbw HRo
      go_upto_region 17 with (go_at_call 14; with_reducible refine HR1.mono ?_; rintro e w8 ⟨rfl, hb8⟩)
      have hb9 := bal hb8 (.cells #[.int .u64 (n : Int), .string rr] 38)
      have z8 := rz_new w8 (.int .u64 (n : Int)) (.string rr)
      obtain ⟨w9, hw9⟩ : ∃ w9, w8.alloc (.cells #[.int .u64 (n : Int), .string rr] 38) = w9 := ⟨_, rfl⟩
      rw [hw9] at hb9 z8 ⊢
      have hb59 := bnext HO.out.2 hb9
      have HKd : Hid (∀ Z, Below w9.heap.size w9 Z → Z.cell? ⟨w.heap.size, 0, none⟩ = some (.int .i64 k) ∧ Z.cell? ⟨w.heap.size, 1, none⟩ = some (.slice la L.length lc) ∧ Z.cell? ⟨w.heap.size, 2, none⟩ = some (.int .u64 (n : Int)) ∧ Z.cell? ⟨w.heap.size, 3, none⟩ = some (.slice sa S.length sc)) := fun Z hZ => (HK.out Z (bnext hb59 hZ)).2.1.cells
      have HKt : Hid (∀ Z, Below w9.heap.size w9 Z → Tb Z ∧ RdS Z la lb lo L.length L) := fun Z hZ => ⟨(HK.out Z (bnext hb59 hZ)).1.tb, (HK.out Z (bnext hb59 hZ)).1.rl⟩
      have HZ8 := hide (And.intro z8 hb59)
      obtain ⟨c0, c1, c2, c3⟩ := HKd.out w9 (Below.refl _ _)
      generalize w8.heap.size = q8 at *
      clear hw9 hb8 hb9 z8 hb59 HR1 s0 s1 s2 s3 s4 s5
      go_cut [10, 11] from 93 to 102 (fun x e wx => e = .int .i64 0 ∧ ∃ q10, x = .pointer (some ⟨q10, 0, none⟩) ∧ Rz wx q10 (.int .u64 (n : Int)) (.string rr) ∧ Below w9.heap.size w9 wx)
      case first =>
        go_region_held3 (fun Z => Z.cell? ⟨w.heap.size, 0, none⟩ = some (.int .i64 k) ∧ Z.cell? ⟨w.heap.size, 1, none⟩ = some (.slice la L.length lc) ∧ Z.cell? ⟨w.heap.size, 2, none⟩ = some (.int .u64 (n : Int)) ∧ Z.cell? ⟨w.heap.size, 3, none⟩ = some (.slice sa S.length sc))
          (exact HKd.out _ (by repeat (first | exact Below.refl _ _ | refine Below.drew ?_ | refine bal ?_ _ | refine bnext ?_ hbb | refine bnext ?_ hba | refine below_put ?_ (by omega)))) (first
          | (go_at_call 13; with_reducible refine (HIt.out _).mono ?_; rintro e wa ⟨rfl, hba⟩
             have s1 := hba.size
             try simp only [World.size_alloc, World.drew] at s1
             first | (have y1 := (rz_newd w9 _ _).next hba) | skip)
          | (go_at_call 15; with_reducible refine (HPl.out _ (HKt.out _ (by repeat (first | exact Below.refl _ _ | refine Below.drew ?_ | refine bal ?_ _ | refine bnext ?_ hba))).1 (HKt.out _ (by repeat (first | exact Below.refl _ _ | refine Below.drew ?_ | refine bal ?_ _ | refine bnext ?_ hba))).2).mono ?_; rintro e wb ⟨rfl, hbb⟩
             have s2 := hbb.size
             try simp only [World.size_alloc] at s2
             first | (have x1 := y1.next hbb) | (have x1 := (rz_new wa _ _).next hbb) | skip
             try have v1 := x1.lt
             try obtain ⟨k0, k1, kf⟩ := x1.cells))
        all_goals have hVb : Below w9.heap.size w9 wb := by repeat (first | exact Below.refl _ _ | refine Below.drew ?_ | refine bal ?_ _ | refine bnext ?_ hbb | refine bnext ?_ hba)
        all_goals
          go_wp2
          go_meet
          case rel =>
            go_light
            first
              | with_reducible exact ⟨rfl, _, rfl, rz_new wb _ _, bal hVb _⟩
              | with_reducible exact ⟨rfl, _, rfl, x1.put _ _, below_put (below_put hVb (by omega)) (by omega)⟩
      case rest =>
        obtain ⟨rfl, q10, rfl, z10, hb10⟩ := hcut
        have hK := HK.out wc (bnext HZ8.out.2 hb10)
        obtain ⟨c0, c1, c2, c3⟩ := hK.2.1.cells
        obtain ⟨s0, s1, s2, s3, s4, s5⟩ := hK.2.2.1.cells
        obtain ⟨r0, r1, _⟩ := (HZ8.out.1.next hb10).cells
        obtain ⟨t0, t1, _⟩ := z10.cells
        have HBF := hide hK.2.2.2.2.2
        clear hK hb10 z10 HKd HKt HIt HPl
        go_wp2
        go_loopg [12] 10 (fun g i wx => ∃ u : Nat, u ≤ 9 ∧ g = 10 - u ∧ i = .int .i64 (u : Int) ∧ wc = wx)
        case atStart =>
          go_light
          exact ⟨0, by omega, rfl, rfl, rfl⟩
        case round =>
          obtain ⟨u, hu, rfl, rfl, rfl⟩ := hrel
          have hn3 := HQ.out.1
          obtain ⟨pu, hpu⟩ : ∃ pu : Nat, 2 ^ u = pu := ⟨_, rfl⟩
          have hpb : pu ≤ 512 := by rw [← hpu]; exact Nat.pow_le_pow_right (by decide) hu
          have u0 : (0 : Int) ≤ (u : Int) := Int.natCast_nonneg _
          have u1 : (u : Int) < 64 := by omega
          have u2 : IntKind.u64.wrap (u : Int) = (u : Int) := by rw [IntKind.wrap_u64]; omega
          have u3 : IntKind.u64.wrap ((2 : Int) ^ u) = (pu : Int) := by
            have e : ((2 : Int) ^ u) = (pu : Int) := by rw [← hpu]; simp
            rw [e, IntKind.wrap_u64]; omega
          by_cases hlt : pu < n
          · have hl2 : (pu : Int) < (n : Int) := by omega
            have hu9 : u < 9 := by
              rcases Nat.lt_or_ge u 9 with h | h
              · exact h
              · obtain rfl : u = 9 := by omega
                have : pu = 512 := by rw [← hpu]
                omega
            clear hpu
            go_wp2
            go_roundg (10 - (u + 1))
            case rel =>
              go_light
              exact ⟨u + 1, by omega, rfl, by go_num, rfl⟩
            case measure => go_light; omega
          · have hl2 : ¬ (pu : Int) < (n : Int) := by omega
            have hct := HQ.out.2.2.2.2.2.2.1 u (by omega)
            obtain ⟨mm, hmm⟩ : ∃ mm, S.length * u = mm := ⟨_, rfl⟩
            have hmb : mm ≤ 2700 := by rw [← hmm]; exact Nat.mul_le_mul HQ.out.2.2.2.1 hu
            have m1 : (S.length : Int) * (u : Int) = (mm : Int) := by rw [← hmm]; simp
            rw [hmm] at hct
            have m2 : (D.length : Int) ≤ (mm : Int) + 64 := by omega
            have m3 : (mm : Int) ≤ 2700 := by omega
            clear hpu hmm hct
            go_wp2
            go_ret
            exact ⟨rfl, HBF.out⟩
theorem whole_walk (w : World) (k : Int) (n : Nat) (la : Option Addr) (lb lo lc : Nat) (L : List ByteArray) (sa : Option Addr) (sb so sc : Nat) (S : List Nat) (h : Cs w k n la lb lo lc L sa sb so sc S) :
    Calls Tryd.prog 3 #[vC k (.slice la L.length lc) n (.slice sa S.length sc)] w fun e w' => e = .returned (.bool true) ∧ Below w.heap.size w w' := by
  by_cases h1 : (1 ≤ k ∧ k ≤ 32) ∧ ∀ s ∈ L.take 300, s.size ≤ 1048576
  · by_cases h2 : n ≤ (L.take 300).length ∧ Cv.errS n S = 0
    · exact whole_ok w k n la lb lo lc L sa sb so sc S h h1.1 h1.2 h2.1 h2.2
    · exact whole_err w k n la lb lo lc L sa sb so sc S h h1.1 h1.2 h2
  · exact whole_no w k n la lb lo lc L sa sb so sc S h h1
end Go.Proofs.YtnbejijpmeklaaaDoor
