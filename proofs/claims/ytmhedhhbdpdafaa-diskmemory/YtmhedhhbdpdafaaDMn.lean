/-
  DiskMemory: the disk behind each call. Own work.
-/
import Derived.Test.YtmhedhhbdpdafaaDKc
namespace Go.Proofs.Ytmhedhhbdpdafaa
open Go.RowKit
/-- A file's bytes, as DiskMemory lays them. -/
def dmm (l0 : List FL) (i : Nat) : List UInt8 := ((l0.getD i ([], [])).2.take 200) ++ [46]
theorem dmm_ne (l0 : List FL) (i : Nat) : dmm l0 i ≠ [] := by simp [dmm]
theorem dmm_len (l0 : List FL) (i : Nat) : (dmm l0 i).length ≤ 201 := by simp [dmm]; omega
theorem whl_snoc (d : Nat → List UInt8) (j : Nat) : whl d (j + 1) = whl d j ++ [((mkB (97 + j)).data.toList, d j)] := by
  unfold whl
  rw [List.range_succ, List.map_append]
  rfl
theorem whl_byt (d : Nat → List UInt8) (hd : ∀ i, (d i).length ≤ 201) : ∀ n, byt (whl d n) ≤ n * 201
  | 0 => Nat.le_refl _
  | n + 1 => by
    have := whl_byt d hd n
    have := hd n
    rw [whl_snoc, byt_snoc]
    simp only
    omega
theorem whl_mem {d : Nat → List UInt8} {n : Nat} {x : FL} (h : x ∈ whl d n) : x.1.length = 1 ∧ ∃ i, x.2 = d i := by
  obtain ⟨i, _, rfl⟩ := List.mem_map.1 h
  exact ⟨rfl, i, rfl⟩
/-- What DiskMemory's disk is, call by call. -/
structure Mm (d : Nat → List UInt8) (n : Nat) (ks : List Bool) (D2 D3 D4 : DV) (a l : List FL) : Prop where
  c : canL (whl d n)
  b : byt (whl d n) ≤ 1048576
  nm : ∀ x ∈ whl d n, x.1.length ≤ maxLen
  r1 : Roomy (openD 1048576 (whl d n))
  wr : wrD (openD 1048576 (whl d n)) [97] 0 [63] = (D2, 0)
  y : layD D2 1 4 ks = D3
  r3 : Roomy D3
  ta : tell D3.L = a
  tl : a.length = max n 1
  af : aft ks D3.L 0 = l
  al : l.length ≤ 200
  sy : synD D3 [97] = (D4, 170)
  g : tell D4.L = l
theorem mm_disk (d : Nat → List UInt8) (h1 : ∀ i, d i ≠ []) (h2 : ∀ i, (d i).length ≤ 201) (n : Nat) (hn : n ≤ 12) (ks : List Bool) : ∃ D2 D3 D4 a l, Mm d n ks D2 D3 D4 a l := by
  have hS := whl_sor d h1 n (by omega)
  have hb := whl_byt d h2 n
  have hne : ∀ x ∈ whl d n, x.2 ≠ [] := hS.2
  have hcan : canL (whl d n) := by
    refine ⟨?_, fun x hx => ?_⟩
    · unfold nms
      refine List.pairwise_map.2 (hS.1.imp fun {a b} hlt e => ?_)
      rw [e] at hlt
      exact List.lt_irrefl _ hlt
    · obtain ⟨_, i, e⟩ := whl_mem hx
      rw [e]; have := h2 i; omega
  have hL : layL (whl d n) = allS (whl d n) := lay_sor _ hS
  have hgt : (fget (layL (whl d n)) [97]).now.length ≤ 201 := by
    rw [hL]
    by_cases hk : [97] ∈ (allS (whl d n)).map (·.1)
    · have := fget_in hk
      obtain ⟨x, hx, e⟩ := List.mem_map.1 this
      obtain ⟨_, i, e2⟩ := whl_mem hx
      have e3 := congrArg (fun q => q.2.now) e
      simp only at e3
      rw [← e3, e2]; exact h2 i
    · rw [fget_none hk]; simp [fz]
  obtain ⟨D1, hD1⟩ : ∃ D, openD 1048576 (whl d n) = D := ⟨_, rfl⟩
  have q1 : D1.L = layL (whl d n) ∧ D1.free = 1048576 - byt (whl d n) ∧ D1.acts = 0 ∧ D1.fk = 0 ∧ D1.down = false ∧ D1.fa = 0 ∧ D1.ks = [] := by rw [← hD1]; exact ⟨rfl, rfl, rfl, rfl, rfl, rfl, rfl⟩
  obtain ⟨e1, e2, e3, e4, e5, e6, e7⟩ := q1
  have hln : D1.L.length ≤ 12 := by rw [e1]; have := layL_len (whl d n); rw [whl_len] at this; omega
  obtain ⟨f, hf⟩ : ∃ f : FV, (⟨wr (fget D1.L [97]).now 0 [63], (fget D1.L [97]).syn⟩ : FV) = f := ⟨_, rfl⟩
  have hw : wrD D1 [97] 0 [63] = (dput { D1 with acts := D1.acts + 1 } [97] f, 0) := by
    unfold wrD
    rw [if_neg (by simp [e5]), if_neg (by rw [e1]; simp), if_neg (by rw [e1, e2]; simp; omega)]
    have em : metD { D1 with acts := D1.acts + 1 } = ({ D1 with acts := D1.acts + 1 }, 0, []) := by
      unfold metD
      rw [if_pos (show D1.fk = 0 from e4)]
    rw [show (0 : Int).toNat = 0 from rfl, hf]
    unfold actD
    rw [em]
    rfl
  obtain ⟨D2, hD2⟩ : ∃ D, dput { D1 with acts := D1.acts + 1 } [97] f = D := ⟨_, rfl⟩
  rw [hD2] at hw
  have m1 : D2.L = mmL (whl d n) := by
    rw [← hD2, ← hf]
    show fput D1.L [97] _ = _
    rw [e1, hL]
    exact mm_put d n
  have m2 : D2.acts = 1 ∧ D2.down = false ∧ D2.fk = 0 := by rw [← hD2]; exact ⟨by show D1.acts + 1 = 1; omega, e5, e4⟩
  have m3 : D2.free ≤ 2000000 := by
    rw [← hD2]
    show D1.free + (fget D1.L [97]).now.length - _ ≤ _
    rw [e1, e2]; omega
  have ho : D2.L.Pairwise (fun a b => a.1 < b.1) := by
    rw [← hD2]
    show (fput D1.L [97] f).Pairwise _
    have : Ord D1.L := by rw [e1, hL]; exact ⟨by unfold allS; rw [List.pairwise_map]; exact hS.1, fun p hp => by
      obtain ⟨x, hx, rfl⟩ := List.mem_map.1 hp
      have := hne x hx
      cases hq : (⟨x.2, x.2⟩ : FV).gone
      · rfl
      · exact absurd (List.length_eq_zero_iff.1 (gone_len.1 hq).1) this⟩
    exact (ord_fput this _ _).1
  have hl2 : D2.L.length ≤ 13 := by rw [← hD2]; have := len_put (L := D1.L) [97] f; show (fput D1.L [97] f).length ≤ 13; omega
  have hy : layD D2 1 4 ks = { D2 with fa := 1, fk := 4, ks := ks } := by
    unfold layD
    rw [if_neg (by simp [m2.2.1]), if_pos (by decide)]
  have hs := aft_sor ks D2.L 0 ho
  refine ⟨D2, { D2 with fa := 1, fk := 4, ks := ks }, downD { D2 with acts := D2.acts + 1, fa := 0, fk := 0, ks := [] } ks, tell D2.L, aft ks D2.L 0, hcan, by omega, fun x hx => by rw [(whl_mem hx).1]; decide, ⟨?_, ?_, ?_⟩, by rw [hD1]; exact hw, hy, ⟨?_, ?_, ?_⟩, rfl, ?_, rfl, ?_, ?_, ?_⟩
  · rw [hD1]; omega
  · rw [hD1]; omega
  · rw [hD1]; omega
  · show D2.acts + 1 ≤ _; omega
  · show D2.L.length < _; omega
  · show D2.free ≤ _; omega
  · rw [m1, mm_tell _ hne, whl_len]
  · have := aft_len ks D2.L 0; omega
  · unfold synD
    rw [if_neg (by simp [m2.2.1])]
    unfold actD metD
    rfl
  · show tell (layL (aft ks D2.L 0)) = _
    rw [lay_sor _ hs, tell_all _ hs.2]
end Go.Proofs.Ytmhedhhbdpdafaa
