/-
  part, the choices, Files of the document's disk. Own work.
-/
import Derived.Test.YtmhedhhbdpdafabQPut
namespace Go.Proofs.Ytmhedhhbdpdafab
open Go.RowKit
attribute [local go_sem ↓] exec_appR
/-- The first bytes of a sector. -/
def sec' (x : List UInt8) (s j : Nat) : List UInt8 := (List.range 64).map fun i => if i < j then x.getD (64 * s + i) 0 else 0
theorem sec'_len (x : List UInt8) (s j : Nat) : (sec' x s j).length = 64 := by simp [sec']
theorem sec'_zero (x : List UInt8) (s : Nat) : sec' x s 0 = List.replicate 64 0 := by
  simp only [sec', Nat.not_lt_zero, if_false]
  rfl
theorem sec'_all (x : List UInt8) (s : Nat) : sec' x s 64 = sec x s := by
  unfold sec' sec
  refine List.map_congr_left fun i hi => ?_
  rw [if_pos (List.mem_range.1 hi)]
theorem sec'_set (x : List UInt8) (s j : Nat) (hj : j < 64) (v : UInt8) (hv : x.getD (64 * s + j) 0 = v) : (sec' x s j).set j v = sec' x s (j + 1) := by
  apply List.ext_getElem?
  intro i
  rw [List.getElem?_set]
  unfold sec'
  by_cases hi : i < 64
  · simp only [List.getElem?_map, List.getElem?_range hi, Option.map_some, List.length_map, List.length_range]
    by_cases e : j = i
    · subst e
      rw [if_pos rfl, if_pos hj, if_pos (by omega), hv]
    · rw [if_neg e]
      by_cases h2 : i < j
      · rw [if_pos h2, if_pos (by omega)]
      · rw [if_neg h2, if_neg (by omega)]
  · rw [List.getElem?_eq_none (by simp; omega), List.getElem?_eq_none (by simp; omega)]
    split
    · omega
    · rfl
theorem sec'_skip (x : List UInt8) (s j : Nat) (hv : x.length ≤ 64 * s + j) : sec' x s j = sec' x s (j + 1) := by
  unfold sec'
  refine List.map_congr_left fun i _ => ?_
  by_cases h1 : i < j
  · rw [if_pos h1, if_pos (by omega)]
  · rw [if_neg h1]
    by_cases h2 : i < j + 1
    · rw [if_pos h2, List.getD_eq_getElem?_getD, List.getElem?_eq_none (by omega)]; rfl
    · rw [if_neg h2]
/-- A row of 64 bytes in a block. -/
def Row64 (w : World) (g : Nat) (l : List UInt8) : Prop := ∃ cur, w.heap[g]? = some (.cells cur 5 (0, 0)) ∧ cur.toList = cY l
theorem Row64.rw {w : World} {g : Nat} {l : List UInt8} (h : Row64 w g l) : Rw w (some ⟨g, 0, none⟩) g l.length l := by
  obtain ⟨cur, h1, h2⟩ := h
  have hl : cur.size = l.length := by rw [← Array.length_toList, h2, cY_len]
  refine ⟨.inr rfl, fun e => (by cases e), fun _ => ⟨_, _, h1⟩, Nat.le_refl _, fun _ j v hv => ?_, fun _ j hj => ⟨?_, frozen_of_row w g _ cur _ h1⟩⟩
  · rw [Nat.zero_add, cell_of_row w g j cur _ (0, 0) h1, ← Array.getElem?_toList, h2, hv]
  · rw [Nat.zero_add, cell_of_row w g j cur _ (0, 0) h1, Array.getElem?_eq_getElem (by omega)]; rfl
theorem Row64.set {w : World} {g j : Nat} {l : List UInt8} (h : Row64 w g l) (v : UInt8) : Row64 (w.setCell ⟨g, j, none⟩ (.int .u8 (v.toNat : Int))) g (l.set j v) := by
  obtain ⟨cur, h1, h2⟩ := h
  refine ⟨_, heap_setCell_same w g j cur _ _ h1, ?_⟩
  rw [Array.toList_setIfInBounds, h2, cY, cY, List.map_set]
theorem idx_byte (s : ByteArray) (k : Nat) (hk : k < s.size) (x : UInt8) (hx : s.data.toList.getD k 0 = x) (W : World) : (Instr.index 9 (.string s) (.int .i64 (k : Int))).run Try.prog W = .ok (.int .u8 (x.toNat : Int)) W := by
  have e : s.data.toList.getD k 0 = s[k] := by
    have hd : k < s.data.toList.length := by rw [size_list]; exact hk
    rw [List.getD_eq_getElem?_getD, List.getElem?_eq_getElem hd]
    rfl
  have h2 : s[k]? = some s[k] := getElem?_pos s k hk
  rw [← hx, e]
  simp [Instr.index, asIntOf, run_underlying Try.underlying9, h2]
set_option maxRecDepth 100000 in
set_option maxHeartbeats 2000000 in
/-- part. -/
theorem part_any (w : World) (x : ByteArray) (s : Nat) (hs : s ≤ 4398046511104) (r : ByteArray) (hr : (⟨(sec x.data.toList s).toArray⟩ : ByteArray) = r) :
    Calls Try.prog 55 #[.string x, .int .i64 (s : Int)] w fun e w' => e = .returned (.string r) ∧ Below w.heap.size w w' := by
  have hmk : ∀ u : World, (Instr.makeSlice 67 (.int .i64 64) (.int .i64 64)).run Try.prog u = .ok (.slice (some ⟨u.heap.size, 0, none⟩) 64 64) (u.alloc (.cells (Array.replicate 64 (Value.int .u8 0)) 5)) := fun u => make_bytes 64 (by decide) u
  obtain ⟨z64, hz⟩ : ∃ z, Array.replicate 64 (Value.int .u8 0) = z := ⟨_, rfl⟩
  rw [hz] at hmk
  have HR := hide hr
  have HS : Hid (s ≤ 4398046511104) := hs
  have HO : Hid (Row64 (w.alloc (.cells z64 5)) w.heap.size (sec' x.data.toList s 0) ∧ Below w.heap.size w (w.alloc (.cells z64 5))) := by
    refine ⟨⟨_, new1 w _, ?_⟩, bal (Below.refl _ _) _⟩
    rw [sec'_zero, ← hz, Array.toList_replicate, cY, List.map_replicate]
    rfl
  clear hr hs hz
  go_enter Try.func55, Try.ntmps55
  go_wp2
  go_loopg [6] 64 (fun g y wr => ∃ j : Nat, j ≤ 64 ∧ g = 64 - j ∧ y = .int .i64 (j : Int) ∧ Hid (Row64 wr w.heap.size (sec' x.data.toList s j) ∧ Below w.heap.size w wr))
  case atStart =>
    go_light
    exact ⟨0, Nat.zero_le _, rfl, rfl, HO⟩
  case round =>
    clear HO
    obtain ⟨j, hj, rfl, rfl, HQ⟩ := hrel
    by_cases hlt : j < 64
    · have hz : (j : Int) < 64 := by omega
      have hs := HS.out
      have hw1 : IntKind.i64.wrap (64 * (s : Int)) = ((64 * s : Nat) : Int) := by rw [IntKind.wrap_i64]; omega
      obtain ⟨k, hk⟩ : ∃ k, 64 * s = k := ⟨_, rfl⟩
      rw [hk] at hw1
      obtain ⟨m, hm⟩ : ∃ m, k + j = m := ⟨_, rfl⟩
      have hw2 : IntKind.i64.wrap ((k : Int) + (j : Int)) = (m : Int) := by rw [IntKind.wrap_i64]; omega
      have hwj : IntKind.i64.wrap ((j : Int) + 1) = (j : Int) + 1 := by rw [IntKind.wrap_i64]; omega
      have hj0 : (0 : Int) ≤ (j : Int) := by omega
      by_cases hin : m < x.size
      · have hi : (m : Int) < (x.size : Int) := by omega
        have hm0 : (0 : Int) ≤ (m : Int) := by omega
        obtain ⟨v, hv⟩ : ∃ v, x.data.toList.getD m 0 = v := ⟨_, rfl⟩
        have ix := fun W => idx_byte x m hin v hv W
        have hrw := HQ.out.1.rw
        obtain ⟨y, hy⟩ : ∃ y, wr.cell? ⟨w.heap.size, j, none⟩ = some y := ⟨_, hrw.at (by rw [sec'_len]; exact hlt)⟩
        have fz1 : wr.frozen? ⟨w.heap.size, j, none⟩ = false := by obtain ⟨cur, h1, _⟩ := HQ.out.1; exact frozen_of_row wr _ _ cur _ h1
        have HX : Hid (Row64 (wr.setCell ⟨w.heap.size, j, none⟩ (.int .u8 (v.toNat : Int))) w.heap.size (sec' x.data.toList s (j + 1)) ∧ Below w.heap.size w (wr.setCell ⟨w.heap.size, j, none⟩ (.int .u8 (v.toNat : Int)))) := by
          refine ⟨?_, HQ.out.2.setCell (Nat.le_refl _) _⟩
          have := HQ.out.1.set (j := j) v
          rw [sec'_set _ _ _ hlt v (by rw [hk, hm]; exact hv)] at this
          exact this
        clear HQ hrw hv hk hm hs hin
        go_wp2
        go_roundg (64 - (j + 1))
        case rel =>
          go_light
          exact ⟨j + 1, by omega, rfl, by go_num, HX⟩
        case measure => go_light; omega
      · have hi : ¬ ((m : Int) < (x.size : Int)) := by omega
        have HX : Hid (Row64 wr w.heap.size (sec' x.data.toList s (j + 1)) ∧ Below w.heap.size w wr) := by
          refine ⟨?_, HQ.out.2⟩
          rw [← sec'_skip _ _ _ (by rw [size_list]; omega)]
          exact HQ.out.1
        clear HQ hk hm hs hin
        go_wp2
        go_roundg (64 - (j + 1))
        case rel =>
          go_light
          exact ⟨j + 1, by omega, rfl, by go_num, HX⟩
        case measure => go_light; omega
    · obtain rfl : j = 64 := by omega
      have hz : ¬ (((64 : Nat) : Int) < 64) := by omega
      have hcv : (convert 67 9 (.slice (some ⟨w.heap.size, 0, none⟩) 64 64)).run Try.prog wr = .ok (.string r) wr := by
        have h := HQ.out.1.rw
        have := h.conv (k := 0) (n := 64) (by rw [sec'_len]; decide) (ax := some ⟨w.heap.size, 0, none⟩) (.inl rfl) (fun _ => .inl rfl) 64
        rw [List.drop_zero, sec'_all, List.take_of_length_le (by rw [sec_len]; decide), HR.out] at this
        exact this
      clear hlt hj
      go_wp2
      go_ret
      exact ⟨rfl, HQ.out.2⟩
/-- The choices. -/
structure Pk (w : World) (c : Nat) (ka : Option Addr) (kb ko kc : Nat) (ks : List Bool) (i : Nat) : Prop where
  blk : w.heap[c]? = some (.cells #[.slice ka ks.length kc, .int .i64 ((if ks.length = 0 then 0 else i : Nat) : Int)] 91 (0, 0))
  rd : RdL w ka kb ko ks
  ne : 0 < ks.length → kb ≠ c
  le : i ≤ 4611686018427387904
  kl : ks.length ≤ 140737488355328
theorem Pk.next {w W : World} {c : Nat} {ka : Option Addr} {kb ko kc : Nat} {ks : List Bool} {i : Nat} (h : Pk w c ka kb ko kc ks i) (hb : Below w.heap.size w W) : Pk W c ka kb ko kc ks i :=
  ⟨(hb.block c (Array.getElem?_eq_some_iff.1 h.blk).1).trans h.blk, h.rd.next hb, h.ne, h.le, h.kl⟩
set_option maxRecDepth 100000 in
set_option maxHeartbeats 2000000 in
theorem pick_any (w : World) {c : Nat} {ka : Option Addr} {kb ko kc : Nat} {ks : List Bool} {i : Nat} (h : Pk w c ka kb ko kc ks i) (hi : i + 1 ≤ 4611686018427387904) (b : Bool) (hb : ch ks i = b) :
    Calls Try.prog 54 #[.pointer (some ⟨c, 0, none⟩)] w fun e w' => e = .returned (.bool b) ∧ Pk w' c ka kb ko kc ks (i + 1) ∧ Upo (fun x => x = c) w w' := by
  obtain ⟨n, hn⟩ : ∃ n, ks.length = n := ⟨_, rfl⟩
  have hblk := h.blk
  have HH := hide h
  have hkl := h.kl
  by_cases h0 : n = 0
  · subst h0
    obtain rfl : ks = [] := List.length_eq_zero_iff.1 hn
    have hbf : b = false := by rw [← hb]; simp [ch]
    subst hbf
    simp only [List.length_nil, if_true] at hblk
    have c0 : w.cell? ⟨c, 0, none⟩ = some (.slice ka 0 kc) := by rw [cell_of_row w c 0 _ _ (0, 0) hblk]; rfl
    clear hb hn h hkl
    go_enter Try.func54, Try.ntmps54
    go_wp2
    go_ret
    exact ⟨rfl, ⟨hblk, HH.out.rd, HH.out.ne, hi, HH.out.kl⟩, Upo.refl _ _⟩
  · have hpos : 0 < ks.length := by omega
    rw [if_neg (by omega), hn] at hblk
    have c0 : w.cell? ⟨c, 0, none⟩ = some (.slice ka n kc) := by rw [cell_of_row w c 0 _ _ (0, 0) hblk]; rfl
    have c1 : w.cell? ⟨c, 1, none⟩ = some (.int .i64 (i : Int)) := by rw [cell_of_row w c 1 _ _ (0, 0) hblk]; rfl
    have fz1 : w.frozen? ⟨c, 1, none⟩ = false := frozen_of_row w c 1 _ _ hblk
    obtain ⟨m, hm⟩ : ∃ m, i % n = m := ⟨_, rfl⟩
    have hmn : m < n := by rw [← hm]; exact Nat.mod_lt _ (by omega)
    have ct := h.rd.cell m (by omega)
    have hgb : ks.getD m false = b := by rw [← hb, ch, hn, hm]
    rw [hgb] at ct
    have ea := h.rd.ptr hpos
    subst ea
    have hle := h.le
    have e1 : IntKind.i64.wrap (Int.tmod (i : Int) (n : Int)) = (m : Int) := by
      rw [Int.tmod_eq_emod_of_nonneg (by omega), IntKind.wrap_i64, ← hm]
      omega
    have e2 : Int.tmod (i : Int) (n : Int) = (m : Int) := by
      rw [Int.tmod_eq_emod_of_nonneg (by omega), ← hm]
      omega
    have hm0 : (0 : Int) ≤ (m : Int) := by omega
    have hmn' : (m : Int) < (n : Int) := by omega
    have hn0 : ¬ ((n : Int) = 0) := by omega
    have hn0' : ¬ n = 0 := h0
    have hw : IntKind.i64.wrap ((i : Int) + 1) = (i : Int) + 1 := by rw [IntKind.wrap_i64]; omega
    have HB := hide hblk
    have HN := hide hn
    clear hb hn h hkl hm hmn hgb hle hpos h0 hblk
    go_enter Try.func54, Try.ntmps54
    go_upto_region 3 with (fail)
    go_quiet (fail)
    obtain ⟨w2, hw2⟩ : ∃ W, w.drewN nq = W := ⟨_, rfl⟩
    have u2 : Below w.heap.size w w2 := by rw [← hw2]; exact below_drewN (Below.refl _ _) _
    have k2 := (u2.block c (Array.getElem?_eq_some_iff.1 HB.out).1).trans HB.out
    have y1 : w2.cell? ⟨c, 1, none⟩ = some (.int .i64 (i : Int)) := by rw [cell_of_row w2 c 1 _ _ (0, 0) k2]; rfl
    have z1 : w2.frozen? ⟨c, 1, none⟩ = false := frozen_of_row w2 c 1 _ _ k2
    have HU := hide u2
    have HK := hide k2
    rw [hw2]
    clear hw2 u2 k2 c0 c1 ct fz1
    go_wp2
    go_ret
    have hne := HH.out.ne (by have := HN.out; omega)
    refine ⟨rfl, ⟨?_, ?_, HH.out.ne, hi, HH.out.kl⟩, (Upo.of HU.out).set _ _ _ (.inl rfl)⟩
    · rw [if_neg (by have := HN.out; omega), HN.out]
      have := heap_setCell_same w2 c 1 _ _ (.int .i64 ((i : Int) + 1)) HK.out
      rw [this]
      rfl
    · exact (HH.out.rd.next HU.out).same (fun _ => Below.heap_setCell _ _ _ _ hne)
end Go.Proofs.Ytmhedhhbdpdafab
