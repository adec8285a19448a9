/-
  Walks of package sha: Of. Own work.
-/
import Derived.Test.YtabdobdopcfllaaDoorShWalkE
namespace Go.Proofs.YtabdobdopcfllaaDoor
open Go.RowKit
attribute [local go_sem ↓] Go.wp_at_zero Go.wp_at_succ
theorem endL_eq {blk : List Int} (h : blk.length = 64) {u : Nat} (hu : u < 64) : endL blk u = (blk.take u ++ [128]) ++ List.replicate (64 - (u + 1)) 0 := by
  unfold endL
  congr 1
  apply List.ext_getElem?
  intro i
  by_cases hi : i < u
  · rw [List.getElem?_take, if_pos (by omega), List.getElem?_set_ne (by omega), List.getElem?_append_left (by simp; omega), List.getElem?_take, if_pos hi]
  · by_cases hi2 : i = u
    · subst hi2
      rw [List.getElem?_take, if_pos (by omega), List.getElem?_set_self (by omega), List.getElem?_append_right (by simp; omega)]
      have : (blk.take i).length = i := by simp; omega
      rw [this, Nat.sub_self]; rfl
    · rw [List.getElem?_take, if_neg (by omega), List.getElem?_eq_none]
      simp; omega
theorem closeI_congr {rs st blk blk' : List Int} {n : Nat} (h : blk.length = 64) (h' : blk'.length = 64) (he : blk.take (n % 64) = blk'.take (n % 64)) : closeI rs st blk n = closeI rs st blk' n := by
  have : endL blk (n % 64) = endL blk' (n % 64) := by rw [endL_eq h (Nat.mod_lt _ (by decide)), endL_eq h' (Nat.mod_lt _ (by decide)), he]
  unfold closeI
  rw [this]
/-- The sum of t's bytes, 32 numbers. -/
def shaT (rs t : List Int) : List Int := outB (closeI rs (stN rs IV t (t.length / 64)) (pad (t.drop (64 * (t.length / 64)))) t.length) 8
def shaS (rs t : List Int) : ByteArray := strB (shaT rs t)
theorem sum_hst (w : World) (p : Nat) (rs t : List Int) (hh : Hst w p rs IV t) (hrl : rs.length = 64) (hr : w.rangeAt 0 0 (cW rs)) :
    Calls Tryd.prog 69 #[.pointer (some ⟨p, 0, none⟩)] w fun e w' => e = .returned (.string (shaS rs t)) ∧ Below w.heap.size w w' := by
  obtain ⟨st, blk, h1, h2, h3⟩ := hh
  refine (sum_any w p st blk t.length h1 rs hrl hr).mono fun e w' ⟨he, hb⟩ => ⟨?_, hb⟩
  have hd : (t.drop (64 * (t.length / 64))).length = t.length % 64 := by rw [List.length_drop]; omega
  have e : closeI rs st blk t.length = closeI rs (stN rs IV t (t.length / 64)) (pad (t.drop (64 * (t.length / 64)))) t.length := by
    rw [← h2]
    refine closeI_congr h1.blkl (pad_len (by omega)) ?_
    rw [h3, pad, List.take_append_of_le_length (by omega), List.take_of_length_le (by omega)]
  rw [he, shaS, shaT, e]
/-- A new hash holds nothing. -/
theorem new_hst (w : World) (rs : List Int) : Hst (w.alloc (.cells ((cW IV ++ cB (List.replicate 64 0)) ++ [Value.int .u64 0]).toArray 122)) w.heap.size rs IV [] := by
  have r := range_new w ((cW IV ++ cB (List.replicate 64 0)) ++ [Value.int .u64 0]) 122
  have q := there_new w ((cW IV ++ cB (List.replicate 64 0)) ++ [Value.int .u64 0]).toArray 122 73 (by simp [cW_len, cB_len, IV])
  refine ⟨IV, List.replicate 64 0, ⟨rfl, by simp, ?_, ?_, ?_, q⟩, rfl, rfl⟩
  · intro j v hv
    have hj : j < 8 := (List.getElem?_eq_some_iff.1 hv).1
    exact r j v (by rw [List.getElem?_append_left (by simp [cW_len, cB_len, IV]; omega), List.getElem?_append_left (by simp [cW_len, IV]; omega)]; exact hv)
  · intro j v hv
    have hj : j < 64 := by have := (List.getElem?_eq_some_iff.1 hv).1; simpa [cB_len] using this
    have := r (8 + j) v (by rw [List.getElem?_append_left (by simp [cW_len, cB_len, IV]; omega), List.getElem?_append_right (by simp [cW_len, IV])]; simpa [cW_len, IV] using hv)
    rwa [Nat.zero_add] at this
  · exact r 72 _ rfl
/-- A new hash, as it lies. -/
def newObj : Obj := .cells ((cW IV ++ cB (List.replicate 64 0)) ++ [Value.int .u64 0]).toArray 122
theorem new_obj (w : World) : Calls Tryd.prog 67 #[] w fun e w' => e = .returned (.pointer (some ⟨w.heap.size, 0, none⟩)) ∧ w' = w.alloc newObj := new_any w
def flat (ss : List ByteArray) : List Int := (ss.map tB).flatten
theorem flat_snoc (ss : List ByteArray) (k : Nat) (hk : k < ss.length) : flat (ss.take (k + 1)) = flat (ss.take k) ++ tB (ss.getD k ByteArray.empty) := by
  have e : ss.getD k ByteArray.empty = ss[k] := by rw [List.getD_eq_getElem?_getD, List.getElem?_eq_getElem hk]; rfl
  unfold flat
  rw [List.take_succ_eq_append_getElem hk, List.map_append, List.flatten_append, e]
  simp only [List.map_cons, List.map_nil, List.flatten_cons, List.flatten_nil, List.append_nil]
theorem flat_take_le (ss : List ByteArray) (k : Nat) : (flat (ss.take k)).length ≤ (flat ss).length := by
  have : flat ss = flat (ss.take k) ++ flat (ss.drop k) := by
    unfold flat
    rw [← List.flatten_append, ← List.map_append, List.take_append_drop]
  rw [this, List.length_append]; omega
set_option maxHeartbeats 2000000 in
set_option maxRecDepth 100000 in
theorem of_any (w : World) (ao : Option Addr) (b off len cap : Nat) (ss : List ByteArray) (hl : ss.length = len) (hao : 0 < len → ao = some ⟨b, off, none⟩) (hs : w.rangeAt b off (ss.map Value.string))
    (hmx : len ≤ 9223372036854775807) (rs : List Int) (hrl : rs.length = 64) (hr : w.rangeAt 0 0 (cW rs)) (hlen : (flat ss).length < 4611686018427387904) :
    Calls Tryd.prog 57 #[.slice ao len cap] w fun e w' => e = .returned (.string (shaS rs (flat ss))) ∧ Below w.heap.size w w' := by
  have h1w : 0 < w.heap.size := range_lt hr (by intro h; have := congrArg List.length h; simp [cW_len, hrl] at this)
  have hn0 : Hst (w.alloc newObj) w.heap.size rs IV [] := new_hst w rs
  have hb0 : Below w.heap.size w (w.alloc newObj) := (Below.refl _ _).alloc (Nat.le_refl _) _
  go_enter Tryd.func57, Tryd.ntmps57
  go_wp2_with (go_at_call 67; refine (new_obj _).mono ?_; rintro e w' ⟨rfl, rfl⟩)
  generalize w.alloc newObj = w1 at *
  go_loopg [9] len (fun g i wr => ∃ k : Nat, k ≤ len ∧ g = len - k ∧ i = .int .i64 k ∧ Hst wr w.heap.size rs IV (flat (ss.take k)) ∧ Below w.heap.size w wr)
  case atStart =>
    go_light
    exact ⟨0, Nat.zero_le _, rfl, rfl, hn0, hb0⟩
  case round =>
    clear hn0 hb0
    obtain ⟨k, hk, rfl, rfl, hh, hb⟩ := hrel
    have hrr : wr.rangeAt 0 0 (cW rs) := range_below hb h1w hr
    by_cases hlt : k < len
    · obtain rfl := hao (by omega)
      have hk' : k < ss.length := by omega
      have hbl : b < w.heap.size := range_lt hs (by intro h; have := congrArg List.length h; rw [List.length_map, List.length_nil] at this; omega)
      have ck : wr.cell? ⟨b, off + k, none⟩ = some (.string (ss.getD k ByteArray.empty)) := by
        rw [hb.cell (p := ⟨b, off + k, none⟩) hbl]
        exact hs k _ (by simp [List.getElem?_eq_getElem hk', List.getD_eq_getElem?_getD])
      have hz : (k : Int) < (len : Int) := by omega
      have hsz : (flat (ss.take (k + 1))).length ≤ (flat ss).length := flat_take_le _ _
      have hfs := flat_snoc ss k hk'
      have hln : (flat (ss.take k)).length + (ss.getD k ByteArray.empty).size < 4611686018427387904 := by
        rw [hfs, List.length_append, tB_len] at hsz; omega
      have hw := write_any wr w.heap.size rs IV (flat (ss.take k)) (ss.getD k ByteArray.empty) hrl hrr hh hln
      rw [← hfs] at hw
      have HB : Hid (Below w.heap.size w wr) := hb
      have HZ : Hid (w.heap.size ≤ wr.heap.size) := hb.size
      clear hfs hsz hln hh hb hs hao
      generalize ss.getD k ByteArray.empty = part at *
      go_wp2_with (go_at_call 68; refine hw.mono ?_; rintro e w' ⟨rfl, hh', hg'⟩)
      go_roundg (len - (k + 1))
      case rel =>
        go_light
        exact ⟨k + 1, by omega, rfl, by go_num, hh', HB.out.grown hg' HZ.out (fun j hj => by cases hj; exact Nat.le_refl _)⟩
      case measure => go_light; omega
    · obtain rfl : k = len := by omega
      have hz : ¬ (k : Int) < (k : Int) := by omega
      have hsum := sum_hst wr w.heap.size rs _ hh hrl hrr
      rw [List.take_of_length_le (by omega)] at hsum
      have HB : Hid (Below w.heap.size w wr) := hb
      have HZ : Hid (w.heap.size ≤ wr.heap.size) := hb.size
      clear hh hb
      go_wp2_with (go_at_call 69; refine hsum.mono ?_; rintro e w' ⟨rfl, hb'⟩)
      go_ret
      exact ⟨rfl, HB.out.trans (hb'.mono HZ.out)⟩
end Go.Proofs.YtabdobdopcfllaaDoor
