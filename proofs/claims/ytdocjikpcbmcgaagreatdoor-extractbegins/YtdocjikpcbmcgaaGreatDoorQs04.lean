/-
  Own work: ShWalkF, ShEval, HWalkA, HWalkB.
-/
import Derived.KernelRfl
import Derived.Deep.Onto
import Derived.ArgAppend
import Derived.Laws.AppendOwnNone
import Derived.Laws.IdiomStrings
import Derived.Deep.RegionWith
import Derived.Handy
import Derived.Test.YtdocjikpcbmcgaaGreatDoorQs03
namespace Go.Proofs.YtdocjikpcbmcgaaGreatDoor
open Go.RowKit
attribute [local go_sem ↓] Go.wp_at_zero Go.wp_at_succ
theorem endL_eq {blk : List Int} (h : blk.length = 64) {u : Nat} (hu : u < 64) : endL blk u = (blk.take u ++ [128]) ++ List.replicate (64 - (u + 1)) 0 := by
  unfold endL
  congr 1
  apply List.ext_getElem?
  intro i
  by_cases hi : i < u
  · rw [List.getElem?_take, if_pos (by omega), List.getElem?_set_ne (by omega), List.getElem?_append_left (by simp; omega), List.getElem?_take, if_pos hi]
  · by_cases hi2 : i = u
    · subst hi2
      rw [List.getElem?_take, if_pos (by omega), List.getElem?_set_self (by omega), List.getElem?_append_right (by simp; omega)]
      have : (blk.take i).length = i := by simp; omega
      rw [this, Nat.sub_self]; rfl
    · rw [List.getElem?_take, if_neg (by omega), List.getElem?_eq_none]
      simp; omega
theorem closeI_congr {rs st blk blk' : List Int} {n : Nat} (h : blk.length = 64) (h' : blk'.length = 64) (he : blk.take (n % 64) = blk'.take (n % 64)) : closeI rs st blk n = closeI rs st blk' n := by
  have : endL blk (n % 64) = endL blk' (n % 64) := by rw [endL_eq h (Nat.mod_lt _ (by decide)), endL_eq h' (Nat.mod_lt _ (by decide)), he]
  unfold closeI
  rw [this]
def shaT (rs t : List Int) : List Int := outB (closeI rs (stN rs IV t (t.length / 64)) (pad (t.drop (64 * (t.length / 64)))) t.length) 8
def shaS (rs t : List Int) : ByteArray := strB (shaT rs t)
theorem sum_hst (w : World) (p : Nat) (rs t : List Int) (hh : Hst w p rs IV t) (hrl : rs.length = 64) (hr : w.rangeAt 2 0 (cW rs)) :
    Calls Tryz.prog 186 #[.pointer (some ⟨p, 0, none⟩)] w fun e w' => e = .returned (.string (shaS rs t)) ∧ Below w.heap.size w w' := by
  obtain ⟨st, blk, h1, h2, h3⟩ := hh
  refine (sum_any w p st blk t.length h1 rs hrl hr).mono fun e w' ⟨he, hb⟩ => ⟨?_, hb⟩
  have hd : (t.drop (64 * (t.length / 64))).length = t.length % 64 := by rw [List.length_drop]; omega
  have e : closeI rs st blk t.length = closeI rs (stN rs IV t (t.length / 64)) (pad (t.drop (64 * (t.length / 64)))) t.length := by
    rw [← h2]
    refine closeI_congr h1.blkl (pad_len (by omega)) ?_
    rw [h3, pad, List.take_append_of_le_length (by omega), List.take_of_length_le (by omega)]
  rw [he, shaS, shaT, e]
theorem new_hst (w : World) (rs : List Int) : Hst (w.alloc (.cells ((cW IV ++ cB (List.replicate 64 0)) ++ [Value.int .u64 0]).toArray 223)) w.heap.size rs IV [] := by
  have r := range_new w ((cW IV ++ cB (List.replicate 64 0)) ++ [Value.int .u64 0]) 223
  have q := there_new w ((cW IV ++ cB (List.replicate 64 0)) ++ [Value.int .u64 0]).toArray 223 73 (by simp [cW_len, cB_len, IV])
  refine ⟨IV, List.replicate 64 0, ⟨rfl, by simp, ?_, ?_, ?_, q⟩, rfl, rfl⟩
  · intro j v hv
    have hj : j < 8 := (List.getElem?_eq_some_iff.1 hv).1
    exact r j v (by rw [List.getElem?_append_left (by simp [cW_len, cB_len, IV]; omega), List.getElem?_append_left (by simp [cW_len, IV]; omega)]; exact hv)
  · intro j v hv
    have hj : j < 64 := by have := (List.getElem?_eq_some_iff.1 hv).1; simpa [cB_len] using this
    have := r (8 + j) v (by rw [List.getElem?_append_left (by simp [cW_len, cB_len, IV]; omega), List.getElem?_append_right (by simp [cW_len, IV])]; simpa [cW_len, IV] using hv)
    rwa [Nat.zero_add] at this
  · exact r 72 _ rfl
def newObj : Obj := .cells ((cW IV ++ cB (List.replicate 64 0)) ++ [Value.int .u64 0]).toArray 223
theorem new_obj (w : World) : Calls Tryz.prog 184 #[] w fun e w' => e = .returned (.pointer (some ⟨w.heap.size, 0, none⟩)) ∧ w' = w.alloc newObj := new_any w
def flat (ss : List ByteArray) : List Int := (ss.map tB).flatten
theorem flat_snoc (ss : List ByteArray) (k : Nat) (hk : k < ss.length) : flat (ss.take (k + 1)) = flat (ss.take k) ++ tB (ss.getD k ByteArray.empty) := by
  have e : ss.getD k ByteArray.empty = ss[k] := by rw [List.getD_eq_getElem?_getD, List.getElem?_eq_getElem hk]; rfl
  unfold flat
  rw [List.take_succ_eq_append_getElem hk, List.map_append, List.flatten_append, e]
  simp only [List.map_cons, List.map_nil, List.flatten_cons, List.flatten_nil, List.append_nil]
theorem flat_take_le (ss : List ByteArray) (k : Nat) : (flat (ss.take k)).length ≤ (flat ss).length := by
  have : flat ss = flat (ss.take k) ++ flat (ss.drop k) := by
    unfold flat
    rw [← List.flatten_append, ← List.map_append, List.take_append_drop]
  rw [this, List.length_append]; omega
set_option maxHeartbeats 2000000 in
set_option maxRecDepth 100000 in
theorem of_any (w : World) (ao : Option Addr) (b off len cap : Nat) (ss : List ByteArray) (hl : ss.length = len) (hao : 0 < len → ao = some ⟨b, off, none⟩) (hs : w.rangeAt b off (ss.map Value.string))
    (hmx : len ≤ 9223372036854775807) (rs : List Int) (hrl : rs.length = 64) (hr : w.rangeAt 2 0 (cW rs)) (hlen : (flat ss).length < 4611686018427387904) :
    Calls Tryz.prog 168 #[.slice ao len cap] w fun e w' => e = .returned (.string (shaS rs (flat ss))) ∧ Below w.heap.size w w' := by
  have h1w : 2 < w.heap.size := range_lt hr (by intro h; have := congrArg List.length h; simp [cW_len, hrl] at this)
  have hn0 : Hst (w.alloc newObj) w.heap.size rs IV [] := new_hst w rs
  have hb0 : Below w.heap.size w (w.alloc newObj) := (Below.refl _ _).alloc (Nat.le_refl _) _
  go_enter Tryz.func168, Tryz.ntmps168
  go_wp2_with (go_at_call 184; refine (new_obj _).mono ?_; rintro e w' ⟨rfl, rfl⟩)
  generalize w.alloc newObj = w1 at *
  go_loopg [9] len (fun g i wr => ∃ k : Nat, k ≤ len ∧ g = len - k ∧ i = .int .i64 k ∧ Hst wr w.heap.size rs IV (flat (ss.take k)) ∧ Below w.heap.size w wr)
  case atStart =>
    go_light
    exact ⟨0, Nat.zero_le _, rfl, rfl, hn0, hb0⟩
  case round =>
    clear hn0 hb0
    obtain ⟨k, hk, rfl, rfl, hh, hb⟩ := hrel
    have hrr : wr.rangeAt 2 0 (cW rs) := range_below hb h1w hr
    by_cases hlt : k < len
    · obtain rfl := hao (by omega)
      have hk' : k < ss.length := by omega
      have hbl : b < w.heap.size := range_lt hs (by intro h; have := congrArg List.length h; rw [List.length_map, List.length_nil] at this; omega)
      have ck : wr.cell? ⟨b, off + k, none⟩ = some (.string (ss.getD k ByteArray.empty)) := by
        rw [hb.cell (p := ⟨b, off + k, none⟩) hbl]
        exact hs k _ (by simp [List.getElem?_eq_getElem hk', List.getD_eq_getElem?_getD])
      have hz : (k : Int) < (len : Int) := by omega
      have hsz : (flat (ss.take (k + 1))).length ≤ (flat ss).length := flat_take_le _ _
      have hfs := flat_snoc ss k hk'
      have hln : (flat (ss.take k)).length + (ss.getD k ByteArray.empty).size < 4611686018427387904 := by
        rw [hfs, List.length_append, tB_len] at hsz; omega
      have hw := write_any wr w.heap.size rs IV (flat (ss.take k)) (ss.getD k ByteArray.empty) hrl hrr hh hln
      rw [← hfs] at hw
      have HB : Hid (Below w.heap.size w wr) := hb
      have HZ : Hid (w.heap.size ≤ wr.heap.size) := hb.size
      clear hfs hsz hln hh hb hs hao
      generalize ss.getD k ByteArray.empty = part at *
      go_wp2_with (go_at_call 185; refine hw.mono ?_; rintro e w' ⟨rfl, hh', hg'⟩)
      go_roundg (len - (k + 1))
      case rel =>
        go_light
        exact ⟨k + 1, by omega, rfl, by go_num, hh', HB.out.grown hg' HZ.out (fun j hj => by cases hj; exact Nat.le_refl _)⟩
      case measure => go_light; omega
    · obtain rfl : k = len := by omega
      have hz : ¬ (k : Int) < (k : Int) := by omega
      have hsum := sum_hst wr w.heap.size rs _ hh hrl hrr
      rw [List.take_of_length_le (by omega)] at hsum
      have HB : Hid (Below w.heap.size w wr) := hb
      have HZ : Hid (w.heap.size ≤ wr.heap.size) := hb.size
      clear hh hb
      go_wp2_with (go_at_call 186; refine hsum.mono ?_; rintro e w' ⟨rfl, hb'⟩)
      go_ret
      exact ⟨rfl, HB.out.trans (hb'.mono HZ.out)⟩
end Go.Proofs.YtdocjikpcbmcgaaGreatDoor
namespace Go.Proofs.YtdocjikpcbmcgaaGreatDoor
open Go.RowKit
def forceN {α : Type} (n : Nat) (k : Nat → α) : α :=
  match n with
  | 0 => k 0
  | m + 1 => k (m + 1)
theorem forceN_eq {α : Type} (n : Nat) (k : Nat → α) : forceN n k = k n := by cases n <;> rfl
def forceI {α : Type} (x : Int) (k : Int → α) : α :=
  match x with
  | .ofNat n => forceN n fun n => k (.ofNat n)
  | .negSucc n => forceN n fun n => k (.negSucc n)
theorem forceI_eq {α : Type} (x : Int) (k : Int → α) : forceI x k = k x := by
  cases x with
  | ofNat n => exact forceN_eq n fun n => k (.ofNat n)
  | negSucc n => exact forceN_eq n fun n => k (.negSucc n)
def forceL {α : Type} (l : List Int) (k : List Int → α) : α :=
  match l with
  | [] => k []
  | x :: r => forceI x fun x => forceL r fun r => k (x :: r)
theorem forceL_eq {α : Type} (l : List Int) (k : List Int → α) : forceL l k = k l := by
  induction l generalizing k with
  | nil => rfl
  | cons x r ih => rw [forceL, forceI_eq, ih]
def schGo : Nat → Nat → List Int → List Int
  | 0, _, l => l
  | f + 1, k, l => forceL (l ++ [nextI (l.getD k 0) (l.getD (k + 1) 0) (l.getD (k + 9) 0) (l.getD (k + 14) 0)]) fun l => schGo f (k + 1) l
theorem schGo_eq (blk : List Int) (f k : Nat) : schGo f k (schN blk k) = schN blk (k + f) := by
  induction f generalizing k with
  | zero => rfl
  | succ f ih =>
    rw [schGo, forceL_eq]
    have := ih (k + 1)
    rw [schN] at this
    rw [this, show k + 1 + f = k + (f + 1) by omega]
def rndGo (rs ws : List Int) : Nat → Nat → S8 → S8
  | 0, _, v => v
  | f + 1, k, ⟨a, b, c, d, e, g, h, i⟩ =>
    forceI (oneI e g h i (rs.getD k 0) (ws.getD k 0)) fun one => forceI (IntKind.u32.wrap (one + twoI a b c)) fun x => forceI (IntKind.u32.wrap (d + one)) fun y => rndGo rs ws f (k + 1) ⟨x, a, b, c, y, e, g, h⟩
theorem rndGo_eq (rs ws : List Int) (v : S8) (f k : Nat) : rndGo rs ws f k (rnds v rs ws k) = rnds v rs ws (k + f) := by
  induction f generalizing k with
  | zero => cases rnds v rs ws k; rfl
  | succ f ih =>
    have h := ih (k + 1)
    rw [rnds] at h
    rw [show k + (f + 1) = k + 1 + f by omega, ← h]
    cases rnds v rs ws k
    rw [rndGo, forceI_eq, forceI_eq, forceI_eq]
    rfl
def foldS (rs st blk : List Int) : List Int :=
  forceL blk fun blk => forceL (sch0 blk 16) fun l => forceL (schGo 48 0 l) fun ws => forceL (sumI (s8of st) (rndGo rs ws 64 0 (s8of st))) fun r => r
theorem foldS_eq (rs st blk : List Int) : foldS rs st blk = foldI rs st blk := by
  rw [foldS, forceL_eq, forceL_eq, forceL_eq, forceL_eq, foldI]
  have h1 := schGo_eq blk 48 0
  rw [Nat.zero_add] at h1
  have h2 := rndGo_eq rs (schN blk 48) (s8of st) 64 0
  rw [Nat.zero_add] at h2
  rw [← h2, ← h1]
  rfl
def closeS (rs st blk : List Int) (n : Nat) : List Int :=
  if 55 < n % 64 then foldS rs (foldS rs st (endL blk (n % 64))) (lenAt (List.replicate 64 0) (IntKind.u64.wrap ((n : Int) * 8)) 8)
  else foldS rs st (lenAt (endL blk (n % 64)) (IntKind.u64.wrap ((n : Int) * 8)) 8)
theorem closeS_eq (rs st blk : List Int) (n : Nat) : closeS rs st blk n = closeI rs st blk n := by
  unfold closeS closeI
  simp only [foldS_eq]
def shaE (rs t : List Int) : List Int := forceL (closeS rs IV (pad t) t.length) fun h => outB h 8
theorem shaE_eq (rs t : List Int) (h : t.length < 64) : shaE rs t = shaT rs t := by
  have e : t.length / 64 = 0 := by omega
  rw [shaE, forceL_eq, closeS_eq, shaT, e]
  rfl
def RS : List Int := [1116352408, 1899447441, 3049323471, 3921009573, 961987163, 1508970993, 2453635748, 2870763221, 3624381080, 310598401, 607225278, 1426881987, 1925078388, 2162078206, 2614888103, 3248222580, 3835390401, 4022224774, 264347078, 604807628, 770255983, 1249150122, 1555081692, 1996064986, 2554220882, 2821834349, 2952996808, 3210313671, 3336571891, 3584528711, 113926993, 338241895, 666307205, 773529912, 1294757372, 1396182291, 1695183700, 1986661051, 2177026350, 2456956037, 2730485921, 2820302411, 3259730800, 3345764771, 3516065817, 3600352804, 4094571909, 275423344, 430227734, 506948616, 659060556, 883997877, 958139571, 1322822218, 1537002063, 1747873779, 1955562222, 2024104815, 2227730452, 2361852424, 2428436474, 2756734187, 3204031479, 3329325298]
theorem RS_len : RS.length = 64 := rfl
end Go.Proofs.YtdocjikpcbmcgaaGreatDoor
namespace Go.Proofs.YtdocjikpcbmcgaaGreatDoor
open Go.RowKit
attribute [local go_sem ↓] Go.wp_at_zero Go.wp_at_succ
theorem bnext {w W w2 : World} (h : Below w.heap.size w W) (h2 : Below W.heap.size W w2) : Below w.heap.size w w2 := h.trans (h2.mono h.size)
theorem bal {w W : World} (h : Below w.heap.size w W) (o : Obj) : Below w.heap.size w (W.alloc o) := h.alloc h.size o
theorem below_drewN {B : Nat} {a w : World} (h : Below B a w) (n : Nat) : Below B a (w.drewN n) := ⟨h.os, h.tape, h.output, h.size, h.block⟩
theorem cW_ne {l : List Int} (h : 0 < l.length) : cW l ≠ [] := by
  intro e; have := congrArg List.length e; rw [cW_len, List.length_nil] at this; omega
structure Tb (w : World) : Prop where
  rs : w.rangeAt 2 0 (cW RS)
theorem Tb.next {w W : World} (h : Tb w) (hb : Below w.heap.size w W) : Tb W :=
  ⟨range_below hb (range_lt h.rs (cW_ne (by rw [RS_len]; decide))) h.rs⟩
def clk (k : Int) : Nat := if k < 1 then 1 else if 32 < k then 32 else k.toNat
theorem clk_ge (k : Int) : 1 ≤ clk k := by
  unfold clk
  split
  · omega
  · split <;> omega
theorem clk_le (k : Int) : clk k ≤ 32 := by
  unfold clk
  split
  · omega
  · split <;> omega
theorem bounded_any (w : World) (k : Int) (x : Int) (hx : (clk k : Int) = x) :
    Calls Tryz.prog 169 #[.int .i64 k] w fun e w' => e = .returned (.int .i64 x) ∧ w' = w := by
  subst hx
  unfold clk
  go_enter Tryz.func169, Tryz.ntmps169
  by_cases h1 : k < 1
  · have e1 : ¬ (1 ≤ k) := by omega
    rw [if_pos h1]
    clear h1
    go_wp2
    go_ret
    simp
  · by_cases h2 : 32 < k
    · have e1 : 1 ≤ k := by omega
      have e2 : ¬ (k ≤ 32) := by omega
      rw [if_neg h1, if_pos h2]
      clear h1 h2
      go_wp2
      go_ret
      simp
    · have e1 : 1 ≤ k := by omega
      have e2 : k ≤ 32 := by omega
      have e3 : (k.toNat : Int) = k := by omega
      rw [if_neg h1, if_neg h2, e3]
      clear h1 h2
      go_wp2
      go_ret
      simp
theorem one_size (x : Int) : (strB [x]).size = 1 := rfl
theorem conv_one (w : World) (x : Int) : (convert 95 9 (.slice (some ⟨w.heap.size, 0, none⟩) 1 1)).run Tryz.prog (w.alloc (.cells #[.int .u8 x] 5)) = .ok (.string (strB [x])) (w.alloc (.cells #[.int .u8 x] 5)) :=
  conv_str _ _ [x] 1 rfl (range_new w (cB [x]) 5)
theorem strB_size (l : List Int) : (strB l).size = l.length := by
  have : ∀ (l : List Int) (r : ByteArray), (l.foldl (fun r n => r.push (UInt8.ofNat n.toNat)) r).size = r.size + l.length := by
    intro l
    induction l with
    | nil => intro r; rfl
    | cons x t ih => intro r; rw [List.foldl_cons, ih, ByteArray.size_push, List.length_cons]; omega
  rw [strB, this]; simp
theorem shaS_size (rs t : List Int) : (shaS rs t).size = 32 := by rw [shaS, strB_size, shaT, outB_len]
def leafT (s : ByteArray) : ByteArray := strB [0] ++ s
def nodeT (a b : ByteArray) : ByteArray := (strB [1] ++ a) ++ b
def bagT (a b : ByteArray) : ByteArray := (strB [2] ++ a) ++ b
theorem leafT_size (s : ByteArray) : (leafT s).size = 1 + s.size := by rw [leafT, ByteArray.size_append, one_size]
theorem nodeT_size (a b : ByteArray) : (nodeT a b).size = 1 + a.size + b.size := by rw [nodeT, ByteArray.size_append, ByteArray.size_append, one_size]
theorem bagT_size (a b : ByteArray) : (bagT a b).size = 1 + a.size + b.size := by rw [bagT, ByteArray.size_append, ByteArray.size_append, one_size]
def dg (c : Nat) (t : ByteArray) : ByteArray := (shaS RS (tB t)).extract 0 c
theorem dg_size {c : Nat} (hc : c ≤ 32) (t : ByteArray) : (dg c t).size = c := by
  rw [dg, ByteArray.size_extract, shaS_size]; omega
theorem sha_one (w : World) (ht : Tb w) (t : ByteArray) (hs : t.size < 4611686018427387904) :
    Calls Tryz.prog 168 #[.slice (some ⟨w.heap.size, 0, none⟩) 1 1] (w.alloc (.cells #[.string t] 9)) fun e w' => e = .returned (.string (shaS RS (tB t))) ∧ Below w.heap.size w w' := by
  have e : flat [t] = tB t := by simp [flat]
  refine (of_any _ (some ⟨w.heap.size, 0, none⟩) w.heap.size 0 1 1 [t] rfl (fun _ => rfl) (range_new w [.string t] 9) (by decide) RS RS_len (World.rangeAt_alloc ht.rs _) (by rw [e, tB_len]; exact hs)).mono fun e' w' ⟨he, hb'⟩ => ⟨?_, ?_⟩
  · rw [he, e]
  · exact ((Below.refl _ _).alloc (Nat.le_refl _) _).trans (hb'.mono (by simp))
set_option maxRecDepth 100000 in
theorem hof_any (w : World) (ht : Tb w) (k : Int) (t : ByteArray) (hs : t.size < 4611686018427387904) (r : ByteArray) (hr : dg (clk k) t = r) :
    Calls Tryz.prog 126 #[.int .i64 k, .string t] w fun e w' => e = .returned (.string r) ∧ Below w.heap.size w w' := by
  subst hr
  have HS := sha_one w ht t hs
  unfold dg
  have hz := shaS_size RS (tB t)
  generalize shaS RS (tB t) = z at *
  have c1 := clk_ge k
  have c2 := clk_le k
  have HC := fun W => bounded_any W k (clk k) rfl
  generalize clk k = c at *
  have h1 : (0 : Int) ≤ (c : Int) := by omega
  have h2 : (c : Int) ≤ 32 := by omega
  clear ht hs c1
  go_enter Tryz.func126, Tryz.ntmps126
  go_wp2_with (first
    | (go_at_call 168; with_reducible refine HS.mono ?_; rintro e w1 ⟨rfl, hb1⟩)
    | (go_at_call 169; with_reducible refine (HC _).mono ?_; rintro e w2 ⟨rfl, rfl⟩))
  go_ret
  exact ⟨rfl, hb1⟩
set_option maxRecDepth 100000 in
theorem leaft_any (w : World) (s : ByteArray) (hs : s.size < 2305843009213693952) :
    Calls Tryz.prog 164 #[.string s] w fun e w' => e = .returned (.string (leafT s)) ∧ Below w.heap.size w w' := by
  have cv := conv_one w 0
  unfold leafT
  have hz := one_size 0
  generalize strB [0] = z at *
  have hns : ¬ (9223372036854775807 < 1 + s.size) := by omega
  go_enter Tryz.func164, Tryz.ntmps164
  go_wp2
  go_ret
  exact ⟨rfl, bal (Below.refl _ _) _⟩
set_option maxRecDepth 100000 in
theorem nodet_any (w : World) (a b : ByteArray) (hs : a.size < 2305843009213693952) (hs2 : b.size < 2305843009213693952) :
    Calls Tryz.prog 128 #[.string a, .string b] w fun e w' => e = .returned (.string (nodeT a b)) ∧ Below w.heap.size w w' := by
  have cv := conv_one w 1
  unfold nodeT
  have hz := one_size 1
  generalize strB [1] = z at *
  have hns : ¬ (9223372036854775807 < 1 + a.size) := by omega
  have hns2 : ¬ (9223372036854775807 < 1 + a.size + b.size) := by omega
  go_enter Tryz.func128, Tryz.ntmps128
  go_wp2
  go_ret
  exact ⟨rfl, bal (Below.refl _ _) _⟩
set_option maxRecDepth 100000 in
theorem bagt_any (w : World) (a b : ByteArray) (hs : a.size < 2305843009213693952) (hs2 : b.size < 2305843009213693952) (r : ByteArray) (hr : bagT a b = r) :
    Calls Tryz.prog 127 #[.string a, .string b] w fun e w' => e = .returned (.string r) ∧ Below w.heap.size w w' := by
  subst hr
  have cv := conv_one w 2
  unfold bagT
  have hz := one_size 2
  generalize strB [2] = z at *
  have hns : ¬ (9223372036854775807 < 1 + a.size) := by omega
  have hns2 : ¬ (9223372036854775807 < 1 + a.size + b.size) := by omega
  go_enter Tryz.func127, Tryz.ntmps127
  go_wp2
  go_ret
  exact ⟨rfl, bal (Below.refl _ _) _⟩
def chk (k : Int) : Int := if k < 1 ∨ 32 < k then 70 else 0
theorem check_any (w : World) (k : Int) : Calls Tryz.prog 61 #[.int .i64 k] w fun e w' => e = .returned (.int .i64 (chk k)) ∧ w' = w := by
  unfold chk
  go_enter Tryz.func61, Tryz.ntmps61
  by_cases h1 : k < 1
  · rw [if_pos (.inl h1)]
    go_wp2
    go_ret
    simp
  · by_cases h2 : 32 < k
    · rw [if_pos (.inr h2)]
      go_wp2
      go_ret
      simp
    · rw [if_neg (by omega)]
      go_wp2
      go_ret
      simp
end Go.Proofs.YtdocjikpcbmcgaaGreatDoor
namespace Go.Proofs.YtdocjikpcbmcgaaGreatDoor
open Go.RowKit
attribute [local go_sem ↓] Go.wp_at_zero Go.wp_at_succ
theorem hide {p : Prop} (h : p) : Hid p := h
theorem Tryz.infoI : (Tryz.prog.info? 5).map (fun i => (i.zero, i.size, i.bytes)) = some (some (.int .u8 0), 1, 1) := by kernel_rfl
def OwnI (w : World) (B : Nat) (v : Value) (l : List Int) : Prop := w.ownsRow B 5 1 v l.length (cB l)
theorem owni_conv {w : World} {B : Nat} {v : Value} {l : List Int} (h : OwnI w B v l) (h0 : 0 < l.length) : (convert 95 9 v).run Tryz.prog w = .ok (.string (strB l)) w := by
  have hc := fun g => h.cells (g := g)
  obtain ⟨h1, h2⟩ := h
  rcases h2 with ⟨rfl, h2⟩ | ⟨g, cap, cur, rfl, hg, hh, r⟩
  · omega
  · rw [run_convert_bytes_string w 95 9 5 _ _ _ Tryz.underlying95 Tryz.underlying5 Tryz.underlying9]
    refine run_bytesToString w ⟨g, 0, none⟩ l.length cap l ?_
    have := run_loadCells_list (P := Tryz.prog) w ⟨g, 0, none⟩ (cB l) (fun j v hv => hc g rfl j v hv)
    rwa [cB_len] at this
theorem owni_own {w : World} {B : Nat} {v : Value} {l : List Int} (h : OwnI w B v l) : ∀ k, v.ownBlock = some k → B ≤ k := by
  obtain ⟨_, h2⟩ := h
  rcases h2 with ⟨rfl, _⟩ | ⟨g, cp, cur, rfl, hg, _⟩
  · intro k hk; cases hk
  · intro k hk; cases hk; exact hg
theorem owni_new (w : World) (x : Int) : OwnI (w.alloc (.cells #[.int .u8 x] 5)) w.heap.size (.slice (some ⟨w.heap.size, 0, none⟩) 1 1) [x] :=
  ⟨rfl, .inr ⟨w.heap.size, 1, #[.int .u8 x], rfl, Nat.le_refl _, heap_alloc_new w _, Nat.le_refl _, by unfold maxLen; omega, rfl, rfl⟩⟩
theorem wpList_append_I (w : World) {ops : Array Oper} {rest : List Oper} {o : Oper} {a : Act} {Q : Exit → Act → World → Prop}
    (hg : o.guard = none) (s x : Operand) (hop : o.op = Op.call { callee := Callee.builtin Builtin.append, args := #[s, x], argTypes := #[95, 95] })
    (B : Nat) (v : Value) (L : List Int) (hs : a.eval s = v) (hown : OwnI w B v L) (y : Int) (hx : a.eval x = .slice (some ⟨w.heap.size, 0, none⟩) 1 1)
    (hlen : L.length ≤ 1000) (hB : B ≤ w.heap.size)
    (hK : ∀ v' w', OwnI w' B v' (L ++ [y]) → Below B w w' → wpList Tryz.prog ops Q rest (a.put o.dst v') w') : wpList Tryz.prog ops Q (o :: rest) a (w.alloc (.cells #[.int .u8 y] 5)) := by
  obtain ⟨i0, hi, hz0, hz1, hz2⟩ := info_parts Tryz.infoI
  refine wpList_append_own _ hg s x _ hop B 5 i0 (.int .u8 0) 1 1 Tryz.underlying95 hi hz0 hz1 hz2 rfl (by decide) _ _ _ hs (World.ownsRow.alloc hown _) ⟨w.heap.size, 0, none⟩ 1 1 (cB [y]) hx (by simp [cB]) ?_ (by intro u hu; simp [cB] at hu; subst hu; rfl) (by unfold maxLen; omega) (by omega) (by simp; omega) ?_
  · intro j u hu
    have hj : j = 0 := by have := (List.getElem?_eq_some_iff.1 hu).1; simp [cB] at this; exact this
    subst hj
    have hu' : Value.int .u8 y = u := Option.some.inj hu
    subst hu'
    rw [Addr.add_mid, World.cell?_alloc_new]
    rfl
  · intro v' w' h1 h2 _
    refine hK v' w' ?_ (((Below.refl _ _).alloc hB _).trans ((Below.refl _ _).grown h2 (by simp; omega) (owni_own hown)))
    rw [OwnI, List.length_append, cB, List.map_append]; exact h1
def nbL (n : Nat) (j : Nat) : List Int := (List.range j).map fun i => ((n / 256 ^ (7 - i) % 256 : Nat) : Int)
theorem nbL_len (n j : Nat) : (nbL n j).length = j := by simp [nbL]
theorem nbL_succ (n j : Nat) : nbL n (j + 1) = nbL n j ++ [((n / 256 ^ (7 - j) % 256 : Nat) : Int)] := by
  simp [nbL, List.range_succ]
theorem shr_byte (n k : Nat) : (n : Int) / 2 ^ (8 * (7 - k)) % 256 = ((n / 256 ^ (7 - k) % 256 : Nat) : Int) := by
  rw [Int.natCast_emod, Int.natCast_ediv, Int.natCast_pow, Int.pow_mul]
  rfl
def rootH (n : Nat) : List Int := 3 :: nbL n 8
def rootT (n : Nat) (d : ByteArray) : ByteArray := strB (rootH n) ++ d
theorem rootH_size (n : Nat) : (strB (rootH n)).size = 9 := by rw [strB_size, rootH, List.length_cons, nbL_len]
theorem rootT_size (n : Nat) (d : ByteArray) : (rootT n d).size = 9 + d.size := by rw [rootT, ByteArray.size_append, rootH_size]
set_option maxRecDepth 100000 in
theorem roott_any (w : World) (n : Nat) (d : ByteArray) (hs : d.size < 2305843009213693952) (r : ByteArray) (hr : rootT n d = r) :
    Calls Tryz.prog 71 #[.int .u64 (n : Int), .string d] w fun e w' => e = .returned (.string r) ∧ Below w.heap.size w w' := by
  subst hr
  have hns : ¬ (9223372036854775807 < 9 + d.size) := by omega
  have HS := rootH_size n
  unfold rootT
  obtain ⟨z, HE⟩ : ∃ z, Hid (strB (rootH n) = z) := ⟨_, rfl⟩
  rw [HE.out] at HS ⊢
  go_enter Tryz.func71, Tryz.ntmps71
  go_wp2
  go_loopg [5, 8] 8 (fun g v i wr => ∃ k : Nat, k ≤ 8 ∧ g = 8 - k ∧ i = .int .i64 (k : Int) ∧ OwnI wr w.heap.size v (3 :: nbL n k) ∧ Below w.heap.size w wr)
  case atStart =>
    go_light
    exact ⟨0, Nat.zero_le _, rfl, rfl, owni_new w 3, bal (Below.refl _ _) _⟩
  case round =>
    obtain ⟨k, hk, rfl, rfl, hown, hb⟩ := hrel
    by_cases hlt : k < 8
    · have hz : (k : Int) < 8 := by omega
      have HZ : Hid (w.heap.size ≤ wr.heap.size) := hb.size
      have HL : Hid ((3 :: nbL n k).length ≤ 1000) := by show _ ≤ _; rw [List.length_cons, nbL_len]; omega
      have HN := hide (nbL_succ n k)
      go_wp2_with (at_builtin; refine wpList_append_I _ rfl _ _ rfl w.heap.size _ (3 :: nbL n k) rfl hown _ rfl HL.out HZ.out ?_)
      intro v' w2 r1 r2
      have HO : Hid (OwnI w2 w.heap.size v' (3 :: nbL n (k + 1))) := by
        show OwnI _ _ _ _
        rw [HN.out, ← shr_byte n k]
        exact r1
      have HB : Hid (Below w.heap.size w w2) := hb.trans r2
      clear r1 r2 hb hown HN
      go_wp2
      go_roundg (8 - (k + 1))
      case rel =>
        go_light
        exact ⟨k + 1, by omega, rfl, by go_num, HO.out, HB.out⟩
      case measure => go_light; omega
    · obtain rfl : k = 8 := by omega
      have hcv := owni_conv hown (by simp)
      have HB : Hid (Below w.heap.size w wr) := hb
      clear hown hb hlt hk
      rw [show (3 :: nbL n 8) = rootH n from rfl, HE.out] at hcv
      go_wp2
      go_ret
      exact ⟨rfl, HB.out⟩
end Go.Proofs.YtdocjikpcbmcgaaGreatDoor
