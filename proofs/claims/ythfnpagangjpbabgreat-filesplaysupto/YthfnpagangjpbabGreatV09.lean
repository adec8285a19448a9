/-
  Own work: DSort, DNames.
-/
import Derived.Shelf.Sort.Plain
import Derived.Shelf.Slices.In.SortNone
import Derived.Test.YthfnpagangjpbabGreatProg
import Derived.Sort.OwnSorted
import Derived.Maps.RangeWalk
import Derived.Deep.LoopGhost
import Derived.Deep.Light
import Derived.Test.YthfnpagangjpbabGreatV08
namespace Go.Proofs.YthfnpagangjpbabGreat
open Go.Shelf
def Tryz.lays190_ren : Go.Shelf.Ren := ⟨fun | 190 => 148 | 125 => 156 | 258 => 155 | 128 => 169 | 129 => 170 | 302 => 160 | 303 => 161 | 304 => 162 | 305 => 163 | 306 => 164 | 307 => 165 | 308 => 166 | 309 => 167 | 310 => 168 | 333 => 171 | 329 => 172 | 330 => 173 | 334 => 174 | 335 => 175 | 336 => 176 | 344 => 177 | n => n, fun | 31 => 48 | 9 => 9 | 3 => 3 | 46 => 128 | 0 => 0 | 51 => 78 | 53 => 39 | 4 => 4 | 183 => 202 | 182 => 201 | 131 => 206 | 5 => 5 | 218 => 209 | 222 => 212 | 228 => 214 | 229 => 215 | n => n, fun | n => n⟩
theorem Tryz.lays190 : Go.Proofs.Lays.n190 Tryz.prog Tryz.lays190_ren := {
  mixed := by kernel_rfl
  f125 := Tryz.func156.trans (congrArg some (by kernel_rfl))
  f128 := Tryz.func169.trans (congrArg some (by kernel_rfl))
  f129 := Tryz.func170.trans (congrArg some (by kernel_rfl))
  f190 := Tryz.func148.trans (congrArg some (by kernel_rfl))
  f258 := Tryz.func155.trans (congrArg some (by kernel_rfl))
  f302 := Tryz.func160.trans (congrArg some (by kernel_rfl))
  f303 := Tryz.func161.trans (congrArg some (by kernel_rfl))
  f304 := Tryz.func162.trans (congrArg some (by kernel_rfl))
  f305 := Tryz.func163.trans (congrArg some (by kernel_rfl))
  f306 := Tryz.func164.trans (congrArg some (by kernel_rfl))
  f307 := Tryz.func165.trans (congrArg some (by kernel_rfl))
  f308 := Tryz.func166.trans (congrArg some (by kernel_rfl))
  f309 := Tryz.func167.trans (congrArg some (by kernel_rfl))
  f310 := Tryz.func168.trans (congrArg some (by kernel_rfl))
  f329 := Tryz.func172.trans (congrArg some (by kernel_rfl))
  f330 := Tryz.func173.trans (congrArg some (by kernel_rfl))
  f333 := Tryz.func171.trans (congrArg some (by kernel_rfl))
  f334 := Tryz.func174.trans (congrArg some (by kernel_rfl))
  f335 := Tryz.func175.trans (congrArg some (by kernel_rfl))
  f336 := Tryz.func176.trans (congrArg some (by kernel_rfl))
  f344 := Tryz.func177.trans (congrArg some (by kernel_rfl))
  t0 := Tryz.underlying0
  a0 := Tryz.isAgg0
  z0 := Tryz.sizeOf0
  v0 := Tryz.zeroValue0
  t3 := Tryz.underlying3
  a3 := Tryz.isAgg3
  z3 := Tryz.sizeOf3
  v3 := Tryz.zeroValue3
  t4 := Tryz.underlying4
  a4 := Tryz.isAgg4
  z4 := Tryz.sizeOf4
  v4 := Tryz.zeroValue4
  t5 := Tryz.underlying5
  a5 := Tryz.isAgg5
  z5 := Tryz.sizeOf5
  v5 := Tryz.zeroValue5
  t9 := Tryz.underlying9
  a9 := Tryz.isAgg9
  z9 := Tryz.sizeOf9
  v9 := Tryz.zeroValue9
  t31 := Tryz.underlying48
  a31 := Tryz.isAgg48
  z31 := Tryz.sizeOf48
  v31 := Tryz.zeroValue48
  t46 := Tryz.underlying128
  a46 := Tryz.isAgg128
  z46 := Tryz.sizeOf128
  v46 := Tryz.zeroValue128
  t51 := Tryz.underlying78
  a51 := Tryz.isAgg78
  z51 := Tryz.sizeOf78
  v51 := Tryz.zeroValue78
  t53 := Tryz.underlying39
  a53 := Tryz.isAgg39
  z53 := Tryz.sizeOf39
  v53 := Tryz.zeroValue39
  t131 := Tryz.underlying206
  a131 := Tryz.isAgg206
  z131 := Tryz.sizeOf206
  v131 := Tryz.zeroValue206
  t182 := Tryz.underlying201
  a182 := Tryz.isAgg201
  z182 := Tryz.sizeOf201
  v182 := Tryz.zeroValue201
  t183 := Tryz.underlying202
  a183 := Tryz.isAgg202
  z183 := Tryz.sizeOf202
  v183 := Tryz.zeroValue202
  t218 := Tryz.underlying209
  a218 := Tryz.isAgg209
  z218 := Tryz.sizeOf209
  v218 := Tryz.zeroValue209
  t222 := Tryz.underlying212
  a222 := Tryz.isAgg212
  z222 := Tryz.sizeOf212
  v222 := Tryz.zeroValue212
  t228 := Tryz.underlying214
  a228 := Tryz.isAgg214
  z228 := Tryz.sizeOf214
  v228 := Tryz.zeroValue214
  t229 := Tryz.underlying215
  a229 := Tryz.isAgg215
  z229 := Tryz.sizeOf215
  v229 := Tryz.zeroValue215 }
open Go.Sort Go.RowKit in
theorem Tryz.slices_Sort_string (blk off cap : Nat) (ss : List (List UInt8)) (w : World) (hH : Holds encStr w blk off ss.toArray) (hblk : blk < w.heap.size) (hsz : ss.length < 4611686018427387904) :
    Calls Tryz.prog 148 #[.slice (some ⟨blk, off, none⟩) ss.length cap] w fun e w' =>
      e = .returned (.tuple #[]) ∧ ∃ n os, w' = grow (putRow encStr (Sort.ahead w n) blk off (ss.mergeSort fun x y => decide (x ≤ y)).toArray) os := Any.slices_Sort_string Tryz.lays190 blk off cap ss w hH hblk hsz
open Go.RowKit Go.Sort in
theorem Tryz.slices_Sort_string_none (p : Option Addr) (cap : Nat) (w : World) :
    Calls Tryz.prog 148 #[.slice p 0 cap] w fun e w' => e = .returned (.tuple #[]) ∧ w' = w := Any.slices_Sort_string_none Tryz.lays190 p cap w
end Go.Proofs.YthfnpagangjpbabGreat
namespace Go.Proofs.YthfnpagangjpbabGreat
open Go.RowKit Go.Maps Go.Sort
structure RdN (w : World) (ao : Option Addr) (b : Nat) (N : List (List UInt8)) : Prop where
  ptr : 0 < N.length → ao = some ⟨b, 0, none⟩
  cell : ∀ j, j < N.length → w.cell? ⟨b, j, none⟩ = some (.string ⟨(N.getD j []).toArray⟩)
theorem RdN.same {w W : World} {ao : Option Addr} {b : Nat} {N : List (List UInt8)} (h : RdN w ao b N) (hb : 0 < N.length → W.heap[b]? = w.heap[b]?) : RdN W ao b N :=
  ⟨h.ptr, fun j hj => (World.cell?_of_block (a := ⟨b, j, none⟩) (hb (by omega))).trans (h.cell j hj)⟩
theorem RdN.lt {w : World} {ao : Option Addr} {b : Nat} {N : List (List UInt8)} (h : RdN w ao b N) (h0 : 0 < N.length) : b < w.heap.size := World.block_lt_of_cell? w _ (h.cell 0 h0)
theorem RdN.next {w W : World} {ao : Option Addr} {b : Nat} {N : List (List UInt8)} (h : RdN w ao b N) (hb : Below w.heap.size w W) : RdN W ao b N := h.same fun h0 => hb.block b (h.lt h0)
theorem Tryz.infoS : (Tryz.prog.info? 9).map (fun i => (i.zero, i.size, i.bytes)) = some (some (.string ⟨#[]⟩), 1, 16) := by kernel_rfl
theorem sort_keys {L : List (List UInt8 × FV)} (h : Ord L) {ss : List (List UInt8)} (hp : ss.Perm (keys L)) : ss.mergeSort (fun x y => decide (x ≤ y)) = keys L := by
  have e : ss.mergeSort leB = (keys L).mergeSort leB := mergeSort_of_perm hp
  rw [show (fun x y : List UInt8 => decide (x ≤ y)) = leB from rfl, e]
  refine List.mergeSort_of_pairwise ?_
  refine List.pairwise_map.2 (h.1.imp fun {a b} hlt => ?_)
  simp only [leB, decide_eq_true_eq]
  exact List.le_of_lt hlt
theorem rdn_of {w : World} {B g cap : Nat} {N : List (List UInt8)} (h : w.ownsRow B 9 1 (.slice (some ⟨g, 0, none⟩) N.length cap) N.length (N.map encStr)) : RdN w (some ⟨g, 0, none⟩) g N := by
  refine ⟨fun _ => rfl, fun j hj => ?_⟩
  rcases h.2 with ⟨e, _⟩ | ⟨g', cap', cur, e, _, hb, h1, h2, h3, h4⟩
  · cases e
  · cases e
    rw [cell_of_row w g j cur _ (0, 0) hb]
    have := congrArg (fun l => l[j]?) h4
    simp only [Nat.mul_one, List.getElem?_take, if_pos hj] at this
    rw [Array.getElem?_toList] at this
    rw [this]
    simp [encStr, List.getElem?_eq_getElem hj, List.getD_eq_getElem?_getD]
set_option maxRecDepth 100000 in
set_option maxHeartbeats 1000000 in
theorem names_any (w : World) {p m : Nat} {R : List UInt8 → FR} {ka : Option Addr} {kb ko kc : Nat} {D : DV} (h : Dk w p m R ka kb ko kc D none) :
    Calls Tryz.prog 129 #[.pointer (some ⟨p, 0, none⟩)] w fun e w' => ∃ ao b cap, e = .returned (.slice ao (keys D.L).length cap) ∧ RdN w' ao b (keys D.L) ∧ (0 < (keys D.L).length → w.heap.size ≤ b ∧ Ty w' b 9) ∧ RowKit.Below w.heap.size w w' := by
  obtain ⟨i0, hi, hz0, hz1, hz2⟩ := info_parts Tryz.infoS
  obtain ⟨D0, hown, hsz, hperm⟩ := h.mp.perm (keys_nodup h.ord) (keys_map D.L R)
  obtain ⟨c0, c1, c2, c3, c4, c5, c6⟩ := h.cells
  have hbl := hown.lt
  have hcnt : Maps.size D0 ≤ 1099511627776 := by rw [hsz]; simp only [keys, List.length_map]; exact h.cnt
  have HO : Hid (Ord D.L) := h.ord
  have HP : Hid ((keys D.L).Perm (strKeys D0)) := hperm
  obtain ⟨n, hn⟩ : ∃ n, (keys D.L).length = n := ⟨_, rfl⟩
  have HN : Hid ((keys D.L).length = n) := hn
  rw [hn] at hown hsz ⊢
  clear h hperm hn c0 c2 c3 c4 c5 c6
  go_enter Tryz.func129, Tryz.ntmps129
  go_wp2_with (first
    | (at_range; refine wpList_range_own _ rfl _ 66 rfl 9 113 Tryz.keyS Tryz.underlying66 hv m n D0 rfl hown ?_; intro w0 hrg0 hg0 hs0)
    | go_in)
  go_frame
  have HS0 : Hid (w0.heap.size = w.heap.size + 1) := hs0
  clear hs0
  go_loopw [3] (fun v wr => ∃ (left : Lit → Bool) (cnt : Nat) (ss : List (List UInt8)), wr.ranges Tryz.prog 9 hv m w.heap.size n D0 left cnt ∧ ss.length + cnt ≤ Maps.size D0 ∧
      wr.ownsRow w.heap.size 9 1 v ss.length (ss.map encStr) ∧ (v = .slice none 0 0 → ss = []) ∧ Collected D0 left ss ∧ RowKit.Below w.heap.size w wr)
    (fun _ wr => wr.rangeLeft m w.heap.size)
  case atStart =>
    exact ⟨_, _, [], hrg0, by simp, ⟨rfl, .inl ⟨rfl, rfl⟩⟩, fun _ => rfl, Collected.start D0, (Below.refl _ _).grown hg0 (Nat.le_refl _) (fun j hj => by cases hj)⟩
  case round =>
    obtain ⟨left, cnt, ss, hrg, hcs, hrow, hnn, hC, hnx⟩ := hrel
    go_wp2_with (first
      | (at_next; refine wpList_next_ranges _ rfl _ rfl 9 Tryz.keyS hv encStr (fun v : Value => v) (fun key kl hk => by obtain ⟨x, hx, _⟩ := Maps.keyOf_str Tryz.underlying9 hk; exact ⟨x, hx⟩) (fun v y _ => ⟨v, rfl⟩) m w.heap.size n _ _ _ rfl hrg ?_ ?_)
      | go_in)
    · intro hc0 hl0
      have hperm : ss.Perm (keys D.L) := (hC.perm hown Tryz.keyS Tryz.underlying9 hl0).trans HP.out.symm
      have hlen : ss.length = n := by rw [hperm.length_eq]; exact HN.out
      have hsort := sort_keys HO.out hperm
      rcases hrow.2 with ⟨hnil, _⟩ | ⟨g, cap, cur, rfl, hbase, hb, h1, h2, h3, h4⟩
      · have hss := hnn hnil
        subst hnil hss
        have hn0 : n = 0 := by simpa using hlen.symm
        subst hn0
        have HC := Tryz.slices_Sort_string_none none 0 wr
        have HK : Hid (keys D.L = []) := List.length_eq_zero_iff.1 HN.out
        clear hsort hperm hlen
        go_wp2_with (go_at_call 148; refine HC.mono ?_; rintro e w' ⟨rfl, rfl⟩)
        go_ret
        exact ⟨none, 0, 0, rfl, by rw [HK.out]; exact ⟨fun h => by simp at h, fun j hj => by simp at hj⟩, by intro h; simp at h, hnx⟩
      · have hH : Holds encStr wr g 0 ss.toArray := holds_of_block hb (by simpa using h4)
        have hgl : g < wr.heap.size := (Array.getElem?_eq_some_iff.1 hb).1
        have hc := Tryz.slices_Sort_string g 0 cap ss wr hH hgl (by omega)
        have HF : Hid (∀ nn os, RdN (grow (putRow encStr (Sort.ahead wr nn) g 0 (ss.mergeSort fun x y => decide (x ≤ y)).toArray) os) (some ⟨g, 0, none⟩) g (keys D.L) ∧ (0 < (keys D.L).length → w.heap.size ≤ g ∧ Ty (grow (putRow encStr (Sort.ahead wr nn) g 0 (ss.mergeSort fun x y => decide (x ≤ y)).toArray) os) g 9) ∧ RowKit.Below w.heap.size w (grow (putRow encStr (Sort.ahead wr nn) g 0 (ss.mergeSort fun x y => decide (x ≤ y)).toArray) os)) := fun nn os => by
          have q := ownsRow_sorted (n := nn) (os := os) (ss := ss) (ts := ss.mergeSort fun x y => decide (x ≤ y)) (by simp) hbase hb h1 h2 h3
          have q2 := hnx.grown (grownBy_sorted (n := nn) (os := os) (ss.mergeSort fun x y => decide (x ≤ y)).toArray) hnx.size (fun j hj => by cases hj; exact hbase)
          rw [hsort] at q q2 ⊢
          rw [hlen, ← HN.out] at q
          have hty : Ty (grow (putRow encStr (Sort.ahead wr nn) g 0 (keys D.L).toArray) os) g 9 := by
            rcases q.2 with ⟨e, _⟩ | ⟨g', cap', cur', e, _, hb', _⟩
            · cases e
            · cases e; exact ⟨_, _, hb'⟩
          exact ⟨rdn_of q, fun _ => ⟨hbase, hty⟩, q2⟩
        rw [hlen] at hc ⊢
        clear hsort hperm hH hgl h1 h2 h3 h4 hb hlen
        go_wp2_with (go_at_call 148; refine hc.mono ?_; rintro e w' ⟨rfl, nn, os, rfl⟩)
        go_ret
        exact ⟨_, g, cap, rfl, by have := HF.out nn os; rw [HN.out] at this; exact this⟩
    · intro x c kl yd yp w2 cnt2 hkey hlk hv' hat hrg2 hlt hg2 hs2 hen
      obtain ⟨x', ex, rfl, _⟩ := Maps.keyOf_str Tryz.underlying9 hkey
      obtain rfl : x = x' := encStr_inj ex
      have hrow2 := hrow.kept hg2 (Or.inr (row_ne_iter hrow hrg).symm)
      clear hs2
      go_wp2_with (first
        | (at_builtin; refine wpList_append_own _ rfl _ _ 48 rfl w.heap.size 9 i0 (.string ⟨#[]⟩) 1 16 Tryz.underlying48 hi hz0 hz1 hz2 rfl (by decide) _ _ _ rfl (hrow2.alloc _) ⟨w2.heap.size, 0, none⟩ 1 1 [encStr x] rfl rfl (cell_one_new _ _ _) (by simp [Value.oneCell', encStr]) (by unfold maxLen at *; omega) (by omega) (by have := hnx.size; have := hg2.size; simp; omega) ?_; intro v' w3 hown' hg3 hnil3; go_frame)
        | go_in)
      have hrg3 := (hrg2.alloc _).kept hg3 (row_ne_low hrow2 hbl) (row_ne_iter hrow2 hrg2)
      go_roundw
      case rel =>
        refine ⟨_, cnt2, ss ++ [x], hrg3, by simp; omega, by simpa using hown', fun hv' => by have := (hnil3.1 hv').2; omega, hC.step hlk hat, ?_⟩
        exact ((hnx.grown hg2 hnx.size (fun j hj => by cases hj; exact Nat.le_refl _)).alloc (by have := hnx.size; have := hg2.size; omega) _).grown hg3 (by have := hnx.size; have := hg2.size; simp; omega) (fun j hj => (hrow2.lt j hj).1)
      case measure => rw [hrg3.left_eq, hrg.left_eq]; exact hlt
end Go.Proofs.YthfnpagangjpbabGreat
