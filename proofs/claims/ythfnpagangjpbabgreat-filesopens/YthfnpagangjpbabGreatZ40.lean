/-
  DCan, DOpen, DFt. Own work.
-/
import Derived.Test.YthfnpagangjpbabGreatZ16
/-
  canLie. Own work.
-/
namespace Go.Proofs.YthfnpagangjpbabGreat
open Go.RowKit
/-- The names. -/
def nms (l : List (List UInt8 × List UInt8)) : List (List UInt8) := l.map (·.1)
/-- What the map of names holds. -/
def nmF (N : List (List UInt8)) : List UInt8 → Option Value := fun s => if s ∈ N then some (.agg #[]) else none
theorem nmF_upd (N : List (List UInt8)) (s : List UInt8) : updF (nmF N) s (some (.agg #[])) = nmF (N ++ [s]) := by
  funext t
  simp only [updF, nmF, List.mem_append, List.mem_singleton]
  by_cases e : t = s
  · simp [e]
  · simp [e]
theorem nmF_in (N : List (List UInt8)) (s : List UInt8) : s ∈ N ↔ (nmF N s).isSome = true := by
  unfold nmF
  split <;> simp [*]
/-- Each has a name of its own, none is too long. -/
def canL (l : List (List UInt8 × List UInt8)) : Prop := (nms l).Nodup ∧ ∀ x ∈ l, x.2.length ≤ 268435456
theorem nms_take {l : List (List UInt8 × List UInt8)} {j : Nat} {x : List UInt8 × List UInt8} (h : l.take (j + 1) = l.take j ++ [x]) (hn : (nms l).Nodup) : x.1 ∉ nms (l.take j) ∧ (nms (l.take j)).Nodup := by
  have h1 : nms (l.take (j + 1)) = nms (l.take j) ++ [x.1] := by rw [h]; simp [nms]
  have h2 : (nms (l.take (j + 1))).Nodup := by
    have : nms (l.take (j + 1)) = (nms l).take (j + 1) := by simp [nms, List.map_take]
    rw [this]
    exact hn.sublist (List.take_sublist _ _)
  rw [h1] at h2
  have h3 := List.nodup_append.1 h2
  exact ⟨fun hm => h3.2.2 _ hm _ (List.mem_singleton.2 rfl) rfl, h3.1⟩
set_option maxRecDepth 100000 in
set_option maxHeartbeats 2000000 in
theorem canlie_yes (w : World) (ao : Option Addr) (b off c : Nat) (l : List (List UInt8 × List UInt8)) (hr : RdF w ao b off l) (hs : ∀ x ∈ l, x.1.length ≤ maxLen) (hl : l.length ≤ 1099511627776) (hc : canL l) :
    Calls Tryz.prog 24 #[.slice ao l.length c] w fun e w' => e = .returned (.bool true) ∧ Below w.heap.size w w' := by
  have hmm := @run_makeMap Tryz.prog
  obtain ⟨n, hn⟩ : ∃ n, l.length = n := ⟨_, rfl⟩
  have HH : Hid (RdF w ao b off l ∧ (∀ x ∈ l, x.1.length ≤ maxLen) ∧ l.length = n ∧ n ≤ 1099511627776 ∧ canL l) := ⟨hr, hs, hn, by omega, hc⟩
  rw [hn]
  clear hr hs hl hn hc
  go_enter Tryz.func24, Tryz.ntmps24
  go_wp2
  go_loopg [11] n (fun g i wr => ∃ j : Nat, j ≤ n ∧ g = n - j ∧ i = .int .i64 (j : Int) ∧ Mv wr w.heap.size (nmF (nms (l.take j))) ∧ Below w.heap.size w wr)
  case atStart =>
    refine ⟨0, Nat.zero_le _, rfl, rfl, ?_, bal (Below.refl _ _) _⟩
    have := mv_new w
    exact this
  case round =>
    obtain ⟨j, hj, rfl, rfl, hM, hb⟩ := hrel
    by_cases hlt : j < n
    · obtain ⟨x, hx⟩ : ∃ x, l.getD j ([], []) = x := ⟨_, rfl⟩
      obtain ⟨q1, q2, q3, q4, q5⟩ := HH.out
      have hxm : x ∈ l := by
        rw [← hx, List.getD_eq_getElem?_getD, List.getElem?_eq_getElem (by omega)]
        exact List.getElem_mem _
      have rr := q1.next hb
      have c0 := rr.c0 j (by omega)
      have c1 := rr.c1 j (by omega)
      rw [hx] at c0 c1
      have ea := rr.ptr (by omega)
      have htk : l.take (j + 1) = l.take j ++ [x] := by rw [← hx]; exact take_snoc _ _ _ (by omega)
      obtain ⟨hno, hnd⟩ := nms_take htk q5.1
      obtain ⟨nm, hnm⟩ : ∃ nm : ByteArray, (⟨x.1.toArray⟩ : ByteArray) = nm := ⟨_, rfl⟩
      obtain ⟨dt, hdt⟩ : ∃ dt : ByteArray, (⟨x.2.toArray⟩ : ByteArray) = dt := ⟨_, rfl⟩
      rw [hnm] at c0
      rw [hdt] at c1
      have hsz : nm.size ≤ maxLen := by rw [← size_list, ← hnm]; exact q2 x hxm
      have hds : dt.size ≤ 268435456 := by rw [← size_list, ← hdt]; exact q5.2 x hxm
      have hnl : nm.data.toList = x.1 := by rw [← hnm]
      have hi1 : (0 : Int) ≤ (j : Int) := by omega
      have hi2 : (j : Int) < (n : Int) := by omega
      have hw : IntKind.i64.wrap ((j : Int) + 1) = (j : Int) + 1 := by rw [IntKind.wrap_i64]; omega
      have hgt : ¬ ((dt.size : Int) > 268435456) := by omega
      obtain ⟨w1, hw1⟩ : ∃ W, wr.alloc (.cells #[.string nm, .string dt] 25) = W := ⟨_, rfl⟩
      have HW1 := hide hw1
      have hb1 : Below wr.heap.size wr w1 := by rw [← hw1]; exact bal (Below.refl _ _) _
      have k1 : w1.heap[wr.heap.size]? = some (.cells #[.string nm, .string dt] 25 (0, 0)) := by rw [← hw1]; exact new1 _ _
      have d0 : w1.cell? ⟨wr.heap.size, 0, none⟩ = some (.string nm) := by rw [cell_of_row w1 wr.heap.size 0 _ _ (0, 0) k1]; rfl
      have d1 : w1.cell? ⟨wr.heap.size, 1, none⟩ = some (.string dt) := by rw [cell_of_row w1 wr.heap.size 1 _ _ (0, 0) k1]; rfl
      have M1 := hM.same (hb1.block _ hM.lt)
      have hlk := M1.look_ok Tryz.underlying108 (z := .agg #[]) (by kernel_rfl) hsz
      rw [hnl, nmF, if_neg hno] at hlk
      simp only [Option.getD_none, Option.isSome_none] at hlk
      subst ea
      obtain ⟨w2, hw2⟩ : ∃ W, w1.alloc (.cells #[] 109) = W := ⟨_, rfl⟩
      have HW2 := hide hw2
      have hb2 : Below w1.heap.size w1 w2 := by rw [← hw2]; exact bal (Below.refl _ _) _
      have k2 := (hb2.block _ (Array.getElem?_eq_some_iff.1 k1).1).trans k1
      have e0 : w2.cell? ⟨wr.heap.size, 0, none⟩ = some (.string nm) := by rw [cell_of_row w2 wr.heap.size 0 _ _ (0, 0) k2]; rfl
      have e1 : w2.cell? ⟨wr.heap.size, 1, none⟩ = some (.string dt) := by rw [cell_of_row w2 wr.heap.size 1 _ _ (0, 0) k2]; rfl
      have M2 := M1.same (hb2.block _ M1.lt)
      have hlen : (nms (l.take j)).length < maxLen := by
        rw [nms, List.length_map, List.length_take]
        unfold maxLen
        omega
      obtain ⟨w3, hup, M3, g3⟩ := M2.write Tryz.underlying108 hnd (nmF_in _) hlen hsz (.agg #[])
      rw [hnl, nmF_upd] at M3
      have HG : Hid (Mv w3 w.heap.size (nmF (nms (l.take (j + 1)))) ∧ Below w.heap.size w w3) := by
        refine ⟨?_, ?_⟩
        · rw [htk, show nms (l.take j ++ [x]) = nms (l.take j) ++ [x.1] by simp [nms]]; exact M3
        · exact (bnext (bnext hb hb1) hb2).grown g3 (bnext (bnext hb hb1) hb2).size (fun y hy => by injection hy with hy; omega)
      clear hw2 hb1 hb2 k1 k2 M1 M2 M3 g3 hb hM
      clear q1 q2 q3 q4 q5 rr hx hxm hw1 hnm hdt
      go_upto_region 5 with (fail)
      rw [HW1.out]
      go_upto_region 6 with (fail)
      rw [HW2.out]
      go_wp2
      go_roundg (n - (j + 1))
      case rel =>
        go_light
        exact ⟨j + 1, by omega, rfl, by go_num, HG.out.1, HG.out.2⟩
      case measure => go_light; omega
    · obtain rfl : j = n := by omega
      have hz : ¬ ((j : Int) < (j : Int)) := by omega
      have HB := hide hb
      clear hb hM hlt
      go_wp2
      go_ret
      exact ⟨rfl, HB.out⟩
end Go.Proofs.YthfnpagangjpbabGreat
/-
  Open, where it opens. Own work.
-/
namespace Go.Proofs.YthfnpagangjpbabGreat
open Go.RowKit
/-- All bytes of files. -/
def byt : List (List UInt8 × List UInt8) → Nat
  | [] => 0
  | x :: r => x.2.length + byt r
theorem byt_snoc (l : List (List UInt8 × List UInt8)) (x : List UInt8 × List UInt8) : byt (l ++ [x]) = byt l + x.2.length := by
  induction l with
  | nil => simp [byt]
  | cons y r ih => simp only [List.cons_append, byt, ih]; omega
theorem byt_take (l : List (List UInt8 × List UInt8)) (j : Nat) : byt (l.take j) ≤ byt l := by
  induction l generalizing j with
  | nil => simp [byt]
  | cons y r ih =>
    cases j with
    | zero => simp [byt]
    | succ j => have := ih j; simp only [List.take_succ_cons, byt]; omega
/-- A disk opened. -/
def openD (room : Nat) (l : List (List UInt8 × List UInt8)) : DV := ⟨room - byt l, layL l, 0, 0, 0, [], false⟩
set_option maxRecDepth 100000 in
set_option maxHeartbeats 2000000 in
theorem open_yes (w : World) (room : Nat) (hroom : room ≤ 9223372036854775807) (ao : Option Addr) (b off c : Nat) (l : List (List UInt8 × List UInt8)) (hr : RdF w ao b off l) (hs : ∀ x ∈ l, x.1.length ≤ maxLen) (hl : l.length ≤ 1099511627776) (hc : canL l) (hfit : byt l ≤ room) :
    Calls Tryz.prog 7 #[.int .i64 (room : Int), .slice ao l.length c] w fun e w' => ∃ p S, e = .returned (.tuple #[.pointer (some ⟨p, 0, none⟩), .int .i64 0]) ∧ Dsk w' p S (openD room l) ∧ (∀ x, S x → w.heap.size ≤ x) ∧ Below w.heap.size w w' := by
  have HC := canlie_yes w ao b off c l hr hs hl hc
  obtain ⟨n, hn⟩ : ∃ n, l.length = n := ⟨_, rfl⟩
  have HH : Hid (RdF w ao b off l ∧ (∀ x ∈ l, x.1.length ≤ maxLen) ∧ l.length = n ∧ n ≤ 1099511627776 ∧ canL l ∧ byt l ≤ room ∧ room ≤ 9223372036854775807) := ⟨hr, hs, hn, by omega, hc, hfit, hroom⟩
  have HL : Hid (∀ W, Below w.heap.size w W → Calls Tryz.prog 25 #[.slice ao n c] W fun e w' => ∃ R, e = .returned (.map (some W.heap.size)) ∧ Fm w' W.heap.size R (layL l) ∧ (∀ s ∈ keys (layL l), ∀ x, Blk (R s) x → W.heap.size ≤ x) ∧ Below W.heap.size W w') := fun W hW => by
    rw [← hn]; exact laid_any W ao b off c l (hr.next hW) (fun x hx => ⟨hs x hx, hc.2 x hx⟩) hl
  rw [hn] at HC ⊢
  have hm : max (room : Int) 0 = (room : Int) := by omega
  clear hr hs hl hn hc hfit
  go_enter Tryz.func7, Tryz.ntmps7
  go_upto_region 3 with (go_at_call 24; (with_reducible refine HC.mono ?_); rintro e w1 ⟨rfl, u1⟩)
  clear HC
  go_wp2
  go_loopg [6, 16] n (fun g f i wr => ∃ j : Nat, j ≤ n ∧ g = n - j ∧ i = .int .i64 (j : Int) ∧ f = .int .i64 ((room - byt (l.take j) : Nat) : Int) ∧ Below w.heap.size w wr)
  case atStart =>
    go_light
    exact ⟨0, Nat.zero_le _, rfl, rfl, by simp [byt], u1⟩
  case round =>
    obtain ⟨j, hj, rfl, rfl, rfl, hb⟩ := hrel
    by_cases hlt : j < n
    · obtain ⟨x, hx⟩ : ∃ x, l.getD j ([], []) = x := ⟨_, rfl⟩
      obtain ⟨q1, q2, q3, q4, q5, q6, q7⟩ := HH.out
      have rr := q1.next hb
      have c0 := rr.c0 j (by omega)
      have c1 := rr.c1 j (by omega)
      rw [hx] at c0 c1
      have ea := rr.ptr (by omega)
      have htk : l.take (j + 1) = l.take j ++ [x] := by rw [← hx]; exact take_snoc _ _ _ (by omega)
      have hbt := byt_snoc (l.take j) x
      rw [← htk] at hbt
      have hle := byt_take l (j + 1)
      obtain ⟨nm, hnm⟩ : ∃ nm : ByteArray, (⟨x.1.toArray⟩ : ByteArray) = nm := ⟨_, rfl⟩
      obtain ⟨dt, hdt⟩ : ∃ dt : ByteArray, (⟨x.2.toArray⟩ : ByteArray) = dt := ⟨_, rfl⟩
      rw [hnm] at c0
      rw [hdt] at c1
      have hds : dt.size = x.2.length := by rw [← size_list, ← hdt]
      obtain ⟨fr, hfr⟩ : ∃ fr, room - byt (l.take j) = fr := ⟨_, rfl⟩
      have hgt : ¬ ((dt.size : Int) > (fr : Int)) := by omega
      have hi1 : (0 : Int) ≤ (j : Int) := by omega
      have hi2 : (j : Int) < (n : Int) := by omega
      have hw : IntKind.i64.wrap ((j : Int) + 1) = (j : Int) + 1 := by rw [IntKind.wrap_i64]; omega
      have hw2 : IntKind.i64.wrap ((fr : Int) - (dt.size : Int)) = ((room - byt (l.take (j + 1)) : Nat) : Int) := by rw [IntKind.wrap_i64]; omega
      obtain ⟨f2, hf2⟩ : ∃ f2, room - byt (l.take (j + 1)) = f2 := ⟨_, rfl⟩
      rw [hf2] at hw2
      rw [hfr]
      obtain ⟨w2, hw2'⟩ : ∃ W, wr.alloc (.cells #[.string nm, .string dt] 25) = W := ⟨_, rfl⟩
      have HW2 := hide hw2'
      have hb2 : Below wr.heap.size wr w2 := by rw [← hw2']; exact bal (Below.refl _ _) _
      have k1 : w2.heap[wr.heap.size]? = some (.cells #[.string nm, .string dt] 25 (0, 0)) := by rw [← hw2']; exact new1 _ _
      have d1 : w2.cell? ⟨wr.heap.size, 1, none⟩ = some (.string dt) := by rw [cell_of_row w2 wr.heap.size 1 _ _ (0, 0) k1]; rfl
      have HG : Hid (Below w.heap.size w w2 ∧ room - byt (l.take (j + 1)) = f2) := ⟨bnext hb hb2, hf2⟩
      subst ea
      clear q1 q2 q3 q4 q5 q6 q7 rr hx hw2' hnm hdt hb hb2 k1 htk hbt hle hds hf2 hfr
      go_upto_region 7 with (fail)
      rw [HW2.out]
      go_wp2
      go_roundg (n - (j + 1))
      case rel =>
        go_light
        exact ⟨j + 1, by omega, rfl, by go_num, by rw [HG.out.2], HG.out.1⟩
      case measure => go_light; omega
    · obtain rfl : j = n := by omega
      have hz : ¬ ((j : Int) < (j : Int)) := by omega
      have htk : l.take j = l := List.take_of_length_le (by have := HH.out.2.2.1; omega)
      rw [htk]
      have HLw := hide (HL.out wr hb)
      obtain ⟨fr, hfr⟩ : ∃ fr, room - byt l = fr := ⟨_, rfl⟩
      rw [hfr]
      have HB := hide hb
      have HFr := hide hfr
      clear hb hlt hj htk HL hfr
      go_wp2_with (go_at_call 25; (with_reducible refine HLw.out.mono ?_); rintro e w3 ⟨R, rfl, hF, hlow, hb3⟩)
      go_ret2
      have k1 := new1 w3 (.cells #[.int .i64 (fr : Int), .map (some wr.heap.size), .int .i64 0, .int .i64 0, .int .i64 0, .slice none 0 0, .bool false] 69)
      have hbe : Below w3.heap.size w3 (w3.alloc (.cells #[.int .i64 (fr : Int), .map (some wr.heap.size), .int .i64 0, .int .i64 0, .int .i64 0, .slice none 0 0, .bool false] 69)) := bal (Below.refl _ _) _
      have hF2 := hF.same (hbe.block _ hF.mp.lt) (fun x hx => hbe.block x hx.lt)
      have h7 := HH.out.2.2.2.2.2.2
      have hfe := HFr.out
      refine ⟨w3.heap.size, Foot w3.heap.size wr.heap.size R 0 (openD room l), rfl, ⟨wr.heap.size, R, none, 0, 0, 0, ⟨?_, hF2.mp, hF2.ord, fun s hs _ => hF2.fil s hs, fun s hs x hx => (hF2.fil s hs).blk hx, hF2.apart, hF2.nm, hF2.cnt, rdl_nil _ _ _ _, fun h0 => by simp [openD] at h0, by simp [openD], by show room - byt l ≤ _; omega, by simp [openD], .inl rfl⟩, fun x => Iff.rfl⟩, fun x hx => ?_, bnext (bnext HB.out hb3) hbe⟩
      · rw [← hfe] at k1
        rw [← hfe]; exact k1
      · have z1 := HB.out.size
        have z2 := hb3.size
        rcases hx with q | q | ⟨s, hs, q⟩ | ⟨q, _⟩
        · omega
        · omega
        · have := hlow s hs x q; omega
        · simp [openD] at q
end Go.Proofs.YthfnpagangjpbabGreat
/-
  DiskFates: two disks, one with a fate. Own work.
-/
namespace Go.Proofs.YthfnpagangjpbabGreat
open Go.RowKit
/-- All synced. -/
def allS (l : List (List UInt8 × List UInt8)) : List (List UInt8 × FV) := l.map fun x => (x.1, ⟨x.2, x.2⟩)
theorem fput_last (s : List UInt8) (f : FV) (hf : f.gone = false) : ∀ L : List (List UInt8 × FV), (∀ p ∈ L, p.1 < s) → fput L s f = L ++ [(s, f)]
  | [], _ => by rw [fput, if_neg (by simp [hf])]; rfl
  | (t, g) :: r, h => by
    have h1 : t < s := h (t, g) (by simp)
    have ne : ¬ t = s := fun e => by rw [e] at h1; exact List.lt_irrefl _ h1
    have nl : ¬ s < t := fun e => List.lt_irrefl _ (List.lt_trans h1 e)
    rw [fput, if_neg ne, if_neg nl, fput_last s f hf r (fun p hp => h p (List.mem_cons_of_mem _ hp))]
    rfl
theorem rev_ind {α : Type} {P : List α → Prop} (h0 : P []) (hs : ∀ l x, P l → P (l ++ [x])) (l : List α) : P l := by
  rw [← List.reverse_reverse l]
  induction l.reverse with
  | nil => exact h0
  | cons x r ih => rw [List.reverse_cons]; exact hs _ _ ih
/-- Rising names, each with bytes. -/
def Sor (l : List (List UInt8 × List UInt8)) : Prop := l.Pairwise (fun a b => a.1 < b.1) ∧ ∀ x ∈ l, x.2 ≠ []
theorem lay_sor (l : List (List UInt8 × List UInt8)) : Sor l → layL l = allS l := by
  induction l using rev_ind with
  | h0 => intro _; rfl
  | hs l x ih =>
    intro h
    obtain ⟨h1, h2⟩ := h
    have h3 := List.pairwise_append.1 h1
    have ih' := ih ⟨h3.1, fun y hy => h2 y (by simp [hy])⟩
    have hx := h2 x (by simp)
    rw [layL_snoc, if_neg hx, ih', fput_last]
    · simp [allS]
    · cases hg : (⟨x.2, x.2⟩ : FV).gone
      · rfl
      · exact absurd (congrArg FV.now (gone_iff.1 hg)) hx
    · intro p hp
      obtain ⟨y, hy, rfl⟩ := List.mem_map.1 hp
      exact h3.2.2 y hy x (by simp)
theorem aft_sor (ks : List Bool) : ∀ (L : List (List UInt8 × FV)) (i : Nat), L.Pairwise (fun a b => a.1 < b.1) → Sor (aft ks L i)
  | [], _, _ => ⟨.nil, by simp [aft]⟩
  | (s, f) :: r, i, h => by
    obtain ⟨h1, h2⟩ := List.pairwise_cons.1 h
    have ih := aft_sor ks r (stay ks f i).2 h2
    simp only [aft]
    split
    · exact ih
    · rename_i hn
      refine ⟨List.pairwise_cons.2 ⟨fun y hy => ?_, ih.1⟩, fun y hy => ?_⟩
      · obtain ⟨g, j, hg, _⟩ := aft_mem hy
        exact h1 _ hg
      · rcases List.mem_cons.1 hy with rfl | hy
        · exact hn
        · exact ih.2 y hy
theorem tell_all : ∀ l : List (List UInt8 × List UInt8), (∀ x ∈ l, x.2 ≠ []) → tell (allS l) = l
  | [], _ => rfl
  | x :: r, h => by
    have := tell_all r (fun y hy => h y (List.mem_cons_of_mem _ hy))
    show tell ((x.1, ⟨x.2, x.2⟩) :: allS r) = _
    rw [tell, if_neg (h x (by simp)), this]
theorem stay_sync (ks : List Bool) (x : List UInt8) (i : Nat) : (stay ks ⟨x, x⟩ i).1 = x := by
  have hs : slen ks ⟨x, x⟩ i = (x.length, i) := by unfold slen; rw [if_pos rfl]
  have hg : ∀ n, (sgo ks ⟨x, x⟩ i n).1 = (List.range (64 * n)).map fun j => x.getD j 0 := by
    intro n
    induction n with
    | zero => rfl
    | succ n ih =>
      simp only [sgo, if_true]
      rw [ih, show 64 * (n + 1) = 64 * n + 64 by omega, List.range_add, List.map_append, List.map_map]
      rfl
  simp only [stay, hs]
  rw [hg]
  apply List.ext_getElem?
  intro j
  by_cases hj : j < x.length
  · have h1 : j < 64 * nsec ⟨x, x⟩ := by unfold nsec; simp only; omega
    rw [List.getElem?_take, if_pos hj, List.getElem?_map, List.getElem?_range h1]
    simp [List.getD_eq_getElem?_getD, hj]
  · rw [List.getElem?_take, if_neg hj, List.getElem?_eq_none (by omega)]
theorem aft_all (ks : List Bool) : ∀ (l : List (List UInt8 × List UInt8)) (i : Nat), (∀ x ∈ l, x.2 ≠ []) → aft ks (allS l) i = l
  | [], _, _ => rfl
  | x :: r, i, h => by
    show aft ks ((x.1, ⟨x.2, x.2⟩) :: allS r) i = _
    simp only [aft]
    rw [stay_sync, if_neg (h x (by simp)), aft_all ks r _ (fun y hy => h y (List.mem_cons_of_mem _ hy))]
/-- The file that an act leaves. -/
def opF (L : List (List UInt8 × FV)) (kind : Int) (s : List UInt8) (x : Nat) (t : List UInt8) : FV :=
  if kind = 1 then ⟨wr (fget L s).now x (t.take 300), (fget L s).syn⟩ else if kind = 2 then ⟨(fget L s).now.take x, (fget L s).syn⟩ else ⟨(fget L s).now, (fget L s).now⟩
theorem act_is {D : DV} (hd : D.down = false) (kind : Int) (s : List UInt8) (x : Nat) (t : List UInt8) (hx : x ≤ (fget D.L s).now.length) (hz : (fget D.L s).now.length ≤ 1000000) (hf : 300 ≤ D.free) : actO D kind s (x : Int) t = actD D s (opF D.L kind s x t) := by
  have h3 : (t.take 300).length ≤ 300 := by rw [List.length_take]; omega
  unfold actO opF
  split
  · unfold wrD
    rw [if_neg (by simp [hd]), if_neg (by omega), if_neg (by omega)]
    rfl
  · split
    · unfold cutD
      rw [if_neg (by simp [hd]), if_neg (by omega)]
      rfl
    · unfold synD
      rw [if_neg (by simp [hd])]
theorem act_down {D : DV} (hd : D.down = true) (kind : Int) (s : List UInt8) (x : Int) (t : List UInt8) : actO D kind s x t = (D, 170) := by
  unfold actO
  split
  · unfold wrD; rw [if_pos hd]
  · split
    · unfold cutD; rw [if_pos hd]
    · unfold synD; rw [if_pos hd]
/-- The disk without a fate. -/
structure Pf (E : DV) (j : Nat) : Prop where
  down : E.down = false
  fk : E.fk = 0
  ord : Ord E.L
  free : E.free + tot E.L = 1048576
  tot : tot E.L ≤ 300 * j
  cnt : E.L.length ≤ j
  acts : E.acts ≤ j
theorem fget_tot : ∀ (L : List (List UInt8 × FV)) (s : List UInt8), (fget L s).now.length ≤ tot L
  | [], _ => Nat.zero_le _
  | (t, g) :: r, s => by
    rw [fget]
    simp only [tot]
    split
    · omega
    · have := fget_tot r s; omega
theorem opF_len (L : List (List UInt8 × FV)) (kind : Int) (s : List UInt8) (x : Nat) (t : List UInt8) (hx : x ≤ (fget L s).now.length) : (opF L kind s x t).now.length ≤ (fget L s).now.length + 300 := by
  unfold opF
  split
  · show (wr _ _ _).length ≤ _
    rw [wr_len _ _ _ hx, List.length_take]
    omega
  · split
    · show ((fget L s).now.take x).length ≤ _
      rw [List.length_take]; omega
    · exact Nat.le_add_right _ _
theorem Pf.put {E : DV} {j : Nat} (h : Pf E j) (hj : j ≤ 100) (s : List UInt8) (f : FV) (hf : f.now.length ≤ (fget E.L s).now.length + 300) : Pf (dput { E with acts := E.acts + 1 } s f) (j + 1) := by
  have h1 := tot_put h.ord s f
  have h2 := h.tot
  have h3 := h.free
  have h4 := fget_tot E.L s
  refine ⟨h.down, h.fk, ord_fput h.ord s f, ?_, ?_, ?_, by show E.acts + 1 ≤ _; have := h.acts; omega⟩
  · show E.free + (fget E.L s).now.length - f.now.length + Go.Proofs.YthfnpagangjpbabGreat.tot (fput E.L s f) = _
    omega
  · show Go.Proofs.YthfnpagangjpbabGreat.tot (fput E.L s f) ≤ _
    omega
  · have := len_put (L := E.L) s f
    have := h.cnt
    show (fput E.L s f).length ≤ _
    omega
theorem Pf.mono {E : DV} {j : Nat} (h : Pf E j) : Pf E (j + 1) := ⟨h.down, h.fk, h.ord, h.free, by have := h.tot; omega, by have := h.cnt; omega, by have := h.acts; omega⟩
/-- Both, ahead of the power's going: at, k: the fate. -/
structure Ft (D E : DV) (at_ k : Nat) (ks : List Bool) (j : Nat) : Prop where
  pf : Pf E j
  down : D.down = false
  L : D.L = E.L
  free : D.free = E.free
  acts : D.acts = j
  fate : (D.fk = (k : Int) ∧ D.fa = (at_ : Int) - (j : Int) ∧ j < at_ ∧ D.ks = ks) ∨ (D.fk = 0 ∧ at_ ≤ j)
section
variable {D E : DV} {at_ k j : Nat} {ks : List Bool}
theorem Ft.sz (h : Ft D E at_ k ks j) (hj : j ≤ 100) (s : List UInt8) : (fget E.L s).now.length ≤ 30000 := by
  have := fget_tot E.L s
  have := h.pf.tot
  omega
theorem Ft.roomy (h : Ft D E at_ k ks j) (hj : j ≤ 100) : Roomy D := ⟨by have := h.acts; omega, by rw [h.L]; have := h.pf.cnt; omega, by rw [h.free]; have := h.pf.free; omega⟩
theorem Pf.roomy (h : Pf E j) (hj : j ≤ 100) : Roomy E := ⟨by have := h.acts; omega, by have := h.cnt; omega, by have := h.free; omega⟩
/-- The other's act. -/
theorem Ft.other (h : Ft D E at_ k ks j) (hj : j ≤ 100) (kind : Int) (s : List UInt8) (x : Nat) (t : List UInt8) (hx : x ≤ (fget E.L s).now.length) : ∃ E', actO E kind s (x : Int) t = (E', 0) ∧ Pf E' (j + 1) ∧ E'.L = fput E.L s (opF E.L kind s x t) ∧ E'.free = E.free + (fget E.L s).now.length - (opF E.L kind s x t).now.length := by
  have hz := h.sz hj s
  have hfr := h.pf.free
  have htt := h.pf.tot
  refine ⟨_, ?_, h.pf.put hj s _ (opF_len E.L kind s x t hx), rfl, rfl⟩
  rw [act_is h.pf.down kind s x t hx (by omega) (by omega), actD_plain h.pf.fk]
theorem Ft.act (h : Ft D E at_ k ks j) (hj : j ≤ 100) (kind : Int) (s : List UInt8) (x : Nat) (t : List UInt8) (hx : x ≤ (fget E.L s).now.length) : actO D kind s (x : Int) t = actD D s (opF E.L kind s x t) := by
  have hz := h.sz hj s
  have hfr := h.pf.free
  have htt := h.pf.tot
  rw [← h.L]
  exact act_is h.down kind s x t (by rw [h.L]; exact hx) (by rw [h.L]; omega) (by rw [h.free]; omega)
/-- It is not met. -/
theorem Ft.miss (h : Ft D E at_ k ks j) (hj : j ≤ 100) (hk : 1 ≤ k) (hm : ¬ j + 1 = at_) (kind : Int) (s : List UInt8) (x : Nat) (t : List UInt8) (hx : x ≤ (fget E.L s).now.length) {E' : DV} (hp : Pf E' (j + 1)) (hL : E'.L = fput E.L s (opF E.L kind s x t)) (hf : E'.free = E.free + (fget E.L s).now.length - (opF E.L kind s x t).now.length) : ∃ D', actO D kind s (x : Int) t = (D', 0) ∧ Ft D' E' at_ k ks (j + 1) := by
  rw [h.act hj kind s x t hx]
  rcases h.fate with ⟨f1, f2, f3, f4⟩ | ⟨f1, f2⟩
  · have e : metD { D with acts := D.acts + 1 } = ({ D with acts := D.acts + 1, fa := D.fa - 1 }, 0, []) := by
      unfold metD
      rw [if_neg (show ¬ D.fk = 0 by omega), if_pos (show 1 < D.fa by omega)]
    refine ⟨dput { D with acts := D.acts + 1, fa := D.fa - 1 } s (opF E.L kind s x t), ?_, hp, h.down, ?_, ?_, ?_, .inl ⟨f1, ?_, by omega, f4⟩⟩
    · unfold actD; rw [e]; rfl
    · show fput D.L s _ = _
      rw [h.L, hL]
    · show D.free + (fget D.L s).now.length - _ = _
      rw [h.L, h.free, hf]
    · show D.acts + 1 = _
      rw [h.acts]
    · show D.fa - 1 = _
      omega
  · refine ⟨_, actD_plain f1 s _, hp, h.down, ?_, ?_, ?_, .inr ⟨f1, by omega⟩⟩
    · show fput D.L s _ = _
      rw [h.L, hL]
    · show D.free + (fget D.L s).now.length - _ = _
      rw [h.L, h.free, hf]
    · show D.acts + 1 = _
      rw [h.acts]
theorem Ft.met (h : Ft D E at_ k ks j) (hk : 1 ≤ k) (hm : j + 1 = at_) : metD { D with acts := D.acts + 1 } = ({ D with acts := D.acts + 1, fa := 0, fk := 0, ks := [] }, (k : Int), ks) := by
  rcases h.fate with ⟨f1, f2, f3, f4⟩ | ⟨f1, f2⟩
  · unfold metD
    rw [if_neg (show ¬ D.fk = 0 by omega), if_neg (show ¬ 1 < D.fa by omega)]
    simp only [f1, f4]
  · omega
/-- It is met, and nothing is done. -/
theorem Ft.fail (h : Ft D E at_ k ks j) (hj : j ≤ 100) (hk : k = 1 ∨ k = 2) (hm : j + 1 = at_) (kind : Int) (s : List UInt8) (x : Nat) (t : List UInt8) (hx : x ≤ (fget E.L s).now.length) : ∃ D', actO D kind s (x : Int) t = (D', if k = 1 then 171 else 172) ∧ Ft D' E at_ k ks (j + 1) := by
  rw [h.act hj kind s x t hx]
  have e := h.met (by omega) hm
  refine ⟨{ D with acts := D.acts + 1, fa := 0, fk := 0, ks := [] }, ?_, h.pf.mono, h.down, h.L, h.free, by show D.acts + 1 = _; rw [h.acts], .inr ⟨rfl, by omega⟩⟩
  unfold actD
  rw [e]
  rcases hk with rfl | rfl <;> rfl
/-- It is met, and all is done. -/
theorem Ft.doubt (h : Ft D E at_ 3 ks j) (hj : j ≤ 100) (hm : j + 1 = at_) (kind : Int) (s : List UInt8) (x : Nat) (t : List UInt8) (hx : x ≤ (fget E.L s).now.length) {E' : DV} (hp : Pf E' (j + 1)) (hL : E'.L = fput E.L s (opF E.L kind s x t)) (hf : E'.free = E.free + (fget E.L s).now.length - (opF E.L kind s x t).now.length) : ∃ D', actO D kind s (x : Int) t = (D', 171) ∧ Ft D' E' at_ 3 ks (j + 1) := by
  rw [h.act hj kind s x t hx]
  have e := h.met (by omega) hm
  refine ⟨dput { D with acts := D.acts + 1, fa := 0, fk := 0, ks := [] } s (opF E.L kind s x t), ?_, hp, h.down, ?_, ?_, by show D.acts + 1 = _; rw [h.acts], .inr ⟨rfl, by omega⟩⟩
  · unfold actD; rw [e]; rfl
  · show fput D.L s _ = _
    rw [h.L, hL]
  · show D.free + (fget D.L s).now.length - _ = _
    rw [h.L, h.free, hf]
/-- The power has gone. -/
structure Gone (D : DV) (l : List (List UInt8 × List UInt8)) (n : Nat) : Prop where
  down : D.down = true
  L : D.L = allS l
  ne : ∀ x ∈ l, x.2 ≠ []
  acts : D.acts = n
  cnt : l.length ≤ 200
  free : D.free ≤ 2000000
theorem Ft.crash (h : Ft D E at_ 4 ks j) (hj : j ≤ 100) (hm : j + 1 = at_) (kind : Int) (s : List UInt8) (x : Nat) (t : List UInt8) (hx : x ≤ (fget E.L s).now.length) : ∃ D', actO D kind s (x : Int) t = (D', 170) ∧ Gone D' (aft ks E.L 0) (j + 1) := by
  rw [h.act hj kind s x t hx]
  have e := h.met (by omega) hm
  have hs := aft_sor ks E.L 0 h.pf.ord.1
  refine ⟨downD { D with acts := D.acts + 1, fa := 0, fk := 0, ks := [] } ks, ?_, rfl, ?_, hs.2, by show D.acts + 1 = _; rw [h.acts], ?_, ?_⟩
  · unfold actD; rw [e]; rfl
  · show layL (aft ks D.L 0) = _
    rw [h.L, lay_sor _ hs]
  · have := aft_len ks E.L 0; have := h.pf.cnt; omega
  · show D.free ≤ _
    rw [h.free]; have := h.pf.free; omega
theorem Ft.late (h : Ft D E at_ 5 ks j) (hj : j ≤ 100) (hm : j + 1 = at_) (kind : Int) (s : List UInt8) (x : Nat) (t : List UInt8) (hx : x ≤ (fget E.L s).now.length) {E' : DV} (hp : Pf E' (j + 1)) (hL : E'.L = fput E.L s (opF E.L kind s x t)) (hf : E'.free = E.free + (fget E.L s).now.length - (opF E.L kind s x t).now.length) : ∃ D', actO D kind s (x : Int) t = (D', 170) ∧ Gone D' (aft ks E'.L 0) (j + 1) := by
  rw [h.act hj kind s x t hx]
  have e := h.met (by omega) hm
  have hs := aft_sor ks E'.L 0 hp.ord.1
  refine ⟨downD (dput { D with acts := D.acts + 1, fa := 0, fk := 0, ks := [] } s (opF E.L kind s x t)) ks, ?_, rfl, ?_, hs.2, by show D.acts + 1 = _; rw [h.acts], ?_, ?_⟩
  · unfold actD; rw [e]; rfl
  · show layL (aft ks (fput D.L s _) 0) = _
    rw [h.L, ← hL, lay_sor _ hs]
  · have := aft_len ks E'.L 0; have := hp.cnt; omega
  · show D.free + (fget D.L s).now.length - _ ≤ _
    rw [h.L, h.free, ← hf]; have := hp.free; omega
end
section
variable {D : DV} {l : List (List UInt8 × List UInt8)} {n : Nat}
theorem Gone.tell (h : Gone D l n) : tell D.L = l := by rw [h.L, tell_all l h.ne]
theorem Gone.aft (h : Gone D l n) (ks : List Bool) : aft ks D.L 0 = l := by rw [h.L, aft_all ks l 0 h.ne]
theorem Gone.rd (h : Gone D l n) (s : List UInt8) (a b : Int) : rdD D s a b = ([], 170) := by unfold rdD; rw [if_pos h.down]
theorem Gone.sz (h : Gone D l n) (s : List UInt8) : sizD D s = 0 := by unfold sizD; rw [if_pos h.down]
theorem Gone.roomy (h : Gone D l n) (hn : n ≤ 1000) : Roomy D := ⟨by have := h.acts; omega, by rw [h.L]; unfold allS; rw [List.length_map]; have := h.cnt; omega, by have := h.free; omega⟩
end
end Go.Proofs.YthfnpagangjpbabGreat
