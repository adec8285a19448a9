/-
  Open, where it opens. Own work.
-/
import Derived.Test.YthfnpagangjpbaaGreatYDCan
namespace Go.Proofs.YthfnpagangjpbaaGreat
open Go.RowKit
/-- All bytes of files. -/
def byt : List (List UInt8 × List UInt8) → Nat
  | [] => 0
  | x :: r => x.2.length + byt r
theorem byt_snoc (l : List (List UInt8 × List UInt8)) (x : List UInt8 × List UInt8) : byt (l ++ [x]) = byt l + x.2.length := by
  induction l with
  | nil => simp [byt]
  | cons y r ih => simp only [List.cons_append, byt, ih]; omega
theorem byt_take (l : List (List UInt8 × List UInt8)) (j : Nat) : byt (l.take j) ≤ byt l := by
  induction l generalizing j with
  | nil => simp [byt]
  | cons y r ih =>
    cases j with
    | zero => simp [byt]
    | succ j => have := ih j; simp only [List.take_succ_cons, byt]; omega
/-- A disk opened. -/
def openD (room : Nat) (l : List (List UInt8 × List UInt8)) : DV := ⟨room - byt l, layL l, 0, 0, 0, [], false⟩
set_option maxRecDepth 100000 in
set_option maxHeartbeats 2000000 in
theorem open_yes (w : World) (room : Nat) (hroom : room ≤ 9223372036854775807) (ao : Option Addr) (b off c : Nat) (l : List (List UInt8 × List UInt8)) (hr : RdF w ao b off l) (hs : ∀ x ∈ l, x.1.length ≤ maxLen) (hl : l.length ≤ 1099511627776) (hc : canL l) (hfit : byt l ≤ room) :
    Calls Tryz.prog 26 #[.int .i64 (room : Int), .slice ao l.length c] w fun e w' => ∃ p S, e = .returned (.tuple #[.pointer (some ⟨p, 0, none⟩), .int .i64 0]) ∧ Dsk w' p S (openD room l) ∧ (∀ x, S x → w.heap.size ≤ x) ∧ Below w.heap.size w w' := by
  have HC := canlie_yes w ao b off c l hr hs hl hc
  obtain ⟨n, hn⟩ : ∃ n, l.length = n := ⟨_, rfl⟩
  have HH : Hid (RdF w ao b off l ∧ (∀ x ∈ l, x.1.length ≤ maxLen) ∧ l.length = n ∧ n ≤ 1099511627776 ∧ canL l ∧ byt l ≤ room ∧ room ≤ 9223372036854775807) := ⟨hr, hs, hn, by omega, hc, hfit, hroom⟩
  have HL : Hid (∀ W, Below w.heap.size w W → Calls Tryz.prog 63 #[.slice ao n c] W fun e w' => ∃ R, e = .returned (.map (some W.heap.size)) ∧ Fm w' W.heap.size R (layL l) ∧ (∀ s ∈ keys (layL l), ∀ x, Blk (R s) x → W.heap.size ≤ x) ∧ Below W.heap.size W w') := fun W hW => by
    rw [← hn]; exact laid_any W ao b off c l (hr.next hW) (fun x hx => ⟨hs x hx, hc.2 x hx⟩) hl
  rw [hn] at HC ⊢
  have hm : max (room : Int) 0 = (room : Int) := by omega
  clear hr hs hl hn hc hfit
  go_enter Tryz.func26, Tryz.ntmps26
  go_upto_region 3 with (go_at_call 62; (with_reducible refine HC.mono ?_); rintro e w1 ⟨rfl, u1⟩)
  clear HC
  go_wp2
  go_loopg [6, 16] n (fun g f i wr => ∃ j : Nat, j ≤ n ∧ g = n - j ∧ i = .int .i64 (j : Int) ∧ f = .int .i64 ((room - byt (l.take j) : Nat) : Int) ∧ Below w.heap.size w wr)
  case atStart =>
    go_light
    exact ⟨0, Nat.zero_le _, rfl, rfl, by simp [byt], u1⟩
  case round =>
    obtain ⟨j, hj, rfl, rfl, rfl, hb⟩ := hrel
    by_cases hlt : j < n
    · obtain ⟨x, hx⟩ : ∃ x, l.getD j ([], []) = x := ⟨_, rfl⟩
      obtain ⟨q1, q2, q3, q4, q5, q6, q7⟩ := HH.out
      have rr := q1.next hb
      have c0 := rr.c0 j (by omega)
      have c1 := rr.c1 j (by omega)
      rw [hx] at c0 c1
      have ea := rr.ptr (by omega)
      have htk : l.take (j + 1) = l.take j ++ [x] := by rw [← hx]; exact take_snoc _ _ _ (by omega)
      have hbt := byt_snoc (l.take j) x
      rw [← htk] at hbt
      have hle := byt_take l (j + 1)
      obtain ⟨nm, hnm⟩ : ∃ nm : ByteArray, (⟨x.1.toArray⟩ : ByteArray) = nm := ⟨_, rfl⟩
      obtain ⟨dt, hdt⟩ : ∃ dt : ByteArray, (⟨x.2.toArray⟩ : ByteArray) = dt := ⟨_, rfl⟩
      rw [hnm] at c0
      rw [hdt] at c1
      have hds : dt.size = x.2.length := by rw [← size_list, ← hdt]
      obtain ⟨fr, hfr⟩ : ∃ fr, room - byt (l.take j) = fr := ⟨_, rfl⟩
      have hgt : ¬ ((dt.size : Int) > (fr : Int)) := by omega
      have hi1 : (0 : Int) ≤ (j : Int) := by omega
      have hi2 : (j : Int) < (n : Int) := by omega
      have hw : IntKind.i64.wrap ((j : Int) + 1) = (j : Int) + 1 := by rw [IntKind.wrap_i64]; omega
      have hw2 : IntKind.i64.wrap ((fr : Int) - (dt.size : Int)) = ((room - byt (l.take (j + 1)) : Nat) : Int) := by rw [IntKind.wrap_i64]; omega
      obtain ⟨f2, hf2⟩ : ∃ f2, room - byt (l.take (j + 1)) = f2 := ⟨_, rfl⟩
      rw [hf2] at hw2
      rw [hfr]
      obtain ⟨w2, hw2'⟩ : ∃ W, wr.alloc (.cells #[.string nm, .string dt] 53) = W := ⟨_, rfl⟩
      have HW2 := hide hw2'
      have hb2 : Below wr.heap.size wr w2 := by rw [← hw2']; exact bal (Below.refl _ _) _
      have k1 : w2.heap[wr.heap.size]? = some (.cells #[.string nm, .string dt] 53 (0, 0)) := by rw [← hw2']; exact new1 _ _
      have d1 : w2.cell? ⟨wr.heap.size, 1, none⟩ = some (.string dt) := by rw [cell_of_row w2 wr.heap.size 1 _ _ (0, 0) k1]; rfl
      have HG : Hid (Below w.heap.size w w2 ∧ room - byt (l.take (j + 1)) = f2) := ⟨bnext hb hb2, hf2⟩
      subst ea
      clear q1 q2 q3 q4 q5 q6 q7 rr hx hw2' hnm hdt hb hb2 k1 htk hbt hle hds hf2 hfr
      go_upto_region 7 with (fail)
      rw [HW2.out]
      go_wp2
      go_roundg (n - (j + 1))
      case rel =>
        go_light
        exact ⟨j + 1, by omega, rfl, by go_num, by rw [HG.out.2], HG.out.1⟩
      case measure => go_light; omega
    · obtain rfl : j = n := by omega
      have hz : ¬ ((j : Int) < (j : Int)) := by omega
      have htk : l.take j = l := List.take_of_length_le (by have := HH.out.2.2.1; omega)
      rw [htk]
      have HLw := hide (HL.out wr hb)
      obtain ⟨fr, hfr⟩ : ∃ fr, room - byt l = fr := ⟨_, rfl⟩
      rw [hfr]
      have HB := hide hb
      have HFr := hide hfr
      clear hb hlt hj htk HL hfr
      go_wp2_with (go_at_call 63; (with_reducible refine HLw.out.mono ?_); rintro e w3 ⟨R, rfl, hF, hlow, hb3⟩)
      go_ret2
      have k1 := new1 w3 (.cells #[.int .i64 (fr : Int), .map (some wr.heap.size), .int .i64 0, .int .i64 0, .int .i64 0, .slice none 0 0, .bool false] 72)
      have hbe : Below w3.heap.size w3 (w3.alloc (.cells #[.int .i64 (fr : Int), .map (some wr.heap.size), .int .i64 0, .int .i64 0, .int .i64 0, .slice none 0 0, .bool false] 72)) := bal (Below.refl _ _) _
      have hF2 := hF.same (hbe.block _ hF.mp.lt) (fun x hx => hbe.block x hx.lt)
      have h7 := HH.out.2.2.2.2.2.2
      have hfe := HFr.out
      refine ⟨w3.heap.size, Foot w3.heap.size wr.heap.size R 0 (openD room l), rfl, ⟨wr.heap.size, R, none, 0, 0, 0, ⟨?_, hF2.mp, hF2.ord, fun s hs _ => hF2.fil s hs, fun s hs x hx => (hF2.fil s hs).blk hx, hF2.apart, hF2.nm, hF2.cnt, rdl_nil _ _ _ _, fun h0 => by simp [openD] at h0, by simp [openD], by show room - byt l ≤ _; omega, by simp [openD], .inl rfl⟩, fun x => Iff.rfl⟩, fun x hx => ?_, bnext (bnext HB.out hb3) hbe⟩
      · rw [← hfe] at k1
        rw [← hfe]; exact k1
      · have z1 := HB.out.size
        have z2 := hb3.size
        rcases hx with q | q | ⟨s, hs, q⟩ | ⟨q, _⟩
        · omega
        · omega
        · have := hlow s hs x q; omega
        · simp [openD] at q
end Go.Proofs.YthfnpagangjpbaaGreat
