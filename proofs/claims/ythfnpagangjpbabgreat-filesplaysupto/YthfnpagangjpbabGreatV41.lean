/-
  Own work: DCan2, DOpen2.
-/
import Derived.Test.YthfnpagangjpbabGreatV40
namespace Go.Proofs.YthfnpagangjpbabGreat
open Go.RowKit
def CanQ (w : World) (l : List (List UInt8 × List UInt8)) (e : Ending) (w' : World) : Prop := ∃ bb, e = .returned (.bool bb) ∧ (bb = true ↔ canL l) ∧ Below w.heap.size w w'
set_option maxRecDepth 100000 in
set_option maxHeartbeats 2000000 in
theorem canlie_any (w : World) (ao : Option Addr) (b off c : Nat) (l : List (List UInt8 × List UInt8)) (hr : RdF w ao b off l) (hs : ∀ x ∈ l, x.1.length ≤ maxLen) (hl : l.length ≤ 1099511627776) :
    Calls Tryz.prog 24 #[.slice ao l.length c] w (CanQ w l) := by
  have hmm := @run_makeMap Tryz.prog
  obtain ⟨n, hn⟩ : ∃ n, l.length = n := ⟨_, rfl⟩
  have HH : Hid (RdF w ao b off l ∧ (∀ x ∈ l, x.1.length ≤ maxLen) ∧ l.length = n ∧ n ≤ 1099511627776) := ⟨hr, hs, hn, by omega⟩
  rw [hn]
  clear hr hs hl hn
  go_enter Tryz.func24, Tryz.ntmps24
  go_wp2
  go_loopg [11] n (fun g i wr => ∃ j : Nat, j ≤ n ∧ g = n - j ∧ i = .int .i64 (j : Int) ∧ Mv wr w.heap.size (nmF (nms (l.take j))) ∧ Below w.heap.size w wr ∧ canL (l.take j))
  case atStart =>
    refine ⟨0, Nat.zero_le _, rfl, rfl, ?_, bal (Below.refl _ _) _, by simp [canL, nms]⟩
    have := mv_new w
    exact this
  case round =>
    obtain ⟨j, hj, rfl, rfl, hM, hb, hcj⟩ := hrel
    by_cases hlt : j < n
    · obtain ⟨x, hx⟩ : ∃ x, l.getD j ([], []) = x := ⟨_, rfl⟩
      obtain ⟨q1, q2, q3, q4⟩ := HH.out
      have hxm : x ∈ l := by
        rw [← hx, List.getD_eq_getElem?_getD, List.getElem?_eq_getElem (by omega)]
        exact List.getElem_mem _
      have rr := q1.next hb
      have c0 := rr.c0 j (by omega)
      have c1 := rr.c1 j (by omega)
      rw [hx] at c0 c1
      have ea := rr.ptr (by omega)
      have htk : l.take (j + 1) = l.take j ++ [x] := by rw [← hx]; exact take_snoc _ _ _ (by omega)
      have hnd := hcj.1
      obtain ⟨nm, hnm⟩ : ∃ nm : ByteArray, (⟨x.1.toArray⟩ : ByteArray) = nm := ⟨_, rfl⟩
      obtain ⟨dt, hdt⟩ : ∃ dt : ByteArray, (⟨x.2.toArray⟩ : ByteArray) = dt := ⟨_, rfl⟩
      rw [hnm] at c0
      rw [hdt] at c1
      have hsz : nm.size ≤ maxLen := by rw [← size_list, ← hnm]; exact q2 x hxm
      have hds : dt.size = x.2.length := by rw [← size_list, ← hdt]
      have hnl : nm.data.toList = x.1 := by rw [← hnm]
      have hi1 : (0 : Int) ≤ (j : Int) := by omega
      have hi2 : (j : Int) < (n : Int) := by omega
      have hw : IntKind.i64.wrap ((j : Int) + 1) = (j : Int) + 1 := by rw [IntKind.wrap_i64]; omega
      obtain ⟨w1, hw1⟩ : ∃ W, wr.alloc (.cells #[.string nm, .string dt] 25) = W := ⟨_, rfl⟩
      have HW1 := hide hw1
      have hb1 : Below wr.heap.size wr w1 := by rw [← hw1]; exact bal (Below.refl _ _) _
      have k1 : w1.heap[wr.heap.size]? = some (.cells #[.string nm, .string dt] 25 (0, 0)) := by rw [← hw1]; exact new1 _ _
      have d0 : w1.cell? ⟨wr.heap.size, 0, none⟩ = some (.string nm) := by rw [cell_of_row w1 wr.heap.size 0 _ _ (0, 0) k1]; rfl
      have d1 : w1.cell? ⟨wr.heap.size, 1, none⟩ = some (.string dt) := by rw [cell_of_row w1 wr.heap.size 1 _ _ (0, 0) k1]; rfl
      have M1 := hM.same (hb1.block _ hM.lt)
      have hlk := M1.look_ok Tryz.underlying108 (z := .agg #[]) (by kernel_rfl) hsz
      rw [hnl] at hlk
      subst ea
      obtain ⟨w2, hw2⟩ : ∃ W, w1.alloc (.cells #[] 109) = W := ⟨_, rfl⟩
      have HW2 := hide hw2
      have hb2 : Below w1.heap.size w1 w2 := by rw [← hw2]; exact bal (Below.refl _ _) _
      have k2 := (hb2.block _ (Array.getElem?_eq_some_iff.1 k1).1).trans k1
      have e0 : w2.cell? ⟨wr.heap.size, 0, none⟩ = some (.string nm) := by rw [cell_of_row w2 wr.heap.size 0 _ _ (0, 0) k2]; rfl
      have e1 : w2.cell? ⟨wr.heap.size, 1, none⟩ = some (.string dt) := by rw [cell_of_row w2 wr.heap.size 1 _ _ (0, 0) k2]; rfl
      have M2 := M1.same (hb2.block _ M1.lt)
      have HB2 : Hid (Below w.heap.size w w2) := bnext (bnext hb hb1) hb2
      by_cases hno : x.1 ∈ nms (l.take j)
      · rw [nmF, if_pos hno] at hlk
        simp only [Option.getD_some, Option.isSome_some] at hlk
        have HZ : Hid (¬ canL l) := fun hc => (nms_take htk hc.1).1 hno
        clear hb1 hb2 k1 k2 M1 M2 hb hM q1 q2 q3 q4 rr hx hxm hw1 hnm hdt hw2 hno hcj hnd htk hds
        go_upto_region 5 with (fail)
        rw [HW1.out]
        go_upto_region 6 with (fail)
        rw [HW2.out]
        go_wp2
        go_ret
        exact ⟨false, rfl, ⟨fun q => (by cases q), fun q => absurd q HZ.out⟩, HB2.out⟩
      · rw [nmF, if_neg hno] at hlk
        simp only [Option.getD_none, Option.isSome_none] at hlk
        by_cases hbig : 268435456 < dt.size
        · have hgt : (dt.size : Int) > 268435456 := by omega
          have HZ : Hid (¬ canL l) := fun hc => by have := hc.2 x hxm; omega
          clear hb1 hb2 k1 k2 M1 M2 hb hM q1 q2 q3 q4 rr hx hxm hw1 hnm hdt hw2 hno hcj hnd htk hds hbig
          go_upto_region 5 with (fail)
          rw [HW1.out]
          go_upto_region 6 with (fail)
          rw [HW2.out]
          go_wp2
          go_ret
          exact ⟨false, rfl, ⟨fun q => (by cases q), fun q => absurd q HZ.out⟩, HB2.out⟩
        · have hgt : ¬ ((dt.size : Int) > 268435456) := by omega
          have hlen : (nms (l.take j)).length < maxLen := by
            rw [nms, List.length_map, List.length_take]
            unfold maxLen
            omega
          obtain ⟨w3, hup, M3, g3⟩ := M2.write Tryz.underlying108 hnd (nmF_in _) hlen hsz (.agg #[])
          rw [hnl, nmF_upd] at M3
          have HG : Hid (Mv w3 w.heap.size (nmF (nms (l.take (j + 1)))) ∧ Below w.heap.size w w3 ∧ canL (l.take (j + 1))) := by
            refine ⟨?_, ?_, ?_⟩
            · rw [htk, show nms (l.take j ++ [x]) = nms (l.take j) ++ [x.1] by simp [nms]]; exact M3
            · exact (bnext (bnext hb hb1) hb2).grown g3 (bnext (bnext hb hb1) hb2).size (fun y hy => by injection hy with hy; omega)
            · refine ⟨?_, fun y hy => ?_⟩
              · rw [htk, show nms (l.take j ++ [x]) = nms (l.take j) ++ [x.1] by simp [nms]]
                exact List.nodup_append.2 ⟨hnd, by simp, fun a ha b' hb' e => by
                  have : b' = x.1 := by simpa using hb'
                  subst this
                  subst e
                  exact hno ha⟩
              · rw [htk] at hy
                rcases List.mem_append.1 hy with hy | hy
                · exact hcj.2 y hy
                · simp at hy
                  subst hy
                  omega
          clear hw2 hb1 hb2 k1 k2 M1 M2 M3 g3 hb hM hcj hnd hno hbig hds
          clear q1 q2 q3 q4 rr hx hxm hw1 hnm hdt
          go_upto_region 5 with (fail)
          rw [HW1.out]
          go_upto_region 6 with (fail)
          rw [HW2.out]
          go_wp2
          go_roundg (n - (j + 1))
          case rel =>
            go_light
            exact ⟨j + 1, by omega, rfl, by go_num, HG.out.1, HG.out.2.1, HG.out.2.2⟩
          case measure => go_light; omega
    · obtain rfl : j = n := by omega
      have hz : ¬ ((j : Int) < (j : Int)) := by omega
      have htk : l.take j = l := List.take_of_length_le (by have := HH.out.2.2.1; omega)
      rw [htk] at hcj
      have HB := hide (And.intro hb hcj)
      clear hb hM hlt hcj htk
      go_wp2
      go_ret
      exact ⟨true, rfl, ⟨fun _ => HB.out.2, fun _ => rfl⟩, HB.out.1⟩
end Go.Proofs.YthfnpagangjpbabGreat
namespace Go.Proofs.YthfnpagangjpbabGreat
open Go.RowKit
def OpP (w : World) (n : Nat) (l : List (List UInt8 × List UInt8)) (e : Ending) (w' : World) : Prop :=
  (¬ canL l ∧ e = .returned (.tuple #[.pointer none, .int .i64 173]) ∧ Below w.heap.size w w') ∨
  (canL l ∧ n < byt l ∧ e = .returned (.tuple #[.pointer none, .int .i64 172]) ∧ Below w.heap.size w w') ∨
  (canL l ∧ byt l ≤ n ∧ Below w.heap.size w w' ∧ ∃ p S, e = .returned (.tuple #[.pointer (some ⟨p, 0, none⟩), .int .i64 0]) ∧ Dsk w' p S (openD n l) ∧ ∀ x, S x → w.heap.size ≤ x)
set_option maxRecDepth 100000 in
set_option maxHeartbeats 2000000 in
theorem open_any (w : World) (rm : Int) (room : Nat) (hrm : room = rm.toNat) (hroom : rm ≤ 9223372036854775807) (ao : Option Addr) (b off c : Nat) (l : List (List UInt8 × List UInt8)) (hr : RdF w ao b off l) (hs : ∀ x ∈ l, x.1.length ≤ maxLen) (hl : l.length ≤ 1099511627776) :
    Calls Tryz.prog 7 #[.int .i64 rm, .slice ao l.length c] w (OpP w room l) := by
  have HC := hide (canlie_any w ao b off c l hr hs hl)
  obtain ⟨n, hn⟩ : ∃ n, l.length = n := ⟨_, rfl⟩
  have HH : Hid (RdF w ao b off l ∧ (∀ x ∈ l, x.1.length ≤ maxLen) ∧ l.length = n ∧ n ≤ 1099511627776 ∧ room ≤ 9223372036854775807) := ⟨hr, hs, hn, by omega, by omega⟩
  have HL : Hid (canL l → ∀ W, Below w.heap.size w W → Calls Tryz.prog 25 #[.slice ao n c] W fun e w' => ∃ R, e = .returned (.map (some W.heap.size)) ∧ Fm w' W.heap.size R (layL l) ∧ (∀ s ∈ keys (layL l), ∀ x, Blk (R s) x → W.heap.size ≤ x) ∧ Below W.heap.size W w') := fun hc W hW => by
    rw [← hn]; exact laid_any W ao b off c l (hr.next hW) (fun x hx => ⟨hs x hx, hc.2 x hx⟩) hl
  rw [hn] at HC ⊢
  have hmx : (if rm < 0 then 0 else rm) = (room : Int) := by split <;> omega
  have hm : max rm 0 = (room : Int) := by omega
  clear hr hs hl hn hrm hroom
  by_cases hc : canL l
  rotate_left 1
  · go_enter Tryz.func7, Tryz.ntmps7
    go_upto_region 2 with (go_at_call 24; (with_reducible refine HC.out.mono ?_); rintro e w1 ⟨bb, rfl, hbb, u1⟩; obtain rfl : bb = false := (by cases bb <;> simp_all))
    have HZ : Hid (OpP w room l (.returned (.tuple #[.pointer none, .int .i64 173])) w1) := .inl ⟨hc, rfl, u1⟩
    clear hbb u1 hc
    go_wp2
    go_ret2
    exact HZ.out
  have HCa := hide hc
  clear hc
  go_enter Tryz.func7, Tryz.ntmps7
  go_upto_region 3 with (go_at_call 24; (with_reducible refine HC.out.mono ?_); rintro e w1 ⟨bb, rfl, hbb, u1⟩; obtain rfl : bb = true := hbb.2 HCa.out)
  clear HC hbb
  go_wp2
  go_loopg [6, 16] n (fun g f i wr => ∃ j : Nat, j ≤ n ∧ g = n - j ∧ i = .int .i64 (j : Int) ∧ f = .int .i64 ((room - byt (l.take j) : Nat) : Int) ∧ byt (l.take j) ≤ room ∧ Below w.heap.size w wr)
  case atStart =>
    go_light
    exact ⟨0, Nat.zero_le _, rfl, rfl, by simp [byt], by simp [byt], u1⟩
  case round =>
    obtain ⟨j, hj, rfl, rfl, rfl, hfj, hb⟩ := hrel
    by_cases hlt : j < n
    · obtain ⟨x, hx⟩ : ∃ x, l.getD j ([], []) = x := ⟨_, rfl⟩
      obtain ⟨q1, q2, q3, q4, q7⟩ := HH.out
      have rr := q1.next hb
      have c0 := rr.c0 j (by omega)
      have c1 := rr.c1 j (by omega)
      rw [hx] at c0 c1
      have ea := rr.ptr (by omega)
      have htk : l.take (j + 1) = l.take j ++ [x] := by rw [← hx]; exact take_snoc _ _ _ (by omega)
      have hbt := byt_snoc (l.take j) x
      rw [← htk] at hbt
      have hle := byt_take l (j + 1)
      obtain ⟨nm, hnm⟩ : ∃ nm : ByteArray, (⟨x.1.toArray⟩ : ByteArray) = nm := ⟨_, rfl⟩
      obtain ⟨dt, hdt⟩ : ∃ dt : ByteArray, (⟨x.2.toArray⟩ : ByteArray) = dt := ⟨_, rfl⟩
      rw [hnm] at c0
      rw [hdt] at c1
      have hds : dt.size = x.2.length := by rw [← size_list, ← hdt]
      obtain ⟨fr, hfr⟩ : ∃ fr, room - byt (l.take j) = fr := ⟨_, rfl⟩
      have hi1 : (0 : Int) ≤ (j : Int) := by omega
      have hi2 : (j : Int) < (n : Int) := by omega
      have hw : IntKind.i64.wrap ((j : Int) + 1) = (j : Int) + 1 := by rw [IntKind.wrap_i64]; omega
      rw [hfr]
      obtain ⟨w2, hw2'⟩ : ∃ W, wr.alloc (.cells #[.string nm, .string dt] 25) = W := ⟨_, rfl⟩
      have HW2 := hide hw2'
      have hb2 : Below wr.heap.size wr w2 := by rw [← hw2']; exact bal (Below.refl _ _) _
      have k1 : w2.heap[wr.heap.size]? = some (.cells #[.string nm, .string dt] 25 (0, 0)) := by rw [← hw2']; exact new1 _ _
      have d1 : w2.cell? ⟨wr.heap.size, 1, none⟩ = some (.string dt) := by rw [cell_of_row w2 wr.heap.size 1 _ _ (0, 0) k1]; rfl
      subst ea
      by_cases hbig : fr < dt.size
      · have hgt : (dt.size : Int) > (fr : Int) := by omega
        have HZ : Hid (OpP w room l (.returned (.tuple #[.pointer none, .int .i64 172])) w2) := .inr (.inl ⟨HCa.out, by omega, rfl, bnext hb hb2⟩)
        clear q1 q2 q3 q4 q7 rr hx hw2' hnm hdt hb hb2 k1 htk hbt hle hds hfr hbig hfj
        go_upto_region 7 with (fail)
        rw [HW2.out]
        go_wp2
        go_ret2
        exact HZ.out
      have hgt : ¬ ((dt.size : Int) > (fr : Int)) := by omega
      have hw2 : IntKind.i64.wrap ((fr : Int) - (dt.size : Int)) = ((room - byt (l.take (j + 1)) : Nat) : Int) := by rw [IntKind.wrap_i64]; omega
      obtain ⟨f2, hf2⟩ : ∃ f2, room - byt (l.take (j + 1)) = f2 := ⟨_, rfl⟩
      rw [hf2] at hw2
      have HG : Hid (Below w.heap.size w w2 ∧ room - byt (l.take (j + 1)) = f2 ∧ byt (l.take (j + 1)) ≤ room) := ⟨bnext hb hb2, hf2, by omega⟩
      clear q1 q2 q3 q4 q7 rr hx hw2' hnm hdt hb hb2 k1 htk hbt hle hds hf2 hfr hbig hfj
      go_upto_region 7 with (fail)
      rw [HW2.out]
      go_wp2
      go_roundg (n - (j + 1))
      case rel =>
        go_light
        exact ⟨j + 1, by omega, rfl, by go_num, by rw [HG.out.2.1], HG.out.2.2, HG.out.1⟩
      case measure => go_light; omega
    · obtain rfl : j = n := by omega
      have hz : ¬ ((j : Int) < (j : Int)) := by omega
      have htk : l.take j = l := List.take_of_length_le (by have := HH.out.2.2.1; omega)
      rw [htk] at hfj ⊢
      have HLw := hide (HL.out HCa.out wr hb)
      have HFj := hide hfj
      clear hfj
      obtain ⟨fr, hfr⟩ : ∃ fr, room - byt l = fr := ⟨_, rfl⟩
      rw [hfr]
      have HB := hide hb
      have HFr := hide hfr
      clear hb hlt hj htk HL hfr
      go_wp2_with (go_at_call 25; (with_reducible refine HLw.out.mono ?_); rintro e w3 ⟨R, rfl, hF, hlow, hb3⟩)
      go_ret2
      have k1 := new1 w3 (.cells #[.int .i64 (fr : Int), .map (some wr.heap.size), .int .i64 0, .int .i64 0, .int .i64 0, .slice none 0 0, .bool false] 69)
      have hbe : Below w3.heap.size w3 (w3.alloc (.cells #[.int .i64 (fr : Int), .map (some wr.heap.size), .int .i64 0, .int .i64 0, .int .i64 0, .slice none 0 0, .bool false] 69)) := bal (Below.refl _ _) _
      have hF2 := hF.same (hbe.block _ hF.mp.lt) (fun x hx => hbe.block x hx.lt)
      have h7 := HH.out.2.2.2.2
      have hfe := HFr.out
      refine .inr (.inr ⟨HCa.out, HFj.out, bnext (bnext HB.out hb3) hbe, w3.heap.size, Foot w3.heap.size wr.heap.size R 0 (openD room l), rfl, ⟨wr.heap.size, R, none, 0, 0, 0, ⟨?_, hF2.mp, hF2.ord, fun s hs _ => hF2.fil s hs, fun s hs x hx => (hF2.fil s hs).blk hx, hF2.apart, hF2.nm, hF2.cnt, rdl_nil _ _ _ _, fun h0 => by simp [openD] at h0, by simp [openD], by show room - byt l ≤ _; omega, by simp [openD], .inl rfl⟩, fun x => Iff.rfl⟩, fun x hx => ?_⟩)
      · rw [← hfe] at k1
        rw [← hfe]; exact k1
      · have z1 := HB.out.size
        have z2 := hb3.size
        rcases hx with q | q | ⟨s, hs, q⟩ | ⟨q, _⟩
        · omega
        · omega
        · have := hlow s hs x q; omega
        · simp [openD] at q
end Go.Proofs.YthfnpagangjpbabGreat
