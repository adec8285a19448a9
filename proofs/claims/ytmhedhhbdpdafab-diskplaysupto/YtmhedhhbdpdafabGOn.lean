/-
  QOpn, QOpw in one text. Own work.
-/
import Derived.Test.YtmhedhhbdpdafabQLay
import Derived.BigQuiet
/-
  Open of the document's disk. Own work.
-/
namespace Go.Proofs.Ytmhedhhbdpdafab
open Go.RowKit
/-- The document's files of a list, all synced. -/
def rlayL (l : List (List UInt8 × List UInt8)) : List (List UInt8 × FV) := l.foldl (fun acc x => rput acc x.1 ⟨x.2, x.2⟩) []
theorem rlayL_snoc (l : List (List UInt8 × List UInt8)) (x : List UInt8 × List UInt8) : rlayL (l ++ [x]) = rput (rlayL l) x.1 ⟨x.2, x.2⟩ := by simp [rlayL]
theorem srt_rlay (l : List (List UInt8 × List UInt8)) : srt (rlayL l) := by
  refine rev_ind (P := fun l => srt (rlayL l)) (by simp [rlayL, srt]) (fun l x h => ?_) l
  rw [rlayL_snoc]
  exact srt_rput h _ _
theorem rlay_len (l : List (List UInt8 × List UInt8)) : (rlayL l).length ≤ l.length := by
  refine rev_ind (P := fun l => (rlayL l).length ≤ l.length) (by simp [rlayL]) (fun l x h => ?_) l
  rw [rlayL_snoc]
  have := rput_len (rlayL l) x.1 ⟨x.2, x.2⟩
  simp
  omega
theorem rlay_mem (l : List (List UInt8 × List UInt8)) : ∀ p ∈ rlayL l, p.1 ∈ nms l := by
  refine rev_ind (P := fun l => ∀ p ∈ rlayL l, p.1 ∈ nms l) (by simp [rlayL]) (fun l x h p hp => ?_) l
  rw [rlayL_snoc] at hp
  simp only [nms, List.map_append, List.mem_append]
  rcases rput_mem hp with hp | rfl
  · exact .inl (h p hp)
  · exact .inr (by simp)
theorem fput_none {L : List (List UInt8 × FV)} (ho : Ord L) {s : List UInt8} (h : s ∉ L.map (·.1)) : fput L s fz = L := by
  induction L with
  | nil => rfl
  | cons q r ih =>
    obtain ⟨t, g⟩ := q
    simp only [List.map_cons, List.mem_cons, not_or] at h
    rw [fput, if_neg (fun e => h.1 e.symm)]
    split
    · rw [if_pos (show fz.gone = true from rfl)]
    · rw [ih (ord_tail ho) h.2]
theorem filt_rlay (l : List (List UInt8 × List UInt8)) : (nms l).Nodup → filt (rlayL l) = layL l ∧ tot (rlayL l) = byt l := by
  refine rev_ind (P := fun l => (nms l).Nodup → filt (rlayL l) = layL l ∧ tot (rlayL l) = byt l) (fun _ => ⟨rfl, rfl⟩) (fun l x ih hn => ?_) l
  have h1 : nms (l ++ [x]) = nms l ++ [x.1] := by simp [nms]
  rw [h1] at hn
  have h2 := List.nodup_append.1 hn
  obtain ⟨i1, i2⟩ := ih h2.1
  have hno : x.1 ∉ nms l := fun hm => h2.2.2 _ hm _ (List.mem_singleton.2 rfl) rfl
  have hno2 : x.1 ∉ (filt (rlayL l)).map (·.1) := fun hm => by
    obtain ⟨p, hp, e⟩ := List.mem_map.1 hm
    have := rlay_mem l p (filt_mem hp).1
    rw [e] at this
    exact hno this
  have hg : fget (rlayL l) x.1 = fz := by rw [← fget_filt (srt_rlay l)]; exact fget_none hno2
  refine ⟨?_, ?_⟩
  · rw [rlayL_snoc, filt_rput (srt_rlay l), layL_snoc]
    split
    · rename_i h0
      rw [h0]
      have := fput_none (ord_filt (srt_rlay l)) hno2
      rw [← i1]
      exact this
    · rw [i1]
  · rw [rlayL_snoc, byt_snoc]
    have e1 := tot_put (ord_filt (srt_rlay l)) x.1 ⟨x.2, x.2⟩
    rw [← filt_rput (srt_rlay l), tot_filt, tot_filt, fget_filt (srt_rlay l), hg] at e1
    simp only [fz, List.length_nil, Nat.add_zero] at e1
    rw [e1, i2]
/-- A disk opened, the document's. -/
def openR (room : Nat) (l : List (List UInt8 × List UInt8)) : RV := { newR room with L := rlayL l }
theorem sim_open (room : Nat) (l : List (List UInt8 × List UInt8)) (hn : (nms l).Nodup) (hb : byt l ≤ room) : Sim (openD room l) (openR room l) := by
  obtain ⟨h1, h2⟩ := filt_rlay l hn
  exact ⟨h1.symm, srt_rlay l, rfl, rfl, fun _ => by show room - byt l + tot (rlayL l) = room; rw [h2]; omega, fun q => (by cases q), .inl ⟨rfl, rfl⟩⟩
theorem sim_new (room : Nat) : Sim (newD room) (newR room) := ⟨rfl, by simp [newR, srt], rfl, rfl, fun _ => by show room + 0 = room; rfl, fun q => (by cases q), .inl ⟨rfl, rfl⟩⟩
/-- What Open comes to. -/
def OpQ (w : World) (n : Nat) (l : List (List UInt8 × List UInt8)) (e : Ending) (w' : World) : Prop :=
  (¬ canL l ∧ e = .returned (.tuple #[.pointer none, .int .i64 173]) ∧ Below w.heap.size w w') ∨
  (canL l ∧ n < byt l ∧ e = .returned (.tuple #[.pointer none, .int .i64 172]) ∧ Below w.heap.size w w') ∨
  (canL l ∧ byt l ≤ n ∧ Below w.heap.size w w' ∧ ∃ p S, e = .returned (.tuple #[.pointer (some ⟨p, 0, none⟩), .int .i64 0]) ∧ Rsk w' p S (openR n l) ∧ ∀ x, S x → w.heap.size ≤ x)
end Go.Proofs.Ytmhedhhbdpdafab
/-
  Open of the document's disk: its walk. Own work.
-/
namespace Go.Proofs.Ytmhedhhbdpdafab
open Go.RowKit
theorem rk_some {w : World} {p : Nat} {S : Nat → Prop} {V : RV} (h : Rsk w p S V) (hk : V.ks = []) : ∃ lv ka kb ko kc, Rk w p lv ka kb ko kc V ∧ ∀ x, S x → x = p ∨ lv.ownBlock = some x := by
  obtain ⟨lv, ka, kb, ko, kc, h1, h2⟩ := h
  refine ⟨lv, ka, kb, ko, kc, h1, fun x hx => ?_⟩
  rcases (h2 x).2 hx with q | q | ⟨q, _⟩
  · exact .inl q
  · exact .inr q
  · rw [hk] at q; simp at q
set_option maxRecDepth 100000 in
set_option maxHeartbeats 8000000 in
theorem ropen_any (w : World) (room : Int) (n : Nat) (hn : n = room.toNat) (h2 : room ≤ 9223372036854775807) (ao : Option Addr) (b off c : Nat) (l : List (List UInt8 × List UInt8)) (hr : RdF w ao b off l) (hs : ∀ x ∈ l, x.1.length ≤ maxLen) (hl : l.length < 1073741824) (hby : byt l ≤ 4611686018427387904) :
    Calls Try.prog 20 #[.int .i64 room, .slice ao l.length c] w (OpQ w n l) := by
  have HN := hide (rnew_any w room n hn h2)
  obtain ⟨m, hm⟩ : ∃ m, l.length = m := ⟨_, rfl⟩
  have HH : Hid (RdF w ao b off l ∧ (∀ x ∈ l, x.1.length ≤ maxLen) ∧ l.length = m ∧ m < 1073741824 ∧ byt l ≤ 4611686018427387904 ∧ n ≤ 9223372036854775807) := ⟨hr, hs, hm, by omega, hby, by omega⟩
  rw [hm]
  clear hr hs hl hm hn h2 hby
  go_enter Try.func20, Try.ntmps20
  go_upto_region 2 with (go_at_call 7; (with_reducible refine HN.out.mono ?_); rintro e w1 ⟨p, S, rfl, ds1, hs1, u1⟩)
  obtain ⟨lv1, ka, kb, ko, kc, r1, hq1⟩ := ds1
  have hpw : w.heap.size ≤ p := hs1 p ((hq1 p).1 (.inl rfl))
  have HS0 : Hid (Rk w1 p lv1 ka kb ko kc { newR n with L := rlayL (l.take 0) } ∧ (∀ g, lv1.ownBlock = some g → w.heap.size ≤ g) ∧ Below w.heap.size w w1 ∧ canL (l.take 0)) := by
    exact ⟨r1, fun g hg => hs1 g ((hq1 g).1 (.inr (.inl hg))), u1, by simp [canL, nms]⟩
  have HP : Hid (w.heap.size ≤ p) := hpw
  clear r1 hpw u1 HN hs1 hq1
  go_wp2
  go_loopg [7, 8, 9] m (fun g x y z wr => ∃ (j : Nat) (lv : Value), j ≤ m ∧ g = m - j ∧ y = .int .i64 (j : Int) ∧ x = .int .i64 (byt (l.take j) : Int) ∧ Hid (Rk wr p lv ka kb ko kc { newR n with L := rlayL (l.take j) } ∧ (∀ g, lv.ownBlock = some g → w.heap.size ≤ g) ∧ Below w.heap.size w wr ∧ canL (l.take j)))
  case atStart => exact ⟨0, lv1, Nat.zero_le _, rfl, rfl, rfl, HS0⟩
  case round =>
    clear HS0
    obtain ⟨j, lv, hj, rfl, rfl, rfl, HO⟩ := hrel
    obtain ⟨q1, q2, q3, q4, q5, q6⟩ := HH.out
    by_cases hlt : j < m
    · obtain ⟨⟨t, x⟩, hx⟩ : ∃ x, l.getD j ([], []) = x := ⟨_, rfl⟩
      have hxm : (t, x) ∈ l := by
        rw [← hx, List.getD_eq_getElem?_getD, List.getElem?_eq_getElem (by omega)]
        exact List.getElem_mem _
      have rr := q1.next HO.out.2.2.1
      have e0 := rr.c0 j (by omega)
      have e1 := rr.c1 j (by omega)
      rw [hx] at e0 e1
      simp only at e0 e1
      have ea := q1.ptr (by omega)
      subst ea
      obtain ⟨tb, htb⟩ : ∃ a : ByteArray, ⟨t.toArray⟩ = a := ⟨_, rfl⟩
      obtain ⟨xb, hxb⟩ : ∃ a : ByteArray, ⟨x.toArray⟩ = a := ⟨_, rfl⟩
      rw [htb] at e0
      rw [hxb] at e1
      have htl : tb.data.toList = t := by rw [← htb]
      have hxl : xb.data.toList = x := by rw [← hxb]
      have hxz : xb.size = x.length := by rw [← size_list, hxl]
      have htz : tb.size ≤ maxLen := by rw [← size_list, htl]; exact q2 _ hxm
      have hi1 : (0 : Int) ≤ (j : Int) := by omega
      have hi2 : (j : Int) < (m : Int) := by omega
      have hw : IntKind.i64.wrap ((j : Int) + 1) = (j : Int) + 1 := by rw [IntKind.wrap_i64]; omega
      have htk : l.take (j + 1) = l.take j ++ [(t, x)] := by rw [← hx]; exact take_snoc _ _ _ (by omega)
      have hbt := byt_snoc (l.take j) (t, x)
      rw [← htk] at hbt
      simp only at hbt
      have hbl := byt_take l (j + 1)
      by_cases hbig : 268435456 < x.length
      · have hb' : (xb.size : Int) > 268435456 := by omega
        have HZ : Hid (OpQ w n l (.returned (.tuple #[.pointer none, .int .i64 173])) wr) := .inl ⟨fun hc => by have := hc.2 _ hxm; simp only at this; omega, rfl, HO.out.2.2.1⟩
        clear q1 q2 q3 q4 q5 q6 hx hxm rr htb hxb htl hxl hxz htz htk hbt hbl hbig HO hj hlt
        go_wp2
        go_ret2
        exact HZ.out
      · have hb' : ¬ ((xb.size : Int) > 268435456) := by omega
        obtain ⟨sm, hsm⟩ : ∃ k, byt (l.take j) = k := ⟨_, rfl⟩
        obtain ⟨sm2, hsm2⟩ : ∃ k, byt (l.take (j + 1)) = k := ⟨_, rfl⟩
        have hws : IntKind.i64.wrap ((sm : Int) + (xb.size : Int)) = (sm2 : Int) := by rw [IntKind.wrap_i64]; omega
        have HE : Hid (∀ W, Below w.heap.size w W → ∀ i, i < m → W.cell? ⟨b, off + i * 2, none⟩ = some (.string ⟨(l.getD i ([], [])).1.toArray⟩) ∧ W.cell? ⟨b, off + i * 2 + 1, none⟩ = some (.string ⟨(l.getD i ([], [])).2.toArray⟩)) := fun W hW i hi => by
          have := HH.out.1.next hW
          exact ⟨this.c0 i (by have := HH.out.2.2.1; omega), this.c1 i (by have := HH.out.2.2.1; omega)⟩
        have HX : Hid (l.getD j ([], []) = (t, x) ∧ (t, x) ∈ l ∧ tb.data.toList = t ∧ xb.data.toList = x ∧ tb.size ≤ maxLen ∧ xb.size ≤ 268435456 ∧ l.take (j + 1) = l.take j ++ [(t, x)] ∧ byt (l.take (j + 1)) = sm2 ∧ j < m ∧ x.length ≤ 268435456 ∧ m < 1073741824 ∧ l.length = m) := ⟨hx, hxm, htl, hxl, htz, by omega, htk, hsm2, hlt, by omega, q4, q3⟩
        rw [hsm]
        clear q1 q2 q3 q4 q5 q6 hx hxm rr htb hxb htl hxl hxz htz htk hbt hbl hbig hj hlt hsm hsm2
        go_wp2
        go_loopg [9] j (fun g z wx => ∃ k : Nat, k ≤ j ∧ g = j - k ∧ z = .int .i64 (k : Int) ∧ Hid (Rk wx p lv ka kb ko kc { newR n with L := rlayL (l.take j) } ∧ Below w.heap.size w wx ∧ ∀ i, i < k → (l.getD i ([], [])).1 ≠ t))
        case atStart =>
          go_light
          exact ⟨0, Nat.zero_le _, rfl, rfl, HO.out.1, HO.out.2.2.1, fun i hi => absurd hi (Nat.not_lt_zero i)⟩
        case round =>
          obtain ⟨k, hk, rfl, rfl, HQ⟩ := hrel
          clear e0 e1
          obtain ⟨e0, e1⟩ := HE.out wr HQ.out.2.1 j HX.out.2.2.2.2.2.2.2.2.1
          rw [HX.out.1] at e0 e1
          simp only at e0 e1
          have htb : (⟨t.toArray⟩ : ByteArray) = tb := by rw [← HX.out.2.2.1]
          have hxb : (⟨x.toArray⟩ : ByteArray) = xb := by rw [← HX.out.2.2.2.1]
          rw [htb] at e0
          rw [hxb] at e1
          by_cases hkj : k < j
          · have hk1 : (k : Int) < (j : Int) := by omega
            have hk2 : (0 : Int) ≤ (k : Int) := by omega
            have hk3 : (k : Int) < (m : Int) := by omega
            have hwk : IntKind.i64.wrap ((k : Int) + 1) = (k : Int) + 1 := by have := HX.out; rw [IntKind.wrap_i64]; omega
            have f0 := (HE.out wr HQ.out.2.1 k (by omega)).1
            obtain ⟨yb, hyb⟩ : ∃ a : ByteArray, ⟨(l.getD k ([], [])).1.toArray⟩ = a := ⟨_, rfl⟩
            rw [hyb] at f0
            have hyl : yb.data.toList = (l.getD k ([], [])).1 := by rw [← hyb]
            by_cases hty : yb = tb
            · have HZ : Hid (∀ W, Below wr.heap.size wr W → OpQ w n l (.returned (.tuple #[.pointer none, .int .i64 173])) W) := fun W hW => .inl ⟨fun hc => by
                obtain ⟨g1, g2, g3, g4, g5, g6, g7, g8, g9, g10, g11, g12⟩ := HX.out
                have hkl : k < (nms l).length := by rw [nms, List.length_map]; omega
                have hjl : j < (nms l).length := by rw [nms, List.length_map]; omega
                have e1 : (nms l)[k] = (nms l)[j] := by
                  simp only [nms, List.getElem_map]
                  have a1 : l.getD k ([], []) = l[k]'(by omega) := by rw [List.getD_eq_getElem?_getD, List.getElem?_eq_getElem (by omega)]; rfl
                  have a2 : l.getD j ([], []) = l[j]'(by omega) := by rw [List.getD_eq_getElem?_getD, List.getElem?_eq_getElem (by omega)]; rfl
                  rw [← a1, ← a2, ← hyl, g1, hty, g3]
                exact List.pairwise_iff_getElem.1 hc.1 k j hkl hjl hkj e1, rfl, bnext HQ.out.2.1 hW⟩
              subst hty
              clear HQ hyb hyl HX HE htb hxb hk hkj
              go_upto_region 11 with (fail)
              go_quiet (fail)
              go_wp2
              go_ret2
              exact HZ.out _ (below_drewN (Below.refl _ _) _)
            · have hbe := beq_ne hty
              have HZ : Hid (∀ W, Below wr.heap.size wr W → Rk W p lv ka kb ko kc { newR n with L := rlayL (l.take j) } ∧ Below w.heap.size w W ∧ ∀ i, i < k + 1 → (l.getD i ([], [])).1 ≠ t) := fun W hW => ⟨HQ.out.1.next hW, bnext HQ.out.2.1 hW, fun i hi => by
                rcases Nat.lt_or_ge i k with q | q
                · exact HQ.out.2.2 i q
                · obtain rfl : i = k := by omega
                  intro e
                  exact hty (ba_ext (by rw [hyl, e, HX.out.2.2.1]))⟩
              clear HQ hyb hyl htb hxb hty
              go_upto_region 11 with (fail)
              go_quiet (fail)
              go_wp2
              go_roundg (j - (k + 1))
              case rel =>
                go_light
                exact ⟨k + 1, by omega, rfl, by go_num, HZ.out _ (below_drewN (Below.refl _ _) _)⟩
              case measure => go_light; omega
          · obtain rfl : k = j := by omega
            have hk1 : ¬ ((k : Int) < (k : Int)) := by omega
            obtain ⟨g1, g2, g3, g4, g5, g6, g7, g8, g9, g10, g11, g12⟩ := HX.out
            have hcan : canL (l.take (k + 1)) := by
              obtain ⟨c1, c2⟩ := HO.out.2.2.2
              refine ⟨?_, fun y hy => ?_⟩
              · rw [g7]
                simp only [nms, List.map_append, List.map_cons, List.map_nil]
                refine List.nodup_append.2 ⟨c1, by simp, fun a ha b' hb' e => ?_⟩
                have hb2 : b' = t := by simpa using hb'
                subst hb2
                subst e
                obtain ⟨y, hy, rfl⟩ := List.mem_map.1 ha
                obtain ⟨i, hi, hyi⟩ := List.getElem_of_mem hy
                rw [List.length_take] at hi
                have := HQ.out.2.2 i (by omega)
                apply this
                rw [List.getD_eq_getElem?_getD, List.getElem?_eq_getElem (by omega)]
                rw [List.getElem_take] at hyi
                show (l[i]).1 = y.1
                rw [hyi]
              · rw [g7] at hy
                rcases List.mem_append.1 hy with hy | hy
                · exact c2 y hy
                · simp at hy
                  subst hy
                  exact g10
            have HPu : Hid (∀ W, Below wr.heap.size wr W → Calls Try.prog 45 #[.pointer (some ⟨p, 0, none⟩), .agg #[.string tb, .string xb, .string xb]] W fun e w' => e = .returned (.tuple #[]) ∧ ∃ lv', Hid (Rk w' p lv' ka kb ko kc { newR n with L := rlayL (l.take (k + 1)) } ∧ (∀ g, lv'.ownBlock = some g → w.heap.size ≤ g) ∧ Below w.heap.size w w' ∧ canL (l.take (k + 1)))) := fun W hW => by
              have hW2 := bnext HQ.out.2.1 hW
              have := rput_any W (HQ.out.1.next hW) tb xb xb g5 g6 g6 (by show (rlayL (l.take k)).length < _; have := rlay_len (l.take k); rw [List.length_take] at this; omega)
              refine this.mono fun e w' z => ⟨z.1, ?_⟩
              obtain ⟨_, lv', r', n', up'⟩ := z
              refine ⟨lv', ?_, fun g hg => Nat.le_trans hW2.size (n' g hg), upo_below hW2 (fun y hy => by rw [hy]; exact HP.out) up', hcan⟩
              rw [g7, rlayL_snoc]
              rw [g3, g4] at r'
              exact r'
            have HCs : Hid (∀ W, Below wr.heap.size wr W → W.cell? ⟨b, off + k * 2, none⟩ = some (.string tb) ∧ W.cell? ⟨b, off + k * 2 + 1, none⟩ = some (.string xb)) := fun W hW => by
              obtain ⟨e0, e1⟩ := HE.out W (bnext HQ.out.2.1 hW) k g9
              rw [g1] at e0 e1
              simp only at e0 e1
              rw [htb] at e0
              rw [hxb] at e1
              exact ⟨e0, e1⟩
            have HCf : Hid (∀ W, Below w.heap.size w W → W.cell? ⟨b, off + k * 2, none⟩ = some (.string tb) ∧ W.cell? ⟨b, off + k * 2 + 1, none⟩ = some (.string xb)) := fun W hW => by
              obtain ⟨e0, e1⟩ := HE.out W hW k g9
              rw [g1] at e0 e1
              simp only at e0 e1
              rw [htb] at e0
              rw [hxb] at e1
              exact ⟨e0, e1⟩
            have HB : Hid (Below w.heap.size w wr ∧ byt (l.take (k + 1)) = sm2 ∧ k + 1 ≤ m) := ⟨HQ.out.2.1, g8, g9⟩
            clear g1 g2 g3 g4 g5 g6 g7 g8 g9 g10 g11 g12 HX HQ HE HO htb hxb hcan hk hkj
            go_upto_region 14 with (fail)
            have tw := bdq wr
            go_region_held3 (fun Z => Z.cell? ⟨b, off + k * 2, none⟩ = some (.string tb) ∧ Z.cell? ⟨b, off + k * 2 + 1, none⟩ = some (.string xb)) (first | assumption | (exact HCs.out _ tw) | (exact ⟨e0, e1⟩) | (exact h5s)) (first
              | (go_at_call 45; (with_reducible refine (HPu.out _ tw).mono ?_); rintro e w5 ⟨rfl, lv5, HR5⟩; have h5s := HCf.out w5 HR5.out.2.2.1))
            all_goals
              go_wp2
              go_roundg (m - (k + 1))
              case rel =>
                go_light
                exact ⟨k + 1, lv5, HB.out.2.2, rfl, by go_num, by rw [HB.out.2.1], HR5⟩
              case measure => go_light; have := HB.out.2.2; omega
    · obtain rfl : j = m := by omega
      have hz : ¬ ((j : Int) < (j : Int)) := by omega
      have htk : l.take j = l := List.take_of_length_le (by omega)
      have hO := HO.out
      rw [htk] at hO
      obtain ⟨o1, o2, o3, o4⟩ := hO
      obtain ⟨y0, _⟩ := o1.cells
      have y0' : wr.cell? ⟨p, 0, none⟩ = some (.int .i64 (n : Int)) := y0
      rw [htk]
      obtain ⟨sm, hsm⟩ : ∃ k, byt l = k := ⟨_, rfl⟩
      rw [hsm]
      by_cases hfit : sm ≤ n
      · have hf' : ¬ ((sm : Int) > (n : Int)) := by omega
        have HZ : Hid (OpQ w n l (.returned (.tuple #[.pointer (some ⟨p, 0, none⟩), .int .i64 0])) wr) := .inr (.inr ⟨o4, by omega, o3, p, RFoot p lv kb { newR n with L := rlayL l }, rfl, ⟨lv, ka, kb, ko, kc, o1, fun _ => Iff.rfl⟩, fun x hx => by
          rcases hx with rfl | hx | ⟨h0, _⟩
          · exact HP.out
          · exact o2 x hx
          · simp [newR] at h0⟩)
        clear q1 q2 q3 q4 q5 q6 htk o1 o2 o3 o4 y0 hsm hfit HO hj hlt
        go_wp2
        go_ret2
        exact HZ.out
      · have hf' : (n : Int) < (sm : Int) := by omega
        have HZ : Hid (OpQ w n l (.returned (.tuple #[.pointer none, .int .i64 172])) wr) := .inr (.inl ⟨o4, by omega, rfl, o3⟩)
        clear q1 q2 q3 q4 q5 q6 htk o1 o2 o3 o4 y0 hsm hfit HO hj hlt
        go_wp2
        go_ret2
        exact HZ.out
end Go.Proofs.Ytmhedhhbdpdafab
