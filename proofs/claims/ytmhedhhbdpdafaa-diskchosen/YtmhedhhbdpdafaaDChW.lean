/-
  DiskChosen. Own work.
-/
import Derived.Test.YtmhedhhbdpdafaaDChs
import Derived.Laws.OwnMore
namespace Go.Proofs.Ytmhedhhbdpdafaa
open Go.RowKit
/-- Numbers of one's own. -/
def OwnI (w : World) (B : Nat) (v : Value) (l : List Int) : Prop := w.ownsRow B 3 1 v l.length (l.map (Value.int .i64))
/-- Bytes of one's own. -/
def OwnY (w : World) (B : Nat) (v : Value) (l : List UInt8) : Prop := w.ownsRow B 5 1 v l.length (cY l)
theorem Try.infoI : (Try.prog.info? 3).map (fun i => (i.zero, i.size, i.bytes)) = some (some (.int .i64 0), 1, 8) := by kernel_rfl
theorem one_new (w : World) (a : Value) (T : TypeId) : ∀ j u, [a][j]? = some u → (w.alloc (.cells #[a] T)).cell? ((⟨w.heap.size, 0, none⟩ : Addr).add j) = some u := fun j u hu => by
  rw [Addr.add_mid, World.cell?_alloc_new, Nat.zero_add]
  simpa using hu
theorem ownI_rd {w : World} {B : Nat} {v : Value} {l : List Int} (h : OwnI w B v l) (h0 : 0 < l.length) : ∃ g cap, v = .slice (some ⟨g, 0, none⟩) l.length cap ∧ B ≤ g ∧ g < w.heap.size ∧ ∀ j, j < l.length → w.cell? ⟨g, j, none⟩ = some (.int .i64 (l.getD j 0)) := by
  have hh := h
  rcases h.2 with ⟨rfl, e⟩ | ⟨g, cap, cur, rfl, hg, hb, _⟩
  · omega
  · refine ⟨g, cap, rfl, hg, (Array.getElem?_eq_some_iff.1 hb).1, fun j hj => ?_⟩
    rw [World.ownsRow.cellAt hh j (by omega), List.getElem?_map, List.getD_eq_getElem?_getD, List.getElem?_eq_getElem hj]
    rfl
theorem ownY_rw {w : World} {B : Nat} {v : Value} {l : List UInt8} (h : OwnY w B v l) : ∃ ao g cap, v = .slice ao l.length cap ∧ Rw w ao g cap l := by
  have hh := h
  rcases h.2 with ⟨rfl, e⟩ | ⟨g, cap, cur, rfl, hg, hb, h1, h2, h3, h4⟩
  · have : l = [] := List.length_eq_zero_iff.1 e
    subst this
    exact ⟨none, 0, 0, rfl, rw_nil w 0⟩
  · refine ⟨some ⟨g, 0, none⟩, g, cap, rfl, ⟨.inr rfl, fun e => (by cases e), fun _ => ⟨cur, _, hb⟩, h1, fun _ j v hv => ?_, fun _ j hj => ?_⟩⟩
    · have hj : j < (cY l).length := (List.getElem?_eq_some_iff.1 hv).1
      rw [cY_len] at hj
      rw [Nat.zero_add, World.ownsRow.cellAt hh j (by omega), hv]
    · refine ⟨?_, frozen_of_row w g (0 + j) _ _ hb⟩
      rw [cell_of_row w g (0 + j) _ _ (0, 0) hb]
      have : 0 + j < cur.size := by rw [h3]; omega
      rw [Array.getElem?_eq_getElem this]; rfl
theorem make_bools (n : Nat) (hn : n ≤ 140737488355328) (u : World) : (Instr.makeSlice 28 (.int .i64 (n : Int)) (.int .i64 (n : Int))).run Try.prog u = .ok (.slice (some ⟨u.heap.size, 0, none⟩) n n) (u.alloc (.cells (Array.replicate n (Value.bool false)) 4)) := by
  have := run_make_row' (P := Try.prog) 28 4 (.bool false) 1 Try.underlying28 Try.infoB rfl .i64 .i64 n (by omega) (by omega) u
  rw [this, madeCells_one]
/-- The choices as they lie. -/
theorem hot_rd (w : World) (n k : Nat) (_hk : k < n) : RdL ((w.alloc (.cells (Array.replicate n (Value.bool false)) 4)).setCell ⟨w.heap.size, k, none⟩ (.bool true)) (some ⟨w.heap.size, 0, none⟩) w.heap.size 0 (hot n k) := by
  have k1 := new1 w (.cells (Array.replicate n (Value.bool false)) 4)
  have k2 := heap_setCell_same _ w.heap.size k _ _ (.bool true) k1
  refine ⟨fun _ => rfl, fun j hj => ?_⟩
  rw [hot_len] at hj
  rw [cell_of_row _ _ (0 + j) _ _ (0, 0) k2, Nat.zero_add]
  unfold hot
  rw [Array.getElem?_setIfInBounds]
  simp only [List.getD_eq_getElem?_getD, List.getElem?_set, List.length_replicate, List.getElem?_replicate, Array.getElem?_replicate, Array.size_replicate]
  by_cases e : k = j
  · subst e; simp [hj]
  · simp [e, hj]
theorem los_small (f : FV) (h1 : f.now.length ≤ 10000) (h2 : f.syn.length ≤ 10000) (n : Nat) (hn : n ≤ nsec f) : (los f n).length ≤ 1000 := by
  rw [los_len]
  have h3 : unl f n ≤ n := by
    clear hn
    induction n with
    | zero => exact Nat.le_refl _
    | succ n ih =>
      rw [unl]
      split <;> omega
  have h4 : e0 f ≤ 1 := by unfold e0; split <;> omega
  have : nsec f ≤ 200 := by unfold nsec; omega
  omega
theorem appI {w W W' : World} {v v' : Value} {l : List Int} {z : Int} (hb : Below w.heap.size w W) (ho : OwnI W w.heap.size v l) (g3 : World.grownBy (W.alloc (.cells #[.int .i64 z] 3)) W' v.ownBlock) (o3 : W'.ownsRow w.heap.size 3 1 v' (l.length + 1) (l.map (Value.int .i64) ++ [.int .i64 z])) : OwnI W' w.heap.size v' (l ++ [z]) ∧ Below w.heap.size w W' :=
  ⟨by unfold OwnI; rw [List.length_append, List.map_append]; exact o3, upo_below (bal hb _) (S := fun x => w.heap.size ≤ x) (fun x h => h) (Upo.grown g3 (fun b hb => (ho.lt b hb).1))⟩
theorem appY {w W W' : World} {v v' : Value} {l : List UInt8} {z : UInt8} (hb : Below w.heap.size w W) (ho : OwnY W w.heap.size v l) (g3 : World.grownBy (W.alloc (.cells #[.int .u8 (z.toNat : Int)] 5)) W' v.ownBlock) (o3 : W'.ownsRow w.heap.size 5 1 v' (l.length + 1) (cY l ++ [.int .u8 (z.toNat : Int)])) : OwnY W' w.heap.size v' (l ++ [z]) ∧ Below w.heap.size w W' :=
  ⟨by unfold OwnY; rw [List.length_append, cY_app]; exact o3, upo_below (bal hb _) (S := fun x => w.heap.size ≤ x) (fun x h => h) (Upo.grown g3 (fun b hb => (ho.lt b hb).1))⟩
theorem u8_ne (a b : UInt8) : (((a.toNat : Nat) : Int) != ((b.toNat : Nat) : Int)) = !decide (a = b) := by
  rw [bne, u8_eq]
theorem neg_at {x : Int} (h : x = -1) (j : Nat) : ¬ x = ((j / 64 : Nat) : Int) := by omega
set_option maxRecDepth 100000 in
set_option maxHeartbeats 4000000 in
theorem chosen_walk (w : World) (was0 : ByteArray) (ea : Option Addr) (eb eo en ec : Nat) (el : Nat → EdV) (hel : RdE w ea eb eo en el) (hen : en ≤ maxLen) (only : Int) :
    Calls Try.prog 8 #[.string was0, .slice ea en ec, .int .i64 only] w fun e w' => e = .returned (.bool true) ∧ Below w.heap.size w w' := by
  have HA := alive_any w
  obtain ⟨was, hwas⟩ : ∃ t : ByteArray, (⟨(was0.data.toList.take 1500).toArray⟩ : ByteArray) = t := ⟨_, rfl⟩
  have hws : was.size ≤ 1500 := by rw [← size_list, ← hwas, List.length_take]; omega
  have HS : Hid (∀ W, Calls Try.prog 12 #[.string was0, .int .i64 1500] W fun e w' => e = .returned (.string was) ∧ w' = W) := fun W => by
    have := short_any W was0 1500 (by omega)
    rw [hwas] at this
    exact this
  have HE : Hid (∀ W, Below w.heap.size w W → Calls Try.prog 26 #[.string was, .slice ea en ec] W fun e w' => ∃ p D now, e = .returned (.pointer (some ⟨p, 0, none⟩)) ∧ Ed D now was.data.toList 12 ∧ Bx W w' p D []) := fun W hW => edited_any W was hws ea eb eo en ec el (hel.next hW) hen
  have HWs := hide hws
  clear hel hen hws hwas
  go_enter Try.func8, Try.ntmps8
  go_upto_region 5 with (first
    | (go_at_call 9; (with_reducible refine HA.mono ?_); rintro e w1 ⟨rfl, u1⟩)
    | (go_at_call 12; (with_reducible refine (HS.out _).mono ?_); rintro e w2 ⟨rfl, h2⟩; rw [h2]; clear h2 w2)
    | (go_at_call 26; (with_reducible refine (HE.out _ u1).mono ?_); rintro e w3 ⟨p, D, now, rfl, hE, b3'⟩))
  have b3 : Bx w w3 p D [] := by
    obtain ⟨S, z1, z2, z3, z4⟩ := b3'
    exact ⟨S, z1, fun x hx => Nat.le_trans u1.size (z2 x hx), bnext u1 z3, fun c hc => by simp at hc⟩
  clear b3' u1 HA HE HS
  obtain ⟨N, hN⟩ : ∃ N : ByteArray, N = ⟨now.toArray⟩ := ⟨_, rfl⟩
  have hNl : N.data.toList = now := by rw [hN]
  clear hN
  subst hNl
  obtain ⟨f, hf⟩ : ∃ f : FV, f = ⟨N.data.toList, was.data.toList⟩ := ⟨_, rfl⟩
  have hfn : f.now = N.data.toList := by rw [hf]
  have hfs : f.syn = was.data.toList := by rw [hf]
  obtain ⟨nN, hnN⟩ : ∃ n, (one [102] N.data.toList).length = n := ⟨_, rfl⟩
  have hn1 : nN ≤ 1 := by rw [← hnN]; unfold one; split <;> simp
  have HFi : Hid (∀ W, Bx w W p D [] → Calls Try.prog 21 #[.pointer (some ⟨p, 0, none⟩)] W fun e w' => ∃ ao b c, e = .returned (.slice ao nN c) ∧ RdF w' ao b 0 (one [102] N.data.toList) ∧ Bx w w' p D [] ∧ Below W.heap.size W w') := fun W h => by rw [← hnN]; exact h.files hE.tell
  have HfN : Hid (∀ W ao b c, RdF W ao b 0 (one [102] N.data.toList) → Calls Try.prog 27 #[.slice ao nN c] W fun e w' => e = .returned (.tuple #[.string N, .bool true]) ∧ Below W.heap.size W w') := fun W ao b c h => by rw [← hnN]; exact file_of W ao b c N.data.toList rfl h
  have HAz : Hid (∀ W b, los f (nsec f) = [] → Bx w W p D [] → RdL W (some ⟨b, 0, none⟩) b 0 [true, false] → Calls Try.prog 22 #[.pointer (some ⟨p, 0, none⟩), .slice (some ⟨b, 0, none⟩) 2 2] W fun e w' => ∃ ao b c, e = .returned (.slice ao nN c) ∧ RdF w' ao b 0 (one [102] N.data.toList) ∧ Bx w w' p D [] ∧ Below W.heap.size W w') := fun W b h0 h hk => by
    rw [← hnN]; exact h.after _ b 0 2 [true, false] hk (by decide) (by rw [hE.aft, ← hf, stay_none f h0, hfn])
  have HSm : Hid (∀ W a b c a' b' c', RdF W a b 0 (one [102] N.data.toList) → RdF W a' b' 0 (one [102] N.data.toList) → Calls Try.prog 20 #[.slice a nN c, .slice a' nN c'] W fun e w' => e = .returned (.bool true) ∧ Below W.heap.size W w') := fun W a b c a' b' c' h1 h2 => by
    rw [← hnN]; exact same_yes W _ a b 0 c h1 a' b' 0 c' h2 (by omega)
  have HAk : Hid (∀ W b c k (G : ByteArray), k < (los f (nsec f)).length → Bx w W p D [] → RdL W (some ⟨b, 0, none⟩) b 0 (hot (los f (nsec f)).length k) → G.data.toList = (stay (hot (los f (nsec f)).length k) f 0).1 → Calls Try.prog 22 #[.pointer (some ⟨p, 0, none⟩), .slice (some ⟨b, 0, none⟩) (los f (nsec f)).length c] W fun e w' => ∃ ao b c, e = .returned (.slice ao (one [102] G.data.toList).length c) ∧ RdF w' ao b 0 (one [102] G.data.toList) ∧ Bx w w' p D [] ∧ Below W.heap.size W w') := fun W b c k G hk h hr hG => by
    have := h.after (some ⟨b, 0, none⟩) b 0 c (hot (los f (nsec f)).length k) hr (by rw [hot_len, los_len]; have := HWs.out; have := hE.sz; have h1 := los_small f (by rw [hfn]; omega) (by rw [hfs, size_list]; omega) (nsec f) (Nat.le_refl _); rw [los_len] at h1; omega) (by rw [hE.aft, ← hf, ← hG])
    rwa [hot_len] at this
  have hsz := hE.sz
  rw [size_list] at hsz
  have hws := HWs.out
  obtain ⟨ns, hns⟩ : ∃ z, N.size = z := ⟨_, rfl⟩
  obtain ⟨wz, hwz⟩ : ∃ z, was.size = z := ⟨_, rfl⟩
  rw [hns] at hsz
  rw [hwz] at hws
  have hls := fun n hn => los_small f (by rw [hfn, size_list, hns]; omega) (by rw [hfs, size_list, hwz]; omega) n hn
  have hnl : f.now.length = ns := by rw [hfn, size_list]; exact hns
  have hsl : f.syn.length = wz := by rw [hfs, size_list]; exact hwz
  obtain ⟨M, hM⟩ : ∃ M, nsec f = M := ⟨_, rfl⟩
  obtain ⟨mo, hmo⟩ : ∃ z, max wz ns = z := ⟨_, rfl⟩
  have hMm : M = (mo + 63) / 64 := by rw [← hM, ← hmo]; unfold nsec; rw [hnl, hsl, Nat.max_comm]
  have hmx : max (wz : Int) (ns : Int) = (mo : Int) := by omega
  have hmb : mo ≤ 10000 := by omega
  have HF : Hid (f.now = N.data.toList ∧ f.syn = was.data.toList ∧ f.now.length = ns ∧ f.syn.length = wz ∧ nsec f = M ∧ M = (mo + 63) / 64 ∧ ∀ n, n ≤ nsec f → (los f n).length ≤ 1000) := ⟨hfn, hfs, hnl, hsl, hM, hMm, hls⟩
  clear hE hnN hf hfn hfs hls hnl hsl hM hMm hmo
  go_upto_if 48 with (first
    | (go_at_call 21; (with_reducible refine (HFi.out _ b3).mono ?_); rintro e w4 ⟨ao, b, c, rfl, f4, b4, _⟩)
    | (go_at_call 27; (with_reducible refine (HfN.out _ _ _ _ f4).mono ?_); rintro e w5 ⟨rfl, u5⟩; clear f4; have b5 := b4.next u5))
  have HB5 := hide b5
  clear b3 b4 b5 u5
  obtain ⟨i0, hi, hz0, hz1, hz2⟩ := info_parts Try.infoI
  go_cut [11] from 39 to 51 (fun v wx => OwnI wx w5.heap.size v (los f 0) ∧ Below w5.heap.size w5 wx)
  case first =>
    by_cases hq : ns = wz
    · have hq1 : ((wz : Int) != (ns : Int)) = false := by simp [hq]
      have hq2 : ((wz : Int) = (ns : Int)) := by omega
      have HQ : Hid (los f 0 = []) := if_pos (by rw [HF.out.2.2.1, HF.out.2.2.2.1]; exact hq)
      clear hq
      go_wp2
      go_meet
      case rel =>
        rw [HQ.out]
        exact ⟨⟨rfl, .inl ⟨rfl, rfl⟩⟩, Below.refl _ _⟩
    · have hq2 : ¬ ((wz : Int) = (ns : Int)) := by omega
      have HQ : Hid (los f 0 = [-1]) := if_neg (by rw [HF.out.2.2.1, HF.out.2.2.2.1]; exact hq)
      have HO : Hid (OwnI w5 w5.heap.size (.slice none 0 0) []) := ⟨rfl, .inl ⟨rfl, rfl⟩⟩
      clear hq
      go_wp2_with (first
        | (at_builtin; refine wpList_append_own _ rfl _ _ 57 rfl w5.heap.size 3 i0 (.int .i64 0) 1 8 Try.underlying57 hi hz0 hz1 hz2 rfl (by decide) _ _ _ rfl (HO.out.alloc _) ⟨w5.heap.size, 0, none⟩ 1 1 [.int .i64 (-1)] rfl rfl (one_new _ _ _) (by simp [Value.oneCell']) (by decide) (by decide) (bal (Below.refl w5.heap.size w5) _).size ?_; intro v' w6 own6 g6 nil6; go_frame)
        | go_in)
      go_meet
      case rel =>
        rw [HQ.out]
        exact appI (Below.refl _ _) HO.out g6 own6
  case rest =>
  obtain ⟨own0, u0⟩ := hcut
  have HC := hide (And.intro own0 u0)
  clear own0 u0
  go_wp2
  go_loopg [11, 12] M (fun g v x wr => ∃ s : Nat, s ≤ M ∧ g = M - s ∧ x = .int .i64 (s : Int) ∧ OwnI wr w5.heap.size v (los f s) ∧ Below w5.heap.size w5 wr)
  case atStart =>
    exact ⟨0, Nat.zero_le _, rfl, rfl, HC.out.1, HC.out.2⟩
  case round =>
    clear HC
    obtain ⟨s, hs, rfl, rfl, own, ub⟩ := hrel
    have hM := HF.out.2.2.2.2.2.1
    by_cases hlt : 64 * s < mo
    · as_aux_lemma =>
        obtain ⟨q, hq⟩ : ∃ q, 64 * s = q := ⟨_, rfl⟩
        have e1 : IntKind.i64.wrap (64 * (s : Int)) = (q : Int) := by rw [IntKind.wrap_i64]; omega
        have e2 : IntKind.i64.wrap ((q : Int) + 64) = (q : Int) + 64 := by rw [IntKind.wrap_i64]; omega
        have e3 : IntKind.i64.wrap ((s : Int) + 1) = (s : Int) + 1 := by rw [IntKind.wrap_i64]; omega
        have hx1 : (q : Int) < (mo : Int) := by omega
        have HQ : Hid (64 * s = q ∧ s < M) := ⟨hq, by omega⟩
        have HO := hide (And.intro own ub)
        clear own ub hM hlt hq
        go_wp2
        generalize wr = wo at *
        clear wr
        go_loopg [13, 14] 64 (fun g xa xi wr => ∃ i : Nat, i ≤ 64 ∧ g = 64 - i ∧ xa = .bool (!pa was.data.toList N.data.toList s i) ∧ xi = .int .i64 ((q + i : Nat) : Int) ∧ wr = wo)
        case atStart =>
          exact ⟨0, by omega, rfl, rfl, rfl, rfl⟩
        case round =>
          obtain ⟨i, hi', rfl, rfl, rfl, rfl⟩ := hrel
          obtain ⟨x, hx⟩ : ∃ x, q + i = x := ⟨_, rfl⟩
          rw [hx]
          by_cases hin : i < 64
          · have hy1 : (x : Int) < (q : Int) + 64 := by omega
            have hpn : pa was.data.toList N.data.toList s (i + 1) = (pa was.data.toList N.data.toList s i && decide (was.data.toList.getD x 0 = N.data.toList.getD x 0)) := by rw [pa, HQ.out.1, hx]
            have HP2 := hide hpn
            have HAn : Hid (∀ W, Calls Try.prog 28 #[.string N, .int .i64 (x : Int)] W fun e w' => e = .returned (.int .u8 ((N.data.toList.getD x 0).toNat : Int)) ∧ w' = W) := fun W => at_any W N x
            have HAw : Hid (∀ W, Calls Try.prog 28 #[.string was, .int .i64 (x : Int)] W fun e w' => e = .returned (.int .u8 ((was.data.toList.getD x 0).toNat : Int)) ∧ w' = W) := fun W => at_any W was x
            generalize pa was.data.toList N.data.toList s i = A at *
            generalize N.data.toList.getD x 0 = cn at *
            generalize was.data.toList.getD x 0 = cw at *
            have e4 : IntKind.i64.wrap ((x : Int) + 1) = (x : Int) + 1 := by rw [IntKind.wrap_i64]; omega
            clear hpn
            cases A
            · have HP3 : Hid (pa was.data.toList N.data.toList s (i + 1) = false) := HP2.out
              go_wp2
              go_roundg (64 - (i + 1))
              case rel =>
                go_light
                exact ⟨i + 1, by omega, rfl, by rw [HP3.out]; rfl, by rw [← Nat.add_assoc, hx]; go_num, rfl⟩
              case measure => go_light; omega
            · have HP3 : Hid (pa was.data.toList N.data.toList s (i + 1) = decide (cw = cn)) := HP2.out
              go_wp2_with (first
                | (go_at_call 28; (with_reducible refine (HAw.out _).mono ?_); rintro e w7 ⟨rfl, rfl⟩)
                | (go_at_call 28; (with_reducible refine (HAn.out _).mono ?_); rintro e w7 ⟨rfl, rfl⟩))
              go_roundg (64 - (i + 1))
              case rel =>
                go_light
                exact ⟨i + 1, by omega, rfl, by rw [HP3.out]; exact congrArg Value.bool (u8_ne cw cn), by rw [← Nat.add_assoc, hx]; go_num, rfl⟩
              case measure => go_light; omega
          · obtain rfl : i = 64 := by omega
            have hy1 : ¬ ((x : Int) < (q : Int) + 64) := by omega
            have hps : pa was.data.toList N.data.toList s 64 = decide (f.now = f.now ∧ sec f.now s = sec f.syn s) := by
              rw [pa_sec, HF.out.1, HF.out.2.1]
              rw [decide_eq_decide]
              exact ⟨fun h => ⟨rfl, h.symm⟩, fun h => h.2.symm⟩
            rw [hps]
            clear hps
            have hsM := HQ.out.2
            by_cases hal : sec f.now s = sec f.syn s
            · have hlo : los f (s + 1) = los f s := by rw [los, if_pos hal, List.append_nil]
              have HLo := hide hlo
              have hd : decide (f.now = f.now ∧ sec f.now s = sec f.syn s) = true := decide_eq_true ⟨rfl, hal⟩
              rw [hd]
              clear hd hlo hal
              go_wp2
              go_roundg (M - (s + 1))
              case rel =>
                go_light
                exact ⟨s + 1, by omega, rfl, by go_num, by rw [HLo.out]; exact HO.out.1, HO.out.2⟩
              case measure => go_light; omega
            · have hlo : los f (s + 1) = los f s ++ [(s : Int)] := by rw [los, if_neg hal]
              have HLo := hide hlo
              have hd : decide (f.now = f.now ∧ sec f.now s = sec f.syn s) = false := decide_eq_false (fun h => hal h.2)
              rw [hd]
              have hsm := HF.out.2.2.2.2.2.2 s (by rw [HF.out.2.2.2.2.1]; omega)
              have Q : Hid ((los f s).length + 1 ≤ maxLen ∧ ((los f s).length + 1) * 8 ≤ 140737488355328 ∧ w5.heap.size ≤ (wr.alloc (.cells #[.int .i64 (s : Int)] 3)).heap.size) := ⟨by unfold maxLen; omega, by omega, (bal HO.out.2 _).size⟩
              clear hd hlo hal hsm
              go_wp2_with (first
                | (at_builtin; refine wpList_append_own _ rfl _ _ 57 rfl w5.heap.size 3 i0 (.int .i64 0) 1 8 Try.underlying57 hi hz0 hz1 hz2 rfl (by decide) _ _ _ rfl (HO.out.1.alloc _) ⟨wr.heap.size, 0, none⟩ 1 1 [.int .i64 (s : Int)] rfl rfl (one_new _ _ _) (by simp [Value.oneCell']) Q.out.1 Q.out.2.1 Q.out.2.2 ?_; intro v' w6 own6 g6 nil6; go_frame)
                | go_in)
              have HA6 := hide (appI HO.out.2 HO.out.1 g6 own6)
              clear g6 own6 nil6
              go_roundg (M - (s + 1))
              case rel =>
                go_light
                exact ⟨s + 1, by omega, rfl, by go_num, by rw [HLo.out]; exact HA6.out.1, HA6.out.2⟩
              case measure => go_light; omega
    · have hsM : s = M := by omega
      subst hsM
      obtain ⟨q4, hq4⟩ : ∃ q, 64 * s = q := ⟨_, rfl⟩
      have e1 : IntKind.i64.wrap (64 * (s : Int)) = (q4 : Int) := by rw [IntKind.wrap_i64]; omega
      have hx1 : ¬ ((q4 : Int) < (mo : Int)) := by omega
      clear hq4
      have hns2 := HF.out.2.2.2.2.1
      obtain ⟨L, hL⟩ : ∃ L, los f s = L := ⟨_, rfl⟩
      have hLn : (los f (nsec f)) = L := by rw [hns2]; exact hL
      have hLs : L.length ≤ 1000 := by rw [← hLn]; exact HF.out.2.2.2.2.2.2 _ (Nat.le_refl _)
      rw [hL] at own
      rw [hLn] at HAz HAk
      have HSt := hide (fun k hk => stay_hot f (k := k) hk)
      have hst : ∀ k, k < L.length → (stay (hot L.length k) f 0).1 = (List.range (wn f (L.getD k 0))).map (wb f (L.getD k 0)) := fun k hk => by
        have := stay_hot f (k := k) (by rw [hLn]; exact hk)
        rwa [hLn] at this
      obtain ⟨n, hn⟩ : ∃ n, L.length = n := ⟨_, rfl⟩
      have bx := HB5.out.next ub
      clear hM hs hlt hL hLn hns2 HSt
      by_cases hn0 : n = 0
      · subst hn0
        have hL0 : L = [] := List.length_eq_zero_iff.1 hn
        obtain ⟨ao, cap, rfl⟩ := own_slice own
        rw [hn]
        clear hst own
        have HBx := hide bx
        go_wp2_with (first
          | (go_at_call 22; (with_reducible refine (HAz.out _ wr.heap.size hL0 (bx.next (bal (Below.refl _ _) _)) (rdl_two (new1 _ _))).mono ?_); rintro e w7 ⟨ao7, b7, c7, rfl, f7, bx7, _⟩)
          | (go_at_call 21; (with_reducible refine (HFi.out _ bx7).mono ?_); rintro e w8 ⟨ao8, b8, c8, rfl, f8, bx8, u8⟩; have f7 := f7.next u8)
          | (go_at_call 20; (with_reducible refine (HSm.out _ _ _ _ _ _ _ f7 f8).mono ?_); rintro e w9 ⟨rfl, u9⟩; have bx9 := bx8.next u9))
        go_ret
        exact ⟨rfl, bx9.below⟩
      · obtain ⟨g, cap, rfl, hg1, hg2, hcell⟩ := ownI_rd own (by omega)
        have hnb : n ≤ 1000 := by omega
        have e4 : IntKind.i64.wrap ((n : Int) - 1) = ((n - 1 : Nat) : Int) := by rw [IntKind.wrap_i64]; omega
        have hz : ¬ ((n : Int) = 0) := by omega
        obtain ⟨k, hk⟩ : ∃ k, bentV only (n - 1) = k := ⟨_, rfl⟩
        have hkn : k < n := by rw [← hk]; have := bentV_le only (n - 1); omega
        have HBk : Hid (∀ W, Calls Try.prog 10 #[.int .i64 only, .int .i64 ((n - 1 : Nat) : Int)] W fun e w' => e = .returned (.int .i64 (k : Int)) ∧ w' = W) := fun W => by rw [← hk]; exact bent_any W only (n - 1) (by omega)
        have hmk := fun u => make_bools n (by omega) u
        have hcx := hcell k (by omega)
        obtain ⟨x, hx⟩ : ∃ x, L.getD k 0 = x := ⟨_, rfl⟩
        rw [hx] at hcx
        have hsx := hst k (by omega)
        rw [hx] at hsx
        obtain ⟨G, hG⟩ : ∃ G : ByteArray, G = ⟨((List.range (wn f x)).map (wb f x)).toArray⟩ := ⟨_, rfl⟩
        have hGl : G.data.toList = (List.range (wn f x)).map (wb f x) := by rw [hG]
        have HAk2 : Hid (∀ W b, Bx w W p D [] → RdL W (some ⟨b, 0, none⟩) b 0 (hot n k) → Calls Try.prog 22 #[.pointer (some ⟨p, 0, none⟩), .slice (some ⟨b, 0, none⟩) n n] W fun e w' => ∃ ao b c, e = .returned (.slice ao (one [102] G.data.toList).length c) ∧ RdF w' ao b 0 (one [102] G.data.toList) ∧ Bx w w' p D [] ∧ Below W.heap.size W w') := fun W b h hr => by
          have := HAk.out W b n k G (by omega) h (by rw [hn]; exact hr) (by rw [hGl, hsx])
          rwa [hn] at this
        obtain ⟨nG, hnG⟩ : ∃ z, (one [102] G.data.toList).length = z := ⟨_, rfl⟩
        rw [hnG] at HAk2
        have HfG : Hid (∀ W ao b c, RdF W ao b 0 (one [102] G.data.toList) → Calls Try.prog 27 #[.slice ao nG c] W fun e w' => e = .returned (.tuple #[.string G, .bool true]) ∧ Below W.heap.size W w') := fun W ao b c h => by rw [← hnG]; exact file_of W ao b c G.data.toList rfl h
        have HCx : Hid (∀ W, Below wr.heap.size wr W → W.cell? ⟨g, k, none⟩ = some (.int .i64 x)) := fun W hW => (hW.cell (p := ⟨g, k, none⟩) hg2).trans hcx
        have hk0 : (0 : Int) ≤ (k : Int) := by omega
        have hk1 : (k : Int) < (n : Int) := by omega
        have HBx := hide bx
        have HGl := hide hGl
        have Hkn := hide hkn
        rw [hn]
        clear hst hsx hG hGl hnG hk hcell own ub bx hn hx hcx HAk HAz hg1 hg2 hkn
        go_upto_region 28 with (go_at_call 10; (with_reducible refine (HBk.out _).mono ?_); rintro e w6 ⟨rfl, h6⟩; rw [h6]; clear h6 w6)
        obtain ⟨w6, hw6⟩ : ∃ W, wr.alloc (.cells (Array.replicate n (Value.bool false)) 4) = W := ⟨_, rfl⟩
        have k6 : w6.heap[wr.heap.size]? = some (.cells (Array.replicate n (Value.bool false)) 4 (0, 0)) := by rw [← hw6]; exact new1 _ _
        have c6 : w6.cell? ⟨wr.heap.size, k, none⟩ = some (.bool false) := by
          rw [cell_of_row w6 _ k _ _ (0, 0) k6, Array.getElem?_replicate, if_pos Hkn.out]
        have z6 : w6.frozen? ⟨wr.heap.size, k, none⟩ = false := frozen_of_row w6 _ k _ _ k6
        have HW6 := hide hw6
        rw [hw6]
        clear hmk k6 hw6
        go_upto_region 29 with (fail)
        obtain ⟨w7, hw7⟩ : ∃ W, w6.setCell ⟨wr.heap.size, k, none⟩ (.bool true) = W := ⟨_, rfl⟩
        have r7 : RdL w7 (some ⟨wr.heap.size, 0, none⟩) wr.heap.size 0 (hot n k) := by rw [← hw7, ← HW6.out]; exact hot_rd wr n k Hkn.out
        have u7 : Below wr.heap.size wr w7 := by
          rw [← hw7, ← HW6.out]
          exact upo_below (bal (Below.refl _ _) _) (S := fun x => x = wr.heap.size) (fun x h => by rw [h]; exact Nat.le_refl _) ((Upo.refl _ _).set _ _ _ (.inl rfl))
        rw [hw7]
        have bx7 := HBx.out.next u7
        obtain ⟨bk, hbk⟩ : ∃ b, wr.heap.size = b := ⟨_, rfl⟩
        rw [hbk] at r7 ⊢
        have HU7 := hide u7
        clear hw7 HW6 c6 z6 hbk u7
        go_upto_if 115 with (first
          | (go_at_call 22; (with_reducible refine (HAk2.out _ _ bx7 r7).mono ?_); rintro e w8 ⟨ao8, b8, c8, rfl, f8, bx8, u8⟩)
          | (go_at_call 27; (with_reducible refine (HfG.out _ _ _ _ f8).mono ?_); rintro e w9 ⟨rfl, u9⟩; have bx9 := bx8.next u9; have cx := HCx.out _ (bnext HU7.out (bnext u8 u9))))
        have HU9 := hide (bnext HU7.out (bnext u8 u9))
        have HB9 := hide bx9
        clear bx7 r7 f8 bx8 u8 u9 bx9 HAk2 HfG
        obtain ⟨wN, hwN⟩ : ∃ z, wn f x = z := ⟨_, rfl⟩
        have HwN := hide hwN
        go_cut [18] from 109 to 117 (fun v wx => v = .int .i64 (wN : Int) ∧ wx = w9)
        case first =>
          by_cases hq : x = -1
          · have hqn : wN = ns := by rw [← hwN]; unfold wn; rw [if_pos hq]; exact HF.out.2.2.1
            have hq1 : (x == -1) = true := by simp [hq]
            clear hwN hq
            go_wp2
            go_meet
            case rel => exact ⟨by rw [hqn], rfl⟩
          · have hqn : wN = wz := by rw [← hwN]; unfold wn; rw [if_neg hq]; exact HF.out.2.2.2.1
            have hq1 : (x == -1) = false := by simp [hq]
            clear hwN
            go_wp2
            go_meet
            case rel => exact ⟨by rw [hqn], rfl⟩
        case rest =>
        obtain ⟨rfl, hwc⟩ := hcut
        rw [hwc]
        have hwb : wN ≤ 10000 := by rw [← hwN]; unfold wn; have h1 := HF.out.2.2.1; have h2 := HF.out.2.2.2.1; split <;> omega
        clear hwc wc hwN cx
        obtain ⟨j0, hj, hy0, hy1, hy2⟩ := info_parts Try.infoY
        have HO0 : Hid (OwnY w9 w9.heap.size (.slice none 0 0) []) := ⟨rfl, .inl ⟨rfl, rfl⟩⟩
        go_wp2
        generalize wr = wo at *
        clear wr
        go_loopg [19, 20] wN (fun g v xi wr => ∃ j : Nat, j ≤ wN ∧ g = wN - j ∧ xi = .int .i64 (j : Int) ∧ OwnY wr w9.heap.size v ((List.range j).map (wb f x)) ∧ Below w9.heap.size w9 wr)
        case atStart =>
          exact ⟨0, Nat.zero_le _, rfl, rfl, HO0.out, Below.refl _ _⟩
        case round =>
          clear HO0
          obtain ⟨j, hjn, rfl, rfl, own, ub⟩ := hrel
          by_cases hlt2 : j < wN
          · as_aux_lemma =>
              have hx2 : (j : Int) < (wN : Int) := by omega
              have HAn : Hid (∀ W, Calls Try.prog 28 #[.string N, .int .i64 (j : Int)] W fun e w' => e = .returned (.int .u8 ((N.data.toList.getD j 0).toNat : Int)) ∧ w' = W) := fun W => at_any W N j
              have HAw : Hid (∀ W, Calls Try.prog 28 #[.string was, .int .i64 (j : Int)] W fun e w' => e = .returned (.int .u8 ((was.data.toList.getD j 0).toNat : Int)) ∧ w' = W) := fun W => at_any W was j
              have cx : wr.cell? ⟨g, k, none⟩ = some (.int .i64 x) := HCx.out _ (bnext HU9.out ub)
              have hr1 : ((List.range (j + 1)).map (wb f x)) = ((List.range j).map (wb f x)) ++ [wb f x j] := by rw [List.range_succ, List.map_append]; rfl
              have hrl : ((List.range j).map (wb f x)).length = j := by simp
              have HR1 := hide (And.intro hr1 hrl)
              obtain ⟨q, hq⟩ : ∃ q, j / 64 = q := ⟨_, rfl⟩
              have e5 : Int.tdiv (j : Int) 64 = (q : Int) := by rw [← hq]; rfl
              have e6 : (j : Int) / 64 = (q : Int) := by omega
              have e7 : IntKind.i64.wrap (q : Int) = (q : Int) := by rw [IntKind.wrap_i64]; omega
              have e8 : IntKind.i64.wrap ((j : Int) + 1) = (j : Int) + 1 := by rw [IntKind.wrap_i64]; omega
              have e9 : wrap64 (q : Int) = (q : Int) := by unfold wrap64; omega
              obtain ⟨cb, hcb⟩ : ∃ c, wb f x j = c := ⟨_, rfl⟩
              have HCb := hide hcb
              have HWb : Hid ((x = (q : Int) → cb = N.data.toList.getD j 0) ∧ (¬ x = (q : Int) → cb = was.data.toList.getD j 0)) := ⟨fun h => by rw [← hcb]; unfold wb; rw [hq, if_pos h, HF.out.1], fun h => by rw [← hcb]; unfold wb; rw [hq, if_neg h, HF.out.2.1]⟩
              generalize N.data.toList.getD j 0 = cn at *
              generalize was.data.toList.getD j 0 = cw at *
              have HO := hide (And.intro own ub)
              clear hr1 hrl hq own ub hcb
              have Q : Hid (((List.range j).map (wb f x)).length + 1 ≤ maxLen ∧ (((List.range j).map (wb f x)).length + 1) * 1 ≤ 140737488355328 ∧ w9.heap.size ≤ (wr.alloc (.cells #[.int .u8 (cb.toNat : Int)] 5)).heap.size) := ⟨by rw [HR1.out.2]; unfold maxLen; omega, by rw [HR1.out.2]; omega, (bal HO.out.2 _).size⟩
              by_cases hq : x = (q : Int)
              · have hw1 := HWb.out.1 hq
                have hq1 : (x == (q : Int)) = true := by simp [hq]
                subst hw1
                clear hq HWb
                go_upto_region 40 with (first
                  | (go_at_call 28; (with_reducible refine (HAw.out _).mono ?_); rintro e w10 ⟨rfl, h10⟩; rw [h10]; clear h10 w10)
                  | (go_at_call 28; (with_reducible refine (HAn.out _).mono ?_); rintro e w10 ⟨rfl, h10⟩; rw [h10]; clear h10 w10))
                go_wp2_with (first
                  | (at_builtin; refine wpList_append_own _ rfl _ _ 49 rfl w9.heap.size 5 j0 (.int .u8 0) 1 1 Try.underlying49 hj hy0 hy1 hy2 rfl (by decide) _ _ _ rfl (HO.out.1.alloc _) ⟨wr.heap.size, 0, none⟩ 1 1 [.int .u8 (cb.toNat : Int)] rfl rfl (one_new _ _ _) (by simp [Value.oneCell']) Q.out.1 Q.out.2.1 Q.out.2.2 ?_; intro v' w10 own10 g10 nil10; go_frame)
                  | go_in)
                have HA6 := hide (appY HO.out.2 HO.out.1 g10 own10)
                clear g10 own10 nil10
                go_roundg (wN - (j + 1))
                case rel =>
                  go_light
                  exact ⟨j + 1, by omega, rfl, by go_num, by rw [HR1.out.1, HCb.out]; exact HA6.out.1, HA6.out.2⟩
                case measure => go_light; omega
              · have hw1 := HWb.out.2 hq
                have hq1 : (x == (q : Int)) = false := by simp [hq]
                subst hw1
                clear hq HWb
                go_upto_region 40 with (first
                  | (go_at_call 28; (with_reducible refine (HAw.out _).mono ?_); rintro e w10 ⟨rfl, h10⟩; rw [h10]; clear h10 w10)
                  | (go_at_call 28; (with_reducible refine (HAn.out _).mono ?_); rintro e w10 ⟨rfl, h10⟩; rw [h10]; clear h10 w10))
                go_wp2_with (first
                  | (at_builtin; refine wpList_append_own _ rfl _ _ 49 rfl w9.heap.size 5 j0 (.int .u8 0) 1 1 Try.underlying49 hj hy0 hy1 hy2 rfl (by decide) _ _ _ rfl (HO.out.1.alloc _) ⟨wr.heap.size, 0, none⟩ 1 1 [.int .u8 (cb.toNat : Int)] rfl rfl (one_new _ _ _) (by simp [Value.oneCell']) Q.out.1 Q.out.2.1 Q.out.2.2 ?_; intro v' w10 own10 g10 nil10; go_frame)
                  | go_in)
                have HA6 := hide (appY HO.out.2 HO.out.1 g10 own10)
                clear g10 own10 nil10
                go_roundg (wN - (j + 1))
                case rel =>
                  go_light
                  exact ⟨j + 1, by omega, rfl, by go_num, by rw [HR1.out.1, HCb.out]; exact HA6.out.1, HA6.out.2⟩
                case measure => go_light; omega
          · obtain rfl : j = wN := by omega
            have hx2 : ¬ ((j : Int) < (j : Int)) := by omega
            have hGl := HGl.out
            rw [HwN.out] at hGl
            rw [← hGl] at own
            obtain ⟨ao, gg, cp, rfl, hrw⟩ := ownY_rw own
            have hcv : (convert 49 9 (.slice ao G.data.toList.length cp)).run Try.prog wr = .ok (.string G) wr := by
              have := hrw.conv (k := 0) (n := G.data.toList.length) (by omega) (ax := ao) (.inl rfl) (fun _ => .inl rfl) cp
              rwa [List.drop_zero, List.take_length] at this
            have HBe := hide (HB9.out.next ub).below
            obtain ⟨gl, hgl⟩ : ∃ z, G.data.toList.length = z := ⟨_, rfl⟩
            rw [hgl] at hcv ⊢
            clear own hrw hGl hlt2 ub hgl
            go_wp2
            go_ret
            exact ⟨rfl, HBe.out⟩
end Go.Proofs.Ytmhedhhbdpdafaa
