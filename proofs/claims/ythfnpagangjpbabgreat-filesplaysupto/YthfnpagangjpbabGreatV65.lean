/-
  Own work: FGg.
-/
import Derived.Deep.RegionHeld3
import Derived.Test.YthfnpagangjpbabGreatV61
namespace Go.Proofs.YthfnpagangjpbabGreat
open Go.RowKit
open Rc
attribute [local go_sem ↓] Go.wp_at_zero Go.wp_at_succ
attribute [local go_sem ↓] exec_appR
theorem flat_snoc (l : List ByteArray) (x : ByteArray) : flat (l ++ [x]) = flat l ++ x.data.toList := by simp [flat]
theorem nod_len' (p : Nat) (d : List UInt8) (h : d.length ≤ 32) : (nod p d).length = 40 := by rw [nod_len _ _ h]
theorem recs_flat (p : Nat) : ∀ ds : List ByteArray, (∀ d ∈ ds, d.size ≤ 32) → (flat (recs p ds)).length = 40 * ds.length := fun ds => by
  refine rev_ind (P := fun ds => (∀ d ∈ ds, d.size ≤ 32) → (flat (recs p ds)).length = 40 * ds.length) (fun _ => rfl) (fun l x ih h => ?_) ds
  have h1 := ih fun d hd => h d (List.mem_append_left _ hd)
  have h2 := h x (by simp)
  rw [recs_snoc, flat_snoc, List.length_append, h1, tx_data, nod_len' _ _ (by rw [size_list]; exact h2), List.length_append]
  simp only [List.length_cons, List.length_nil]
  omega
theorem take_all_sz {ds : List ByteArray} {k i : Nat} {d : ByteArray} (hx : ds[i]? = some d) (h : ∀ x ∈ ds.take i, x.size = k) (hd : d.size = k) : ∀ x ∈ ds.take (i + 1), x.size = k := fun x hx2 => by
  obtain ⟨hl, rfl⟩ := List.getElem?_eq_some_iff.1 hx
  rw [List.take_succ_eq_append_getElem hl] at hx2
  rcases List.mem_append.1 hx2 with e | e
  · exact h x e
  · rw [List.mem_singleton.1 e]; exact hd
section
variable {w : World} {q r n : Nat} {T : Nat → Prop} {D : DV} {V : RV} {S : SV}
set_option maxRecDepth 100000 in
set_option maxHeartbeats 8000000 in
theorem radd_any (h : RSk w q r T V S) (hb : Bd D V n) (hn : n + 6 ≤ 2097152) (s : ByteArray) (hs : s.size ≤ 9223372036854775807) (ao : Option Addr) (b off len cap : Nat) (ds : List ByteArray) (hr : RdS w ao b off len ds) (hmx : len ≤ 9223372036854775807) (D' : DV) (S' : SV) (ex : Int) (hR : addD D S s.data.toList ds = (D', S', ex)) :
    Calls Tryz.prog 91 #[.pointer (some ⟨q, 0, none⟩), .string s, .slice ao len cap] w fun e w' => e = .returned (.int .i64 ex) ∧ RSm w w' q r T D' S' (n + 6) := by
  obtain ⟨k1, k2, hf, _, _, hlst⟩ := h.small
  obtain ⟨ma, mb, mcap, l, ⟨hl1, hl2⟩, hcs⟩ := h.seen
  have hln := len_ends hl1
  have HRef : Hid (refD S s.data.toList ds ≠ 0 → ex = refD S s.data.toList ds ∧ ∀ W, Below w.heap.size w W → RSm w W q r T D' S' (n + 6)) := fun h0 => by
    unfold addD at hR
    rw [if_pos h0] at hR
    injection hR with e1 e2
    injection e2 with e2 e3
    subst e1 e2 e3
    exact ⟨rfl, fun W hW => (RSm.of h hb hW).mono (by omega) hn⟩
  have HSz : Hid (∀ W, Below w.heap.size w W → Calls Tryz.prog 9 #[.pointer (some ⟨q, 0, none⟩)] W fun e w' => e = .returned (.int .u64 (S.ends.length : Int)) ∧ w' = W) := fun W hW => rsize19_any h W hW
  obtain ⟨⟨c0, c1, c2, c3⟩, _⟩ := hcs w (Below.refl _ _)
  obtain ⟨n0, hn0⟩ : ∃ x, S.ends.length = x := ⟨_, rfl⟩
  rw [hn0] at HSz
  have HS0 := hide (HSz.out w (Below.refl _ _))
  have hsl := size_list s
  cases hlm : S.lame
  rotate_left
  · have hre : refD S s.data.toList ds = 191 := by unfold refD; rw [if_pos hlm]
    rw [hre] at HRef
    obtain ⟨hx, hz⟩ := HRef.out (by decide)
    have HZ := hide (hz w (Below.refl _ _))
    subst hx
    rw [hlm] at c3
    clear h hb hR hr hcs HRef hz hre
    go_enter Tryz.func91, Tryz.ntmps91
    go_wp2_with (go_at_call 9; (with_reducible refine HS0.out.mono ?_); rintro e w1 ⟨rfl, rfl⟩)
    go_ret
    exact ⟨rfl, HZ.out⟩
  · rw [hlm] at c3
    have hsz : (s.size : Int) = (s.data.toList.length : Int) := by rw [hsl]
    by_cases hit : 1048576 < s.size
    · have hre : refD S s.data.toList ds = 100 := by unfold refD; rw [hlm, hsl, if_neg (by decide), if_pos hit]
      rw [hre] at HRef
      obtain ⟨hx, hz⟩ := HRef.out (by decide)
      have HZ := hide (hz w (Below.refl _ _))
      subst hx
      have d1 : (1048576 : Int) < (s.size : Int) := by omega
      clear h hb hR hr hcs HRef hz hre hsz hsl hit
      go_enter Tryz.func91, Tryz.ntmps91
      go_wp2_with (go_at_call 9; (with_reducible refine HS0.out.mono ?_); rintro e w1 ⟨rfl, rfl⟩)
      go_ret
      exact ⟨rfl, HZ.out⟩
    have d1 : decide ((1048576 : Int) < (s.size : Int)) = false := decide_eq_false (by omega)
    have d1' : decide (1048576 < s.size) = false := decide_eq_false (by omega)
    by_cases hmn : 65536 ≤ n0
    · have hre : refD S s.data.toList ds = 101 := by unfold refD; rw [hlm, hsl, hn0, if_neg (by decide), if_neg hit, if_pos hmn]
      rw [hre] at HRef
      obtain ⟨hx, hz⟩ := HRef.out (by decide)
      have HZ := hide (hz w (Below.refl _ _))
      subst hx
      have d2 : (65536 : Int) ≤ (n0 : Int) := by omega
      clear h hb hR hr hcs HRef hz hre hsz hsl hit hmn hn0 hln
      go_enter Tryz.func91, Tryz.ntmps91
      go_wp2_with (go_at_call 9; (with_reducible refine HS0.out.mono ?_); rintro e w1 ⟨rfl, rfl⟩)
      go_ret
      exact ⟨rfl, HZ.out⟩
    have d2 : decide ((65536 : Int) ≤ (n0 : Int)) = false := decide_eq_false (by omega)
    have d2' : decide (65536 ≤ n0) = false := decide_eq_false (by omega)
    obtain ⟨p0, hp0⟩ : ∃ x, nn n0 = x := ⟨_, rfl⟩
    obtain ⟨n1, hn1⟩ : ∃ x, n0 + 1 = x := ⟨_, rfl⟩
    obtain ⟨p1, hp1⟩ : ∃ x, nn n1 = x := ⟨_, rfl⟩
    obtain ⟨m, hm⟩ : ∃ x, p1 - p0 = x := ⟨_, rfl⟩
    have hmm := nn_mono n0 (by omega)
    rw [hn1, hp0, hp1] at hmm
    have HC0 : Hid (∀ W : World, Calls Tryz.prog 36 #[.int .u64 (n0 : Int)] W fun e w' => e = .returned (.int .u64 (p0 : Int)) ∧ w' = W) := fun W => by
      have := rcount_any W n0 (by omega)
      rw [hp0] at this
      exact this
    have HC1 : Hid (∀ W : World, Calls Tryz.prog 36 #[.int .u64 (n1 : Int)] W fun e w' => e = .returned (.int .u64 (p1 : Int)) ∧ w' = W) := fun W => by
      have := rcount_any W n1 (by omega)
      rw [hp1] at this
      exact this
    have HEw : Hid (IntKind.u64.wrap (len : Int) = (len : Int) ∧ IntKind.u64.wrap ((n0 : Int) + 1) = (n1 : Int) ∧ IntKind.u64.wrap ((p1 : Int) - (p0 : Int)) = (m : Int)) := ⟨wrap_u _ (by omega) (by omega), by rw [wrap_u _ (by omega) (by omega)]; omega, by rw [wrap_u _ (by omega) (by omega)]; omega⟩
    have hnx : nxt S ds = (len == m && ds.all fun d => d.size == S.k) := by unfold nxt; rw [hn0, hn1, hp0, hp1, hm, hr.hl]
    by_cases hlm2 : len = m
    rotate_left
    · have hre : refD S s.data.toList ds = 192 := by
        unfold refD
        rw [hlm, hsl, hn0, if_neg (by decide), if_neg hit, if_neg hmn, hnx, if_pos (by simp [hlm2])]
      rw [hre] at HRef
      obtain ⟨hx, hz⟩ := HRef.out (by decide)
      have HZ := hide (hz w (Below.refl _ _))
      subst hx
      have d3 : ((len : Int) != (m : Int)) = true := by simp; omega
      clear h hb hR hr hcs HRef hz hre hsz hsl hit hmn hn0 hln hlm2 hnx hm hn1 hp0 hp1 hmm hmx hs hf hlst hn k1 k2 hl1 hl2
      go_enter Tryz.func91, Tryz.ntmps91
      go_upto_region 8 with (go_at_call 9; (with_reducible refine HS0.out.mono ?_); rintro e w1 ⟨rfl, rfl⟩)
      clear d1 d2 d1' d2' c0 c1 c2 c3
      obtain ⟨ew1, ew2, ew3⟩ := HEw.out
      go_wp2_with (first
        | (go_at_call 36; (with_reducible refine (HC1.out _).mono ?_); rintro e w2 ⟨rfl, rfl⟩)
        | (go_at_call 36; (with_reducible refine (HC0.out _).mono ?_); rintro e w2 ⟨rfl, rfl⟩))
      go_ret
      exact ⟨rfl, HZ.out⟩
    have d3 : ((len : Int) != (m : Int)) = false := by simp; omega
    have hm8 : m ≤ 41 := by omega
    have HRd : Hid (∀ W, Below w.heap.size w W → RdS W ao b off len ds) := fun W hW => hr.next hW (Nat.le_refl _)
    have hptr := hr.ptr
    have hdl := hr.hl
    have HK : Hid (∀ W, Below w.heap.size w W → W.cell? ⟨q, 0, none⟩ = some (.pointer (some ⟨r, 0, none⟩)) ∧ W.cell? ⟨q, 1, none⟩ = some (.int .i64 (S.k : Int)) ∧ W.cell? ⟨q, 2, none⟩ = some (.slice ma l.length mcap) ∧ W.cell? ⟨q, 3, none⟩ = some (.bool false)) := fun W hW => by
      obtain ⟨⟨z0, z1, z2, z3⟩, _⟩ := hcs W hW
      rw [hlm] at z3
      exact ⟨z0, z1, z2, z3⟩
    have HMr : Hid (∀ W, Below w.heap.size w W → RdK W ma mb l) := fun W hW => (hcs W hW).2
    obtain ⟨kk, hkk⟩ : ∃ x, S.k = x := ⟨_, rfl⟩
    rw [hkk] at HK hnx k1 k2 c1
    have HNo : Hid (∀ (i : Nat) (d : ByteArray), ds[i]? = some d → ¬ d.size = kk → ex = 192 ∧ ∀ W, Below w.heap.size w W → RSm w W q r T D' S' (n + 6)) := fun i d hd hne => by
      have hre : refD S s.data.toList ds = 192 := by
        unfold refD
        rw [hlm, hsl, hn0, if_neg (by decide), if_neg hit, if_neg hmn, hnx, if_pos]
        rw [Bool.and_eq_false_iff]
        refine .inr ?_
        rw [List.all_eq_false]
        exact ⟨d, List.mem_of_getElem? hd, by simpa using hne⟩
      rw [hre] at HRef
      exact HRef.out (by decide)
    have HNod : Hid (∀ (W : World) (i : Nat) (d : ByteArray), d.size ≤ 32 → i ≤ 41 → Calls Tryz.prog 87 #[.int .u64 ((p0 + i : Nat) : Int), .string d] W fun e w' => e = .returned (.string (tx (nod (p0 + i) d.data.toList))) ∧ Below W.heap.size W w') := fun W i d hd hi => refnode_any W (p0 + i) (by omega) d (by omega) _ (by rw [nodS, size_list, if_pos hd]; rfl)
    have HX : Hid (len = m ∧ m ≤ 41 ∧ p0 ≤ 131074 ∧ ds.length = len ∧ kk ≤ 32 ∧ 1 ≤ kk) := ⟨hlm2, hm8, by omega, hdl, k2, k1⟩
    have HLs : Hid (S.ends.length = n0 ∧ nn n0 = p0 ∧ n0 + 1 = n1 ∧ nn n1 = p1 ∧ p1 - p0 = m ∧ n0 < 65536 ∧ s.size ≤ 1048576 ∧ n + 6 ≤ 2097152 ∧ l.map (·.items) = S.ends ∧ lastC l = S.chain ∧ l.length = n0 ∧ lst S.ends ≤ 268435456) := ⟨hn0, hp0, hn1, hp1, hm, by omega, by omega, hn, hl1, hl2, by omega, hlst⟩
    have HSk : Hid (RSk w q r T V S ∧ Bd D V n) := ⟨h, hb⟩
    have HaR := hide hR
    have HLm := hide hlm
    have HKk := hide hkk
    clear hr hcs hsz hlm2 hnx hmm hm8 hdl hmx hs hf hlst hn k1 k2 hl1 hl2 hln h hb hR hlm hkk hn0 hp0 hn1 hp1 hm hit hmn hsl
    go_enter Tryz.func91, Tryz.ntmps91
    go_upto_region 8 with (go_at_call 9; (with_reducible refine HS0.out.mono ?_); rintro e w1 ⟨rfl, hw⟩; have hw := hw.symm; subst hw)
    clear d1 d2 d1' d2' c0 c1 c2 c3
    obtain ⟨ew1, ew2, ew3⟩ := HEw.out
    go_wp2_with (first
      | (go_at_call 36; (with_reducible refine (HC1.out _).mono ?_); rintro e w2 ⟨rfl, hw⟩; have hw := hw.symm; subst hw)
      | (go_at_call 36; (with_reducible refine (HC0.out _).mono ?_); rintro e w2 ⟨rfl, hw⟩; have hw := hw.symm; subst hw))
    clear ew1 ew2 ew3 d3
    go_loopg [8, 9, 10] len (fun g v x y wr => ∃ (i : Nat) (jb : ByteArray), i ≤ len ∧ g = len - i ∧ x = .string jb ∧ y = .int .i64 (i : Int) ∧ Hid (OwnS wr w.heap.size v (recs p0 (ds.take i)) ∧ jb.data.toList = flat (recs p0 (ds.take i)) ∧ (∀ d ∈ ds.take i, d.size = kk) ∧ Below w.heap.size w wr))
    case atStart =>
      go_light
      exact ⟨0, ⟨#[]⟩, Nat.zero_le _, rfl, rfl, rfl, owns_nil _ _, rfl, fun d hd => absurd hd (by simp), Below.refl _ _⟩
    case round =>
      obtain ⟨i, jb, hi, rfl, rfl, rfl, HW⟩ := hrel
      obtain ⟨va, vc, hva⟩ := own_slice HW.out.1
      have hrl : (recs p0 (ds.take i)).length = i := by
        rw [recs_len, List.length_take]
        have := HX.out.2.2.2.1
        omega
      rw [hrl] at hva
      subst hva
      by_cases hlt : i < len
      · have hz : (i : Int) < (len : Int) := by omega
        have HI := hide hlt
        obtain ⟨x1, x2, x3, x4, x5, x6⟩ := HX.out
        obtain ⟨d, hd⟩ : ∃ d, ds.getD i ByteArray.empty = d := ⟨_, rfl⟩
        have hd2 : ds[i]? = some d := by rw [← hd, List.getD_eq_getElem?_getD, List.getElem?_eq_getElem (by omega)]; rfl
        obtain rfl := hptr (by omega)
        have CD : Hid (∀ W, Below wr.heap.size wr W → W.cell? ⟨b, off + i, none⟩ = some (.string d) ∧ W.cell? ⟨q, 1, none⟩ = some (.int .i64 (kk : Int))) := fun W hW => by
          have hb := bnext HW.out.2.2.2 hW
          have := (HRd.out W hb).at hlt
          rw [hd] at this
          exact ⟨this, (HK.out W hb).2.1⟩
        obtain ⟨y0, y1⟩ := CD.out wr (Below.refl _ _)
        by_cases hdk : d.size = kk
        · have d1 : ((d.size : Int) != (kk : Int)) = false := by simp [hdk]
          have h32 : d.size ≤ 32 := by omega
          obtain ⟨pi, hpi⟩ : ∃ x, p0 + i = x := ⟨_, rfl⟩
          have HE : Hid (IntKind.u64.wrap (i : Int) = (i : Int) ∧ IntKind.u64.wrap ((p0 : Int) + (i : Int)) = (pi : Int) ∧ IntKind.i64.wrap ((i : Int) + 1) = (i : Int) + 1) := ⟨wrap_u _ (by omega) (by omega), by rw [wrap_u _ (by omega) (by omega)]; omega, by rw [IntKind.wrap_i64]; omega⟩
          obtain ⟨tn, htn⟩ : ∃ x, tx (nod pi d.data.toList) = x := ⟨_, rfl⟩
          have htz : tn.size = 40 := by rw [← htn, tx_size, nod_len' _ _ (by rw [size_list]; exact h32)]
          have HNd : Hid (∀ W : World, Calls Tryz.prog 87 #[.int .u64 (pi : Int), .string d] W fun e w' => e = .returned (.string tn) ∧ Below W.heap.size W w') := fun W => by
            have := HNod.out W i d h32 (by omega)
            rw [hpi, htn] at this
            exact this
          have hrs : recs p0 (ds.take (i + 1)) = recs p0 (ds.take i) ++ [tn] := by
            obtain ⟨hl, he⟩ := List.getElem?_eq_some_iff.1 hd2
            rw [List.take_succ_eq_append_getElem hl, he, recs_snoc, List.length_take, Nat.min_eq_left (by omega), hpi, htn]
          obtain ⟨jb2, hjb2⟩ : ∃ x, jb ++ tn = x := ⟨_, rfl⟩
          have hjz : jb.size = 40 * i := by
            rw [← size_list, HW.out.2.1, recs_flat p0 _ (fun x hx => by rw [HW.out.2.2.1 x hx]; exact x5), List.length_take]
            omega
          have hjn : ¬ (9223372036854775807 < jb.size + tn.size) := by omega
          have HAp : Hid (∀ W, Below wr.heap.size wr W → ∃ g7 c7 w7, (Builtin.append_ #[48, 48] 48 #[.slice va i vc, .slice (some ⟨W.heap.size, 0, none⟩) 1 1]).run Tryz.prog (W.alloc (.cells #[.string tn] 9)) = .ok (.slice (some ⟨g7, 0, none⟩) (i + 1) c7) w7 ∧ w7.cell? ⟨g7, i, none⟩ = some (.string tn) ∧ OwnS w7 w.heap.size (.slice (some ⟨g7, 0, none⟩) (i + 1) c7) (recs p0 (ds.take (i + 1))) ∧ Below w.heap.size w w7) := fun W hW => by
            have hb := bnext HW.out.2.2.2 hW
            obtain ⟨v7, w7, hrn, o7, g7⟩ := run_app_S W 48 w.heap.size _ _ (row_keep HW.out.1 fun g hg => hW.block g (World.ownsRow.lt HW.out.1 g hg).2) tn (by rw [hrl]; omega) hb.size
            rw [← hrs] at o7
            obtain ⟨a7, b7, c7, hv7, rd7, _, _⟩ := owns_rds o7 (fun x hx => by
              have hx2 : x.size = 40 := by
                rw [hrs] at hx
                rcases List.mem_append.1 hx with e | e
                · obtain ⟨j, hj, rfl⟩ := List.getElem_of_mem e
                  simp only [recs, List.getElem_mapIdx, tx_size]
                  refine nod_len' _ _ ?_
                  rw [size_list, HW.out.2.2.1 _ (List.getElem_mem _)]
                  exact x5
                · rw [List.mem_singleton.1 e]; exact htz
              omega)
            have hl7 : (recs p0 (ds.take (i + 1))).length = i + 1 := by rw [hrs, List.length_append, hrl]; rfl
            rw [hl7] at hv7 rd7
            have hp := rd7.ptr (by omega)
            subst hp
            rw [hv7] at hrn o7
            have hc := rd7.at (show i < i + 1 by omega)
            rw [hrs, List.getD_eq_getElem?_getD, List.getElem?_append_right (by omega), hrl, Nat.sub_self] at hc
            simp only [Nat.zero_add] at hc
            exact ⟨b7, c7, w7, hrn, hc, o7, hb.trans g7⟩
          have HZ : Hid (jb2.data.toList = flat (recs p0 (ds.take (i + 1))) ∧ ∀ x ∈ ds.take (i + 1), x.size = kk) := ⟨by rw [← hjb2, hrs, flat_snoc, ← HW.out.2.1]; simp [ByteArray.data_append], take_all_sz hd2 HW.out.2.2.1 hdk⟩
          clear x1 x2 x3 x4 x5 x6 hd hd2 hdk h32 hpi htn htz hrs hjz hrl hi hlt
          go_upto_region 15 with (fail)
          go_quiet (fail)
          have u2 : Below wr.heap.size wr (wr.drewN nq) := below_drewN (Below.refl _ _) nq
          generalize wr.drewN nq = w2 at *
          obtain ⟨ew1, ew2, ew3⟩ := HE.out
          go_upto_region 17 with (fail)
          have u := bnext u2 (bdz w2)
          clear y0 y1
          obtain ⟨y0, y1⟩ := CD.out _ u
          go_region_with (first
            | (go_at_call 36; (with_reducible refine (HC0.out _).mono ?_); rintro e w3 ⟨rfl, rfl⟩)
            | (go_at_call 87; (with_reducible refine (HNd.out _).mono ?_); rintro e w4 ⟨rfl, v4⟩; obtain ⟨g7, c7, w7, hrn, hc7, o7, u7⟩ := HAp.out w4 (bnext u v4); have hap := appR_of hrn))
          all_goals
            clear y0 y1 hrn
            go_wp2
            clear ew1 ew2 ew3
            go_roundg (len - (i + 1))
            case rel =>
              go_light
              exact ⟨i + 1, jb2, HI.out, rfl, rfl, by go_num, o7, HZ.out.1, HZ.out.2, u7⟩
            case measure => go_light; have := HI.out; omega
        · have d1 : ((d.size : Int) != (kk : Int)) = true := by simp; omega
          obtain ⟨hx, hz2⟩ := HNo.out i d hd2 hdk
          have HZ : Hid (∀ W, Below wr.heap.size wr W → RSm w W q r T D' S' (n + 6)) := fun W hW => hz2 W (bnext HW.out.2.2.2 hW)
          subst hx
          clear x1 x2 x3 x4 x5 x6 hd hd2 hdk hi hlt hrl hz2
          go_upto_region 15 with (fail)
          go_quiet (fail)
          go_wp2
          go_ret
          exact ⟨rfl, HZ.out _ (below_drewN (Below.refl _ _) _)⟩
      · obtain rfl : i = len := by omega
        have hz : ¬ (i : Int) < (i : Int) := by omega
        have htk : ds.take i = ds := List.take_of_length_le (by have := HX.out.2.2.2.1; omega)
        obtain ⟨o1, j1, z1, b1⟩ := HW.out
        rw [htk] at o1 j1 z1
        obtain ⟨q1, q2, q3, q4, q5, q6, q7, q8, q9, qa, qb, qc⟩ := HLs.out
        obtain ⟨x1, x2, x3, x4, x5, x6⟩ := HX.out
        have hnx : nxt S ds = true := by
          unfold nxt
          rw [q1, q2, q3, q4, q5, x4, x1, HKk.out]
          simp only [beq_self_eq_true, Bool.true_and, List.all_eq_true, beq_iff_eq]
          exact z1
        obtain ⟨pb, hpb⟩ : ∃ x, tx (pay s.data.toList) = x := ⟨_, rfl⟩
        have hpl : pb.data.toList = pay s.data.toList := by rw [← hpb, tx_data]
        have hpz : pb.size = s.size + 8 := by rw [← hpb, tx_size, pay_len, size_list]
        have HPy : Hid (∀ W : World, Calls Tryz.prog 81 #[.string s] W fun e w' => e = .returned (.string pb) ∧ Below W.heap.size W w') := fun W => refpayload_any W s (by omega) pb (by rw [payS, size_list, if_pos q7]; exact hpb)
        obtain ⟨le, hle⟩ : ∃ x, lst S.ends = x := ⟨_, rfl⟩
        have HEn : Hid (∀ W, Below w.heap.size w W → Calls Tryz.prog 75 #[.pointer (some ⟨q, 0, none⟩)] W fun e w' => e = .returned (.int .u64 (le : Int)) ∧ ∃ m, w' = W.drewN m) := fun W hW => by
          have := rend_any HSk.out.1 W hW
          rw [hle] at this
          exact this
        obtain ⟨rm, hrm⟩ : ∃ x, le + pb.size = x := ⟨_, rfl⟩
        rw [hle] at qc
        have HE : Hid (IntKind.u64.wrap (pb.size : Int) = (pb.size : Int) ∧ IntKind.u64.wrap ((le : Int) + (pb.size : Int)) = (rm : Int)) := ⟨wrap_u _ (by omega) (by omega), by rw [wrap_u _ (by omega) (by omega)]; omega⟩
        have hre : refD S s.data.toList ds = if 268435456 < rm then 172 else 0 := by
          unfold refD
          rw [HLm.out, q1, hnx, hle, size_list, if_neg (by decide), if_neg (by omega), if_neg (by omega), if_neg (by decide), ← hrm, hpz]
        have HB1 := hide b1
        by_cases hroom : 268435456 < rm
        · rw [if_pos hroom] at hre
          rw [hre] at HRef
          obtain ⟨hx, hz2⟩ := HRef.out (by decide)
          have HZ := hide hz2
          subst hx
          have d1 : decide ((268435456 : Int) < (rm : Int)) = true := decide_eq_true (by omega)
          obtain ⟨ew1, ew2⟩ := HE.out
          clear q1 q2 q3 q4 q5 q6 q7 q8 q9 qa qb qc x1 x2 x3 x4 x5 x6 hnx hpb hpl hpz hle hrm hre hz2 o1 j1 z1 b1 htk HW hi hlt hroom hrl
          go_wp2_with (first
            | (go_at_call 81; (with_reducible refine (HPy.out _).mono ?_); rintro e w3 ⟨rfl, v3⟩; have u3 := bnext HB1.out v3)
            | (go_at_call 75; (with_reducible refine (HEn.out _ u3).mono ?_); rintro e w4 ⟨rfl, m4, rfl⟩))
          go_ret
          exact ⟨rfl, HZ.out _ (below_drewN u3 _)⟩
        rw [if_neg hroom] at hre
        have d1 : decide ((268435456 : Int) < (rm : Int)) = false := decide_eq_false (by omega)
        have d1' : decide (268435456 < rm) = false := decide_eq_false (by omega)
        obtain ⟨cn, hcn⟩ : ∃ x, S.chain.toNat = x := ⟨_, rfl⟩
        obtain ⟨pn, hpn⟩ : ∃ x, p1 * 40 = x := ⟨_, rfl⟩
        obtain ⟨ch, hch⟩ : ∃ x, chn S.chain (pay s.data.toList) (recs p0 ds) = x := ⟨_, rfl⟩
        have hch2 : ch < 4294967296 := by rw [← hch]; exact crc_lt _
        have hfl : (flat (recs p0 ds)).length ≤ 1640 := by rw [recs_flat p0 ds (fun d hd => by rw [z1 d hd]; exact x5)]; omega
        obtain ⟨va', vb, vc', hv, rds, _, _⟩ := owns_rds o1 (fun x hx => by
          have hx2 : x.size = 40 := by
            obtain ⟨j, hj, rfl⟩ := List.getElem_of_mem hx
            simp only [recs, List.getElem_mapIdx, tx_size]
            refine nod_len' _ _ ?_
            rw [size_list, z1 _ (List.getElem_mem _)]
            exact x5
          omega)
        have hrl2 : (recs p0 ds).length = i := by rw [recs_len, x4]
        rw [hrl2] at hv rds
        injection hv with g1 g2 g3
        subst g1 g3
        have HCh : Hid (∀ W, Below wr.heap.size wr W → Calls Tryz.prog 118 #[.int .u32 (cn : Int), .string pb, .slice va i vc] W fun e w' => e = .returned (.int .u32 (ch : Int)) ∧ Below W.heap.size W w') := fun W hW => by
          have := refchain_any W S.chain pb va vb 0 i vc _ (rds.next hW (Nat.le_refl _)) (by omega) (by omega) ch (by rw [hpl]; exact hch)
          rw [hcn] at this
          exact this
        have HE2 : Hid (IntKind.u64.wrap ((n0 : Int) + 1) = (n1 : Int) ∧ IntKind.u64.wrap (40 * (p1 : Int)) = (pn : Int)) := ⟨by rw [wrap_u _ (by omega) (by omega)]; omega, by rw [wrap_u _ (by omega) (by omega)]; omega⟩
        have HMq : Hid (∀ W, Below w.heap.size w W → 0 < n0 → ma = some ⟨mb, 0, none⟩ ∧ W.cell? ⟨mb, (n0 - 1) * 5 + 4, none⟩ = some (.int .u32 (cn : Int))) := fun W hW h0 => by
          have hm := HMr.out W hW
          have hc := (hm.c0 (n0 - 1) (by omega)).2.2.2.2
          have hl : lastC l = (l.getD (n0 - 1) MV.z).chain := by
            rcases List.eq_nil_or_concat l with e | ⟨a, y, e⟩
            · rw [e] at qb; simp at qb; omega
            · rw [List.concat_eq_append] at e
              have e2 : a.length = n0 - 1 := by rw [e] at qb; simp at qb; omega
              rw [e, lastC_snoc, ← e2, getD_snoc_eq]
          rw [← hl, qa, hcn] at hc
          exact ⟨hm.ptr (by omega), hc⟩
        have HC0' : Hid (n0 = 0 → 0 = cn) := fun h0 => by
          have : l = [] := List.length_eq_zero_iff.1 (by omega)
          rw [← hcn, ← qa, this]
          rfl
        have HK2 : Hid (∀ W, Below w.heap.size w W → W.cell? ⟨q, 0, none⟩ = some (.pointer (some ⟨r, 0, none⟩)) ∧ W.cell? ⟨q, 1, none⟩ = some (.int .i64 (kk : Int)) ∧ W.cell? ⟨q, 2, none⟩ = some (.slice ma n0 mcap) ∧ W.cell? ⟨q, 3, none⟩ = some (.bool false)) := fun W hW => by
          have := HK.out W hW
          rw [qb] at this
          exact this
        have HFin : Hid (refD S s.data.toList ds = 0 ∧ jb.data.toList = flat (recs p0 ds) ∧ pb.data.toList = pay s.data.toList ∧ lst S.ends = le ∧ le + pb.size = rm ∧ rm ≤ 268435456 ∧ p1 * 40 = pn ∧ chn S.chain (pay s.data.toList) (recs p0 ds) = ch ∧ ch < 4294967296 ∧ jb.size ≤ 1640 ∧ n0 < 65536) := ⟨hre, j1, hpl, hle, hrm, by omega, hpn, hch, hch2, by rw [← size_list, j1]; exact hfl, q6⟩
        have HE3 := HE
        obtain ⟨ew1, ew2⟩ := HE.out
        clear q1 q2 q3 q4 q5 q6 q7 q8 q9 qa qb qc x1 x2 x3 x4 x5 x6 hnx hpb hpl hpz hle hrm hre o1 j1 z1 b1 htk HW hi hlt hroom hrl hcn hpn hch hch2 hfl rds hrl2 g2 HK HMr HRef HNo HNod HRd hptr HS0 HSz
        go_upto_region 22 with (first
          | (go_at_call 81; (with_reducible refine (HPy.out _).mono ?_); rintro e w3 ⟨rfl, v3⟩; have u3 := bnext HB1.out v3)
          | (go_at_call 75; (with_reducible refine (HEn.out _ u3).mono ?_); rintro e w4 ⟨rfl, m4, rfl⟩))
        have u5 : Below w.heap.size w (w3.drewN m4) := below_drewN u3 m4
        have r5 : Below wr.heap.size wr (w3.drewN m4) := below_drewN v3 m4
        generalize w3.drewN m4 = w5 at *
        clear u3 v3 d1 d1' ew1 ew2 HE HPy
        go_upto_if 85 with (fail)
        go_cut [12] from 15 (fun v wx => v = .int .u32 (cn : Int) ∧ wx = w5)
        case first => as_aux_lemma =>
          by_cases h0 : 0 < n0
          · obtain ⟨rfl, y4⟩ := HMq.out w5 u5 h0
            obtain ⟨y0, y1, y2, y3⟩ := HK2.out w5 u5
            obtain ⟨nm, hnm⟩ : ∃ x, n0 - 1 = x := ⟨_, rfl⟩
            rw [hnm] at y4
            have g0 : (0 : Int) < (n0 : Int) := by omega
            have g2 : (nm : Int) < (n0 : Int) := by omega
            have g1 : IntKind.u64.wrap ((n0 : Int) - 1) = (nm : Int) := by have := HFin.out.2.2.2.2.2.2.2.2.2.2; rw [wrap_u _ (by omega) (by omega)]; omega
            clear h0 hnm
            go_wp2
            go_meet
            case rel => exact ⟨rfl, rfl⟩
          · have g0 : ¬ (0 : Int) < (n0 : Int) := by omega
            have HE0 := hide (HC0'.out (by omega))
            clear h0
            go_wp2
            go_meet
            case rel => exact ⟨by rw [← HE0.out]; rfl, rfl⟩
        case rest =>
        obtain ⟨rfl, hwc⟩ := hcut
        rw [hwc]
        clear hwc wc HMq HC0'
        go_upto_region 25 with (fail)
        go_cut [13] from 15 (fun v wx => ∃ bm : Nat, v = .pointer (some ⟨bm, 0, none⟩) ∧ Hid (wx.heap[bm]? = some (.cells #[.int .i64 (kk : Int), .int .u64 (n1 : Int), .int .u64 (rm : Int), .int .u64 (pn : Int), .int .u32 (ch : Int)] 85 (0, 0)) ∧ w.heap.size ≤ bm ∧ Below w.heap.size w wx))
        case first => as_aux_lemma =>
          obtain ⟨ew1, ew2⟩ := HE2.out
          obtain ⟨ew3, ew4⟩ := HE3.out
          have HEb : Hid (∀ W, Below w.heap.size w W → Calls Tryz.prog 75 #[.pointer (some ⟨q, 0, none⟩)] W fun e w' => e = .returned (.int .u64 (le : Int)) ∧ Below W.heap.size W w') := fun W hW => (HEn.out W hW).mono fun e w' z => by
            obtain ⟨z1, m, rfl⟩ := z
            exact ⟨z1, below_drewN (Below.refl _ _) m⟩
          have tw : Below w.heap.size w w5.drew := bdw u5
          have tr : Below wr.heap.size wr w5.drew := bdw r5
          have hk6 := (HK2.out _ tw).2.1
          have HMk : Hid (∀ (W W' : World) (b : Nat), W.heap[b]? = some (.cells #[.int .i64 0, .int .u64 0, .int .u64 0, .int .u64 0, .int .u32 0] 85 (0, 0)) → Below W.heap.size W W' → W'.heap[b]? = some (.cells #[.int .i64 0, .int .u64 0, .int .u64 0, .int .u64 0, .int .u32 0] 85 (0, 0))) := fun W W' b h1 h2 => (h2.block b (Array.getElem?_eq_some_iff.1 h1).1).trans h1
          have HC5 : Hid (∀ (W : World) (b : Nat) (x0 x1 x2 x3 x4 : Value), Below w.heap.size w W → w.heap.size ≤ b → (((((W.setCell ⟨b, 0, none⟩ x0).setCell ⟨b, 1, none⟩ x1).setCell ⟨b, 2, none⟩ x2).setCell ⟨b, 3, none⟩ x3).setCell ⟨b, 4, none⟩ x4).cell? ⟨q, 1, none⟩ = some (.int .i64 (kk : Int))) := fun W b x0 x1 x2 x3 x4 hW hb => (HK2.out _ (bset5 hW hb x0 x1 x2 x3 x4)).2.1
          have hz5 : w.heap.size ≤ w5.heap.size := u5.size
          go_region_held3 (fun Z => Z.cell? ⟨q, 1, none⟩ = some (.int .i64 (kk : Int))) (first | (with_reducible assumption) | (with_reducible exact (HK2.out _ tw).2.1) | (with_reducible exact (HK2.out _ (bdw (bal u5 _))).2.1) | (with_reducible exact (HK2.out _ (bal u5 _)).2.1) | (with_reducible exact (HK2.out _ (bal tw _)).2.1) | (with_reducible exact HC5.out _ _ _ _ _ _ _ tw hz5) | (with_reducible exact HC5.out _ _ _ _ _ _ _ tw hz7) | (with_reducible exact HC5.out _ _ _ _ _ _ _ (bal tw _) hz9) | (exact (HK2.out _ (bal tw _)).2.1) | (exact (HK2.out _ tw).2.1)) (first
            | (go_at_call 75; (with_reducible refine (HEb.out _ tw).mono ?_); rintro e w7 ⟨rfl, v7⟩; have tw := bnext tw v7; have tr := bnext tr v7; have hz7 := tw.size)
            | (go_at_call 75; (with_reducible refine (HEb.out _ (bdw (bal u5 _))).mono ?_); rintro e w7 ⟨rfl, v7⟩; have q7 := HMk.out _ _ w5.heap.size (show ((w5.alloc (.cells #[.int .i64 0, .int .u64 0, .int .u64 0, .int .u64 0, .int .u32 0] 85)).drew).heap[w5.heap.size]? = _ from new1 w5 _) v7; have tw := bnext (bdw (bal u5 (.cells #[.int .i64 0, .int .u64 0, .int .u64 0, .int .u64 0, .int .u32 0] 85))) v7; have tr := bnext (bdw (bal r5 (.cells #[.int .i64 0, .int .u64 0, .int .u64 0, .int .u64 0, .int .u32 0] 85))) v7)
            | (go_at_call 36; (with_reducible refine (HC1.out _).mono ?_); rintro e w8 ⟨rfl, hw8⟩; have hw8 := hw8.symm; subst hw8)
            | (go_at_call 118; (with_reducible refine (HCh.out _ tr).mono ?_); rintro e w9 ⟨rfl, v9⟩; (try (have q9 := HMk.out _ _ _ q7 v9; have q9f := fun j => frozen_of_row w9 _ j _ _ q9; have ⟨s0, s1, s2, s3, s4⟩ := five_at q9)); have tw := bnext tw v9; have tr := bnext tr v9; have hz9 := tw.size)
            | (go_at_call 118; (with_reducible refine (HCh.out _ (bal tr _)).mono ?_); rintro e w9 ⟨rfl, v9⟩; have q9 := HMk.out _ _ _ (new1 _ _) v9; have q9f := fun j => frozen_of_row w9 _ j _ _ q9; have ⟨s0, s1, s2, s3, s4⟩ := five_at q9; have tw := bnext (bal tw (.cells #[.int .i64 0, .int .u64 0, .int .u64 0, .int .u64 0, .int .u32 0] 85)) v9; have tr := bnext (bal tr (.cells #[.int .i64 0, .int .u64 0, .int .u64 0, .int .u64 0, .int .u32 0] 85)) v9))
          all_goals
            clear HEb hk6 HC5 HMk
            go_wp2
            go_meet
            case rel => first
              | exact ⟨_, rfl, set5_at q9 _ _ _ _ _, hz5, bset5 tw hz5 _ _ _ _ _⟩
              | exact ⟨_, rfl, set5_at q9 _ _ _ _ _, hz7, bset5 tw hz7 _ _ _ _ _⟩
              | exact ⟨_, rfl, new1 _ _, hz9, bal tw _⟩
        case rest =>
        obtain ⟨bm, rfl, HBm⟩ := hcut
        generalize wc = wb at *
        clear wc u5 r5 HE2 HK2 HCh HB1
        obtain ⟨z1, z2, z3, z4, z5, z6, z7, z8, z9, z10, z11⟩ := HFin.out
        obtain ⟨q1, q2, q3, q4, q5, q6, q7, q8, q9, qa, qb, qc⟩ := HLs.out
        obtain ⟨M, hM⟩ : ∃ M, addM S s.data.toList ds = M := ⟨_, rfl⟩
        have hpz : (pay s.data.toList).length = pb.size := by rw [← z3, size_list]
        have hMv : M.k = (kk : Int) ∧ M.size = n1 ∧ M.items = rm ∧ M.nodes = pn ∧ M.chain.toNat = ch := by
          rw [← hM]
          unfold addM nxM
          refine ⟨?_, ?_, ?_, ?_, ?_⟩
          · show ((S.k : Nat) : Int) = _; rw [HKk.out]
          · show S.ends.length + 1 = _; rw [q1, q3]
          · show lst S.ends + (pay s.data.toList).length = _; rw [z4, hpz, z5]
          · show nn (S.ends.length + 1) * 40 = _; rw [q1, q3, q4, z7]
          · show (BitVec.ofNat 32 (chn S.chain (pay s.data.toList) (recs (nn S.ends.length) ds))).toNat = _
            rw [q1, q2, z8, BitVec.toNat_ofNat]
            exact Nat.mod_eq_of_lt z9
        obtain ⟨m1, m2, m3, m4, m5⟩ := hMv
        obtain ⟨mb', hmb'⟩ : ∃ x, tx (mrk M) = x := ⟨_, rfl⟩
        have hmz : mb'.size = 64 := by
          rw [← hmb', tx_size]
          refine mrk_len M ?_
          rw [m1]
          have := HX.out.2.2.2.2
          exact ⟨by omega, by omega⟩
        have hml : mb'.data.toList = mrk M := by rw [← hmb', tx_data]
        obtain ⟨hy1, hy2, hy3, _⟩ := HX.out
        have HMk : Hid (∀ W : World, Calls Tryz.prog 128 #[.agg #[.int .i64 (kk : Int), .int .u64 (n1 : Int), .int .u64 (rm : Int), .int .u64 (pn : Int), .int .u32 (ch : Int)]] W fun e w' => e = .returned (.string mb') ∧ Below W.heap.size W w') := fun W => by
          have := refmark_any W M (by omega) (by omega) (by omega) mb' hmb'
          have hC : mC M = #[.int .i64 (kk : Int), .int .u64 (n1 : Int), .int .u64 (rm : Int), .int .u64 (pn : Int), .int .u32 (ch : Int)] := by
            unfold mC
            rw [m1, m2, m3, m4, m5]
          rw [hC] at this
          exact this
        obtain ⟨p4, hp4⟩ : ∃ x, p0 * 40 = x := ⟨_, rfl⟩
        obtain ⟨n4, hn4⟩ : ∃ x, n0 * 64 = x := ⟨_, rfl⟩
        obtain ⟨⟨D1, e1⟩, hx1⟩ : ∃ y, wrD D nmI (le : Int) pb.data.toList = y := ⟨_, rfl⟩
        obtain ⟨⟨D2, e2⟩, hx2⟩ : ∃ y, nx (fun D => wrD D nmN (p4 : Int) jb.data.toList) (D1, e1) = y := ⟨_, rfl⟩
        obtain ⟨⟨D3, e3⟩, hx3⟩ : ∃ y, nx (fun D => synD D nmI) (D2, e2) = y := ⟨_, rfl⟩
        obtain ⟨⟨D4, e4⟩, hx4⟩ : ∃ y, nx (fun D => synD D nmN) (D3, e3) = y := ⟨_, rfl⟩
        obtain ⟨⟨D5, e5⟩, hx5⟩ : ∃ y, nx (fun D => wrD D nmM (n4 : Int) mb'.data.toList) (D4, e4) = y := ⟨_, rfl⟩
        obtain ⟨⟨D6, e6⟩, hx6⟩ : ∃ y, nx (fun D => synD D nmM) (D5, e5) = y := ⟨_, rfl⟩
        have hrun : runA (addA S s.data.toList ds) D = (D6, e6) := by
          unfold addA six
          rw [hM, q1, q2, z4, hp4, hn4, ← z2, ← z3, ← hml, runA6, hx1, hx2, hx3, hx4, hx5, hx6]
        have hfin := HaR.out
        unfold addD at hfin
        rw [if_neg (by rw [z1]; decide), hrun, hM] at hfin
        have HFl : Hid (∀ W, RSm wb W q r T D6 S (n + 6) → ¬ e6 = 0 → e6 = ex ∧ RSm w (W.setCell ⟨q, 3, none⟩ (.bool true)) q r T D' S' (n + 6)) := fun W hW h0 => by
          rw [if_neg h0] at hfin
          injection hfin with g1 g2
          injection g2 with g2 g3
          subst g1 g2 g3
          exact ⟨rfl, (RSm.limp hW).back HBm.out.2.2⟩
        have HFo : Hid (e6 = 0 → 0 = ex ∧ D6 = D' ∧ ({ S with ends := S.ends ++ [M.items], chain := M.chain } : SV) = S') := fun h0 => by
          rw [if_pos h0] at hfin
          injection hfin with g1 g2
          injection g2 with g2 g3
          exact ⟨g3, g1, g2⟩
        have HMv : Hid (M.k = (kk : Int) ∧ M.size = n1 ∧ M.items = rm ∧ M.nodes = pn ∧ M.chain.toNat = ch) := ⟨m1, m2, m3, m4, m5⟩
        have HTb : Hid (¬ T bm ∧ bm < wb.heap.size) := ⟨fun ht => by have := HSk.out.1.lt ht; have := HBm.out.2.1; omega, (Array.getElem?_eq_some_iff.1 HBm.out.1).1⟩
        have HR0 : Hid (RSm wb wb q r T D S n) := RSm.of (HSk.out.1.next HBm.out.2.2) HSk.out.2 (Below.refl _ _)
        have HQ : Hid (∀ (W : World) (Dj : DV) (j : Nat), RSm wb W q r T Dj S j → W.cell? ⟨q, 0, none⟩ = some (.pointer (some ⟨r, 0, none⟩)) ∧ (W.cell? ⟨bm, 0, none⟩ = some (.int .i64 (kk : Int)) ∧ W.cell? ⟨bm, 1, none⟩ = some (.int .u64 (n1 : Int)) ∧ W.cell? ⟨bm, 2, none⟩ = some (.int .u64 (rm : Int)) ∧ W.cell? ⟨bm, 3, none⟩ = some (.int .u64 (pn : Int)) ∧ W.cell? ⟨bm, 4, none⟩ = some (.int .u32 (ch : Int)))) := fun W Dj j hW => by
          obtain ⟨_, _, ⟨c0, _⟩, _⟩ := RSm.cells hW
          obtain ⟨_, _, _, _, _, hu⟩ := hW
          exact ⟨c0, five_at ((hu.block bm HTb.out.2 HTb.out.1).trans HBm.out.1)⟩
        have HEw : Hid (IntKind.u64.wrap (40 * (p0 : Int)) = (p4 : Int) ∧ IntKind.i64.wrap (p4 : Int) = (p4 : Int) ∧ IntKind.u64.wrap (64 * (n0 : Int)) = (n4 : Int) ∧ IntKind.i64.wrap (n4 : Int) = (n4 : Int) ∧ IntKind.i64.wrap (le : Int) = (le : Int)) := by
          have hp0 := HX.out.2.2.1
          refine ⟨by rw [wrap_u _ (by omega) (by omega)]; omega, by rw [IntKind.wrap_i64]; omega, by rw [wrap_u _ (by omega) (by omega)]; omega, by rw [IntKind.wrap_i64]; omega, by rw [IntKind.wrap_i64]; omega⟩
        have HNn : Hid (n + 6 ≤ 2097152) := q8
        have HW1 : Hid (∀ W, Below wb.heap.size wb W → Calls Tryz.prog 127 #[.pointer (some ⟨r, 0, none⟩), .string ⟨#[105, 116, 101, 109, 115]⟩, .int .i64 (le : Int), .string pb] W fun e w' => e = .returned (.int .i64 e1) ∧ RSm wb w' q r T D1 S (n + 1)) := fun W hW => (HR0.out.next hW).write (by have := HNn.out; omega) ⟨#[105, 116, 101, 109, 115]⟩ pb (by decide) (le : Int) (by omega) _ hx1
        have HW2 : Hid (e1 = 0 → ∀ W, RSm wb W q r T D1 S (n + 1) → Calls Tryz.prog 127 #[.pointer (some ⟨r, 0, none⟩), .string ⟨#[110, 111, 100, 101, 115]⟩, .int .i64 (p4 : Int), .string jb] W fun e w' => e = .returned (.int .i64 e2) ∧ RSm wb w' q r T D2 S (n + 2)) := fun h0 W hW => by
          rw [h0, nx_yes] at hx2
          exact hW.write (by have := HNn.out; omega) ⟨#[110, 111, 100, 101, 115]⟩ jb (by decide) (p4 : Int) (by omega) _ hx2
        have HN2 : Hid (¬ e1 = 0 → e1 = e2 ∧ D1 = D2) := fun h0 => by
          rw [nx_no h0] at hx2
          exact ⟨congrArg Prod.snd hx2, congrArg Prod.fst hx2⟩
        have HW3 : Hid (e2 = 0 → ∀ W, RSm wb W q r T D2 S (n + 2) → Calls Tryz.prog 76 #[.pointer (some ⟨r, 0, none⟩), .string ⟨#[105, 116, 101, 109, 115]⟩] W fun e w' => e = .returned (.int .i64 e3) ∧ RSm wb w' q r T D3 S (n + 3)) := fun h0 W hW => by
          rw [h0, nx_yes] at hx3
          exact hW.sync (by have := HNn.out; omega) ⟨#[105, 116, 101, 109, 115]⟩ (by decide) _ hx3
        have HN3 : Hid (¬ e2 = 0 → e2 = e3 ∧ D2 = D3) := fun h0 => by
          rw [nx_no h0] at hx3
          exact ⟨congrArg Prod.snd hx3, congrArg Prod.fst hx3⟩
        have HW4 : Hid (e3 = 0 → ∀ W, RSm wb W q r T D3 S (n + 3) → Calls Tryz.prog 76 #[.pointer (some ⟨r, 0, none⟩), .string ⟨#[110, 111, 100, 101, 115]⟩] W fun e w' => e = .returned (.int .i64 e4) ∧ RSm wb w' q r T D4 S (n + 4)) := fun h0 W hW => by
          rw [h0, nx_yes] at hx4
          exact hW.sync (by have := HNn.out; omega) ⟨#[110, 111, 100, 101, 115]⟩ (by decide) _ hx4
        have HN4 : Hid (¬ e3 = 0 → e3 = e4 ∧ D3 = D4) := fun h0 => by
          rw [nx_no h0] at hx4
          exact ⟨congrArg Prod.snd hx4, congrArg Prod.fst hx4⟩
        have HW5 : Hid (e4 = 0 → ∀ W, RSm wb W q r T D4 S (n + 4) → Calls Tryz.prog 127 #[.pointer (some ⟨r, 0, none⟩), .string ⟨#[109, 97, 114, 107, 115]⟩, .int .i64 (n4 : Int), .string mb'] W fun e w' => e = .returned (.int .i64 e5) ∧ RSm wb w' q r T D5 S (n + 5)) := fun h0 W hW => by
          rw [h0, nx_yes] at hx5
          exact hW.write (by have := HNn.out; omega) ⟨#[109, 97, 114, 107, 115]⟩ mb' (by decide) (n4 : Int) (by omega) _ hx5
        have HN5 : Hid (¬ e4 = 0 → e4 = e5 ∧ D4 = D5) := fun h0 => by
          rw [nx_no h0] at hx5
          exact ⟨congrArg Prod.snd hx5, congrArg Prod.fst hx5⟩
        have HW6 : Hid (e5 = 0 → ∀ W, RSm wb W q r T D5 S (n + 5) → Calls Tryz.prog 76 #[.pointer (some ⟨r, 0, none⟩), .string ⟨#[109, 97, 114, 107, 115]⟩] W fun e w' => e = .returned (.int .i64 e6) ∧ RSm wb w' q r T D6 S (n + 6)) := fun h0 W hW => by
          rw [h0, nx_yes] at hx6
          exact hW.sync (by have := HNn.out; omega) ⟨#[109, 97, 114, 107, 115]⟩ (by decide) _ hx6
        have HN6 : Hid (¬ e5 = 0 → e5 = e6 ∧ D5 = D6) := fun h0 => by
          rw [nx_no h0] at hx6
          exact ⟨congrArg Prod.snd hx6, congrArg Prod.fst hx6⟩
        have HItm : Hid (rm ≤ 268435456 ∧ n0 < 65536 ∧ S.ends.length = n0) := ⟨z6, z11, q1⟩
        clear hy1 hy2 hy3 z1 z2 z3 z4 z5 z6 z7 z8 z9 z10 z11 q1 q2 q3 q4 q5 q6 q7 q8 q9 qa qb qc hpz m1 m2 m3 m4 m5 hmb' hmz hml hp4 hn4 hx1 hx2 hx3 hx4 hx5 hx6 hrun hfin hM HFin HaR HLm HKk HE3
        go_upto_region 26 with (fail)
        go_cut [14] from 15 (fun v wx => v = .int .i64 e1 ∧ Hid (RSm wb wx q r T D1 S (n + 1)))
        case first => as_aux_lemma =>
          obtain ⟨_, _, _, _, ew5⟩ := HEw.out
          have HEb : Hid (∀ W, Below w.heap.size w W → Calls Tryz.prog 75 #[.pointer (some ⟨q, 0, none⟩)] W fun e w' => e = .returned (.int .u64 (le : Int)) ∧ Below W.heap.size W w') := fun W hW => (HEn.out W hW).mono fun e w' z => by
            obtain ⟨z1, m, rfl⟩ := z
            exact ⟨z1, below_drewN (Below.refl _ _) m⟩
          have HQ0 : Hid (∀ W, Below wb.heap.size wb W → W.cell? ⟨q, 0, none⟩ = some (.pointer (some ⟨r, 0, none⟩))) := fun W hW => (HQ.out _ _ _ (HR0.out.next hW)).1
          have tb : Below wb.heap.size wb wb.drew := bdq _
          have tw : Below w.heap.size w wb.drew := bdw HBm.out.2.2
          go_region_held3 (fun Z => Z.cell? ⟨q, 0, none⟩ = some (.pointer (some ⟨r, 0, none⟩))) (first | (with_reducible assumption) | (with_reducible exact HQ0.out _ tb) | (with_reducible exact (HQ.out _ _ _ t1).1) | (exact HQ0.out _ (Below.refl _ _)) | (exact HQ0.out _ tb)) (first
            | (go_at_call 75; (with_reducible refine (HEb.out _ tw).mono ?_); rintro e w7 ⟨rfl, v7⟩; have tb := bnext tb v7)
            | (go_at_call 127; (with_reducible refine (HW1.out _ tb).mono ?_); rintro e w8 ⟨rfl, t1⟩))
          all_goals
            go_wp2
            go_meet
            case rel => exact ⟨rfl, t1⟩
        case rest =>
        obtain ⟨rfl, T1⟩ := hcut
        generalize wc = wa at *
        clear wc HW1 HEn HR0
        go_upto_if 126 with (fail)
        go_cut [14] from 15 (fun v wx => v = .int .i64 e2 ∧ Hid (RSm wb wx q r T D2 S (n + 2)))
        case first => as_aux_lemma =>
          by_cases h0 : e1 = 0
          · subst h0
            have HC := hide (HW2.out rfl)
            obtain ⟨ew1, ew2, _, _, _⟩ := HEw.out
            clear HW2 HN2
            go_upto_region 28 with (fail)
            have tv := T1.out.next (bdq wa)
            go_region_held3 (fun Z => Z.cell? ⟨q, 0, none⟩ = some (.pointer (some ⟨r, 0, none⟩))) (first | (with_reducible assumption) | (with_reducible exact (HQ.out _ _ _ tv).1) | (with_reducible exact (HQ.out _ _ _ t2).1) | (exact (HQ.out _ _ _ T1.out).1) | (exact (HQ.out _ _ _ tv).1)) (first
              | (go_at_call 36; (with_reducible refine (HC0.out _).mono ?_); rintro e w7 ⟨rfl, hw7⟩; have hw7 := hw7.symm; subst hw7)
              | (go_at_call 127; (with_reducible refine (HC.out _ tv).mono ?_); rintro e w8 ⟨rfl, t2⟩))
            all_goals
              go_wp2
              go_meet
              case rel => exact ⟨rfl, t2⟩
          · have hb0 : (e1 == 0) = false := by simpa using h0
            have HE := hide (HN2.out h0)
            have TE := hide (T1.out.mono (m := n + 2) (by omega) (by have := HNn.out; omega))
            clear h0 HW2 HN2
            go_wp2
            go_meet
            case rel => exact ⟨by rw [HE.out.1], by rw [← HE.out.2]; exact TE.out⟩
        case rest =>
        obtain ⟨rfl, T2⟩ := hcut
        generalize wc = wa2 at *
        clear wc HW2 HN2 T1
        go_upto_if 138 with (fail)
        go_cut [14] from 15 (fun v wx => v = .int .i64 e3 ∧ Hid (RSm wb wx q r T D3 S (n + 3)))
        case first => as_aux_lemma =>
          by_cases h0 : e2 = 0
          · subst h0
            have HC := hide (HW3.out rfl)
            have y0 := (HQ.out _ _ _ T2.out).1
            clear HW3 HN3
            go_wp2_with (go_at_call 76; (with_reducible refine (HC.out _ T2.out).mono ?_); rintro e w8 ⟨rfl, t2⟩)
            go_meet
            case rel => exact ⟨rfl, t2⟩
          · have hb0 : (e2 == 0) = false := by simpa using h0
            have HE := hide (HN3.out h0)
            have TE := hide (T2.out.mono (m := n + 3) (by omega) (by have := HNn.out; omega))
            clear h0 HW3 HN3
            go_wp2
            go_meet
            case rel => exact ⟨by rw [HE.out.1], by rw [← HE.out.2]; exact TE.out⟩
        case rest =>
        obtain ⟨rfl, T3⟩ := hcut
        generalize wc = wa3 at *
        clear wc HW3 HN3 T2
        go_upto_if 145 with (fail)
        go_cut [14] from 15 (fun v wx => v = .int .i64 e4 ∧ Hid (RSm wb wx q r T D4 S (n + 4)))
        case first => as_aux_lemma =>
          by_cases h0 : e3 = 0
          · subst h0
            have HC := hide (HW4.out rfl)
            have y0 := (HQ.out _ _ _ T3.out).1
            clear HW4 HN4
            go_wp2_with (go_at_call 76; (with_reducible refine (HC.out _ T3.out).mono ?_); rintro e w8 ⟨rfl, t2⟩)
            go_meet
            case rel => exact ⟨rfl, t2⟩
          · have hb0 : (e3 == 0) = false := by simpa using h0
            have HE := hide (HN4.out h0)
            have TE := hide (T3.out.mono (m := n + 4) (by omega) (by have := HNn.out; omega))
            clear h0 HW4 HN4
            go_wp2
            go_meet
            case rel => exact ⟨by rw [HE.out.1], by rw [← HE.out.2]; exact TE.out⟩
        case rest =>
        obtain ⟨rfl, T4⟩ := hcut
        generalize wc = wa4 at *
        clear wc HW4 HN4 T3
        go_upto_if 152 with (fail)
        go_cut [14] from 15 (fun v wx => v = .int .i64 e5 ∧ Hid (RSm wb wx q r T D5 S (n + 5)))
        case first => as_aux_lemma =>
          by_cases h0 : e4 = 0
          · subst h0
            have HC := hide (HW5.out rfl)
            obtain ⟨_, _, ew3, ew4, _⟩ := HEw.out
            clear HW5 HN5
            go_upto_region 34 with (fail)
            have tv := T4.out.next (bdq wa4)
            go_region_held3 (fun Z => Z.cell? ⟨q, 0, none⟩ = some (.pointer (some ⟨r, 0, none⟩)) ∧ (Z.cell? ⟨bm, 0, none⟩ = some (.int .i64 (kk : Int)) ∧ Z.cell? ⟨bm, 1, none⟩ = some (.int .u64 (n1 : Int)) ∧ Z.cell? ⟨bm, 2, none⟩ = some (.int .u64 (rm : Int)) ∧ Z.cell? ⟨bm, 3, none⟩ = some (.int .u64 (pn : Int)) ∧ Z.cell? ⟨bm, 4, none⟩ = some (.int .u32 (ch : Int)))) (first | (with_reducible assumption) | (with_reducible exact HQ.out _ _ _ tv) | (with_reducible exact HQ.out _ _ _ t2) | (exact HQ.out _ _ _ T4.out) | (exact HQ.out _ _ _ tv)) (first
              | (go_at_call 128; (with_reducible refine (HMk.out _).mono ?_); rintro e w7 ⟨rfl, v7⟩; have tv := tv.next v7)
              | (go_at_call 127; (with_reducible refine (HC.out _ tv).mono ?_); rintro e w8 ⟨rfl, t2⟩))
            all_goals
              go_wp2
              go_meet
              case rel => exact ⟨rfl, t2⟩
          · have hb0 : (e4 == 0) = false := by simpa using h0
            have HE := hide (HN5.out h0)
            have TE := hide (T4.out.mono (m := n + 5) (by omega) (by have := HNn.out; omega))
            clear h0 HW5 HN5
            go_wp2
            go_meet
            case rel => exact ⟨by rw [HE.out.1], by rw [← HE.out.2]; exact TE.out⟩
        case rest =>
        obtain ⟨rfl, T5⟩ := hcut
        generalize wc = wa5 at *
        clear wc HW5 HN5 T4
        go_upto_if 164 with (fail)
        go_cut [14] from 15 (fun v wx => v = .int .i64 e6 ∧ Hid (RSm wb wx q r T D6 S (n + 6)))
        case first => as_aux_lemma =>
          by_cases h0 : e5 = 0
          · subst h0
            have HC := hide (HW6.out rfl)
            have y0 := (HQ.out _ _ _ T5.out).1
            clear HW6 HN6
            go_wp2_with (go_at_call 76; (with_reducible refine (HC.out _ T5.out).mono ?_); rintro e w8 ⟨rfl, t2⟩)
            go_meet
            case rel => exact ⟨rfl, t2⟩
          · have hb0 : (e5 == 0) = false := by simpa using h0
            have HE := hide (HN6.out h0)
            have TE := hide (T5.out.mono (m := n + 6) (by omega) (by have := HNn.out; omega))
            clear h0 HW6 HN6
            go_wp2
            go_meet
            case rel => exact ⟨by rw [HE.out.1], by rw [← HE.out.2]; exact TE.out⟩
        case rest =>
        obtain ⟨rfl, T6⟩ := hcut
        generalize wc = wa6 at *
        clear wc HW6 HN6 T5
        go_upto_region 37 with (fail)
        by_cases h0 : e6 = 0
        · subst h0
          obtain ⟨g1, g2, g3⟩ := HFo.out rfl
          have hd : Below wa6.heap.size wa6 wa6.drew := bdq _
          obtain ⟨m1, m2, m3, m4, m5⟩ := HMv.out
          obtain ⟨W1, hW1⟩ : ∃ W, (wa6.alloc (.cells #[.int .i64 (kk : Int), .int .u64 (n1 : Int), .int .u64 (rm : Int), .int .u64 (pn : Int), .int .u32 (ch : Int)] 85)).drew = W := ⟨_, rfl⟩
          have hal1 : Below wa6.heap.size wa6 W1 := by
            rw [← hW1]
            exact (bal (Below.refl _ _) _).drew
          obtain ⟨ma7, mcap7, va7, vc7, w7, ⟨c2', c2⟩, hrn, f7, c7, t7⟩ := RSm.push T6.out M (by have := HItm.out.1; omega) (by have := HItm.out; omega) W1 hal1 (by rw [m1, m2, m3, m4, m5, ← hW1]; exact new1 _ _)
          rw [HItm.out.2.2] at c2 c2' hrn c7 t7
          have hW1' : wa6.drew.alloc (.cells #[.int .i64 (kk : Int), .int .u64 (n1 : Int), .int .u64 (rm : Int), .int .u64 (pn : Int), .int .u32 (ch : Int)] 85) = W1 := by
            rw [← hW1]
            rfl
          obtain ⟨y0, y1, y2, y3, y4, y5⟩ := HQ.out _ _ _ T6.out
          obtain ⟨y0', y1', y2', y3', y4', y5'⟩ := HQ.out _ _ _ (T6.out.next hal1)
          have hap := appR_of hrn
          have HZ : Hid (RSm w (w7.setCell ⟨q, 2, none⟩ (.slice va7 (n0 + 1) vc7)) q r T D' S' (n + 6)) := by
            rw [← g2, ← g3]
            exact t7.back HBm.out.2.2
          clear hrn t7 HFl HFo T6 HQ HMv HItm m1 m2 m3 m4 m5 g2 g3
          go_upto_region 40 with (fail)
          go_region
          go_wp2
          go_ret
          subst g1
          exact ⟨rfl, HZ.out⟩
        · have hb0 : ((e6 : Int) != 0) = true := by simpa using h0
          have HZ := hide (HFl.out _ T6.out h0)
          obtain ⟨_, _, ⟨_, _, _, c3⟩, _, f3⟩ := RSm.cells T6.out
          clear h0 HFl HFo T6 HQ
          go_wp2
          go_ret
          obtain ⟨hz1, hz2⟩ := HZ.out
          subst hz1
          exact ⟨rfl, hz2⟩
end
end Go.Proofs.YthfnpagangjpbabGreat
