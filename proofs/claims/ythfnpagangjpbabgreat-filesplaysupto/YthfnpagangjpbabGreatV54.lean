/-
  Own work: FGe.
-/
import Derived.Deep.RegionHeld3
import Derived.Test.YthfnpagangjpbabGreatV49
import Derived.Test.YthfnpagangjpbabGreatV53
namespace Go.Proofs.YthfnpagangjpbabGreat
open Go.RowKit
open Rc
attribute [local go_sem ↓] Go.wp_at_zero Go.wp_at_succ
attribute [local go_sem ↓] exec_appR
theorem rdR_row {k : Nat} {s : List UInt8} : ∀ {j : Nat} {l : List MV}, rdR k s j = some l → RowR k l
  | 0, l, h => by
    cases h
    exact ⟨Nat.zero_le _, fun i hi => absurd hi (Nat.not_lt_zero _), fun i hi => absurd hi (Nat.not_lt_zero _), fun i hi => absurd hi (Nat.not_lt_zero _), fun i hi => absurd hi (Nat.not_lt_zero _)⟩
  | j + 1, l, h => by
    rw [rdR] at h
    cases hj : rdR k s j with
    | none => rw [hj] at h; cases h
    | some l0 =>
      rw [hj] at h
      simp only at h
      cases hm : rmrk (rowM s j) with
      | none => rw [hm] at h; cases h
      | some m =>
        rw [hm] at h
        simp only at h
        split at h
        · rename_i hn
          cases h
          have ih := rdR_row hj
          obtain ⟨e1, e2, e3, e4, e5⟩ := nxR_iff.1 hn
          have hl : (l0 ++ [m]).length = l0.length + 1 := by simp
          have last : ∀ i, i < (l0 ++ [m]).length → i < l0.length ∨ i = l0.length := fun i hi => by omega
          refine ⟨by omega, fun i hi => ?_, fun i hi => ?_, fun i hi => ?_, fun i hi => ?_⟩
          · rcases last i hi with q | rfl
            · rw [getD_snoc_lt _ _ _ q]; exact ih.size i q
            · rw [getD_snoc_eq]; exact e2
          · rcases last i hi with q | rfl
            · rw [getD_snoc_lt _ _ _ q]; exact ih.kk i q
            · rw [getD_snoc_eq]; exact e3
          · rcases last i hi with q | rfl
            · rw [getD_snoc_lt _ _ _ q, take_snoc_lt _ _ _ (by omega)]; exact ih.up i q
            · rw [getD_snoc_eq, take_snoc_lt _ _ _ (Nat.le_refl _), List.take_length]; exact e4
          · rcases last i hi with q | rfl
            · rw [getD_snoc_lt _ _ _ q]; exact ih.nodes i q
            · rw [getD_snoc_eq, e5, e2]
        · cases h
theorem RowR.begs {k : Nat} {l : List MV} (_ : RowR k l) (i : Nat) (hi : i < l.length) : bgM (l.take (i + 1)) = (l.getD i MV.z).items := by
  rw [bgM_take l _ (by omega), endE_succ l i hi]
theorem RowR.mono {k : Nat} {l : List MV} (h : RowR k l) : ∀ d i, i + d ≤ l.length → bgM (l.take i) ≤ bgM (l.take (i + d))
  | 0, i, _ => Nat.le_refl _
  | d + 1, i, hd => by
    have h1 := h.mono d i (by omega)
    have h2 := h.up (i + d) (by omega)
    have h3 := h.begs (i + d) (by omega)
    rw [← h3] at h2
    rw [show i + (d + 1) = i + d + 1 by omega]
    omega
theorem RowR.le {k : Nat} {l : List MV} (h : RowR k l) (i : Nat) (hi : i < l.length) : bgM (l.take i) ≤ (l.getD i MV.z).items ∧ (l.getD i MV.z).items ≤ bgM l := by
  have h1 := h.up i hi
  have h2 := h.mono (l.length - (i + 1)) (i + 1) (by omega)
  rw [h.begs i hi, show i + 1 + (l.length - (i + 1)) = l.length by omega, List.take_length] at h2
  omega
def RiQ (w : World) (P : Prop) (e : Ending) (w' : World) : Prop := ∃ x : Bool, e = .returned (.bool x) ∧ (x = true ↔ P) ∧ Below w.heap.size w w'
theorem riq_no {w w' : World} {P : Prop} (hP : ¬ P) (hb : Below w.heap.size w w') : RiQ w P (.returned (.bool false)) w' := ⟨false, rfl, ⟨fun h => (by cases h), fun h => absurd h hP⟩, hb⟩
theorem riq_yes {w w' : World} {P : Prop} (hP : P) (hb : Below w.heap.size w w') : RiQ w P (.returned (.bool true)) w' := ⟨true, rfl, ⟨fun _ => hP, fun _ => rfl⟩, hb⟩
theorem rwR_snoc (b : List UInt8) (p n : Nat) : rwR b p (n + 1) = rwR b p n ++ [tx (rowN b (p + n))] := by unfold rwR; rw [List.range_succ, List.map_append]; rfl
theorem rwR_len (b : List UInt8) (p n : Nat) : (rwR b p n).length = n := by simp [rwR]
theorem rwR_sz (b : List UInt8) (p n : Nat) : ∀ x ∈ rwR b p n, x.size ≤ 40 := fun x hx => by
  obtain ⟨j, _, rfl⟩ := List.mem_map.1 hx
  rw [tx_size, rowN, List.length_take]
  omega
theorem flat_rw (b : List UInt8) (p : Nat) : ∀ n, (flat (rwR b p n)).length ≤ 40 * n
  | 0 => by simp [rwR, flat]
  | n + 1 => by
    have ih := flat_rw b p n
    rw [rwR_snoc]
    have := rwR_sz b p (n + 1) (tx (rowN b (p + n))) (by rw [rwR_snoc]; simp)
    simp only [flat, List.flatMap_append, List.length_append, List.flatMap_cons, List.flatMap_nil, List.append_nil] at ih ⊢
    rw [size_list]
    omega
theorem nn_mono' : ∀ (a b : Nat), a ≤ b → b ≤ 65536 → nn a ≤ nn b := fun a b h hb => by
  induction b with
  | zero => obtain rfl : a = 0 := by omega
            exact Nat.le_refl _
  | succ b ih =>
    by_cases e : a = b + 1
    · rw [e]; exact Nat.le_refl _
    · have h1 := ih (by omega) (by omega)
      have h2 := (nn_mono b (by omega)).1
      omega
theorem run_app_S (w : World) (ty B : Nat) (v : Value) (L : List ByteArray) (hown : OwnS w B v L) (x : ByteArray) (hlen : L.length + 1 ≤ 1048576) (hB : B ≤ w.heap.size) :
    ∃ v' w', (Builtin.append_ #[48, 48] ty #[v, .slice (some ⟨w.heap.size, 0, none⟩) 1 1]).run Tryz.prog (w.alloc (.cells #[.string x] 9)) = .ok v' w' ∧ OwnS w' B v' (L ++ [x]) ∧ Below B w w' := by
  obtain ⟨i0, hi, hz0, hz1, hz2⟩ := info_parts Rc.Tryz.infoS
  have hb := bal (Below.refl w.heap.size w) (.cells #[.string x] 9)
  obtain ⟨v', w', q1, q2, q3, _⟩ := run_append_own (P := Tryz.prog) (w.alloc (.cells #[.string x] 9)) B 48 ty 9 i0 _ 1 16 Tryz.underlying48 hi hz0 hz1 hz2 rfl (by decide) v L.length (L.map Value.string) (row_keep hown fun g hg => hb.block g (World.ownsRow.lt hown g hg).2) ⟨w.heap.size, 0, none⟩ 1 1 _ rfl (one_new w _ _) (by intro u hu; simp at hu; rcases hu with rfl; rfl) (by unfold maxLen; omega) (by omega) (by simp; omega)
  refine ⟨v', w', q1, ?_, ?_⟩
  · rw [OwnS, List.map_append, List.length_append]
    exact q2
  · exact (hb.mono hB).grown q3 (by simp; omega) (fun k hk => (World.ownsRow.lt hown k hk).1)
set_option maxRecDepth 100000 in
set_option maxHeartbeats 8000000 in
theorem rright_any (w : World) (ao : Option Addr) (b cap : Nat) (l : List MV) (rd : RdK w ao b l) (k : Nat) (k1 : 1 ≤ k) (k2 : k ≤ 32) (hrow : RowR k l) (sa sb : ByteArray) (ha : sa.size ≤ 268435456) (hb : sb.size ≤ 268435456) (A B : List UInt8) (hA : sa.data.toList = A) (hB : sb.data.toList = B) :
    Calls Tryz.prog 73 #[.slice ao l.length cap, .int .i64 (k : Int), .string sa, .string sb] w (RiQ w (Rgt k l A B)) := by
  obtain ⟨P, hP⟩ : ∃ P, Rgt k l A B = P := ⟨_, rfl⟩
  have HP := hide hP
  rw [hP]
  obtain ⟨n, hn⟩ : ∃ n, l.length = n := ⟨_, rfl⟩
  have hlA : A.length = sa.size := by rw [← hA, size_list]
  have hlB : B.length = sb.size := by rw [← hB, size_list]
  have hfew := hrow.few
  by_cases h0 : n = 0
  · have HZ : Hid (RiQ w P (.returned (.bool true)) w) := by
      refine riq_yes ?_ (Below.refl _ _)
      rw [← hP]
      have : l = [] := List.length_eq_zero_iff.1 (by omega)
      subst this
      exact ⟨Nat.zero_le _, Nat.zero_le _, fun i hi => absurd hi (Nat.not_lt_zero _), fun i hi => absurd hi (Nat.not_lt_zero _), fun i hi => absurd hi (Nat.not_lt_zero _)⟩
    rw [hn]
    subst h0
    clear HP hP rd hrow hn hfew
    go_enter Tryz.func73, Tryz.ntmps73
    go_wp2
    go_ret
    exact HZ.out
  · obtain ⟨nm, hnm⟩ : ∃ x, n - 1 = x := ⟨_, rfl⟩
    obtain ⟨bl, hbl⟩ : ∃ x, bgM l = x := ⟨_, rfl⟩
    obtain ⟨nl, hnl⟩ : ∃ x, 40 * nn n = x := ⟨_, rfl⟩
    obtain rfl := rd.ptr (by omega)
    obtain ⟨_, _, c2, c3, _⟩ := rd.c0 nm (by omega)
    rw [← bgM_last l nm (by omega), hbl] at c2
    rw [hrow.nodes nm (by omega), show nm + 1 = n by omega, hnl] at c3
    have z0 : ¬ (n : Int) = 0 := by omega
    have z2 : (nm : Int) < (n : Int) := by omega
    have HZW : Hid (IntKind.i64.wrap ((n : Int) - 1) = (nm : Int) ∧ IntKind.u64.wrap (sa.size : Int) = (sa.size : Int) ∧ IntKind.u64.wrap (sb.size : Int) = (sb.size : Int)) := ⟨by rw [IntKind.wrap_i64]; omega, wrap_u _ (by omega) (by omega), wrap_u _ (by omega) (by omega)⟩
    rw [hn]
    by_cases hq1 : sa.size < bl
    · have HZ : Hid (RiQ w P (.returned (.bool false)) w) := riq_no (fun h => by rw [← hP] at h; have := h.la; omega) (Below.refl _ _)
      have d1 : (sa.size : Int) < (bl : Int) := by omega
      clear HP hP rd hrow hn hfew hbl hnl hnm hq1 h0
      obtain ⟨z1, z3, z4⟩ := HZW.out
      go_enter Tryz.func73, Tryz.ntmps73
      go_wp2
      go_ret
      exact HZ.out
    have d1 : ¬ (sa.size : Int) < (bl : Int) := by omega
    by_cases hq2 : sb.size < nl
    · have HZ : Hid (RiQ w P (.returned (.bool false)) w) := riq_no (fun h => by rw [← hP] at h; have := h.lb; rw [hn] at this; omega) (Below.refl _ _)
      have d2 : (sb.size : Int) < (nl : Int) := by omega
      clear HP hP rd hrow hn hfew hbl hnl hnm hq1 h0 hq2
      obtain ⟨z1, z3, z4⟩ := HZW.out
      go_enter Tryz.func73, Tryz.ntmps73
      go_wp2
      go_ret
      exact HZ.out
    have d2 : ¬ (sb.size : Int) < (nl : Int) := by omega
    obtain ⟨N, hN⟩ : ∃ x, nn n = x := ⟨_, rfl⟩
    have hNn := nn_le n
    have HX : Hid (l.length = n ∧ n ≤ 65536 ∧ nn n = N ∧ 40 * N ≤ sb.size ∧ bgM l ≤ sa.size ∧ sa.size ≤ 268435456 ∧ sb.size ≤ 268435456 ∧ sa.data.toList = A ∧ sb.data.toList = B ∧ RowR k l ∧ 1 ≤ k ∧ k ≤ 32 ∧ N ≤ 131072) := ⟨hn, by omega, hN, by omega, by omega, ha, hb, hA, hB, hrow, k1, k2, by omega⟩
    have HRd : Hid (∀ W, Below w.heap.size w W → RdK W (some ⟨b, 0, none⟩) b l) := fun W hW => rd.next hW
    have HBg : Hid (∀ (W : World) (i x : Nat), Below w.heap.size w W → i < n → bgM (l.take i) = x → Calls Tryz.prog 31 #[.slice (some ⟨b, 0, none⟩) n cap, .int .i64 (i : Int)] W fun e w' => e = .returned (.int .u64 (x : Int)) ∧ w' = W) := fun W i x hW hi hx => by
      have := rbegins_any W (some ⟨b, 0, none⟩) b cap l (rd.next hW) i (by omega) (by omega) x (by rw [← bgM_take l i (by omega)]; exact hx)
      rw [hn] at this
      exact this
    have HCn : Hid (∀ (W : World) (i : Nat), i ≤ 65537 → Calls Tryz.prog 36 #[.int .u64 (i : Int)] W fun e w' => e = .returned (.int .u64 (nn i : Int)) ∧ w' = W) := fun W i hi => rcount_any W i (by omega)
    have HRp : Hid (∀ (W : World) (x : List UInt8) (rt : ByteArray) (rn : Nat) (re : Int), x.length ≤ 268435456 → rpT x = (rt, rn, re) → Calls Tryz.prog 33 #[.string (tx x)] W fun e w' => e = .returned (.tuple #[.string rt, .int .i64 (rn : Int), .int .i64 re]) ∧ Below W.heap.size W w') := fun W x rt rn re hx hh => refrpayload_any W (tx x) (by rw [tx_size]; omega) rt rn re hh
    have HRn : Hid (∀ (W : World) (p : Nat) (x : List UInt8) (rt : ByteArray) (re : Int), p ≤ 131072 → rnT (k : Int) p x = (rt, re) → Calls Tryz.prog 37 #[.int .i64 (k : Int), .int .u64 (p : Int), .string (tx x)] W fun e w' => e = .returned (.tuple #[.string rt, .int .i64 re]) ∧ Below W.heap.size W w') := fun W p x rt re hp hh => refrnode_any W (k : Int) p (by omega) (tx x) rt re hh
    have HN1 : Hid (∀ W, Calls Tryz.prog 36 #[.int .u64 (n : Int)] W fun e w' => e = .returned (.int .u64 (N : Int)) ∧ w' = W) := fun W => by
      have := rcount_any W n (by omega)
      rw [hN] at this
      exact this
    clear hP rd hrow hn hfew hbl hnl hnm hq1 hq2 h0 hlA hlB ha hb hA hB hN hNn k1 k2
    obtain ⟨z1, z3, z4⟩ := HZW.out
    go_enter Tryz.func73, Tryz.ntmps73
    go_wp2
    clear c2 c3 z0 z1 z2 z3 z4 d1 d2 HZW
    go_loopg [10] n (fun g y wr => ∃ i : Nat, i ≤ n ∧ g = n - i ∧ y = .int .i64 (i : Int) ∧ Hid ((∀ i', i' < i → whl (plR l A i') = true) ∧ Below w.heap.size w wr))
    case atStart =>
      go_light
      exact ⟨0, Nat.zero_le _, rfl, rfl, fun i' h => absurd h (Nat.not_lt_zero _), Below.refl _ _⟩
    case round =>
      obtain ⟨i, hi, rfl, rfl, HW⟩ := hrel
      by_cases hlt : i < n
      · have hz : (i : Int) < (n : Int) := by omega
        have HI := hide hlt
        obtain ⟨q1, q2, q3, q4, q5, q6, q7, q8, q9, qa, qb, qc, qd⟩ := HX.out
        obtain ⟨bg, hbg⟩ : ∃ x, bgM (l.take i) = x := ⟨_, rfl⟩
        obtain ⟨it, hit⟩ : ∃ x, (l.getD i MV.z).items = x := ⟨_, rfl⟩
        have hle := qa.le i (by omega)
        rw [hbg, hit] at hle
        have HB := hide (fun W hW => HBg.out W i bg hW hlt hbg)
        obtain ⟨_, _, y2, _, _⟩ := (HRd.out wr HW.out.2).c0 i (by omega)
        rw [hit] at y2
        have e1 : (0 : Int) ≤ (bg : Int) := by omega
        have e2 : (bg : Int) ≤ (it : Int) := by omega
        have e3 : (it : Int) ≤ (sa.size : Int) := by omega
        have HEw : Hid (IntKind.i64.wrap ((i : Int) + 1) = (i : Int) + 1) := by show _ = _; rw [IntKind.wrap_i64]; omega
        have hex : sa.extract bg it = tx (plR l A i) := Rc.ba_ext (by rw [ext_mid, q8, tx_data, plR, hbg, hit])
        obtain ⟨pl, hpl⟩ : ∃ x, plR l A i = x := ⟨_, rfl⟩
        have hpz : pl.length ≤ 268435456 := by rw [← hpl, plR, List.length_take, List.length_drop]; have : A.length = sa.size := by { rw [← q8, size_list] }; omega
        have hps : (tx pl).size = pl.length := tx_size pl
        rw [hpl] at hex
        have HPl := hide hpl
        clear q1 q2 q3 q4 q5 q6 q7 q8 q9 qa qb qc qd hbg hit hle hpl hi
        obtain ⟨xp, hxp⟩ : ∃ x, tx pl = x := ⟨_, rfl⟩
        rw [hxp] at hex hps
        have HRp2 := hide (fun W rt rn re hh => HRp.out W pl rt rn re hpz hh)
        rw [hxp] at HRp2
        clear hxp
        go_upto_region 9 with (fail)
        have hdw : ∀ t, Below w.heap.size w (wr.drewN t) := fun t => below_drewN HW.out.2 t
        have HDw := hide hdw
        clear hdw
        go_quiet (first | (go_at_call 31; refine Calls.quiet_of_same (HB.out _ (HDw.out _))))
        have u2 := HDw.out nq
        generalize wr.drewN nq = w2 at *
        cases hp : rpay pl with
        | none =>
          have HP2 := hide (fun W => HRp2.out W _ _ _ (rpT_no hp))
          have HZ : Hid (∀ W, Below w2.heap.size w2 W → RiQ w P (.returned (.bool false)) W) := fun W hW => riq_no (fun h => by
            rw [← HP.out] at h
            have := h.pay i (by rw [HX.out.1]; exact HI.out)
            rw [HPl.out, whl, hp] at this
            cases this) (bnext u2 hW)
          clear hp HRp HRp2 HW y2
          go_wp2_with (go_at_call 33; (with_reducible refine (HP2.out _).mono ?_); rintro e w3 ⟨rfl, u3⟩)
          go_ret
          exact HZ.out _ u3
        | some x =>
          have HP2 := hide (fun W => HRp2.out W _ _ _ (rpT_yes hp))
          obtain ⟨xn, hxn⟩ : ∃ m, x.length + 8 = m := ⟨_, rfl⟩
          rw [hxn] at HP2
          by_cases hq : xn = pl.length
          · have hq1 : ((xn : Int) != (xp.size : Int)) = false := by rw [hps, hq]; simp
            have HZ : Hid (∀ W, Below w2.heap.size w2 W → (∀ i', i' < i + 1 → whl (plR l A i') = true) ∧ Below w.heap.size w W) := fun W hW => ⟨fun i' hi' => by
              rcases Nat.lt_or_eq_of_le (Nat.le_of_lt_succ hi') with e | rfl
              · exact HW.out.1 i' e
              · rw [HPl.out, whl, hp]; simp only; simp; omega, bnext u2 hW⟩
            clear hp HRp HRp2 HW y2 hps hq hpz
            have ew2 := HEw.out
            go_wp2_with (go_at_call 33; (with_reducible refine (HP2.out _).mono ?_); rintro e w3 ⟨rfl, u3⟩)
            clear ew2
            go_roundg (n - (i + 1))
            case rel =>
              go_light
              exact ⟨i + 1, HI.out, rfl, by go_num, HZ.out _ u3⟩
            case measure => go_light; omega
          · have hq1 : ((xn : Int) != (xp.size : Int)) = true := by rw [hps]; simp; omega
            have HZ : Hid (∀ W, Below w2.heap.size w2 W → RiQ w P (.returned (.bool false)) W) := fun W hW => riq_no (fun h => by
              rw [← HP.out] at h
              have := h.pay i (by rw [HX.out.1]; exact HI.out)
              rw [HPl.out, whl, hp] at this
              simp only at this
              simp at this
              omega) (bnext u2 hW)
            clear hp HRp HRp2 HW y2 hps hq hpz
            go_wp2_with (go_at_call 33; (with_reducible refine (HP2.out _).mono ?_); rintro e w3 ⟨rfl, u3⟩)
            go_ret
            exact HZ.out _ u3
      · obtain rfl : i = n := by omega
        have hz : ¬ ((i : Int) < (i : Int)) := by omega
        have HPay : Hid (∀ i', i' < i → whl (plR l A i') = true) := HW.out.1
        have HWb : Hid (Below w.heap.size w wr) := HW.out.2
        clear HW hlt hi HRp
        go_wp2
        generalize wr = wo at *
        clear wr
        go_loopg [15] N (fun g y wr => ∃ p : Nat, p ≤ N ∧ g = N - p ∧ y = .int .u64 (p : Int) ∧ Hid ((∀ p', p' < p → (rnod k p' (rowN B p')).isSome = true) ∧ Below w.heap.size w wr))
        case atStart =>
          go_light
          exact ⟨0, Nat.zero_le _, rfl, rfl, fun i' h => absurd h (Nat.not_lt_zero _), HWb.out⟩
        case round =>
          obtain ⟨p, hp, rfl, rfl, HW⟩ := hrel
          have HN64 : Hid (IntKind.u64.wrap (i : Int) = (i : Int)) := wrap_u _ (by omega) (by have := HX.out.2.1; omega)
          by_cases hlt : p < N
          · have hz1 : (p : Int) < (N : Int) := by omega
            have HI := hide hlt
            obtain ⟨q1, q2, q3, q4, q5, q6, q7, q8, q9, qa, qb, qc, qd⟩ := HX.out
            obtain ⟨p4, hp4⟩ : ∃ x, 40 * p = x := ⟨_, rfl⟩
            obtain ⟨p5, hp5⟩ : ∃ x, p4 + 40 = x := ⟨_, rfl⟩
            obtain ⟨p1, hp1⟩ : ∃ x, p + 1 = x := ⟨_, rfl⟩
            have HEw : Hid (IntKind.u64.wrap (40 * (p : Int)) = (p4 : Int) ∧ IntKind.u64.wrap ((p4 : Int) + 40) = (p5 : Int) ∧ IntKind.u64.wrap ((p : Int) + 1) = (p1 : Int)) := ⟨by rw [wrap_u _ (by omega) (by omega)]; omega, by rw [wrap_u _ (by omega) (by omega)]; omega, by rw [wrap_u _ (by omega) (by omega)]; omega⟩
            have HP1 := hide hp1
            have e1 : (0 : Int) ≤ (p4 : Int) := by omega
            have e2 : (p4 : Int) ≤ (p5 : Int) := by omega
            have e3 : (p5 : Int) ≤ (sb.size : Int) := by omega
            have h40 : p5 - p4 = 40 := by omega
            have hex : sb.extract p4 p5 = tx (rowN B p) := Rc.ba_ext (by rw [ext_mid, q9, tx_data, h40, ← hp4]; rfl)
            clear h40
            obtain ⟨row, hrw⟩ : ∃ x, rowN B p = x := ⟨_, rfl⟩
            rw [hrw] at hex
            have HRw := hide hrw
            have hp13 : p ≤ 131072 := by omega
            have HRn2 : Hid (∀ (W : World) (rt : ByteArray) (re : Int), rnT (k : Int) p row = (rt, re) → Calls Tryz.prog 37 #[.int .i64 (k : Int), .int .u64 (p : Int), .string (tx row)] W fun e w' => e = .returned (.tuple #[.string rt, .int .i64 re]) ∧ Below W.heap.size W w') := fun W rt re hh => HRn.out W p row rt re hp13 hh
            clear hp13
            obtain ⟨xp, hxp⟩ : ∃ x, tx row = x := ⟨_, rfl⟩
            rw [hxp] at hex HRn2
            have hkk : (1 : Int) ≤ (k : Int) ∧ (k : Int) ≤ 32 := by omega
            clear q1 q2 q3 q4 q5 q6 q7 q8 q9 qa qb qc qd hp4 hp5 hp1 hrw hxp hp
            cases hp : rnod k p row with
            | none =>
              have HP2 := hide (fun W => HRn2.out W _ _ (rnT_no hkk (by simpa using hp)))
              have HZ : Hid (∀ W, Below wr.heap.size wr W → RiQ w P (.returned (.bool false)) W) := fun W hW => riq_no (fun h => by
                rw [← HP.out] at h
                have := h.nod p (by rw [HX.out.1, HX.out.2.2.1]; exact HI.out)
                rw [HRw.out, hp] at this
                cases this) (bnext HW.out.2 hW)
              clear hp HRn HRn2 HW hkk
              have hn64 := HN64.out
              obtain ⟨ew1, ew2, ew3⟩ := HEw.out
              go_wp2_with (first
                | (go_at_call 36; (with_reducible refine (HN1.out _).mono ?_); rintro e w3 ⟨rfl, rfl⟩)
                | (go_at_call 37; (with_reducible refine (HP2.out _).mono ?_); rintro e w3 ⟨rfl, u3⟩))
              clear ew1 ew2 ew3 hn64
              go_ret
              exact HZ.out _ u3
            | some x =>
              have HP2 := hide (fun W => HRn2.out W _ _ (rnT_yes hkk (by simpa using hp)))
              have HZ : Hid (∀ W, Below wr.heap.size wr W → (∀ p', p' < p + 1 → (rnod k p' (rowN B p')).isSome = true) ∧ Below w.heap.size w W) := fun W hW => ⟨fun i' hi' => by
                rcases Nat.lt_or_eq_of_le (Nat.le_of_lt_succ hi') with e | rfl
                · exact HW.out.1 i' e
                · rw [HRw.out, hp]; rfl, bnext HW.out.2 hW⟩
              clear hp HRn HRn2 HW hkk
              have hn64 := HN64.out
              obtain ⟨ew1, ew2, ew3⟩ := HEw.out
              go_wp2_with (first
                | (go_at_call 36; (with_reducible refine (HN1.out _).mono ?_); rintro e w3 ⟨rfl, rfl⟩)
                | (go_at_call 37; (with_reducible refine (HP2.out _).mono ?_); rintro e w3 ⟨rfl, u3⟩))
              clear ew1 ew2 ew3 hn64
              go_roundg (N - (p + 1))
              case rel =>
                go_light
                exact ⟨p + 1, HI.out, rfl, by rw [← HP1.out], HZ.out _ u3⟩
              case measure => go_light; omega
          · obtain rfl : p = N := by omega
            have hz1 : ¬ ((p : Int) < (p : Int)) := by omega
            have HNod : Hid (∀ p', p' < p → (rnod k p' (rowN B p')).isSome = true) := HW.out.1
            have HWc : Hid (Below w.heap.size w wr) := HW.out.2
            clear HW hlt hp HRn
            have hn64 := HN64.out
            go_wp2_with (go_at_call 36; (with_reducible refine (HN1.out _).mono ?_); rintro e w3 ⟨rfl, rfl⟩)
            clear hn64 HN64
            generalize w3 = wp at *
            clear w3 HN1
            go_loopg [18, 19] i (fun g x y wr => ∃ (j : Nat) (c : BitVec 32), j ≤ i ∧ g = i - j ∧ x = .int .u32 (c.toNat : Int) ∧ y = .int .i64 (j : Int) ∧ Hid (chR l A B j = c ∧ (∀ j', j' < j → (l.getD j' MV.z).chain = chR l A B (j' + 1)) ∧ Below w.heap.size w wr))
            case atStart =>
              go_light
              exact ⟨0, 0#32, Nat.zero_le _, rfl, rfl, rfl, rfl, fun i' h => absurd h (Nat.not_lt_zero _), HWc.out⟩
            case round =>
              obtain ⟨j, c, hj, rfl, rfl, rfl, HW⟩ := hrel
              by_cases hlt : j < i
              · have hz2 : (j : Int) < (i : Int) := by omega
                have HI := hide hlt
                obtain ⟨q1, q2, q3, q4, q5, q6, q7, q8, q9, qa, qb, qc, qd⟩ := HX.out
                obtain ⟨m0, hm0⟩ : ∃ x, nn j = x := ⟨_, rfl⟩
                obtain ⟨j1, hj1⟩ : ∃ x, j + 1 = x := ⟨_, rfl⟩
                obtain ⟨m, hm⟩ : ∃ x, nn (j + 1) - nn j = x := ⟨_, rfl⟩
                have hnx := nn_next j (by omega)
                have hmn := nn_mono' (j + 1) i (by omega) (by omega)
                have HEw : Hid (IntKind.u64.wrap (j : Int) = (j : Int) ∧ IntKind.u64.wrap ((j : Int) + 1) = (j1 : Int) ∧ IntKind.i64.wrap ((j : Int) + 1) = (j1 : Int)) := ⟨wrap_u _ (by omega) (by omega), by rw [wrap_u _ (by omega) (by omega)]; omega, by rw [IntKind.wrap_i64]; omega⟩
                have HC0 : Hid (∀ W, Calls Tryz.prog 36 #[.int .u64 (j : Int)] W fun e w' => e = .returned (.int .u64 (m0 : Int)) ∧ w' = W) := fun W => by
                  have := HCn.out W j (by omega)
                  rw [hm0] at this
                  exact this
                have HC1 : Hid (∀ W, Calls Tryz.prog 36 #[.int .u64 (j1 : Int)] W fun e w' => e = .returned (.int .u64 ((m0 + m : Nat) : Int)) ∧ w' = W) := fun W => by
                  have := HCn.out W j1 (by omega)
                  rw [← hj1, show nn (j + 1) = m0 + m by omega] at this
                  rw [← hj1]
                  exact this
                have HM : Hid (nn j = m0 ∧ nn (j + 1) - nn j = m ∧ m0 + m ≤ p ∧ p ≤ 131072 ∧ 40 * p ≤ sb.size ∧ j + 1 = j1 ∧ sb.data.toList = B) := ⟨hm0, hm, by omega, qd, q4, hj1, q9⟩
                clear q1 q2 q3 q4 q5 q6 q7 q8 q9 qa qb qc qd hm0 hm hnx hmn hj1 hlt hj
                obtain ⟨ew1, ew2, ew3⟩ := HEw.out
                go_wp2_with (go_at_call 36; (with_reducible refine (HC0.out _).mono ?_); rintro e w3 ⟨rfl, rfl⟩)
                clear ew1 ew2 ew3
                generalize w3 = wq at *
                clear w3
                go_loopg [20, 21] m (fun g v y wr => ∃ (t : Nat) (tm : Nat), t ≤ m ∧ g = m - t ∧ y = .int .u64 (tm : Int) ∧ m0 + t = tm ∧ Hid (OwnS wr wq.heap.size v (rwR B m0 t) ∧ Below wq.heap.size wq wr))
                case atStart =>
                  go_light
                  exact ⟨0, m0, Nat.zero_le _, rfl, rfl, rfl, owns_nil _ _, Below.refl _ _⟩
                case round =>
                  obtain ⟨t, tm, ht, rfl, rfl, htm, HO⟩ := hrel
                  have HTm := hide htm
                  obtain ⟨va, vc, hva⟩ := own_slice HO.out.1
                  rw [rwR_len] at hva
                  subst hva
                  by_cases hlt : t < m
                  · have hz3 : (tm : Int) < ((m0 + m : Nat) : Int) := by omega
                    have HT := hide hlt
                    obtain ⟨q1, q2, q3, q4, q5, q6, q7⟩ := HM.out
                    obtain ⟨p4, hp4⟩ : ∃ x, 40 * tm = x := ⟨_, rfl⟩
                    obtain ⟨p5, hp5⟩ : ∃ x, p4 + 40 = x := ⟨_, rfl⟩
                    obtain ⟨t1, ht1⟩ : ∃ x, tm + 1 = x := ⟨_, rfl⟩
                    have HEx : Hid (IntKind.u64.wrap (40 * (tm : Int)) = (p4 : Int) ∧ IntKind.u64.wrap ((p4 : Int) + 40) = (p5 : Int) ∧ IntKind.u64.wrap ((tm : Int) + 1) = (t1 : Int)) := ⟨by rw [wrap_u _ (by omega) (by omega)]; omega, by rw [wrap_u _ (by omega) (by omega)]; omega, by rw [wrap_u _ (by omega) (by omega)]; omega⟩
                    have e1 : (0 : Int) ≤ (p4 : Int) := by omega
                    have e2 : (p4 : Int) ≤ (p5 : Int) := by omega
                    have e3 : (p5 : Int) ≤ (sb.size : Int) := by omega
                    have h40 : p5 - p4 = 40 := by omega
                    have hex : sb.extract p4 p5 = tx (rowN B tm) := Rc.ba_ext (by rw [ext_mid, q7, tx_data, h40, ← hp4]; rfl)
                    clear h40
                    obtain ⟨xp, hxp⟩ : ∃ x, tx (rowN B tm) = x := ⟨_, rfl⟩
                    rw [hxp] at hex
                    have HZ : Hid (rwR B m0 (t + 1) = rwR B m0 t ++ [xp] ∧ (rwR B m0 t).length = t ∧ tm + 1 = t1 ∧ t ≤ 131072) := ⟨by rw [rwR_snoc, htm, hxp], rwR_len _ _ _, ht1, by omega⟩
                    obtain ⟨v7, w7, hrn, o7, g7⟩ := run_app_S wr 48 wq.heap.size _ (rwR B m0 t) HO.out.1 xp (by rw [rwR_len]; omega) HO.out.2.size
                    rw [← HZ.out.1] at o7
                    have hap := appR_of hrn
                    have HN : Hid (OwnS w7 wq.heap.size v7 (rwR B m0 (t + 1)) ∧ Below wq.heap.size wq w7) := ⟨o7, HO.out.2.trans g7⟩
                    clear q1 q2 q3 q4 q5 q6 q7 hp4 hp5 ht1 hxp hrn o7 g7 htm HO
                    obtain ⟨ew1, ew2, ew3⟩ := HEw.out
                    obtain ⟨ew4, ew5, ew6⟩ := HEx.out
                    go_wp2_with (go_at_call 36; (with_reducible refine (HC1.out _).mono ?_); rintro e w3 ⟨rfl, rfl⟩)
                    clear ew1 ew2 ew3 ew4 ew5 ew6
                    go_roundg (m - (t + 1))
                    case rel =>
                      go_light
                      exact ⟨t + 1, t1, HT.out, rfl, rfl, by have := HZ.out.2.2.1; have := HTm.out; omega, HN.out⟩
                    case measure => go_light; have := HT.out; omega
                  · obtain rfl : t = m := by omega
                    have htm2 : tm = m0 + t := by omega
                    subst htm2
                    have hz3 : ¬ (((m0 + t : Nat) : Int) < ((m0 + t : Nat) : Int)) := by omega
                    obtain ⟨q1, q2, q3, q4, q5, q6, q7, q8, q9, qa, qb, qc, qd⟩ := HX.out
                    obtain ⟨s1, s2, s3, s4, s5, s6, s7⟩ := HM.out
                    have hji := HI.out
                    obtain ⟨bg, hbg⟩ : ∃ x, bgM (l.take j) = x := ⟨_, rfl⟩
                    obtain ⟨it, hit⟩ : ∃ x, (l.getD j MV.z).items = x := ⟨_, rfl⟩
                    obtain ⟨mc, hmc⟩ : ∃ x, (l.getD j MV.z).chain.toNat = x := ⟨_, rfl⟩
                    have hle := qa.le j (by omega)
                    rw [hbg, hit] at hle
                    have hbw : Below w.heap.size w wr := bnext HW.out.2.2 HO.out.2
                    have HB : Hid (∀ W, Below wr.heap.size wr W → Calls Tryz.prog 31 #[.slice (some ⟨b, 0, none⟩) i cap, .int .i64 (j : Int)] W fun e w' => e = .returned (.int .u64 (bg : Int)) ∧ w' = W) := fun W hW => HBg.out W j bg (bnext hbw hW) hji hbg
                    have CL : Hid (∀ W, Below wr.heap.size wr W → W.cell? ⟨b, j * 5 + 2, none⟩ = some (.int .u64 (it : Int)) ∧ W.cell? ⟨b, j * 5 + 4, none⟩ = some (.int .u32 (mc : Int))) := fun W hW => by
                      obtain ⟨_, _, y2, _, y4⟩ := (HRd.out W (bnext hbw hW)).c0 j (by omega)
                      rw [hit] at y2
                      rw [hmc] at y4
                      exact ⟨y2, y4⟩
                    have e1 : (0 : Int) ≤ (bg : Int) := by omega
                    have e2 : (bg : Int) ≤ (it : Int) := by omega
                    have e3 : (it : Int) ≤ (sa.size : Int) := by omega
                    have hex : sa.extract bg it = tx (plR l A j) := Rc.ba_ext (by rw [ext_mid, q8, tx_data, plR, hbg, hit])
                    obtain ⟨pl, hpl⟩ : ∃ x, plR l A j = x := ⟨_, rfl⟩
                    have hpz : pl.length ≤ 268435456 := by rw [← hpl, plR, List.length_take, List.length_drop]; have : A.length = sa.size := by { rw [← q8, size_list] }; omega
                    rw [hpl] at hex
                    obtain ⟨r, hr⟩ : ∃ x, chn c pl (rwR B m0 t) = x := ⟨_, rfl⟩
                    have hrl : r < 4294967296 := by rw [← hr]; exact crc_lt _
                    have hcr : chR l A B (j + 1) = BitVec.ofNat 32 r := by rw [chR, hpl, HW.out.1, s2, s1, hr]
                    obtain ⟨va', vb, vc', hv, rds, _, _⟩ := owns_rds HO.out.1 (fun x hx => by have := rwR_sz B m0 t x hx; omega)
                    injection hv with z1 z2 z3
                    subst z1 z3
                    rw [rwR_len] at rds
                    have HCh : Hid (∀ W, Below wr.heap.size wr W → Calls Tryz.prog 118 #[.int .u32 (c.toNat : Int), .string (tx pl), .slice va t vc] W fun e w' => e = .returned (.int .u32 (r : Int)) ∧ Below W.heap.size W w') := fun W hW => refchain_any W c (tx pl) va vb 0 t vc _ (rds.next hW (Nat.le_refl _)) (by omega) (by rw [tx_size]; have := flat_rw B m0 t; omega) r hr
                    obtain ⟨xp, hxp⟩ : ∃ x, tx pl = x := ⟨_, rfl⟩
                    rw [hxp] at hex HCh
                    obtain ⟨c', hc'⟩ : ∃ x, BitVec.ofNat 32 r = x := ⟨_, rfl⟩
                    have hcn : c'.toNat = r := by rw [← hc', BitVec.toNat_ofNat]; omega
                    rw [← hcn] at HCh
                    rw [hc'] at hcr
                    have HC1' : Hid (chR l A B (j + 1) = c' ∧ (l.getD j MV.z).chain.toNat = mc ∧ j < i ∧ j + 1 = j1 ∧ l.length = i) := ⟨hcr, hmc, hji, s6, q1⟩
                    have HBw := hide hbw
                    obtain ⟨x0, x1⟩ := CL.out wr (Below.refl _ _)
                    clear q1 q2 q3 q4 q5 q6 q7 q8 q9 qa qb qc qd s1 s2 s3 s4 s5 s6 s7 hji hbg hit hmc hle hpl hpz hr hrl hcr z2 rds hxp hc' hcn hbw HO ht hlt HTm htm
                    by_cases hq : mc = c'.toNat
                    · have hq1 : ((mc : Int) != (c'.toNat : Int)) = false := by simp [hq]
                      have HZ : Hid (∀ W, Below wr.heap.size wr W → chR l A B (j + 1) = c' ∧ (∀ j', j' < j + 1 → (l.getD j' MV.z).chain = chR l A B (j' + 1)) ∧ Below w.heap.size w W) := fun W hW => ⟨HC1'.out.1, fun j' hj' => by
                        rcases Nat.lt_or_eq_of_le (Nat.le_of_lt_succ hj') with e | rfl
                        · exact HW.out.2.1 j' e
                        · rw [HC1'.out.1]; exact BitVec.eq_of_toNat_eq (HC1'.out.2.1.trans hq), bnext HBw.out hW⟩
                      clear hq HW
                      obtain ⟨ew1, ew2, ew3⟩ := HEw.out
                      go_upto_region 28 with (go_at_call 36; (with_reducible refine (HC1.out _).mono ?_); rintro e w3 ⟨rfl, rfl⟩)
                      have u := bdz w3
                      go_region_held3 (fun Z => Z.cell? ⟨b, j * 5 + 2, none⟩ = some (.int .u64 (it : Int))) (first | assumption | (with_reducible exact (CL.out _ (bnext u u4)).1) | (with_reducible exact (CL.out _ u).1)) (first
                        | (go_at_call 31; (with_reducible refine (HB.out _ u).mono ?_); rintro e w3 ⟨rfl, rfl⟩)
                        | (go_at_call 118; (with_reducible refine (HCh.out _ u).mono ?_); rintro e w4 ⟨rfl, u4⟩; obtain ⟨x0, x1⟩ := CL.out _ (bnext u u4)))
                      all_goals
                        go_wp2
                        clear ew1 ew2 ew3
                        go_roundg (i - (j + 1))
                        case rel =>
                          go_light
                          exact ⟨j + 1, c', HC1'.out.2.2.1, rfl, rfl, by rw [← HC1'.out.2.2.2.1], HZ.out _ (bnext u u4)⟩
                        case measure => go_light; have := HC1'.out.2.2.1; omega
                    · have hq1 : ((mc : Int) != (c'.toNat : Int)) = true := by simp; omega
                      have HZ : Hid (∀ W, Below wr.heap.size wr W → RiQ w P (.returned (.bool false)) W) := fun W hW => riq_no (fun h => by
                        rw [← HP.out] at h
                        have := h.chain j (by rw [HC1'.out.2.2.2.2]; exact HC1'.out.2.2.1)
                        rw [HC1'.out.1] at this
                        rw [this] at HC1'
                        exact hq HC1'.out.2.1.symm) (bnext HBw.out hW)
                      clear hq HW
                      obtain ⟨ew1, ew2, ew3⟩ := HEw.out
                      go_upto_region 28 with (go_at_call 36; (with_reducible refine (HC1.out _).mono ?_); rintro e w3 ⟨rfl, rfl⟩)
                      have u := bdz w3
                      go_region_held3 (fun Z => Z.cell? ⟨b, j * 5 + 2, none⟩ = some (.int .u64 (it : Int))) (first | assumption | (with_reducible exact (CL.out _ (bnext u u4)).1) | (with_reducible exact (CL.out _ u).1)) (first
                        | (go_at_call 31; (with_reducible refine (HB.out _ u).mono ?_); rintro e w3 ⟨rfl, rfl⟩)
                        | (go_at_call 118; (with_reducible refine (HCh.out _ u).mono ?_); rintro e w4 ⟨rfl, u4⟩; obtain ⟨x0, x1⟩ := CL.out _ (bnext u u4)))
                      all_goals
                        go_wp2
                        go_ret
                        exact HZ.out _ (bnext u u4)
              · obtain rfl : j = i := by omega
                have hz2 : ¬ ((j : Int) < (j : Int)) := by omega
                have HZ : Hid (RiQ w P (.returned (.bool true)) wr) := by
                  obtain ⟨q1, q2, q3, q4, q5, q6, q7, q8, q9, qa, qb, qc, qd⟩ := HX.out
                  refine riq_yes ?_ HW.out.2.2
                  rw [← HP.out]
                  have hlA : A.length = sa.size := by rw [← q8, size_list]
                  have hlB : B.length = sb.size := by rw [← q9, size_list]
                  exact ⟨by omega, by rw [q1, q3]; omega, fun i hi => HPay.out i (by omega), fun p hp => HNod.out p (by rw [q1, q3] at hp; exact hp), fun i hi => HW.out.2.1 i (by omega)⟩
                clear HW HX hlt hj
                go_wp2
                go_ret
                exact HZ.out
end Go.Proofs.YthfnpagangjpbabGreat
