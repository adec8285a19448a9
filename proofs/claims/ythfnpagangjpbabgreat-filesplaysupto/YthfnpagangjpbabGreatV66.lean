/-
  Own work: FHf.
-/
import Derived.Test.YthfnpagangjpbabGreatV62
import Derived.Test.YthfnpagangjpbabGreatV63
import Derived.Test.YthfnpagangjpbabGreatV65
namespace Go.Proofs.YthfnpagangjpbabGreat
open Go.RowKit
open Rc
attribute [local go_sem ↓] Go.wp_at_zero Go.wp_at_succ
attribute [local go_sem ↓] exec_appR
theorem Wt.add {D : DV} {c : Nat} (h : Wt D c) (S : SV) (hk : 1 ≤ S.k ∧ S.k ≤ 32) (item : List UInt8) (ds : List ByteArray) (hi : item.length ≤ 3000) : Wt (addD D S item ds).1 (c + 5000) := by
  unfold addD
  split
  · exact h.mono (by omega)
  · rename_i hr
    have hr0 : refD S item ds = 0 := by omega
    have hx : S.ends.length < 65536 ∧ nxt S ds = true := by
      unfold refD at hr0
      split at hr0
      · omega
      · split at hr0
        · omega
        · split at hr0
          · omega
          · split at hr0
            · omega
            · rename_i h1 h2
              exact ⟨by omega, by simpa using h2⟩
    obtain ⟨hx1, hx2⟩ := hx
    have hm := nn_mono S.ends.length (by omega)
    unfold nxt at hx2
    rw [Bool.and_eq_true, beq_iff_eq, List.all_eq_true] at hx2
    have hd : ∀ d ∈ ds, d.size ≤ 32 := fun d hd => by
      have := hx2.2 d hd
      rw [beq_iff_eq] at this
      omega
    have hfl := recs_flat (nn S.ends.length) ds hd
    have hml : (mrk (addM S item ds)).length = 64 := mrk_len _ ⟨by show (1 : Int) ≤ ((S.k : Nat) : Int); omega, by show ((S.k : Nat) : Int) ≤ 32; omega⟩
    have hs : Wt (runA (addA S item ds) D).1 (c + 5000) := by
      unfold addA
      refine (Wt.six h S _ _ _).mono ?_
      rw [pay_len, hfl, hml]
      omega
    split
    · exact hs
    · exact hs
set_option maxRecDepth 100000 in
theorem run_all_S (w : World) (ty B : Nat) (v : Value) (L : List ByteArray) (hown : OwnS w B v L) (ao : Option Addr) (b off c n : Nat) (M : List ByteArray) (hr : RdS w ao b off n M) (hn : ao = none → c = 0) (hlen : L.length + n ≤ 8796093022208) (hB : B ≤ w.heap.size) :
    ∃ v' w', (Builtin.append_ #[48, 48] ty #[v, .slice ao n c]).run Tryz.prog w = .ok v' w' ∧ OwnS w' B v' (L ++ M) ∧ w.grownBy w' v.ownBlock := by
  obtain ⟨i0, hi, hz0, hz1, hz2⟩ := info_parts Tryz.infoS
  have hl := hr.hl
  have hn0 : ao = none → n = 0 := fun e => by
    rcases Nat.eq_zero_or_pos n with q | q
    · exact q
    · have := hr.ptr q
      rw [e] at this
      cases this
  have hrc : RdC w (.slice ao n c) n (M.map Value.string) := ⟨ao, c, rfl, fun e => ⟨hn0 e, hn e⟩, fun ad ha j u hu => by
    have hj : j < (M.map Value.string).length := (List.getElem?_eq_some_iff.1 hu).1
    rw [List.length_map] at hj
    have ep := hr.ptr (by omega)
    rw [ha] at ep
    injection ep with ep
    rw [ep, Addr.add_mid]
    exact hr.rng j u hu⟩
  obtain ⟨v', w', q1, q2, q3⟩ := run_all w 48 ty 9 B 1 16 i0 (.string ByteArray.empty) Tryz.underlying48 hi hz0 hz1 hz2 rfl (by decide) v L.length (L.map Value.string) hown _ n (M.map Value.string) hrc (by rw [List.length_map, hl]; omega) (by intro u hu; obtain ⟨y, _, rfl⟩ := List.mem_map.1 hu; rfl) (by unfold maxLen; omega) (by omega) hB
  refine ⟨v', w', q1, ?_, q3⟩
  rw [OwnS, List.length_append, List.map_append, hl]
  exact q2
theorem ownS_made (w : World) : OwnS (w.alloc (.cells #[] 9)) w.heap.size (.slice (some ⟨w.heap.size, 0, none⟩) 0 0) [] := ⟨rfl, .inr ⟨w.heap.size, 0, _, rfl, Nat.le_refl _, new1 w _, Nat.zero_le _, by decide, rfl, rfl⟩⟩
theorem Rc.RdS.sameA {w W : World} {ao : Option Addr} {b off len : Nat} {ss : List ByteArray} (h : RdS w ao b off len ss) (hb : 0 < len → W.heap[b]? = w.heap[b]?) : RdS W ao b off len ss := by
  refine ⟨h.hl, h.ptr, fun j v hj => ?_, h.sz⟩
  have hl : j < (ss.map Value.string).length := (List.getElem?_eq_some_iff.1 hj).1
  rw [List.length_map, h.hl] at hl
  exact (World.cell?_of_block (a := ⟨b, off + j, none⟩) (hb (by omega))).trans (h.rng j v hj)
section
variable {w0 w w1 w2 w3 w4 W : World} {bx p r n c m a q : Nat} {k : Int} {D D' : DV} {S S' : SV} {V : RV} {T U : Nat → Prop}
theorem bth_added (hB : w.heap[bx]? = some (.cells #[.int .i64 k, .pointer (some ⟨p, 0, none⟩), .pointer (some ⟨r, 0, none⟩), pts (some a), pts (some q)] 37 (0, 0))) (hS : Sk w a p T D S ∧ RSk w q r U V S) (h3 : ∀ x, T x → ¬ U x) (h4 : ¬ T bx) (h5 : ¬ U bx) (h6 : ∀ x, T x → w0.heap.size ≤ x) (h7 : ∀ x, U x → w0.heap.size ≤ x) (h8 : w0.heap.size ≤ bx) (h9 : Below w0.heap.size w0 w)
    (hr : RSm w w2 q r U D' S' m) (hb : Below w2.heap.size w2 w3) (hs : SkM w3 w4 a p T D' S') : Bth w0 w4 bx k p r D' (some (a, q, S')) m := by
  obtain ⟨V', U', r1, r2, r3, r4⟩ := hr
  obtain ⟨T', s1, s2, s3⟩ := hs.first hb
  obtain ⟨f1, f2, f3, f4, f5, f6, f7, f8⟩ := bth_of hB (fun x hu ht => h3 x ht hu) h5 h4 h7 h6 h8 h9 (fun x hx => hS.1.lt hx) r3 r4 (fun x hx => r2.lt hx) s2 s3
  exact ⟨V', T', U', f1, ⟨s1, r2.same f8⟩, fun x ht hu => f2 x hu ht, f4, f3, f6, f5, h8, f7, r1⟩
def LsK (w0 w1 wx : World) (la : Option Addr) (lb lo ln lc : Nat) (ls : List ByteArray) : Prop := RdS wx la lb lo ln ls ∧ ln ≤ 1048576 ∧ (la = none → lc = 0) ∧ Below w1.heap.size w1 wx ∧ (0 < ln → lb < w0.heap.size ∨ w1.heap.size ≤ lb)
set_option maxRecDepth 100000 in
set_option maxHeartbeats 8000000 in
theorem adds_any (h : Bth w0 w bx k p r D (some (a, q, S)) n) (hn : n + 6 ≤ 2097152) (hw : Wt D c) (kind : Int) (it : ByteArray) (hit : it.size ≤ 1048576) (da : Option Addr) (db dof dn dc : Nat) (ds : List ByteArray) (hd : RdS w da db dof dn ds) (hdl : dn ≤ 1048576) (hdz : da = none → dc = 0) (hdb : 0 < dn → db < w0.heap.size) (rg : Bool) (an nn' ft yb : Int) (ka : Option Addr) (kn kc : Nat) (kk : Int) :
    Calls Tryz.prog 42 #[.pointer (some ⟨bx, 0, none⟩), .agg #[.int .i64 kind, .string it, .slice da dn dc, .bool rg, .int .u64 an, .int .i64 nn', .int .i64 ft, .int .u8 yb, .slice ka kn kc, .int .i64 kk]] w (StQ w0 bx k (n + 6) (c + 5000)) := by
  obtain ⟨w1, hw1⟩ : ∃ W, w.alloc (.cells #[.int .i64 kind, .string it, .slice da dn dc, .bool rg, .int .u64 an, .int .i64 nn', .int .i64 ft, .int .u8 yb, .slice ka kn kc, .int .i64 kk] 51) = W := ⟨_, rfl⟩
  have HW := hide hw1
  obtain ⟨bo, hbo⟩ : ∃ b, w.heap.size = b := ⟨_, rfl⟩
  have HBo := hide hbo
  have u1 : Below w.heap.size w w1 := by rw [← hw1]; exact bal (Below.refl _ _) _
  have k1 : w1.heap[bo]? = some (.cells #[.int .i64 kind, .string it, .slice da dn dc, .bool rg, .int .u64 an, .int .i64 nn', .int .i64 ft, .int .u8 yb, .slice ka kn kc, .int .i64 kk] 51 (0, 0)) := by rw [← hw1, ← hbo]; exact new1 _ _
  have h1 := h.next u1
  have hsm : 1 ≤ S.k ∧ S.k ≤ 32 ∧ S.ends.length ≤ 65536 := by
    obtain ⟨V, T, U, g1, g2, _⟩ := h1
    obtain ⟨z1, z2, z3, _⟩ := g2.1.small
    exact ⟨z1, z2, z3⟩
  have HC : Hid (∀ W, Below w1.heap.size w1 W → (W.cell? ⟨bx, 3, none⟩ = some (.pointer (some ⟨a, 0, none⟩)) ∧ W.cell? ⟨bx, 4, none⟩ = some (.pointer (some ⟨q, 0, none⟩)) ∧ W.cell? ⟨q, 1, none⟩ = some (.int .i64 (S.k : Int))) ∧ (W.cell? ⟨bo, 1, none⟩ = some (.string it) ∧ W.cell? ⟨bo, 2, none⟩ = some (.slice da dn dc) ∧ W.cell? ⟨bo, 3, none⟩ = some (.bool rg))) := fun W hW => by
    obtain ⟨V, T, U, g1, g2, _⟩ := h1.next hW
    obtain ⟨_, _, _, z3, z4⟩ := five_at g1
    obtain ⟨_, _, _, _, _, g3⟩ := g2.2.seen
    obtain ⟨_, y1, y2, y3, _⟩ := ten_at ((hW.block bo (Array.getElem?_eq_some_iff.1 k1).1).trans k1)
    exact ⟨⟨z3, z4, (g3 W (Below.refl _ _)).1.2.1⟩, y1, y2, y3⟩
  obtain ⟨kS, hkS⟩ : ∃ x, S.k = x := ⟨_, rfl⟩
  obtain ⟨nS, hnS⟩ : ∃ x, S.ends.length = x := ⟨_, rfl⟩
  rw [hkS] at HC
  have HSz : Hid (∀ W, Below w1.heap.size w1 W → Calls Tryz.prog 9 #[.pointer (some ⟨q, 0, none⟩)] W fun e' w' => e' = .returned (.int .u64 (nS : Int)) ∧ w' = W) := fun W hW => by
    have := (h1.sizes W hW).2.1
    rw [hnS] at this
    exact this
  have hw0 : w0.heap.size ≤ w1.heap.size := by
    obtain ⟨V, T, U, _, _, _, _, _, _, _, _, g, _⟩ := h1
    exact g.size
  have hd1 := hd.next u1 (Nat.le_refl _)
  have HDg : Hid (∀ W, Below w1.heap.size w1 W → Calls Tryz.prog 90 #[.int .u64 (nS : Int), .int .i64 (kS : Int), .slice da dn dc] W (DgQ W kS)) := fun W hW => digests_any W nS kS (by omega) (by omega) da db dof dn dc ds (hd1.next hW (Nat.le_refl _)) hdl
  have HL0 : Hid (LsK w0 w1 w1 da db dof dn dc ds) := ⟨hd1, hdl, hdz, Below.refl _ _, fun h0 => .inl (hdb h0)⟩
  have HL1 : Hid (∀ (W W' : World) (e : Ending), Below w1.heap.size w1 W → DgQ W kS e W' → ∃ la ln lc, e = .returned (.slice la ln lc) ∧ ∃ lb ls, LsK w0 w1 W' la lb 0 ln lc ls) := fun W W' e hW hq => by
    obtain ⟨va, m, vc, ls, z1, z2, z3, z4, z5, z6⟩ := hq
    obtain ⟨ao, b, cap, hv, rd, _, hz⟩ := owns_rds z2 (fun s hs => by rw [z5 s hs]; omega)
    rw [z3] at hv rd
    injection hv with e1 e2 e3
    subst e1 e3
    have hlb : 0 < m → W.heap.size ≤ b := fun h0 => by
      have hp := rd.ptr h0
      subst hp
      exact (World.ownsRow.lt z2 b rfl).1
    exact ⟨va, m, vc, z1, b, ls, rd, by omega, hz, bnext hW z6, fun h0 => .inr (by have := hlb h0; have := hW.size; omega)⟩
  obtain ⟨im, him⟩ : ∃ x : ByteArray, (if 3000 < it.size then it.extract 0 3000 else it) = x := ⟨_, rfl⟩
  have him2 : im.size ≤ 3000 := by
    rw [← him]
    split
    · rw [ba_take]
      show ((it.data.toList.take 3000).toArray).size ≤ _
      rw [List.size_toArray, List.length_take]
      omega
    · omega
  /- both Adds -/
  have h1' := h1
  obtain ⟨V1, T1, U1, f1, f2, f3, f4, f5, f6, f7, f8, f9, fA⟩ := h1'
  have f2' : Sk w1 a p T1 D S ∧ RSk w1 q r U1 V1 S := f2
  have hwt : Wt (addD D S im.data.toList []).1 (c + 5000) := hw.add S ⟨hsm.1, hsm.2.1⟩ _ _ (by rw [size_list]; exact him2)
  have HAd : Hid (∀ (wx : World) (la : Option Addr) (lb lo ln lc : Nat) (ls : List ByteArray), LsK w0 w1 wx la lb lo ln lc ls → ∃ ex : Int, Calls Tryz.prog 91 #[.pointer (some ⟨q, 0, none⟩), .string im, .slice la ln lc] wx fun e w2 => e = .returned (.int .i64 ex) ∧
      (∀ W, Below w2.heap.size w2 W → W.cell? ⟨bx, 3, none⟩ = some (.pointer (some ⟨a, 0, none⟩)) ∧ RdS W la lb lo ln ls) ∧
      (∀ W va vb vc, Below w2.heap.size w2 W → RdS W va vb 0 ln ls → Calls Tryz.prog 22 #[.pointer (some ⟨a, 0, none⟩), .string im, .slice va ln vc] W fun e w4 => e = .returned (.int .i64 ex) ∧ ∃ D' S', Bth w0 w4 bx k p r D' (some (a, q, S')) (n + 6) ∧ Wt D' (c + 5000))) := fun wx la lb lo ln lc ls hL => by
    obtain ⟨l1, l2, l3, l4, l5⟩ := hL
    have hbl := (Array.getElem?_eq_some_iff.1 f1).1
    have g1 := (l4.block bx hbl).trans f1
    have g2 : Sk wx a p T1 D S ∧ RSk wx q r U1 V1 S := ⟨f2'.1.next l4, f2'.2.next l4⟩
    have hlu : 0 < ln → ¬ U1 lb := fun h0 hu => by
      rcases l5 h0 with e | e
      · have := f7 lb hu; omega
      · have := f2'.2.lt hu; omega
    have hwa := hw.add S ⟨hsm.1, hsm.2.1⟩ im.data.toList ls (by rw [size_list]; exact him2)
    refine ⟨(addD D S im.data.toList ls).2.2, (radd_any g2.2 fA hn im (by omega) la lb lo ln lc ls l1 (by omega) _ _ _ rfl).mono fun e w2 z => ⟨z.1, fun W hW => ?_, fun W va vb vc hW hv => ?_⟩⟩
    · obtain ⟨V2, U2, r1, r2, r3, r4⟩ := z.2
      have hb2 := (r4.block bx (Nat.lt_of_lt_of_le hbl l4.size) f5).trans g1
      have hs2 : bx < w2.heap.size := (Array.getElem?_eq_some_iff.1 hb2).1
      refine ⟨(five_at ((hW.block bx hs2).trans hb2)).2.2.2.1, l1.sameA fun h0 => ?_⟩
      have hlx := l1.lt h0
      rw [hW.block lb (Nat.lt_of_lt_of_le hlx r4.size)]
      exact r4.block lb hlx (hlu h0)
    · obtain ⟨V2, U2, r1, r2, r3, r4⟩ := z.2
      have hsk := (g2.1.keep r4 (fun y hy q => f3 y hy q)).next hW
      refine (add_any W hsk fA.rm im (by omega) va vb 0 ln vc ls hv (by omega) _ _ _ rfl).mono fun e w4 y => ⟨y.1, _, _, bth_added g1 g2 f3 f4 f5 f6 f7 f8 (bnext f9 l4) z.2 hW y.2, hwa⟩
  have HX : Hid (it.size ≤ 1048576 ∧ (if 3000 < it.size then it.extract 0 3000 else it) = im) := ⟨hit, him⟩
  clear h h1 hn hw hit hd hdl hdz hdb hw1 hbo u1 k1 hsm hkS hnS hw0 hd1 him him2 f1 f2 f3 f4 f5 f6 f7 f8 f9 fA f2' hwt
  obtain ⟨⟨x3, x4, x5⟩, y1, y2, y3⟩ := HC.out w1 (Below.refl _ _)
  go_enter Tryz.func42, Tryz.ntmps42
  go_upto_region 1 with (fail)
  rw [HW.out, HBo.out]
  go_upto_if 12 with (fail)
  go_cut [5] from 9 (fun v wx => ∃ (la : Option Addr) (ln lc : Nat), v = .slice la ln lc ∧ Hid (∃ lb lo ls, LsK w0 w1 wx la lb lo ln lc ls))
  case first =>
    cases rg
    · go_wp2
      go_meet
      case rel => exact ⟨da, dn, dc, rfl, db, dof, ds, HL0.out⟩
    · go_upto_region 3 with (fail)
      have tw := (Below.refl w1.heap.size w1).drew
      go_region_held3 (fun Z => Z.cell? ⟨bx, 4, none⟩ = some (.pointer (some ⟨q, 0, none⟩)) ∧ Z.cell? ⟨q, 1, none⟩ = some (.int .i64 (kS : Int))) (first | assumption | (exact ⟨x4, x5⟩) | (exact ⟨(HC.out _ tw).1.2.1, (HC.out _ tw).1.2.2⟩)) (first
        | (go_at_call 9; (with_reducible refine (HSz.out _ tw).mono ?_); rintro e w2 ⟨rfl, rfl⟩)
        | (go_at_call 90; (with_reducible refine (HDg.out _ tw).mono ?_); rintro e w3 hq; obtain ⟨la, ln, lc, rfl, hls⟩ := HL1.out _ _ _ tw hq; clear hq; have tw : Below w1.heap.size w1 w3 := hls.elim fun lb z => z.elim fun ls z => z.2.2.2.1))
      all_goals
        have HLs := hide hls
        clear hls
        go_wp2
        go_meet
        case rel =>
          obtain ⟨lb, ls, hls⟩ := HLs.out
          exact ⟨la, ln, lc, rfl, lb, 0, ls, hls⟩
  case rest =>
  obtain ⟨la, ln, lc, rfl, HLs⟩ := hcut
  clear x3 x4 x5 y1 y2 y3 HL0 HL1 HDg HSz
  obtain ⟨lb, lo, ls, hls⟩ := HLs.out
  obtain ⟨ex, hra⟩ := HAd.out wc la lb lo ln lc ls hls
  obtain ⟨⟨x3, x4, x5⟩, y1, y2, y3⟩ := HC.out wc hls.2.2.2.1
  have HRa := hide hra
  have HLl := hide (show ln ≤ 1048576 ∧ (la = none → lc = 0) from ⟨hls.2.1, hls.2.2.1⟩)
  clear hra hls HLs HAd HC
  obtain ⟨hx1, hx2⟩ := HX.out
  by_cases h3 : 3000 < it.size
  · rw [if_pos h3] at hx2
    have d1 : (3000 : Int) < (it.size : Int) := by omega
    have d2 : (it.size : Int) ≤ 1048576 := by omega
    have d3 : (3000 : Int) ≤ (it.size : Int) := by omega
    clear h3 hx1 HX
    go_upto_region 8 with (go_at_call 91; (with_reducible refine HRa.out.mono ?_); rintro e w2 ⟨rfl, hA1, hA2⟩)
    have HA2 := hide hA2
    have hal := (bal (Below.refl w2.heap.size w2) (.cells #[] 9)).drew
    obtain ⟨va, w7, hrn, o7, g7⟩ := run_all_S (w2.alloc (.cells #[] 9)).drew 48 w2.heap.size _ [] (ownS_made w2) la lb lo lc ln ls (hA1 _ hal).2 HLl.out.2 (by have := HLl.out.1; simp; omega) hal.size
    have u7 : Below w2.heap.size w2 w7 := hal.grown g7 hal.size (fun k hk => by cases hk; exact Nat.le_refl _)
    have x3a := (hA1 _ (Below.refl _ _)).1
    have x3b := (hA1 _ hal).1
    have x3c := (hA1 _ u7).1
    have x3d := (hA1 _ (bal (Below.refl w2.heap.size w2) (.cells #[] 9))).1
    rw [List.nil_append] at o7
    obtain ⟨a7, b7, c7, rfl, r7, _, _⟩ := owns_rds o7 (hA1 _ (Below.refl _ _)).2.sz
    have hl7 := (hA1 _ (Below.refl _ _)).2.hl
    rw [hl7] at hrn r7
    have HB7 := hide (hA2 w7 a7 b7 c7 u7 r7)
    clear hA1 hA2 HA2 hal o7 g7 u7 r7 hl7 HRa HLl
    go_region_law (first
      | (refine step_app (by rfl) _ _ _ _ (by rfl) (by rfl) (by rfl) hrn ?_)
      | (go_simp; go_wp2_with (go_at_call 22; (with_reducible refine HB7.out.mono ?_); rintro e w4 ⟨rfl, D2, S2, hb2, hw2⟩)))
    all_goals
      have HAl := hide (fun W hW => hb2.alike W hW)
      have HZ : Hid (∀ W, Below w4.heap.size w4 W → StQ w0 bx k (n + 6) (c + 5000) (.returned (.bool true)) W) := fun W hW => ⟨rfl, p, r, D2, _, hb2.next hW, hw2⟩
      clear hb2 hw2 HB7 hrn
      go_wp2_with (go_at_call 19; (with_reducible refine (HAl.out _ (Below.refl _ _)).mono ?_); rintro e w5 ⟨rfl, u5⟩)
      go_ret
      exact HZ.out _ u5
  · rw [if_neg h3] at hx2
    subst hx2
    have d1 : ¬ (3000 : Int) < (it.size : Int) := by omega
    clear h3 hx1 HX
    go_upto_region 8 with (go_at_call 91; (with_reducible refine HRa.out.mono ?_); rintro e w2 ⟨rfl, hA1, hA2⟩)
    have HA2 := hide hA2
    have hal := (bal (Below.refl w2.heap.size w2) (.cells #[] 9)).drew
    obtain ⟨va, w7, hrn, o7, g7⟩ := run_all_S (w2.alloc (.cells #[] 9)).drew 48 w2.heap.size _ [] (ownS_made w2) la lb lo lc ln ls (hA1 _ hal).2 HLl.out.2 (by have := HLl.out.1; simp; omega) hal.size
    have u7 : Below w2.heap.size w2 w7 := hal.grown g7 hal.size (fun k hk => by cases hk; exact Nat.le_refl _)
    have x3a := (hA1 _ (Below.refl _ _)).1
    have x3b := (hA1 _ hal).1
    have x3c := (hA1 _ u7).1
    have x3d := (hA1 _ (bal (Below.refl w2.heap.size w2) (.cells #[] 9))).1
    rw [List.nil_append] at o7
    obtain ⟨a7, b7, c7, rfl, r7, _, _⟩ := owns_rds o7 (hA1 _ (Below.refl _ _)).2.sz
    have hl7 := (hA1 _ (Below.refl _ _)).2.hl
    rw [hl7] at hrn r7
    have HB7 := hide (hA2 w7 a7 b7 c7 u7 r7)
    clear hA1 hA2 HA2 hal o7 g7 u7 r7 hl7 HRa HLl
    go_region_law (first
      | (refine step_app (by rfl) _ _ _ _ (by rfl) (by rfl) (by rfl) hrn ?_)
      | (go_simp; go_wp2_with (go_at_call 22; (with_reducible refine HB7.out.mono ?_); rintro e w4 ⟨rfl, D2, S2, hb2, hw2⟩)))
    all_goals
      have HAl := hide (fun W hW => hb2.alike W hW)
      have HZ : Hid (∀ W, Below w4.heap.size w4 W → StQ w0 bx k (n + 6) (c + 5000) (.returned (.bool true)) W) := fun W hW => ⟨rfl, p, r, D2, _, hb2.next hW, hw2⟩
      clear hb2 hw2 HB7 hrn
      go_wp2_with (go_at_call 19; (with_reducible refine (HAl.out _ (Below.refl _ _)).mono ?_); rintro e w5 ⟨rfl, u5⟩)
      go_ret
      exact HZ.out _ u5
end
end Go.Proofs.YthfnpagangjpbabGreat
