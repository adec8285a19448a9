/-
  FilesTwice. Own work.
-/
import Derived.Test.YthfnpagangjpbaaGreatYFTwP
namespace Go.Proofs.YthfnpagangjpbaaGreat
open Go.RowKit
open Rc
attribute [local go_sem ↓] Go.wp_at_zero Go.wp_at_succ
theorem rds_three (w : World) (s t u : ByteArray) (ty : Nat) (hs : s.size ≤ 9223372036854775807) (ht : t.size ≤ 9223372036854775807) (hu : u.size ≤ 9223372036854775807) : RdS (w.alloc (.cells #[.string s, .string t, .string u] ty)) (some ⟨w.heap.size, 0, none⟩) w.heap.size 0 3 [s, t, u] :=
  ⟨rfl, fun _ => rfl, range_new w [.string s, .string t, .string u] ty, fun x hx => by simp at hx; rcases hx with rfl | rfl | rfl <;> assumption⟩
theorem nm_at (i : Nat) (hi : i < 3) (NL : List ByteArray) (h : NL = [tx nmI, tx nmN, tx nmM]) : (NL.getD i ByteArray.empty).data.toList = nmF i ∧ (NL.getD i ByteArray.empty).size ≤ maxLen := by
  subst h
  obtain rfl | rfl | rfl : i = 0 ∨ i = 1 ∨ i = 2 := by omega
  · exact ⟨rfl, by decide⟩
  · exact ⟨rfl, by decide⟩
  · exact ⟨rfl, by decide⟩
/-- A tail that may stand behind. -/
def TlB (i : Nat) (y : ByteArray) : Prop := y.size ≤ 300 ∧ (i = 2 → y.size < 64)
def WrQ (w7 : World) (p : Nat) (Y : Nat → Prop) (k : Nat) (A : List It) (a0 i : Nat) (e : Ending) (w' : World) : Prop := ∃ r : Int, e = .returned (.int .i64 r) ∧ ∃ D', Mvd w7 w' p Y D' ∧ Bw k A a0 D' (i + 1)
set_option maxRecDepth 100000 in
set_option maxHeartbeats 4000000 in
theorem twice_walk (w : World) (k0 : Int) (ao : Option Addr) (b off len cap : Nat) (ss : List ByteArray) (hr : RdS w ao b off len ss) (hmx : len ≤ 9223372036854775807) (s0 s1 s2 : ByteArray) (hs0 : s0.size ≤ 140737488351232) (hs1 : s1.size ≤ 140737488351232) (hs2 : s2.size ≤ 140737488351232) :
    Calls Tryz.prog 6 #[.int .i64 k0, .slice ao len cap, .agg #[.string s0, .string s1, .string s2]] w fun e w' => e = .returned (.bool true) ∧ Below w.heap.size w w' := by
  obtain ⟨k, L, n, hB⟩ := beg_any w k0 ao b off len cap ss hr hmx
  have HSt := hide hB.st
  have HL := hide hB.ls
  have HM := hide hB.md
  have HA := hide falive_any
  have HN : Hid (∀ W, Calls Tryz.prog 12 #[.int .i64 1048576] W fun e w' => ∃ p, e = .returned (.pointer (some ⟨p, 0, none⟩)) ∧ Mvd W w' p NoB (newD 1048576)) := fun W => mvd_new W 1048576 (by decide)
  have hn12 := hB.n12
  have hkk2 := hB.k2
  go_enter Tryz.func6, Tryz.ntmps6
  go_upto_region 9 with (first
    | (go_at_call 9; (with_reducible refine (HA.out _).mono ?_); rintro e w1 ⟨rfl, u1⟩)
    | (go_at_call 10; (with_reducible refine (HSt.out _).mono ?_); rintro e wa ⟨rfl, rfl⟩)
    | (go_at_call 11; (with_reducible refine (HL.out _ (bnext (bal (Below.refl _ _) _) u1)).mono ?_); rintro e w2 ⟨la, lb, lc, rfl, rd, u2, _⟩)
    | (go_at_call 12; (with_reducible refine (HN.out _).mono ?_); rintro e w3 ⟨p, rfl, t3⟩)
    | (go_at_call 17; (with_reducible refine (HM.out _ _ _ _ _ _ t3 rd).mono ?_); rintro e w4 ⟨q, D1, rfl, t4, q4, x4, a4⟩)
    | (go_at_call 21; (with_reducible refine (t4.mvd.files2 _ rfl).mono ?_); rintro e w6 ⟨fa, fb, fc, Y, rfl, r6, u6, m6, hb6, hY⟩))
  obtain ⟨F, hF⟩ : ∃ F, tell D1.L = F := ⟨_, rfl⟩
  obtain ⟨fn, hfn⟩ : ∃ n, F.length = n := ⟨_, rfl⟩
  rw [hF] at r6 hb6
  rw [hF, hfn]
  have hok := hB.sml.ok hB.k1 hB.k2
  have hfn3 : fn ≤ 3 := by
    have h1 := tell_le D1.L
    have h2 := (tot_three q4.ord x4.oth).2
    rw [hF] at h1; omega
  have bx := rds_three w s0 s1 s2 46 (by omega) (by omega) (by omega)
  obtain ⟨w0, hw0⟩ : ∃ w0, w.alloc (.cells #[.string s0, .string s1, .string s2] 46) = w0 := ⟨_, rfl⟩
  have u0 : Below w.heap.size w w0 := by rw [← hw0]; exact bal (Below.refl _ _) _
  rw [hw0] at bx u1
  have U2 : Below w.heap.size w w2 := bnext u0 (bnext u1 u2)
  have bx2 := (bx.next u1 (Nat.le_refl _)).next u2 (Nat.le_refl _)
  obtain ⟨B, hBx⟩ : ∃ B, w.heap.size = B := ⟨_, rfl⟩
  rw [hBx]
  have hY6 : ∀ x, Y x → w2.heap.size ≤ x := fun x hx => (hY x hx).elim (fun q => q.elim) id
  have V6 : Below w2.heap.size w2 w6 := bnext t4.mvd.nob u6
  have rl6 : RdS w6 la lb 0 n L := rd.next V6 (Nat.le_refl _)
  have bx6 := bx2.next V6 (Nat.le_refl _)
  have nm7 := rds_three w6 (tx nmI) (tx nmN) (tx nmM) 9 (by decide) (by decide) (by decide)
  obtain ⟨w7, hw7⟩ : ∃ w7, w6.alloc (.cells #[.string (tx nmI), .string (tx nmN), .string (tx nmM)] 9) = w7 := ⟨_, rfl⟩
  have v7 : Below w6.heap.size w6 w7 := by rw [← hw7]; exact bal (Below.refl _ _) _
  have hw7' : w6.alloc (.cells #[.string ⟨#[105, 116, 101, 109, 115]⟩, .string ⟨#[110, 111, 100, 101, 115]⟩, .string ⟨#[109, 97, 114, 107, 115]⟩] 9) = w7 := hw7
  rw [hw7] at nm7
  obtain ⟨nb, hnb⟩ : ∃ nb, w6.heap.size = nb := ⟨_, rfl⟩
  have rl7 := rl6.next v7 (Nat.le_refl _)
  have bx7 := bx6.next v7 (Nat.le_refl _)
  have rf7 : RdF w7 fa fb 0 F := r6.same fun h0 => v7.block fb (r6.lt h0) 
  obtain ⟨Z, m7, hZ1, hZ2⟩ := m6.ground v7
  have hbL : 0 < n → ¬ Z lb := fun h0 hz => by
    have h1 := rd.lt h0
    have h2 := V6.size
    rcases hZ1 lb hz with e | e
    · have := hY6 lb e; omega
    · omega
  have hbF : 0 < F.length → ¬ Z fb := fun h0 hz => by
    have h1 := r6.lt h0
    rcases hZ1 fb hz with e | e
    · exact hb6 h0 e
    · omega
  have hbB : ¬ Z B := fun hz => by
    have h1 := bx2.lt (by decide)
    have h2 := V6.size
    rw [hBx] at h1
    rcases hZ1 B hz with e | e
    · have := hY6 B e; omega
    · omega
  have hbN : ¬ Z nb := fun hz => by have := hZ2 nb hz; omega
  have hZ3 : ∀ x, Z x → w2.heap.size ≤ x := fun x hx => (hZ1 x hx).elim (hY6 x) (fun e => Nat.le_trans V6.size e)
  have HU : Hid (∀ W D, Mvd w7 W p Z D → Below w.heap.size w W) := fun W D h => bnext U2 (Mvd.below (bnext V6 v7) hZ3 h)
  rw [hBx] at bx7
  rw [hnb] at nm7
  obtain ⟨NL, hNL⟩ : ∃ NL, [tx nmI, tx nmN, tx nmM] = NL := ⟨_, rfl⟩
  rw [hNL] at nm7
  have hnm := fun i hi => nm_at i hi NL hNL.symm
  obtain ⟨SL, hSL⟩ : ∃ SL, [s0, s1, s2] = SL := ⟨_, rfl⟩
  rw [hSL] at bx7
  have hsl : ∀ i, i < 3 → (SL.getD i ByteArray.empty).size ≤ 140737488351232 := fun i hi => by
    subst hSL
    obtain rfl | rfl | rfl : i = 0 ∨ i = 1 ∨ i = 2 := by omega
    · exact hs0
    · exact hs1
    · exact hs2
  have HCb : Hid (∀ W D i, i < 3 → Mvd w7 W p Z D → W.cell? ⟨B, i, none⟩ = some (.string (SL.getD i ByteArray.empty))) := fun W D i hi h => by
    have := (h.rds bx7 (fun _ => hbB)).at hi
    rwa [Nat.zero_add] at this
  have HCn : Hid (∀ W D i, i < 3 → Mvd w7 W p Z D → W.cell? ⟨nb, i, none⟩ = some (.string (NL.getD i ByteArray.empty))) := fun W D i hi h => by
    have := (h.rds nm7 (fun _ => hbN)).at hi
    rwa [Nat.zero_add] at this
  obtain ⟨A, hA⟩ : ∃ A, itA k L = A := ⟨_, rfl⟩
  have b0 := bw_ext hB.sml hB.k1 hB.k2 q4 x4
  have HHas := hide (fun (D : DV) => hasA_ext (l := L) (k := k) (D := D) hok)
  rw [hA] at hok x4 b0 HHas
  have HZi : Hid (∀ W D i, i < 3 → Mvd w7 W p Z D → Bw k A D1.acts D i → Calls Tryz.prog 25 #[.pointer (some ⟨p, 0, none⟩), .string (NL.getD i ByteArray.empty)] W fun e w' => e = .returned (.int .i64 ((fget D.L (nmF i)).now.length : Int)) ∧ w' = W) := fun W D i hi h hb => by
    obtain ⟨h1, h2⟩ := hnm i hi
    exact h.size1 _ h2 _ (by rw [h1]; unfold sizD; rw [hb.q.down]; rfl)
  have HWr : Hid (∀ W D i y, i < 3 → Mvd w7 W p Z D → Bw k A D1.acts D i → TlB i y → Calls Tryz.prog 24 #[.pointer (some ⟨p, 0, none⟩), .string (NL.getD i ByteArray.empty), .int .i64 ((fget D.L (nmF i)).now.length : Int), .string y] W (WrQ w7 p Z k A D1.acts i)) := fun W D i y hi h hb ht => by
    obtain ⟨h1, h2⟩ := hnm i hi
    obtain ⟨D', e1, b1⟩ := hb.next hi y.data.toList (by rw [size_list]; exact ht.1) (fun e => by rw [size_list]; exact ht.2 e)
    have hl : (fget D.L (nmF i)).now.length ≤ 20000 := by
      have := hb.s
      unfold nmF
      split
      · omega
      · split <;> omega
    have h3 := (tot_three hb.q.ord hb.b.oth).2
    have h4 := hb.q.tot
    have h5 := hb.a
    have := h.write1 (D' := D') ⟨by omega, by omega, by omega⟩ (NL.getD i ByteArray.empty) y h2 ((fget D.L (nmF i)).now.length : Int) (by omega) (by omega) (by have := ht.1; omega) 0 (by rw [h1]; exact e1)
    exact this.mono fun e w' z => ⟨0, z.1, D', z.2, b1⟩
  obtain ⟨a0, ha0⟩ : ∃ a0, D1.acts = a0 := ⟨_, rfl⟩
  have ha1 : a0 ≤ 100 := by omega
  rw [ha0] at HZi HWr b0
  have HG := hide (And.intro m7 (And.intro b0 (And.intro x4 (And.intro q4 (And.intro rl7 rf7)))))
  have HK := hide (And.intro hB.k1 hB.k2)
  have HBL := hide (And.intro hbL hbF)
  have Hok := hide hok
  have HhF := hide hF
  clear hB HA HSt HL HN HM hr m7 m6 q4 rl7 rf7 rl6 bx bx2 bx6 bx7 nm7 r6 rd t3 t4 a4 b0 hY hY6 hZ1 hZ2 hZ3 hbL hbF hbB hbN hnm hsl hw0 hw7 hNL hSL u0 u1 u2 u6 v7 V6 U2 hb6 hs0 hs1 hs2 ha0 hA x4 hok
  go_wp2
  go_loopg [11, 12] 3 (fun g x _ wr => ∃ i : Nat, i ≤ 3 ∧ g = 3 - i ∧ x = .int .i64 (i : Int) ∧ ∃ D, Hid (Mvd w7 wr p Z D) ∧ Hid (Bw k A a0 D i))
  case atStart =>
    go_light
    exact ⟨0, Nat.zero_le _, rfl, rfl, D1, HG.out.1, HG.out.2.1⟩
  case round =>
    obtain ⟨i, hi, rfl, rfl, D, HM, HBw⟩ := hrel
    by_cases hlt : i < 3
    · have hz : (i : Int) < 3 := by omega
      have cb := HCb.out wr D i hlt HM.out
      have HMd : Hid (Mvd w7 wr.drew p Z D) := HM.out.then (bdz _)
      have cn := HCn.out wr.drew D i hlt HMd.out
      have HZ1 := hide (HZi.out wr.drew D i hlt HMd.out HBw.out)
      have HW1 := hide (fun y ht => HWr.out wr.drew D i y hlt HMd.out HBw.out ht)
      obtain ⟨N, hN⟩ : ∃ N, NL.getD i ByteArray.empty = N := ⟨_, rfl⟩
      obtain ⟨y, hy⟩ : ∃ y, SL.getD i ByteArray.empty = y := ⟨_, rfl⟩
      obtain ⟨sz, hsz⟩ : ∃ sz, (fget D.L (nmF i)).now.length = sz := ⟨_, rfl⟩
      rw [hN] at cn HZ1 HW1
      rw [hy] at cb
      rw [hsz] at HZ1 HW1
      have ew : IntKind.i64.wrap ((i : Int) + 1) = (i : Int) + 1 := by rw [IntKind.wrap_i64]; omega
      clear hN hy hsz HZi HWr HCb HCn HG HBL Hok HhF HHas HK HM HMd HBw
      have HTl : Hid (∀ x, x.size ≤ 300 → (i = 2 → x.size < 64) → TlB i x) := fun x h1 h2 => ⟨h1, h2⟩
      by_cases hg : 300 < y.size
      · have hg1 : (300 : Int) < (y.size : Int) := by omega
        have hg2 : (300 : Int) ≤ (y.size : Int) := by omega
        have h3 : (y.extract 0 300).size = 300 := by rw [ByteArray.size_extract]; omega
        by_cases h2 : i = 2
        · subst h2
          have h4 : ((y.extract 0 300).extract 0 63).size = 63 := by rw [ByteArray.size_extract]; omega
          have HT := hide (HTl.out ((y.extract 0 300).extract 0 63) (by omega) (fun _ => by omega))
          clear h4
          go_wp2
          go_region_with (first
            | (go_at_call 25; (with_reducible refine HZ1.out.mono ?_); rintro e wa ⟨rfl, rfl⟩)
            | (go_at_call 24; (with_reducible refine (HW1.out _ HT.out).mono ?_); rintro e w8 ⟨r8, rfl, D8, t8, b8⟩))
          all_goals (
            have HE : Hid (Mvd w7 w8 p Z D8 ∧ Bw k A a0 D8 (2 + 1)) := ⟨t8, b8⟩
            clear t8 b8
            go_wp2
            go_roundg (3 - (2 + 1))
            case rel =>
              go_light
              exact ⟨2 + 1, by omega, rfl, by go_num, D8, HE.out.1, HE.out.2⟩
            case measure => go_light; omega)
        · have n2 : ¬ (i : Int) = 2 := by omega
          have n3 : ((i : Int) == 2) = false := beq_eq_false_iff_ne.2 n2
          have HT := hide (HTl.out (y.extract 0 300) (by omega) (fun e => absurd e h2))
          clear h2
          go_wp2
          go_region_with (first
            | (go_at_call 25; (with_reducible refine HZ1.out.mono ?_); rintro e wa ⟨rfl, rfl⟩)
            | (go_at_call 24; (with_reducible refine (HW1.out _ HT.out).mono ?_); rintro e w8 ⟨r8, rfl, D8, t8, b8⟩))
          all_goals (
            have HE : Hid (Mvd w7 w8 p Z D8 ∧ Bw k A a0 D8 (i + 1)) := ⟨t8, b8⟩
            clear t8 b8
            go_wp2
            go_roundg (3 - (i + 1))
            case rel =>
              go_light
              exact ⟨i + 1, by omega, rfl, by go_num, D8, HE.out.1, HE.out.2⟩
            case measure => go_light; omega)
      · have hg1 : ¬ (300 : Int) < (y.size : Int) := by omega
        by_cases h2 : i = 2
        · subst h2
          by_cases h6 : 64 ≤ y.size
          · have h7 : (64 : Int) ≤ (y.size : Int) := by omega
            have h8 : (63 : Int) ≤ (y.size : Int) := by omega
            have h9 : decide ((64 : Int) ≤ (y.size : Int)) = true := decide_eq_true h7
            have h4 : (y.extract 0 63).size = 63 := by rw [ByteArray.size_extract]; omega
            have HT := hide (HTl.out (y.extract 0 63) (by omega) (fun _ => by omega))
            clear h4
            go_wp2
            go_region_with (first
              | (go_at_call 25; (with_reducible refine HZ1.out.mono ?_); rintro e wa ⟨rfl, rfl⟩)
              | (go_at_call 24; (with_reducible refine (HW1.out _ HT.out).mono ?_); rintro e w8 ⟨r8, rfl, D8, t8, b8⟩))
            all_goals (
              have HE : Hid (Mvd w7 w8 p Z D8 ∧ Bw k A a0 D8 (2 + 1)) := ⟨t8, b8⟩
              clear t8 b8
              go_wp2
              go_roundg (3 - (2 + 1))
              case rel =>
                go_light
                exact ⟨2 + 1, by omega, rfl, by go_num, D8, HE.out.1, HE.out.2⟩
              case measure => go_light; omega)
          · have h7 : ¬ (64 : Int) ≤ (y.size : Int) := by omega
            have h9 : decide ((64 : Int) ≤ (y.size : Int)) = false := decide_eq_false h7
            have HT := hide (HTl.out y (by omega) (fun _ => by omega))
            go_wp2
            go_region_with (first
              | (go_at_call 25; (with_reducible refine HZ1.out.mono ?_); rintro e wa ⟨rfl, rfl⟩)
              | (go_at_call 24; (with_reducible refine (HW1.out _ HT.out).mono ?_); rintro e w8 ⟨r8, rfl, D8, t8, b8⟩))
            all_goals (
              have HE : Hid (Mvd w7 w8 p Z D8 ∧ Bw k A a0 D8 (2 + 1)) := ⟨t8, b8⟩
              clear t8 b8
              go_wp2
              go_roundg (3 - (2 + 1))
              case rel =>
                go_light
                exact ⟨2 + 1, by omega, rfl, by go_num, D8, HE.out.1, HE.out.2⟩
              case measure => go_light; omega)
        · have n2 : ¬ (i : Int) = 2 := by omega
          have n3 : ((i : Int) == 2) = false := beq_eq_false_iff_ne.2 n2
          have HT := hide (HTl.out y (by omega) (fun e => absurd e h2))
          clear h2
          go_wp2
          go_region_with (first
            | (go_at_call 25; (with_reducible refine HZ1.out.mono ?_); rintro e wa ⟨rfl, rfl⟩)
            | (go_at_call 24; (with_reducible refine (HW1.out _ HT.out).mono ?_); rintro e w8 ⟨r8, rfl, D8, t8, b8⟩))
          all_goals (
            have HE : Hid (Mvd w7 w8 p Z D8 ∧ Bw k A a0 D8 (i + 1)) := ⟨t8, b8⟩
            clear t8 b8
            go_wp2
            go_roundg (3 - (i + 1))
            case rel =>
              go_light
              exact ⟨i + 1, by omega, rfl, by go_num, D8, HE.out.1, HE.out.2⟩
            case measure => go_light; omega)
    · obtain rfl : i = 3 := by omega
      obtain ⟨m7, b0, x4, q4, rl7, rf7⟩ := HG.out
      have hbw := HBw.out
      have ha := hbw.a
      obtain ⟨D4, j4, o4, q5, x5, a5, hj4, _⟩ := open_ok Hok.out hbw.q hbw.b
      obtain ⟨D5, j5, o5, q6, x6, a6, _, z6⟩ := open_ok Hok.out q5 x5.beh
      obtain ⟨zL, hj5⟩ := z6 x5
      have hD4 : tell D4.L = F := by rw [Ext.one q5.ord q4.ord x5 x4]; exact HhF.out
      have hD5 : tell D5.L = F := by rw [zL]; exact hD4
      have r3 := qt_rm hbw.q hbw.b.oth (by decide) (by omega)
      have r4 := qt_rm q5 x5.oth (by decide) (by omega)
      obtain ⟨na, hna⟩ : ∃ na, D4.acts = na := ⟨_, rfl⟩
      have hna1 : na ≤ 1000 := by omega
      have hna2 : D5.acts = na + 3 := by omega
      have h1 := HHas.out D4 q5.down x5
      have h2 := HHas.out D5 q6.down x6
      have hbL := HBL.out.1
      have hbF := HBL.out.2
      have hF' : aft [] D4.L 0 = F := by rw [x5.aft q5.ord]; exact hD4
      obtain ⟨SS, hSS⟩ : ∃ SS, sA k A = SS := ⟨_, rfl⟩
      rw [hSS] at o4 o5 h1 h2
      have HO1 : Hid (Calls Tryz.prog 13 #[.pointer (some ⟨p, 0, none⟩), .int .i64 (k : Int)] wr fun e w' => ∃ q, e = .returned (.tuple #[.pointer (some ⟨q, 0, none⟩), .int .i64 0]) ∧ MdS w7 w' q p Z D4 SS) := HM.out.open1 r3 k o4
      have HO2 : Hid (∀ W q, MdS w7 W q p Z D4 SS → Calls Tryz.prog 13 #[.pointer (some ⟨p, 0, none⟩), .int .i64 (k : Int)] W fun e w' => ∃ q, e = .returned (.tuple #[.pointer (some ⟨q, 0, none⟩), .int .i64 0]) ∧ MdS w7 w' q p Z D5 SS) := fun W q h => h.mvd.open1 r4 k o5
      have HH1 : Hid (∀ W q, MdS w7 W q p Z D4 SS → Calls Tryz.prog 16 #[.pointer (some ⟨q, 0, none⟩), .int .i64 (k : Int), .slice la n lc] W fun e w' => e = .returned (.bool true) ∧ MdS w7 w' q p Z D4 SS) := fun W q h => (h.has1 k L h1 la lb 0 n lc (h.rds rl7 hbL)).mono fun e w' z => ⟨z.1, z.2.1⟩
      have HH2 : Hid (∀ W q, MdS w7 W q p Z D5 SS → Calls Tryz.prog 16 #[.pointer (some ⟨q, 0, none⟩), .int .i64 (k : Int), .slice la n lc] W fun e w' => e = .returned (.bool true) ∧ MdS w7 w' q p Z D5 SS) := fun W q h => (h.has1 k L h2 la lb 0 n lc (h.rds rl7 hbL)).mono fun e w' z => ⟨z.1, z.2.1⟩
      have HF1 : Hid (∀ W q D, tell D.L = F → MdS w7 W q p Z D SS → Calls Tryz.prog 21 #[.pointer (some ⟨p, 0, none⟩)] W fun e w' => ∃ fa fb fc, e = .returned (.slice fa fn fc) ∧ RdF w' fa fb 0 F ∧ MdS w7 w' q p Z D SS) := fun W q D hD h => by
        refine (h.mvd.files1 F hD).mono fun e w' z => ?_
        obtain ⟨fa, fb, fc, z1, z2, z3⟩ := z
        rw [hfn] at z1
        exact ⟨fa, fb, fc, z1, z2, h.next z3⟩
      have HF4 : Hid (∀ W q, MdS w7 W q p Z D4 SS → Calls Tryz.prog 21 #[.pointer (some ⟨p, 0, none⟩)] W fun e w' => ∃ fa fb fc, e = .returned (.slice fa fn fc) ∧ RdF w' fa fb 0 F ∧ MdS w7 w' q p Z D4 SS) := fun W q h => HF1.out W q D4 hD4 h
      have HF5 : Hid (∀ W q, MdS w7 W q p Z D5 SS → Calls Tryz.prog 21 #[.pointer (some ⟨p, 0, none⟩)] W fun e w' => ∃ fa fb fc, e = .returned (.slice fa fn fc) ∧ RdF w' fa fb 0 F ∧ MdS w7 w' q p Z D5 SS) := fun W q h => HF1.out W q D5 hD5 h
      have HAf : Hid (∀ W q, MdS w7 W q p Z D4 SS → Calls Tryz.prog 23 #[.pointer (some ⟨p, 0, none⟩), .slice none 0 0] W fun e w' => ∃ fa fb fc, e = .returned (.slice fa fn fc) ∧ RdF w' fa fb 0 F ∧ MdS w7 w' q p Z D4 SS) := fun W q h => by
        refine (h.mvd.after1 none 0 0 0 [] (rdl_nil _ _ _ _) (by decide) F hF').mono fun e w' z => ?_
        obtain ⟨fa, fb, fc, z1, z2, z3⟩ := z
        rw [hfn] at z1
        exact ⟨fa, fb, fc, z1, z2, h.next z3⟩
      have HSm : Hid (∀ W q D a1 b1 c1, MdS w7 W q p Z D SS → RdF W a1 b1 0 F → Calls Tryz.prog 22 #[.slice a1 fn c1, .slice fa fn fc] W fun e w' => e = .returned (.bool true) ∧ MdS w7 w' q p Z D SS) := fun W q D a1 b1 c1 h r1 => by
        have := same_yes W F a1 b1 0 c1 r1 fa fb 0 fc (h.mvd.rdf rf7 hbF) (by omega)
        rw [hfn] at this
        exact this.mono fun e w' z => ⟨z.1, h.next z.2⟩
      have HA4 : Hid (∀ W q, MdS w7 W q p Z D4 SS → Calls Tryz.prog 18 #[.pointer (some ⟨p, 0, none⟩)] W fun e w' => e = .returned (.int .i64 (na : Int)) ∧ w' = W) := fun W q h => h.mvd.acts1 na hna
      have HA5 : Hid (∀ W q, MdS w7 W q p Z D5 SS → Calls Tryz.prog 18 #[.pointer (some ⟨p, 0, none⟩)] W fun e w' => e = .returned (.int .i64 ((na : Int) + 3)) ∧ w' = W) := fun W q h => h.mvd.acts1 (na + 3) hna2
      have hw1 : IntKind.i64.wrap ((na : Int) + 3) = (na : Int) + 3 := by rw [IntKind.wrap_i64]; omega
      clear m7 b0 x4 q4 rl7 rf7 hbw ha o4 q5 x5 a5 hj4 o5 q6 x6 a6 z6 zL hj5 hD4 hD5 r3 r4 hna hna1 hna2 h1 h2 hbL hbF hF' hSS HF1 HG HBL Hok HhF HHas HK HM HBw HZi HWr HCb HCn hw7' hBx hnb
      go_wp2_with (first
        | (go_at_call 13; (with_reducible refine HO1.out.mono ?_); rintro e x1 ⟨q1, rfl, t1⟩)
        | (go_at_call 16; (with_reducible refine (HH1.out _ _ t1).mono ?_); rintro e x2 ⟨rfl, t2⟩)
        | (go_at_call 21; (with_reducible refine (HF4.out _ _ t2).mono ?_); rintro e x3 ⟨ga, gb, gc, rfl, g3, t3⟩)
        | (go_at_call 22; (with_reducible refine (HSm.out _ _ _ _ _ _ t3 g3).mono ?_); rintro e x4 ⟨rfl, t4⟩)
        | (go_at_call 23; (with_reducible refine (HAf.out _ _ t4).mono ?_); rintro e x5 ⟨ha, hb', hc, rfl, g5, t5⟩)
        | (go_at_call 22; (with_reducible refine (HSm.out _ _ _ _ _ _ t5 g5).mono ?_); rintro e x6 ⟨rfl, t6⟩)
        | (go_at_call 18; (with_reducible refine (HA4.out _ _ t6).mono ?_); rintro e wa ⟨rfl, rfl⟩)
        | (go_at_call 13; (with_reducible refine (HO2.out _ _ t6).mono ?_); rintro e x7 ⟨q7, rfl, t7⟩)
        | (go_at_call 16; (with_reducible refine (HH2.out _ _ t7).mono ?_); rintro e x8 ⟨rfl, t8⟩)
        | (go_at_call 21; (with_reducible refine (HF5.out _ _ t8).mono ?_); rintro e x9 ⟨ka, kb, kc, rfl, g9, t9⟩)
        | (go_at_call 22; (with_reducible refine (HSm.out _ _ _ _ _ _ t9 g9).mono ?_); rintro e xa ⟨rfl, ta⟩)
        | (go_at_call 18; (with_reducible refine (HA5.out _ _ ta).mono ?_); rintro e wa ⟨rfl, rfl⟩))
      go_ret
      exact ⟨rfl, HU.out _ _ ta.mvd⟩
end Go.Proofs.YthfnpagangjpbaaGreat
