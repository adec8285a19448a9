/-
  Own work: DWalkB, DWalkC.
-/
import Derived.Deep.DeepMakePanics
import Derived.OwnWalk
import Derived.Test.YtdocjikpcbmcgaaGreatDoorQs17
namespace Go.Proofs.YtdocjikpcbmcgaaGreatDoor
open Go.RowKit
open Cv (cU RdC)
attribute [local go_sem ↓] Go.wp_at_zero Go.wp_at_succ
theorem number_no {w : World} {p : Nat} {s : ByteArray} (hr : Rdr w p s 0) (hs : s.size ≤ 9223372036854775807) (h : nmb s.data.toList = none) :
    Calls Tryz.prog 103 #[.pointer (some ⟨p, 0, none⟩)] w fun e w' => e = pnc ∧ Ch p w w' := by
  refine (number_any w p s hr hs).mono ?_
  rintro e w' (⟨n, s', g1, _⟩ | ⟨_, g2, g3⟩)
  · rw [h] at g1; cases g1
  · exact ⟨g2, g3⟩
theorem number_ok {w : World} {p n : Nat} {s : ByteArray} {r : List UInt8} (hr : Rdr w p s 0) (hs : s.size ≤ 9223372036854775807) (h : nmb s.data.toList = some (n, r)) :
    Calls Tryz.prog 103 #[.pointer (some ⟨p, 0, none⟩)] w fun e w' => ∃ s', s'.data.toList = r ∧ e = .returned (.int .u64 (n : Int)) ∧ Rdr w' p s' 0 ∧ Ch p w w' ∧ s'.size ≤ s.size := by
  refine (number_any w p s hr hs).mono ?_
  rintro e w' (⟨n', s', g1, g2⟩ | ⟨g1, _⟩)
  · rw [h] at g1; cases g1; exact ⟨s', rfl, g2⟩
  · rw [h] at g1; cases g1
theorem Ch.trans {p : Nat} {w w1 w2 : World} (h : Ch p w w1) (h2 : Ch p w1 w2) : Ch p w w2 :=
  ⟨h.below.trans h2.below, fun q hq hne => (h2.block q (Nat.lt_of_lt_of_le hq h.below.size) hne).trans (h.block q hq hne)⟩
theorem Ch.low {p : Nat} {w w1 w2 : World} (h : Ch p w w1) (hb : Below w.heap.size w1 w2) (hp : p < w.heap.size) : Ch p w w2 :=
  ⟨h.below.trans (hb.mono (by omega)), fun q hq hne => (hb.block q hq).trans (h.block q hq hne)⟩
def pan (e : Ending) : Prop := ∃ u v, e = .panicked [{ v := .iface u v, recovered := false }]
theorem pan_pnc : pan pnc := ⟨_, _, rfl⟩
theorem num_cells (w : World) (x : Nat) : ∀ (j : Nat) u, (cU [x])[j]? = some u → (w.alloc (.cells #[.int .u64 (x : Int)] 28)).cell? ((⟨w.heap.size, 0, none⟩ : Addr).add j) = some u := fun j u hu => by
  rw [Addr.add_mid]; exact range_new w [.int .u64 (x : Int)] 28 j u hu
theorem nmb_lt {l r : List UInt8} {n : Nat} (h : nmb l = some (n, r)) : n < 18446744073709551616 := (nmb_back h).2
theorem setL_none {c x size d : Nat} {l r : List UInt8} (h : nmb l = some (d, r)) (hd : ¬ x + d < size) : setL (c + 1) x size l = none := by
  rw [setL, h]; simp only; rw [if_neg hd]
theorem setL_end {c x size : Nat} {l : List UInt8} (h : nmb l = none) : setL (c + 1) x size l = none := by rw [setL, h]
theorem setL_step {c x size d : Nat} {l r : List UInt8} (h : nmb l = some (d, r)) (hd : x + d < size) : setL (c + 1) x size l = (setL c (x + d + 1) size r).map fun a => ((x + d) :: a.1, a.2) := by
  rw [setL, h]
  simp only
  rw [if_pos hd]
  cases setL c (x + d + 1) size r <;> rfl
structure SetS (w : World) (p g c size : Nat) (l0 : List UInt8) (wr : World) (j x : Nat) (acc : List Nat) (s : ByteArray) : Prop where
  rd : Rdr wr p s 0
  ch : Ch p w wr
  own : wr.ownsRow g 28 1 (.slice (some ⟨g, 0, none⟩) j c) j (cU acc)
  jc : j ≤ c
  hg : w.heap.size ≤ g
  xs : x ≤ size
  go : setL c 0 size l0 = (setL (c - j) x size s.data.toList).map fun a => (acc ++ a.1, a.2)
  sz : s.size ≤ 9223372036854775807
theorem SetS.read {w wr w1 : World} {p g c size j x : Nat} {l0 : List UInt8} {acc : List Nat} {s s' : ByteArray} {d : Nat} (h : SetS w p g c size l0 wr j x acc s) (hc : Ch p wr w1) (hp : p < w.heap.size) (hn : nmb s.data.toList = some (d, s'.data.toList)) (hd : x + d < size) (hj : j < c) :
    w1.ownsRow g 28 1 (.slice (some ⟨g, 0, none⟩) j c) j (cU acc) ∧ Ch p w w1 ∧ setL c 0 size l0 = (setL (c - (j + 1)) (x + d + 1) size s'.data.toList).map fun a => ((acc ++ [x + d]) ++ a.1, a.2) := by
  have hg := h.hg
  refine ⟨keep_row h.own fun b hb _ => ?_, h.ch.trans hc, ?_⟩
  · cases hb
    exact hc.block g (h.own.lt g rfl).2 (by omega)
  · rw [h.go, show c - j = (c - (j + 1)) + 1 by omega, setL_step hn hd]
    cases setL (c - (j + 1)) (x + d + 1) size s'.data.toList <;> simp
theorem infoU8 : ∃ i, Tryz.prog.info? 28 = some i ∧ i.zero = some (.int .u64 0) ∧ i.size = 1 ∧ i.bytes = 8 := by
  obtain ⟨i0, h1, h2, h3, h4⟩ := info_parts Cv.Tryz.infoU
  exact ⟨i0, h1, h2, h3, h4⟩
theorem midR_two (size : Nat) (l : List UInt8) : midR 2 size l = match nmb l with | none => none | some (c, r) => if c ≤ r.length then (match setL c 0 size r with | none => none | some (S, r') => some (0, S, r')) else none := rfl
theorem szno {c : Nat} {s : ByteArray} (h : ¬ c ≤ s.data.toList.length) : ¬ (c : Int) ≤ (s.size : Int) := by rw [size_list] at h; omega
theorem szyes {c : Nat} {s : ByteArray} (h : c ≤ s.data.toList.length) : (c : Int) ≤ (s.size : Int) := by rw [size_list] at h; omega
theorem szw {s : ByteArray} (h : s.size ≤ 281474976710656) : IntKind.u64.wrap (s.size : Int) = (s.size : Int) := by rw [IntKind.wrap_u64]; omega
def SetQ (w : World) (p size : Nat) (s : ByteArray) (e : Ending) (w' : World) : Prop :=
  (∃ S s' g c, midR 2 size s.data.toList = some (0, S, s'.data.toList) ∧ e = .returned (.slice (some ⟨g, 0, none⟩) S.length c) ∧ Cv.Own w' w.heap.size (.slice (some ⟨g, 0, none⟩) S.length c) S ∧ Rdr w' p s' 0 ∧ Ch p w w' ∧ s'.size ≤ s.size) ∨
      ((∀ o S r, midR 2 size s.data.toList = some (o, S, r) → 2 ^ 40 < size) ∧ pan e ∧ Ch p w w')
set_option maxRecDepth 100000 in
set_option maxHeartbeats 1000000 in
theorem set_any (w : World) (p size : Nat) (s : ByteArray) (hr : Rdr w p s 0) (hs : s.size ≤ 281474976710656) (hsz : size < 18446744073709551616) :
    Calls Tryz.prog 104 #[.pointer (some ⟨p, 0, none⟩), .int .u64 (size : Int)] w (SetQ w p size s) := by
  have hp := hr.lt
  cases hn : nmb s.data.toList with
  | none =>
    have HN := number_no hr (by omega) hn
    have HQ : Hid (∀ w', Ch p w w' → SetQ w p size s pnc w') := fun w' hc => .inr ⟨fun o S r h => (by rw [midR_two, hn] at h; cases h), pan_pnc, hc⟩
    go_enter Tryz.func104, Tryz.ntmps104
    go_wp2_with (go_at_call 103; with_reducible refine HN.mono ?_; rintro x w1 ⟨rfl, hc⟩)
    exact ⟨rfl, HQ.out _ hc⟩
  | some a =>
    obtain ⟨c, r⟩ := a
    have HN := number_ok hr (by omega) hn
    have hc64 := nmb_lt hn
    by_cases hcr : c ≤ r.length
    · by_cases hbig : c ≤ 35184372088832
      · obtain ⟨i0, i1, i2, i3, i4⟩ := infoU8
        have HI : Hid (Tryz.prog.info? 28 = some i0 ∧ i0.zero = some (.int .u64 0) ∧ i0.size = 1 ∧ i0.bytes = 8) := ⟨i1, i2, i3, i4⟩
        have HQ : Hid ((∀ w', Ch p w w' → setL c 0 size r = none → ∀ e, pan e → SetQ w p size s e w') ∧ ∀ S s' g w', setL c 0 size r = some (S, s'.data.toList) → Cv.Own w' w.heap.size (.slice (some ⟨g, 0, none⟩) S.length c) S → Rdr w' p s' 0 → Ch p w w' → s'.size ≤ s.size → SetQ w p size s (.returned (.slice (some ⟨g, 0, none⟩) S.length c)) w') := by
          constructor
          · intro w' hc hz e he
            refine .inr ⟨fun o S r h => ?_, he, hc⟩
            rw [midR_two, hn] at h
            simp only at h
            rw [if_pos hcr, hz] at h
            cases h
          · intro S s' g w' h1 h2 h3 h4 h5
            refine .inl ⟨S, s', g, c, ?_, rfl, h2, h3, h4, h5⟩
            rw [midR_two, hn]
            simp only
            rw [if_pos hcr, h1]
        have HK : Hid (c ≤ r.length ∧ s.size ≤ 281474976710656 ∧ c ≤ 35184372088832 ∧ size < 18446744073709551616 ∧ p < w.heap.size) := ⟨hcr, hs, hbig, hsz, hp⟩
        have hbig' : (c : Int) ≤ 35184372088832 := by omega
        clear hr hs hn hcr hsz hbig hc64 i1 i2 i3 i4 hp
        go_enter Tryz.func104, Tryz.ntmps104
        go_wp2_with (first
          | (go_at_call 103; (with_reducible refine HN.mono ?_; rintro x w1 ⟨s1, rfl, rfl, h1, h2, h3⟩; have HL := left_any w1 p 0 s1 h1; have hf := szyes HK.out.1; have hf2 := szw (Nat.le_trans h3 HK.out.2.1)))
          | (go_at_call 153; with_reducible refine HL.mono ?_; rintro x w2 ⟨rfl, rfl⟩)
          | (go_at_call 106; refine (must_yes _ _ rfl).mono ?_; rintro x w3 ⟨rfl, rfl⟩)
          | (at_make; refine wpList_make_own _ rfl _ _ _ rfl w3.heap.size 28 i0 (.int .u64 0) 1 Tryz.underlying53 HI.out.1 HI.out.2.1 HI.out.2.2.1 .i64 .u64 _ c rfl rfl rfl ?c1 ?c2 (Nat.le_refl _) ?_))
        case c1 => rw [HI.out.2.2.2]; have := HK.out; omega
        case c2 => have := HK.out; unfold maxLen; omega
        intro w4 o4 g4
        obtain ⟨g, hg⟩ : ∃ g, w3.heap.size = g := ⟨_, rfl⟩
        rw [hg] at o4
        have HS : Hid (SetS w p g c size s1.data.toList w4 0 0 [] s1) := by
          obtain ⟨k1, k2, k3, k4, k5⟩ := HK.out
          have hb : Below w3.heap.size w3 w4 := (Below.refl _ _).grown g4 (Nat.le_refl _) (fun k hk => by cases hk)
          have hz := h2.below.size
          exact ⟨h1.next hb h1.lt, h2.low (hb.mono hz) k5, o4, Nat.zero_le _, by omega, Nat.zero_le _, by rw [Nat.sub_zero]; cases setL c 0 size s1.data.toList <;> rfl, by omega⟩
        have HZ : Hid (s1.size ≤ s.size) := h3
        rw [hg]
        clear h1 h2 h3 hf hf2 o4 g4 HN HL hg
        go_wp2
        go_loopg [6, 7, 8, 9, 21] c (fun m l x i8 o9 ix wr => ∃ (j y : Nat) (acc : List Nat) (t : ByteArray), m = c - j ∧ ix = .int .u64 (j : Int) ∧ x = .int .u64 (y : Int) ∧ l = .slice (some ⟨g, 0, none⟩) j c ∧ SetS w p g c size s1.data.toList wr j y acc t ∧ t.size ≤ s.size)
        case atStart =>
          go_light
          exact ⟨0, 0, [], s1, rfl, rfl, rfl, rfl, HS.out, HZ.out⟩
        case round =>
          obtain ⟨j, y, acc, t, rfl, rfl, rfl, rfl, hS, ht⟩ := hrel
          obtain ⟨k1, k2, k3, k4, k5⟩ := HK.out
          have HT : Hid (SetS w p g c size s1.data.toList wr j y acc t ∧ t.size ≤ s.size) := ⟨hS, ht⟩
          have hj0 : (0 : Int) ≤ (j : Int) := Int.natCast_nonneg _
          by_cases hlt : j < c
          · have hlt' : (j : Int) < (c : Int) := by omega
            cases hn : nmb t.data.toList with
            | none =>
              have HN := number_no hS.rd hS.sz hn
              have HE : Hid (∀ w', Ch p wr w' → SetQ w p size s pnc w') := fun w' hc => HQ.out.1 w' (hS.ch.trans hc) (by rw [hS.go, show c - j = (c - (j + 1)) + 1 by omega, setL_end hn]; rfl) _ pan_pnc
              clear hS ht k1 k2 k3 k4 k5 hn
              go_wp2_with (go_at_call 103; with_reducible refine HN.mono ?_; rintro x w1 ⟨rfl, hc⟩)
              exact ⟨rfl, HE.out _ hc⟩
            | some a =>
              obtain ⟨d, r⟩ := a
              have HN := number_ok hS.rd hS.sz hn
              have hd64 := nmb_lt hn
              have hy := hS.xs
              by_cases hd : y + d < size
              · have HA := fun W => add_yes y d W (by omega)
                have hd' : ((y + d : Nat) : Int) < (size : Int) := by omega
                have HO : Hid (∀ w1 s2, Rdr w1 p s2 0 → Ch p wr w1 → s2.data.toList = r → w1.ownsRow g 28 1 (.slice (some ⟨g, 0, none⟩) j c) j (cU acc) ∧ Ch p w w1 ∧ setL c 0 size s1.data.toList = (setL (c - (j + 1)) (y + d + 1) size s2.data.toList).map fun a => ((acc ++ [y + d]) ++ a.1, a.2)) := fun w1 s2 hr1 hc1 he => by
                  subst he; exact hS.read hc1 k5 hn hd hlt
                have HX : Hid (y + d + 1 ≤ size ∧ y + d < 18446744073709551615 ∧ j + 1 ≤ c ∧ t.size ≤ s.size ∧ t.size ≤ 9223372036854775807 ∧ w.heap.size ≤ g ∧ p < w.heap.size) := ⟨by omega, by omega, hlt, ht, hS.sz, hS.hg, k5⟩
                have e1 : IntKind.u64.wrap (((y + d : Nat) : Int) + 1) = ((y + d + 1 : Nat) : Int) := by rw [IntKind.wrap_u64]; omega
                have e2 : IntKind.u64.wrap ((j : Int) + 1) = ((j + 1 : Nat) : Int) := by rw [IntKind.wrap_u64]; omega
                generalize y + d = z at *
                clear hS ht k1 k2 k3 k4 k5 hn hd64 hy hd HS HZ HT
                go_wp2_with (first
                  | (go_at_call 103; with_reducible refine HN.mono ?_; rintro x w1 ⟨s2, hs2, rfl, q1, q2, q3⟩; replace HO := hideC (HO.out _ _ q1 q2 hs2))
                  | (go_at_call 154; with_reducible refine (HA _).mono ?_; rintro x w2 ⟨rfl, rfl⟩)
                  | (go_at_call 106; refine (must_yes _ _ rfl).mono ?_; rintro x w3 ⟨rfl, rfl⟩)
                  | (at_builtin; refine wpList_append_fits _ rfl _ _ _ rfl g 28 i0 1 Tryz.underlying53 HI.out.1 HI.out.2.2.1 g j c (cU acc) rfl (HO.out.1.alloc _) ⟨w3.heap.size, 0, none⟩ 1 1 (cU [z]) rfl rfl (num_cells w3 z) (Cv.cU_one [z]) HX.out.2.2.1 ?_; intro w4 o4 g4))
                go_roundg (c - (j + 1))
                case rel =>
                  go_light
                  obtain ⟨x1, x2, x3, x4, x5, x6, x7⟩ := HX.out
                  obtain ⟨y1, y2, y3⟩ := HO.out
                  have hlt := y1.lt g rfl
                  have hb : Below w.heap.size w3 w4 := (((Below.refl _ w3).alloc y2.below.size _)).grown g4 (by simp; have := y2.below.size; omega) (fun k hk => by cases hk; omega)
                  have hb' : Below (p + 1) w3 w4 := hb.mono (by omega)
                  refine ⟨j + 1, z + 1, acc ++ [z], s2, rfl, by first | rfl | (simp; done) | (congr 1), by first | rfl | (congr 1), rfl, ⟨q1.next hb' (by omega), y2.low hb x7, ?_, x3, x6, x1, y3, by omega⟩, by omega⟩
                  rw [Cv.cU, List.map_append]; exact o4
                case measure => go_light; have := HX.out.2.2.1; omega
              · have HE : Hid (∀ w', Ch p wr w' → SetQ w p size s pnc w') := fun w' hc => HQ.out.1 w' (hS.ch.trans hc) (by rw [hS.go, show c - j = (c - (j + 1)) + 1 by omega, setL_none hn hd]; rfl) _ pan_pnc
                by_cases ha : y + d < 18446744073709551616
                · have HA := fun W => add_yes y d W ha
                  have hd' : ¬ ((y + d : Nat) : Int) < (size : Int) := by omega
                  generalize y + d = z at *
                  clear hS ht k1 k2 k3 k4 k5 hn hd64 hy hd ha HS HZ
                  go_wp2_with (first
                    | (go_at_call 103; with_reducible refine HN.mono ?_; rintro x w1 ⟨s2, rfl, rfl, q1, q2, q3⟩)
                    | (go_at_call 154; with_reducible refine (HA _).mono ?_; rintro x w2 ⟨rfl, rfl⟩)
                    | (go_at_call 106; refine (must_no _ _ (by first | rfl | exact decide_eq_false (by omega))).mono ?_; rintro x w3 ⟨rfl, rfl⟩))
                  exact ⟨rfl, HE.out _ q2⟩
                · have HA := fun W => add_no y d W (by omega) hd64 ha
                  clear hS ht k1 k2 k3 k4 k5 hn hd64 hy hd ha HS HZ
                  go_wp2_with (first
                    | (go_at_call 103; with_reducible refine HN.mono ?_; rintro x w1 ⟨s2, rfl, rfl, q1, q2, q3⟩)
                    | (go_at_call 154; with_reducible refine (HA _).mono ?_; rintro x w2 ⟨rfl, rfl⟩)
                    | (go_at_call 106; refine (must_no _ _ rfl).mono ?_; rintro x w3 ⟨rfl, rfl⟩))
                  exact ⟨rfl, HE.out _ q2⟩
          · obtain rfl : j = c := by have := hS.jc; omega
            have hlt' : ¬ (j : Int) < (j : Int) := by omega
            clear hS ht k1 k2 k3 k4 k5 hlt
            go_wp2
            go_ret
            obtain ⟨hS, ht⟩ := HT.out
            have hl : acc.length = j := by have := hS.own.1; simpa [cU] using this
            have e := hS.go
            rw [Nat.sub_self, setL] at e
            simp only [Option.map_some, List.append_nil] at e
            have := HQ.out.2 acc t g wr e (by rw [hl]; have o := hS.own.mono (base' := w.heap.size) hS.hg; rw [Cv.Own, hl]; exact o) hS.rd hS.ch ht
            rw [hl] at this
            exact this
      · obtain ⟨i0, i1, i2, i3, i4⟩ := infoU8
        have hmk : ∀ W : World, (Instr.makeSlice 53 (.int .i64 0) (.int .u64 (c : Int))).run Tryz.prog W = .halt (.panic (capPanic Tryz.prog)) W := fun W => run_make_refused W 53 28 i0 Tryz.underlying53 i1 .i64 .u64 c (by omega) (by have := (nmb_back hn).1; have h3 := congrArg List.length this; rw [size_list, List.length_append] at h3; omega) (.inr (by rw [i4]; omega))
        have HQ : Hid (∀ w', Ch p w w' → ∀ e, pan e → SetQ w p size s e w') := fun w' hc e he => .inr ⟨fun o S r' h => by
          rw [midR_two, hn] at h
          simp only at h
          rw [if_pos hcr] at h
          cases hz : setL c 0 size r with
          | none => rw [hz] at h; cases h
          | some a =>
            obtain ⟨S', r2⟩ := a
            obtain ⟨z1, z2, z3⟩ := setL_back _ _ _ _ _ (Nat.zero_le _) hz
            have := chain_len z3
            omega, he, hc⟩
        have HK : Hid (c ≤ r.length ∧ s.size ≤ 281474976710656) := ⟨hcr, hs⟩
        clear hr hs hn hcr hsz hbig hc64 i1 i2 i3 i4 hp
        go_enter Tryz.func104, Tryz.ntmps104
        go_wp2_with (first
          | (go_at_call 103; (with_reducible refine HN.mono ?_; rintro x w1 ⟨s1, rfl, rfl, h1, h2, h3⟩; have HL := left_any w1 p 0 s1 h1; have hf := szyes HK.out.1; have hf2 := szw (Nat.le_trans h3 HK.out.2)))
          | (go_at_call 153; with_reducible refine HL.mono ?_; rintro x w2 ⟨rfl, rfl⟩)
          | (go_at_call 106; refine (must_yes _ _ rfl).mono ?_; rintro x w3 ⟨rfl, rfl⟩))
        exact ⟨rfl, HQ.out _ h2 _ ⟨_, _, rfl⟩⟩
    · have HQ : Hid (∀ w', Ch p w w' → SetQ w p size s pnc w') := fun w' hc => .inr ⟨fun o S r h => (by rw [midR_two, hn] at h; simp only at h; rw [if_neg hcr] at h; cases h), pan_pnc, hc⟩
      have HK : Hid (¬ c ≤ r.length ∧ s.size ≤ 281474976710656) := ⟨hcr, hs⟩
      clear hr hs hn hcr hsz
      go_enter Tryz.func104, Tryz.ntmps104
      go_wp2_with (first
        | (go_at_call 103; go_loud (with_reducible refine HN.mono ?_; rintro x w1 ⟨s1, rfl, rfl, h1, h2, h3⟩; have HL := left_any w1 p 0 s1 h1; have hf := szno HK.out.1; have hf2 := szw (Nat.le_trans h3 HK.out.2)))
        | (go_at_call 153; with_reducible refine HL.mono ?_; rintro x w2 ⟨rfl, rfl⟩)
        | (go_at_call 106; refine (must_no _ _ (decide_eq_false (by omega))).mono ?_; rintro x w3 ⟨rfl, rfl⟩))
      exact ⟨rfl, HQ.out _ h2⟩
end Go.Proofs.YtdocjikpcbmcgaaGreatDoor
namespace Go.Proofs.YtdocjikpcbmcgaaGreatDoor
open Go.RowKit
attribute [local go_sem ↓] Go.wp_at_zero Go.wp_at_succ
theorem ba_ext {a b : ByteArray} (h : a.data.toList = b.data.toList) : a = b := by
  obtain ⟨⟨l⟩⟩ := a
  obtain ⟨⟨m⟩⟩ := b
  simp only at h
  rw [h]
theorem text_cells (w : World) (x : ByteArray) : ∀ (j : Nat) u, ([x].map Value.string)[j]? = some u → (w.alloc (.cells #[.string x] 9)).cell? ((⟨w.heap.size, 0, none⟩ : Addr).add j) = some u := fun j u hu => by
  rw [Addr.add_mid]; exact range_new w [.string x] 9 j u hu
structure DigS (w : World) (p g c k : Nat) (l0 : List UInt8) (wr : World) (j : Nat) (acc : List ByteArray) (s : ByteArray) : Prop where
  rd : Rdr wr p s 0
  ch : Ch p w wr
  own : wr.ownsRow g 9 1 (.slice (some ⟨g, 0, none⟩) j c) j (acc.map Value.string)
  jc : j ≤ c
  hg : w.heap.size ≤ g
  go : digL c k l0 = acc ++ digL (c - j) k s.data.toList
  sz : (c - j) * k = s.size
theorem digs_next {c j k : Nat} (hj : j < c) {s : ByteArray} {l0 : List UInt8} {acc : List ByteArray} (h1 : digL c k l0 = acc ++ digL (c - j) k s.data.toList) (h2 : (c - j) * k = s.size) :
    k ≤ s.size ∧ digL c k l0 = (acc ++ [s.extract 0 k]) ++ digL (c - (j + 1)) k (s.extract k s.size).data.toList ∧ (c - (j + 1)) * k = (s.extract k s.size).size := by
  obtain ⟨m, hm⟩ : ∃ m, c - (j + 1) = m := ⟨_, rfl⟩
  have e : c - j = m + 1 := by omega
  rw [e, Nat.add_mul, Nat.one_mul] at h2
  have h3 := congrArg List.length (ext_drop s k)
  rw [size_list, List.length_drop, size_list] at h3
  refine ⟨by omega, ?_, by rw [hm]; omega⟩
  rw [h1, e, hm, digL, ext_drop, List.append_assoc, List.singleton_append]
  congr 2
  apply ba_ext
  rw [ext_take]
set_option maxRecDepth 100000 in
set_option maxHeartbeats 1000000 in
theorem digests_no (w : World) (p c k : Nat) (s : ByteArray) (hr : Rdr w p s 0) (hs : s.size ≤ 281474976710656) (hc : c ≤ 1099511627776) (hk : k ≤ 32) (h : ¬ c * k = s.data.toList.length) :
    Calls Tryz.prog 107 #[.pointer (some ⟨p, 0, none⟩), .int .u64 (c : Int), .int .i64 (k : Int)] w fun e w' => e = pnc ∧ w' = w := by
  have HL := left_any w p 0 s hr
  rw [size_list] at h
  have hm : c * k ≤ 1099511627776 * 32 := Nat.mul_le_mul hc hk
  have e1 : IntKind.u64.wrap (k : Int) = (k : Int) := by rw [IntKind.wrap_u64]; omega
  have e2 : IntKind.u64.wrap ((c : Int) * (k : Int)) = ((c * k : Nat) : Int) := by rw [IntKind.wrap_u64, ← Int.natCast_mul]; omega
  have e3 := szw hs
  have e4 : (((c * k : Nat) : Int) == (s.size : Int)) = false := beq_false_of_ne (by omega)
  generalize c * k = q at *
  clear hr hs hc hk h hm
  go_enter Tryz.func107, Tryz.ntmps107
  go_wp2_with (first
    | (go_at_call 153; with_reducible refine HL.mono ?_; rintro x w2 ⟨rfl, rfl⟩)
    | (go_at_call 106; refine (must_no _ _ (by first | rfl | exact e4 | exact decide_eq_false (by omega))).mono ?_; rintro x w3 ⟨rfl, rfl⟩))
  exact ⟨rfl, rfl, rfl⟩
set_option maxRecDepth 100000 in
set_option maxHeartbeats 1000000 in
theorem digests_ok (w : World) (p c k : Nat) (s : ByteArray) (hr : Rdr w p s 0) (hs : s.size ≤ 281474976710656) (hc : c ≤ 1099511627776) (hk : k ≤ 32) (h : c * k = s.data.toList.length) :
    Calls Tryz.prog 107 #[.pointer (some ⟨p, 0, none⟩), .int .u64 (c : Int), .int .i64 (k : Int)] w fun e w' => ∃ g, e = .returned (.slice (some ⟨g, 0, none⟩) c c) ∧ OwnS w' w.heap.size (.slice (some ⟨g, 0, none⟩) c c) (digL c k s.data.toList) ∧ Ch p w w' ∧ ∃ t, Rdr w' p t 0 := by
  have HL := left_any w p 0 s hr
  rw [size_list] at h
  have hm : c * k ≤ 1099511627776 * 32 := Nat.mul_le_mul hc hk
  obtain ⟨i0, i1, i2, i3, i4⟩ := info_parts Tryz.infoS
  have HI : Hid (Tryz.prog.info? 9 = some i0 ∧ i0.zero = some (.string ByteArray.empty) ∧ i0.size = 1 ∧ i0.bytes = 16) := ⟨i1, i2, i3, i4⟩
  have e1 : IntKind.u64.wrap (k : Int) = (k : Int) := by rw [IntKind.wrap_u64]; omega
  have e2 : IntKind.u64.wrap ((c : Int) * (k : Int)) = (s.size : Int) := by rw [IntKind.wrap_u64, ← Int.natCast_mul]; omega
  have e3 := szw hs
  have HK : Hid (Rdr w p s 0 ∧ s.size ≤ 281474976710656 ∧ c ≤ 1099511627776 ∧ k ≤ 32 ∧ c * k = s.size ∧ p < w.heap.size) := ⟨hr, hs, hc, hk, h, hr.lt⟩
  have hc' : (c : Int) ≤ 1099511627776 := by omega
  clear hr hs hc hk h hm i1 i2 i3 i4
  go_enter Tryz.func107, Tryz.ntmps107
  go_wp2_with (first
    | (go_at_call 153; with_reducible refine HL.mono ?_; rintro x w2 ⟨rfl, rfl⟩)
    | (go_at_call 106; refine (must_yes _ _ rfl).mono ?_; rintro x w3 ⟨rfl, rfl⟩)
    | (at_make; refine wpList_make_own _ rfl _ _ _ rfl w3.heap.size 9 i0 (.string ByteArray.empty) 1 Tryz.underlying22 HI.out.1 HI.out.2.1 HI.out.2.2.1 .i64 .u64 _ c rfl rfl rfl ?c1 ?c2 (Nat.le_refl _) ?_))
  case c1 => rw [HI.out.2.2.2]; have := HK.out; omega
  case c2 => have := HK.out; unfold maxLen; omega
  intro w4 o4 g4
  obtain ⟨g, hg⟩ : ∃ g, w3.heap.size = g := ⟨_, rfl⟩
  rw [hg] at o4
  have HS : Hid (DigS w3 p g c k s.data.toList w4 0 [] s) := by
    obtain ⟨k1, k2, k3, k4, k5, k6⟩ := HK.out
    have hb : Below w3.heap.size w3 w4 := (Below.refl _ _).grown g4 (Nat.le_refl _) (fun k hk => by cases hk)
    exact ⟨k1.next hb k6, (Ch.refl p w3).low hb k6, o4, Nat.zero_le _, by omega, by simp, by simpa using k5⟩
  rw [hg]
  clear o4 g4 HL hg e1 e2 e3
  go_wp2
  go_loopg [7, 8, 9, 22] c (fun m l d8 e9 ix wr => ∃ (j : Nat) (acc : List ByteArray) (t : ByteArray), m = c - j ∧ ix = .int .u64 (j : Int) ∧ l = .slice (some ⟨g, 0, none⟩) j c ∧ DigS w3 p g c k s.data.toList wr j acc t)
  case atStart =>
    go_light
    exact ⟨0, [], s, rfl, rfl, rfl, HS.out⟩
  case round =>
    obtain ⟨j, acc, t, rfl, rfl, rfl, hS⟩ := hrel
    obtain ⟨k1, k2, k3, k4, k5, k6⟩ := HK.out
    have HT : Hid (DigS w3 p g c k s.data.toList wr j acc t) := hS
    have hj0 : (0 : Int) ≤ (j : Int) := Int.natCast_nonneg _
    by_cases hlt : j < c
    · have hlt' : (j : Int) < (c : Int) := by omega
      obtain ⟨n1, n2, n3⟩ := digs_next hlt hS.go hS.sz
      have HR := take_any wr p 0 t k hS.rd
      have htk : tkC t 0 (k : Int) = (t.extract 0 k, 0, t.extract k t.size) := by rw [tkC, if_neg (by simp), if_neg (by omega)]; rfl
      rw [htk] at HR
      have e2 : IntKind.u64.wrap ((j : Int) + 1) = ((j + 1 : Nat) : Int) := by rw [IntKind.wrap_u64]; omega
      have HX : Hid (j + 1 ≤ c ∧ w3.heap.size ≤ g ∧ p < w3.heap.size) := ⟨hlt, hS.hg, k6⟩
      generalize t.extract 0 k = d at *
      generalize t.extract k t.size = t2 at *
      have HN : Hid (digL c k s.data.toList = (acc ++ [d]) ++ digL (c - (j + 1)) k t2.data.toList ∧ (c - (j + 1)) * k = t2.size) := ⟨n2, n3⟩
      have HO : Hid (∀ w1, Ch p wr w1 → w1.ownsRow g 9 1 (.slice (some ⟨g, 0, none⟩) j c) j (acc.map Value.string) ∧ Ch p w3 w1) := fun w1 hc1 => by
        refine ⟨keep_row hS.own fun b hb _ => ?_, hS.ch.trans hc1⟩
        cases hb
        exact hc1.block g (hS.own.lt g rfl).2 (by have := hS.hg; omega)
      clear hS k1 k2 k3 k4 k5 k6 n1 n2 n3 htk HS HT
      go_wp2_with (first
        | (go_at_call 151; with_reducible refine HR.mono ?_; rintro x w1 ⟨rfl, q1, q2⟩; replace HO := hideC (HO.out _ q2))
        | (go_at_call 106; refine (must_yes _ _ rfl).mono ?_; rintro x w5 ⟨rfl, rfl⟩)
        | (at_builtin; refine wpList_append_fits _ rfl _ _ _ rfl g 9 i0 1 Tryz.underlying22 HI.out.1 HI.out.2.2.1 g j c (acc.map Value.string) rfl (HO.out.1.alloc _) ⟨w5.heap.size, 0, none⟩ 1 1 ([d].map Value.string) rfl rfl (text_cells w5 d) (by intro u hu; obtain ⟨y, _, rfl⟩ := List.mem_map.1 hu; rfl) HX.out.1 ?_; intro w4 o4 g4))
      go_roundg (c - (j + 1))
      case rel =>
        go_light
        obtain ⟨x3, x6, x7⟩ := HX.out
        obtain ⟨y1, y2⟩ := HO.out
        have hlt := y1.lt g rfl
        have hb : Below w3.heap.size w5 w4 := (((Below.refl _ w5).alloc y2.below.size _)).grown g4 (by simp; have := y2.below.size; omega) (fun k hk => by cases hk; omega)
        have hb' : Below (p + 1) w5 w4 := hb.mono (by omega)
        refine ⟨j + 1, acc ++ [d], t2, rfl, by first | rfl | (congr 1), rfl, ⟨q1.next hb' (by omega), y2.low hb x7, ?_, x3, x6, HN.out.1, HN.out.2⟩⟩
        rw [List.map_append]; exact o4
      case measure => go_light; have := HX.out.1; omega
    · obtain rfl : j = c := by have := hS.jc; omega
      have hlt' : ¬ (j : Int) < (j : Int) := by omega
      clear hS k1 k2 k3 k4 k5 k6 hlt
      go_wp2
      go_ret
      have hS := HT.out
      have hl : acc.length = j := by have := hS.own.1; simpa using this
      have e := hS.go
      rw [Nat.sub_self, digL, List.append_nil] at e
      refine ⟨g, rfl, ?_, hS.ch, _, hS.rd⟩
      rw [e, OwnS, hl]
      exact hS.own.mono hS.hg
end Go.Proofs.YtdocjikpcbmcgaaGreatDoor
