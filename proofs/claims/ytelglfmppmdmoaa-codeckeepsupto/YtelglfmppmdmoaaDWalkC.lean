/-
  Walks of package codec: digests. Own work.
-/
import Derived.Test.YtelglfmppmdmoaaDWalkB
namespace Go.Proofs.Ytelglfmppmdmoaa
open Go.RowKit
attribute [local go_sem ↓] Go.wp_at_zero Go.wp_at_succ
theorem ba_ext {a b : ByteArray} (h : a.data.toList = b.data.toList) : a = b := by
  obtain ⟨⟨l⟩⟩ := a
  obtain ⟨⟨m⟩⟩ := b
  simp only at h
  rw [h]
theorem text_cells (w : World) (x : ByteArray) : ∀ (j : Nat) u, ([x].map Value.string)[j]? = some u → (w.alloc (.cells #[.string x] 9)).cell? ((⟨w.heap.size, 0, none⟩ : Addr).add j) = some u := fun j u hu => by
  rw [Addr.add_mid]; exact range_new w [.string x] 9 j u hu
/-- Where digests stands. -/
structure DigS (w : World) (p g c k : Nat) (l0 : List UInt8) (wr : World) (j : Nat) (acc : List ByteArray) (s : ByteArray) : Prop where
  rd : Rdr wr p s 0
  ch : Ch p w wr
  own : wr.ownsRow g 9 1 (.slice (some ⟨g, 0, none⟩) j c) j (acc.map Value.string)
  jc : j ≤ c
  hg : w.heap.size ≤ g
  go : digL c k l0 = acc ++ digL (c - j) k s.data.toList
  sz : (c - j) * k = s.size
theorem digs_next {c j k : Nat} (hj : j < c) {s : ByteArray} {l0 : List UInt8} {acc : List ByteArray} (h1 : digL c k l0 = acc ++ digL (c - j) k s.data.toList) (h2 : (c - j) * k = s.size) :
    k ≤ s.size ∧ digL c k l0 = (acc ++ [s.extract 0 k]) ++ digL (c - (j + 1)) k (s.extract k s.size).data.toList ∧ (c - (j + 1)) * k = (s.extract k s.size).size := by
  obtain ⟨m, hm⟩ : ∃ m, c - (j + 1) = m := ⟨_, rfl⟩
  have e : c - j = m + 1 := by omega
  rw [e, Nat.add_mul, Nat.one_mul] at h2
  have h3 := congrArg List.length (ext_drop s k)
  rw [size_list, List.length_drop, size_list] at h3
  refine ⟨by omega, ?_, by rw [hm]; omega⟩
  rw [h1, e, hm, digL, ext_drop, List.append_assoc, List.singleton_append]
  congr 2
  apply ba_ext
  rw [ext_take]
set_option maxRecDepth 100000 in
set_option maxHeartbeats 1000000 in
theorem digests_no (w : World) (p c k : Nat) (s : ByteArray) (hr : Rdr w p s 0) (hs : s.size ≤ 281474976710656) (hc : c ≤ 1099511627776) (hk : k ≤ 32) (h : ¬ c * k = s.data.toList.length) :
    Calls Try.prog 51 #[.pointer (some ⟨p, 0, none⟩), .int .u64 (c : Int), .int .i64 (k : Int)] w fun e w' => e = pnc ∧ w' = w := by
  have HL := left_any w p 0 s hr
  rw [size_list] at h
  have hm : c * k ≤ 1099511627776 * 32 := Nat.mul_le_mul hc hk
  have e1 : IntKind.u64.wrap (k : Int) = (k : Int) := by rw [IntKind.wrap_u64]; omega
  have e2 : IntKind.u64.wrap ((c : Int) * (k : Int)) = ((c * k : Nat) : Int) := by rw [IntKind.wrap_u64, ← Int.natCast_mul]; omega
  have e3 := szw hs
  have e4 : (((c * k : Nat) : Int) == (s.size : Int)) = false := beq_false_of_ne (by omega)
  generalize c * k = q at *
  clear hr hs hc hk h hm
  go_enter Try.func51, Try.ntmps51
  go_wp2_with (first
    | (go_at_call 67; with_reducible refine HL.mono ?_; rintro x w2 ⟨rfl, rfl⟩)
    | (go_at_call 50; refine (must_no _ _ (by first | rfl | exact e4 | exact decide_eq_false (by omega))).mono ?_; rintro x w3 ⟨rfl, rfl⟩))
  exact ⟨rfl, rfl, rfl⟩
set_option maxRecDepth 100000 in
set_option maxHeartbeats 1000000 in
theorem digests_ok (w : World) (p c k : Nat) (s : ByteArray) (hr : Rdr w p s 0) (hs : s.size ≤ 281474976710656) (hc : c ≤ 1099511627776) (hk : k ≤ 32) (h : c * k = s.data.toList.length) :
    Calls Try.prog 51 #[.pointer (some ⟨p, 0, none⟩), .int .u64 (c : Int), .int .i64 (k : Int)] w fun e w' => ∃ g, e = .returned (.slice (some ⟨g, 0, none⟩) c c) ∧ OwnS w' w.heap.size (.slice (some ⟨g, 0, none⟩) c c) (digL c k s.data.toList) ∧ Ch p w w' ∧ ∃ t, Rdr w' p t 0 := by
  have HL := left_any w p 0 s hr
  rw [size_list] at h
  have hm : c * k ≤ 1099511627776 * 32 := Nat.mul_le_mul hc hk
  obtain ⟨i0, i1, i2, i3, i4⟩ := info_parts Try.infoS
  have HI : Hid (Try.prog.info? 9 = some i0 ∧ i0.zero = some (.string ByteArray.empty) ∧ i0.size = 1 ∧ i0.bytes = 16) := ⟨i1, i2, i3, i4⟩
  have e1 : IntKind.u64.wrap (k : Int) = (k : Int) := by rw [IntKind.wrap_u64]; omega
  have e2 : IntKind.u64.wrap ((c : Int) * (k : Int)) = (s.size : Int) := by rw [IntKind.wrap_u64, ← Int.natCast_mul]; omega
  have e3 := szw hs
  have HK : Hid (Rdr w p s 0 ∧ s.size ≤ 281474976710656 ∧ c ≤ 1099511627776 ∧ k ≤ 32 ∧ c * k = s.size ∧ p < w.heap.size) := ⟨hr, hs, hc, hk, h, hr.lt⟩
  have hc' : (c : Int) ≤ 1099511627776 := by omega
  clear hr hs hc hk h hm i1 i2 i3 i4
  go_enter Try.func51, Try.ntmps51
  go_wp2_with (first
    | (go_at_call 67; with_reducible refine HL.mono ?_; rintro x w2 ⟨rfl, rfl⟩)
    | (go_at_call 50; refine (must_yes _ _ rfl).mono ?_; rintro x w3 ⟨rfl, rfl⟩)
    | (at_make; refine wpList_make_own _ rfl _ _ _ rfl w3.heap.size 9 i0 (.string ByteArray.empty) 1 Try.underlying24 HI.out.1 HI.out.2.1 HI.out.2.2.1 .i64 .u64 _ c rfl rfl rfl ?c1 ?c2 (Nat.le_refl _) ?_))
  case c1 => rw [HI.out.2.2.2]; have := HK.out; omega
  case c2 => have := HK.out; unfold maxLen; omega
  intro w4 o4 g4
  obtain ⟨g, hg⟩ : ∃ g, w3.heap.size = g := ⟨_, rfl⟩
  rw [hg] at o4
  have HS : Hid (DigS w3 p g c k s.data.toList w4 0 [] s) := by
    obtain ⟨k1, k2, k3, k4, k5, k6⟩ := HK.out
    have hb : Below w3.heap.size w3 w4 := (Below.refl _ _).grown g4 (Nat.le_refl _) (fun k hk => by cases hk)
    exact ⟨k1.next hb k6, (Ch.refl p w3).low hb k6, o4, Nat.zero_le _, by omega, by simp, by simpa using k5⟩
  rw [hg]
  clear o4 g4 HL hg e1 e2 e3
  go_wp2
  go_loopg [7, 8, 9, 22] c (fun m l d8 e9 ix wr => ∃ (j : Nat) (acc : List ByteArray) (t : ByteArray), m = c - j ∧ ix = .int .u64 (j : Int) ∧ l = .slice (some ⟨g, 0, none⟩) j c ∧ DigS w3 p g c k s.data.toList wr j acc t)
  case atStart =>
    go_light
    exact ⟨0, [], s, rfl, rfl, rfl, HS.out⟩
  case round =>
    obtain ⟨j, acc, t, rfl, rfl, rfl, hS⟩ := hrel
    obtain ⟨k1, k2, k3, k4, k5, k6⟩ := HK.out
    have HT : Hid (DigS w3 p g c k s.data.toList wr j acc t) := hS
    have hj0 : (0 : Int) ≤ (j : Int) := Int.natCast_nonneg _
    by_cases hlt : j < c
    · have hlt' : (j : Int) < (c : Int) := by omega
      obtain ⟨n1, n2, n3⟩ := digs_next hlt hS.go hS.sz
      have HR := take_any wr p 0 t k hS.rd
      have htk : tk t 0 (k : Int) = (t.extract 0 k, 0, t.extract k t.size) := by rw [tk, if_neg (by simp), if_neg (by omega)]; rfl
      rw [htk] at HR
      have e2 : IntKind.u64.wrap ((j : Int) + 1) = ((j + 1 : Nat) : Int) := by rw [IntKind.wrap_u64]; omega
      have HX : Hid (j + 1 ≤ c ∧ w3.heap.size ≤ g ∧ p < w3.heap.size) := ⟨hlt, hS.hg, k6⟩
      generalize t.extract 0 k = d at *
      generalize t.extract k t.size = t2 at *
      have HN : Hid (digL c k s.data.toList = (acc ++ [d]) ++ digL (c - (j + 1)) k t2.data.toList ∧ (c - (j + 1)) * k = t2.size) := ⟨n2, n3⟩
      have HO : Hid (∀ w1, Ch p wr w1 → w1.ownsRow g 9 1 (.slice (some ⟨g, 0, none⟩) j c) j (acc.map Value.string) ∧ Ch p w3 w1) := fun w1 hc1 => by
        refine ⟨keep_row hS.own fun b hb _ => ?_, hS.ch.trans hc1⟩
        cases hb
        exact hc1.block g (hS.own.lt g rfl).2 (by have := hS.hg; omega)
      clear hS k1 k2 k3 k4 k5 k6 n1 n2 n3 htk HS HT
      go_wp2_with (first
        | (go_at_call 65; with_reducible refine HR.mono ?_; rintro x w1 ⟨rfl, q1, q2⟩; replace HO := hide (HO.out _ q2))
        | (go_at_call 50; refine (must_yes _ _ rfl).mono ?_; rintro x w5 ⟨rfl, rfl⟩)
        | (at_builtin; refine wpList_append_fits _ rfl _ _ _ rfl g 9 i0 1 Try.underlying24 HI.out.1 HI.out.2.2.1 g j c (acc.map Value.string) rfl (HO.out.1.alloc _) ⟨w5.heap.size, 0, none⟩ 1 1 ([d].map Value.string) rfl rfl (text_cells w5 d) (by intro u hu; obtain ⟨y, _, rfl⟩ := List.mem_map.1 hu; rfl) HX.out.1 ?_; intro w4 o4 g4))
      go_roundg (c - (j + 1))
      case rel =>
        go_light
        obtain ⟨x3, x6, x7⟩ := HX.out
        obtain ⟨y1, y2⟩ := HO.out
        have hlt := y1.lt g rfl
        have hb : Below w3.heap.size w5 w4 := (((Below.refl _ w5).alloc y2.below.size _)).grown g4 (by simp; have := y2.below.size; omega) (fun k hk => by cases hk; omega)
        have hb' : Below (p + 1) w5 w4 := hb.mono (by omega)
        refine ⟨j + 1, acc ++ [d], t2, rfl, by first | rfl | (congr 1), rfl, ⟨q1.next hb' (by omega), y2.low hb x7, ?_, x3, x6, HN.out.1, HN.out.2⟩⟩
        rw [List.map_append]; exact o4
      case measure => go_light; have := HX.out.1; omega
    · obtain rfl : j = c := by have := hS.jc; omega
      have hlt' : ¬ (j : Int) < (j : Int) := by omega
      clear hS k1 k2 k3 k4 k5 k6 hlt
      go_wp2
      go_ret
      have hS := HT.out
      have hl : acc.length = j := by have := hS.own.1; simpa using this
      have e := hS.go
      rw [Nat.sub_self, digL, List.append_nil] at e
      refine ⟨g, rfl, ?_, hS.ch, _, hS.rd⟩
      rw [e, OwnS, hl]
      exact hS.own.mono hS.hg
end Go.Proofs.Ytelglfmppmdmoaa
