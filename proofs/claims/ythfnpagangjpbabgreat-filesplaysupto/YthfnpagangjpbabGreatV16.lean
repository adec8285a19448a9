/-
  Own work: DClone, DLay, DLay2.
-/
import Derived.Lib.BufferMore
import Derived.Test.YthfnpagangjpbabGreatV15
namespace Go.Proofs.YthfnpagangjpbabGreat
open Go.RowKit
def cB (ks : List Bool) : List Value := ks.map .bool
def OwnL (w : World) (B : Nat) (v : Value) (ks : List Bool) : Prop := w.ownsRow B 4 1 v ks.length (cB ks)
theorem Tryz.infoB : (Tryz.prog.info? 4).map (fun i => (i.zero, i.size, i.bytes)) = some (some (.bool false), 1, 1) := by kernel_rfl
theorem ownL_rd {w : World} {B : Nat} {v : Value} {ks : List Bool} (h : OwnL w B v ks) : ∃ ao b cap, v = .slice ao ks.length cap ∧ RdL w ao b 0 ks ∧ (0 < ks.length → Ty w b 4 ∧ B ≤ b) := by
  rcases h.2 with ⟨e1, e2⟩ | ⟨g, cap, cur, e1, e2, hb, h1, h2, h3, h4⟩
  · refine ⟨none, 0, 0, by rw [e1, e2], ⟨fun h0 => ?_, fun j hj => ?_⟩, fun h0 => ?_⟩ <;> omega
  · refine ⟨some ⟨g, 0, none⟩, g, cap, e1, ⟨fun _ => rfl, fun j hj => ?_⟩, fun _ => ⟨⟨_, _, hb⟩, e2⟩⟩
    rw [cell_of_row w g (0 + j) cur _ (0, 0) hb, Nat.zero_add]
    have := congrArg (fun x => x[j]?) h4
    simp only [List.getElem?_take, Nat.mul_one, if_pos hj] at this
    rw [Array.getElem?_toList] at this
    rw [this]
    simp [cB, List.getD_eq_getElem?_getD, hj]
set_option maxRecDepth 100000 in
set_option maxHeartbeats 1000000 in
theorem clone_any (w : World) (ao : Option Addr) (b o c : Nat) (ks : List Bool) (hk : RdL w ao b o ks) (hkl : ks.length ≤ 140737488355328) :
    Calls Tryz.prog 88 #[.slice ao ks.length c] w fun e w' => ∃ v, e = .returned v ∧ OwnL w' w.heap.size v ks ∧ Below w.heap.size w w' := by
  obtain ⟨i0, hi, hz0, hz1, hz2⟩ := info_parts Tryz.infoB
  obtain ⟨n, hn⟩ : ∃ n, ks.length = n := ⟨_, rfl⟩
  cases ao with
  | none =>
    have h0 : ks = [] := by
      rcases Nat.eq_zero_or_pos ks.length with q | q
      · exact List.length_eq_zero_iff.1 q
      · have := hk.ptr q; cases this
    subst h0
    simp only [List.length_nil] at hn ⊢
    subst hn
    have HE := Lib.run_eql_slice_nil_nil (P := Tryz.prog) w 0 c Tryz.underlying49
    clear hk hkl
    go_enter Tryz.func88, Tryz.ntmps88
    go_wp2
    go_ret
    exact ⟨_, rfl, ⟨rfl, .inl ⟨rfl, rfl⟩⟩, Below.refl _ _⟩
  | some a =>
    have HH : Hid (RdL w (some a) b o ks ∧ ks.length = n ∧ n ≤ 140737488355328) := ⟨hk, hn, by omega⟩
    have hb := bal (Below.refl w.heap.size w) (.cells #[] 4)
    have HO : Hid ((w.alloc (.cells #[] 4)).ownsRow w.heap.size 4 1 (.slice (some ⟨w.heap.size, 0, none⟩) 0 0) 0 []) := ⟨rfl, .inr ⟨w.heap.size, 0, _, rfl, Nat.le_refl _, new1 w _, Nat.zero_le _, by decide, rfl, rfl⟩⟩
    have HR := hide (hk.next hb)
    have HB := hide hb
    have HE := Lib.run_eql_slice_some_nil (P := Tryz.prog) w a n c Tryz.underlying49
    rw [hn]
    clear hk hkl hn hb
    go_enter Tryz.func88, Tryz.ntmps88
    go_wp2_with (at_builtin; refine wpList_append_own _ rfl _ _ 49 rfl w.heap.size 4 i0 (.bool false) 1 1 Tryz.underlying49 hi hz0 hz1 hz2 rfl (by decide) _ 0 [] rfl HO.out _ n c (cB ks) rfl ?c0 ?c1 ?c2 ?c3 ?c4 ?c5 ?_)
    case c0 => rw [cB, List.length_map, HH.out.2.1, Nat.mul_one]
    case c1 =>
      intro j u hu
      have hj : j < ks.length := by have := (List.getElem?_eq_some_iff.1 hu).1; simpa [cB] using this
      have ep := HR.out.ptr (by omega)
      injection ep with ep
      rw [ep, Addr.add_mid, HR.out.cell j hj]
      rw [← hu]
      simp [cB, List.getD_eq_getElem?_getD, hj]
    case c2 =>
      intro u hu
      obtain ⟨x, _, rfl⟩ := List.mem_map.1 hu
      rfl
    case c3 => have := HH.out.2.2; unfold maxLen; omega
    case c4 => have := HH.out.2.2; omega
    case c5 => have := HB.out.size; exact this
    intro v' w' o' g' _
    have HY : Hid (OwnL w' w.heap.size v' ks ∧ Below w.heap.size w w') := by
      refine ⟨?_, HB.out.trans ((Below.refl _ _).grown g' HB.out.size (fun k hk => by cases hk; exact Nat.le_refl _))⟩
      unfold OwnL
      rw [HH.out.2.1]
      exact o'
    clear o' g'
    go_wp2
    go_ret
    exact ⟨_, rfl, HY.out.1, HY.out.2⟩
end Go.Proofs.YthfnpagangjpbabGreat
namespace Go.Proofs.YthfnpagangjpbabGreat
open Go.RowKit
def layD (D : DV) (a k : Int) (ks : List Bool) : DV := if D.down then D else if 1 ≤ a ∧ 1 ≤ k ∧ k ≤ 5 then { D with fa := a, fk := k, ks := ks } else { D with fa := 0, fk := 0, ks := [] }
theorem Dk.fate {w W : World} {p m : Nat} {R : List UInt8 → FR} {ka : Option Addr} {kb ko kc : Nat} {D : DV} (h : Dk w p m R ka kb ko kc D none) (hu : Upo (fun x => x = p) w W) {a k : Int} {ks : List Bool} {ka' : Option Addr} {kb' ko' kc' : Nat}
    (hblk : W.heap[p]? = some (.cells #[.int .i64 (D.free : Int), .map (some m), .int .i64 (D.acts : Int), .int .i64 a, .int .i64 k, .slice ka' ks.length kc', .bool D.down] 69 (0, 0)))
    (hk : RdL W ka' kb' ko' ks) (ht : 0 < ks.length → Ty W kb' 4) (hl : ks.length ≤ 140737488355328) (hf : k = 0 ∨ (1 ≤ k ∧ k ≤ 5 ∧ 1 ≤ a ∧ a ≤ 9223372036854775807)) : Dk W p m R ka' kb' ko' kc' { D with fa := a, fk := k, ks := ks } none := by
  have hm := hu.block m h.mp.lt (fun e => h.pm e.symm)
  have hx : ∀ x, Ty w x 5 → W.heap[x]? = w.heap[x]? := fun x hx => hu.block x hx.lt (h.other hx).1
  exact ⟨hblk, h.mp.same hm, h.ord, fun s hs he => (h.fil s hs he).same fun x hx' => hx x (h.low s hs x hx'), fun s hs x hx' => (h.low s hs x hx').same (hx x (h.low s hs x hx')), h.apart, h.nm, h.cnt, hk, ht, hl, h.fr, h.ac, hf⟩
theorem set345 {W : World} {q : Nat} {x0 x1 x2 x3 x4 x5 x6 : Value} {T : TypeId} (h : W.heap[q]? = some (.cells #[x0, x1, x2, x3, x4, x5, x6] T (0, 0))) (a b c : Value) :
    (((W.setCell ⟨q, 3, none⟩ a).setCell ⟨q, 4, none⟩ b).setCell ⟨q, 5, none⟩ c).heap[q]? = some (.cells #[x0, x1, x2, a, b, c, x6] T (0, 0)) := by
  have h1 : (W.setCell ⟨q, 3, none⟩ a).heap[q]? = some (.cells #[x0, x1, x2, a, x4, x5, x6] T (0, 0)) := heap_setCell_same W q 3 _ _ a h
  have h2 : ((W.setCell ⟨q, 3, none⟩ a).setCell ⟨q, 4, none⟩ b).heap[q]? = some (.cells #[x0, x1, x2, a, b, x5, x6] T (0, 0)) := heap_setCell_same _ q 4 _ _ b h1
  exact heap_setCell_same _ q 5 _ _ c h2
theorem upo345 {W0 W : World} {q : Nat} (h : Upo (fun x => x = q) W0 W) (a b c : Value) : Upo (fun x => x = q) W0 (((W.setCell ⟨q, 3, none⟩ a).setCell ⟨q, 4, none⟩ b).setCell ⟨q, 5, none⟩ c) :=
  ((h.set _ _ _ (.inl rfl)).set _ _ _ (.inl rfl)).set _ _ _ (.inl rfl)
def LayLeft (w w' : World) (p m : Nat) (R : List UInt8 → FR) (kb : Nat) (D D' : DV) : Prop := ∃ ka' kb' ko' kc', Dk w' p m R ka' kb' ko' kc' D' none ∧ (∀ x, Foot p m R kb' D' x → Foot p m R kb D x ∨ w.heap.size ≤ x) ∧ Upo (fun x => x = p) w w'
section
variable {p m : Nat} {R : List UInt8 → FR} {ka : Option Addr} {kb ko kc : Nat} {D : DV}
set_option maxRecDepth 100000 in
set_option maxHeartbeats 2000000 in
theorem lay_any (w : World) (h : Dk w p m R ka kb ko kc D none) (a k : Int) (ha : a ≤ 9223372036854775807) (ao : Option Addr) (b o c : Nat) (ks : List Bool) (hk : RdL w ao b o ks) (hkl : ks.length ≤ 140737488355328) (hne : 0 < ks.length → b ≠ p) :
    Calls Tryz.prog 38 #[.pointer (some ⟨p, 0, none⟩), .agg #[.int .i64 a, .int .i64 k, .slice ao ks.length c]] w fun e w' => e = .returned (.tuple #[]) ∧ LayLeft w w' p m R kb D (layD D a k ks) := by
  obtain ⟨n, hn⟩ : ∃ n, ks.length = n := ⟨_, rfl⟩
  obtain ⟨w1, hw1⟩ : ∃ W, w.alloc (.cells #[.int .i64 a, .int .i64 k, .slice ao n c] 62) = W := ⟨_, rfl⟩
  have HW1 := hide hw1
  have HNe := hide hne
  clear hne
  have hb1 : Below w.heap.size w w1 := by rw [← hw1]; exact bal (Below.refl _ _) _
  have bx : w1.heap[w.heap.size]? = some (.cells #[.int .i64 a, .int .i64 k, .slice ao n c] 62 (0, 0)) := by rw [← hw1]; exact new1 _ _
  have h1 := h.next hb1
  have hlt := h.lt (.inl rfl)
  obtain ⟨c0, c1, c2, c3, c4, c5, c6⟩ := h1.cells
  have fz := h1.frz
  have HH : Hid (Dk w p m R ka kb ko kc D none ∧ Dk w1 p m R ka kb ko kc D none ∧ Below w.heap.size w w1 ∧ RdL w ao b o ks ∧ ks.length = n ∧ n ≤ 140737488355328 ∧ p < w.heap.size ∧ w1.heap[w.heap.size]? = some (.cells #[.int .i64 a, .int .i64 k, .slice ao n c] 62 (0, 0))) := ⟨h, h1, hb1, hk, hn, by omega, hlt, bx⟩
  rw [hn]
  by_cases hd : D.down = true
  · have HL : Hid (layD D a k ks = D) := if_pos hd
    rw [hd] at c6
    clear h hk hkl hn hw1 hb1 bx h1 hlt hd
    go_enter Tryz.func38, Tryz.ntmps38
    go_upto_region 1 with (fail)
    rw [HW1.out]
    go_wp2
    refine bodyPost_ret (v := .tuple #[]) (by simp [results, Tryz.results38, go_sem]) rfl ⟨rfl, ?_⟩
    rw [HL.out]
    exact ⟨ka, kb, ko, kc, HH.out.2.1, fun x hx => .inl hx, Upo.of HH.out.2.2.1⟩
  have hd2 : D.down = false := by simpa using hd
  rw [hd2] at c6
  obtain ⟨w2, hw2⟩ : ∃ W, ((w1.setCell ⟨p, 3, none⟩ (.int .i64 0)).setCell ⟨p, 4, none⟩ (.int .i64 0)).setCell ⟨p, 5, none⟩ (.slice none 0 0) = W := ⟨_, rfl⟩
  have HW2 := hide hw2
  have u2 : Upo (fun x => x = p) w1 w2 := by rw [← hw2]; exact upo345 (Upo.refl _ _) _ _ _
  have j2 : w2.heap[p]? = some (.cells #[.int .i64 (D.free : Int), .map (some m), .int .i64 (D.acts : Int), .int .i64 0, .int .i64 0, .slice none 0 0, .bool D.down] 69 (0, 0)) := by rw [← hw2]; exact set345 h1.blk _ _ _
  have bx2 := (u2.block w.heap.size (Array.getElem?_eq_some_iff.1 bx).1 (by omega)).trans bx
  obtain ⟨b0, b1, b2⟩ := three_at bx2
  have HJ : Hid (Upo (fun x => x = p) w1 w2 ∧ w2.heap[p]? = some (.cells #[.int .i64 (D.free : Int), .map (some m), .int .i64 (D.acts : Int), .int .i64 0, .int .i64 0, .slice none 0 0, .bool D.down] 69 (0, 0)) ∧ D.down = false) := ⟨u2, j2, hd2⟩
  clear h hk hkl hn hw1 hb1 bx h1 hlt hd hd2 hw2 u2 j2 bx2
  go_enter Tryz.func38, Tryz.ntmps38
  go_upto_region 1 with (fail)
  rw [HW1.out]
  go_upto_region 3 with (fail)
  rw [HW2.out]
  clear c0 c1 c2 c3 c4 c5 c6 fz HW1 HW2
  by_cases hf : 1 ≤ a ∧ 1 ≤ k ∧ k ≤ 5
  · obtain ⟨f1, f2, f3⟩ := hf
    have HL : Hid (layD D a k ks = { D with fa := a, fk := k, ks := ks }) := by show _ = _; unfold layD; rw [if_neg (by simp [HJ.out.2.2]), if_pos ⟨f1, f2, f3⟩]
    have HCl : Hid (Calls Tryz.prog 88 #[.slice ao n c] w2.drew fun e w' => ∃ v, e = .returned v ∧ OwnL w' w2.heap.size v ks ∧ Below w2.heap.size w2 w') := by
      obtain ⟨g1, g2, g3, g4, g5, g6, g7, g8⟩ := HH.out
      have hne := HNe.out
      have hr2 : RdL w2 ao b o ks := (g4.next g3).same fun h0 => HJ.out.1.block b ((g4.next g3).lt h0) (hne h0)
      have := clone_any w2.drew ao b o c ks (hr2.same fun _ => rfl) (by omega)
      rw [g5] at this
      exact this.mono fun e w' z => by obtain ⟨v, z1, z2, z3⟩ := z; exact ⟨v, z1, z2, ⟨z3.os, z3.tape, z3.output, z3.size, z3.block⟩⟩
    have HF : Hid (∀ W, Below w2.heap.size w2 W → W.cell? ⟨p, 3, none⟩ = some (.int .i64 0) ∧ W.cell? ⟨p, 4, none⟩ = some (.int .i64 0) ∧ W.cell? ⟨p, 5, none⟩ = some (.slice none 0 0) ∧ (∀ j, W.frozen? ⟨p, j, none⟩ = false) ∧ W.cell? ⟨w.heap.size, 0, none⟩ = some (.int .i64 a) ∧ W.cell? ⟨w.heap.size, 1, none⟩ = some (.int .i64 k) ∧ W.cell? ⟨w.heap.size, 2, none⟩ = some (.slice ao n c)) := fun W hW => by
      obtain ⟨g1, g2, g3, g4, g5, g6, g7, g8⟩ := HH.out
      have jW := (hW.block p (Array.getElem?_eq_some_iff.1 HJ.out.2.1).1).trans HJ.out.2.1
      have bW := (HJ.out.1.block w.heap.size (Array.getElem?_eq_some_iff.1 g8).1 (by omega)).trans g8
      have bW2 := (hW.block _ (Array.getElem?_eq_some_iff.1 bW).1).trans bW
      obtain ⟨y0, y1, y2, y3, y4, y5, y6⟩ := seven_at jW
      obtain ⟨v0, v1, v2⟩ := three_at bW2
      exact ⟨y3, y4, y5, fun j => frozen_of_row W p j _ _ jW, v0, v1, v2⟩
    obtain ⟨z3, z4, z5, zf, z0, z1, z2⟩ := HF.out w2 (Below.refl _ _)
    have HX : Hid (∀ W qa qb qc, Below w2.heap.size w2 W → RdL W qa qb 0 ks → (0 < ks.length → Ty W qb 4 ∧ w2.heap.size ≤ qb) → LayLeft w (((W.setCell ⟨p, 3, none⟩ (.int .i64 a)).setCell ⟨p, 4, none⟩ (.int .i64 k)).setCell ⟨p, 5, none⟩ (.slice qa ks.length qc)) p m R kb D (layD D a k ks)) := fun W qa qb qc hW hr ht => by
      obtain ⟨g1, g2, g3, g4, g5, g6, g7, g8⟩ := HH.out
      have jW := (hW.block p (Array.getElem?_eq_some_iff.1 HJ.out.2.1).1).trans HJ.out.2.1
      have u1 : Upo (fun x => x = p) w1 (((W.setCell ⟨p, 3, none⟩ (.int .i64 a)).setCell ⟨p, 4, none⟩ (.int .i64 k)).setCell ⟨p, 5, none⟩ (.slice qa ks.length qc)) := upo345 (HJ.out.1.next hW) _ _ _
      have uW : Upo (fun x => x = p) W (((W.setCell ⟨p, 3, none⟩ (.int .i64 a)).setCell ⟨p, 4, none⟩ (.int .i64 k)).setCell ⟨p, 5, none⟩ (.slice qa ks.length qc)) := upo345 (Upo.refl _ _) _ _ _
      have hp2 : p < w2.heap.size := (Array.getElem?_eq_some_iff.1 HJ.out.2.1).1
      have kq : 0 < ks.length → (((W.setCell ⟨p, 3, none⟩ (.int .i64 a)).setCell ⟨p, 4, none⟩ (.int .i64 k)).setCell ⟨p, 5, none⟩ (.slice qa ks.length qc)).heap[qb]? = W.heap[qb]? := fun h0 => uW.block qb (hr.lt h0) (by have := (ht h0).2; omega)
      rw [HL.out]
      refine ⟨qa, qb, 0, qc, g2.fate u1 (set345 jW _ _ _) (hr.same kq) (fun h0 => (ht h0).1.same (kq h0)) (by omega) (.inr ⟨f2, f3, f1, ha⟩), fun x hx => ?_, (Upo.of g3).trans u1 (fun _ _ q => q)⟩
      rcases hx with q | q | q | ⟨q, e⟩
      · exact .inl (.inl q)
      · exact .inl (.inr (.inl q))
      · exact .inl (.inr (.inr (.inl q)))
      · have h1 := (ht q).2
        have h2 := g3.size
        have h3 := HJ.out.1.size
        exact .inr (by omega)
    go_upto_region 4 with (fail)
    go_region_with (go_at_call 88; (with_reducible refine HCl.out.mono ?_); rintro e w3 ⟨v, rfl, ho, hb3⟩; obtain ⟨qa, qb, qc, rfl, hr3, ht3⟩ := ownL_rd ho; obtain ⟨y3, y4, y5, yf, y0, y1, y2⟩ := HF.out w3 hb3)
    all_goals
      go_end0
      exact ⟨rfl, HX.out w3 qa qb qc hb3 hr3 ht3⟩
  · have HL : Hid (layD D a k ks = { D with fa := 0, fk := 0, ks := [] }) := by show _ = _; unfold layD; rw [if_neg (by simp [HJ.out.2.2]), if_neg hf]
    have HE : Hid (LayLeft w w2 p m R kb D (layD D a k ks)) := by
      obtain ⟨g1, g2, g3, g4, g5, g6, g7, g8⟩ := HH.out
      rw [HL.out]
      refine ⟨none, 0, 0, 0, g2.fate HJ.out.1 HJ.out.2.1 (rdl_nil _ _ _ _) (fun h0 => by simp at h0) (Nat.zero_le _) (.inl rfl), fun x hx => ?_, (Upo.of g3).trans HJ.out.1 (fun _ _ q => q)⟩
      rcases hx with q | q | q | ⟨q, _⟩
      · exact .inl (.inl q)
      · exact .inl (.inr (.inl q))
      · exact .inl (.inr (.inr (.inl q)))
      · simp at q
    clear HH HJ HL
    by_cases f1 : a ≥ 1
    · by_cases f2 : k ≥ 1
      · have f3 : ¬ (k ≤ 5) := fun q => hf ⟨f1, f2, q⟩
        clear hf
        go_wp2
        go_end0
        exact ⟨rfl, HE.out⟩
      · clear hf
        go_wp2
        go_end0
        exact ⟨rfl, HE.out⟩
    · clear hf
      go_wp2
      go_end0
      exact ⟨rfl, HE.out⟩
end
end Go.Proofs.YthfnpagangjpbabGreat
namespace Go.Proofs.YthfnpagangjpbabGreat
open Go.RowKit
theorem Dsk.lay {w : World} {p : Nat} {S : Nat → Prop} {D : DV} (h : Dsk w p S D) (a k : Int) (ha : a ≤ 9223372036854775807) (ao : Option Addr) (b o c : Nat) (ks : List Bool) (hk : RdL w ao b o ks) (hkl : ks.length ≤ 140737488355328) (hne : 0 < ks.length → ¬ S b) :
    Calls Tryz.prog 38 #[.pointer (some ⟨p, 0, none⟩), .agg #[.int .i64 a, .int .i64 k, .slice ao ks.length c]] w fun e w' => e = .returned (.tuple #[]) ∧ Mvd w w' p S (layD D a k ks) := by
  obtain ⟨m, R, ka, kb, ko, kc, h1, h2⟩ := h
  refine (lay_any w h1 a k ha ao b o c ks hk hkl (fun h0 e => hne h0 ((h2 b).1 (.inl e)))).mono fun e w' z => ⟨z.1, ?_⟩
  obtain ⟨ka', kb', ko', kc', q1, q2, q3⟩ := z.2
  exact ⟨Foot p m R kb' (layD D a k ks), ⟨m, R, ka', kb', ko', kc', q1, fun _ => Iff.rfl⟩, fun x hx => (q2 x hx).imp (h2 x).1 id, q3.mono (fun x _ q => (h2 x).1 (.inl q))⟩
end Go.Proofs.YthfnpagangjpbabGreat
