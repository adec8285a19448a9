/-
  Rows of bytes that a text's bytes are appended to; codec's laid. Own work.
-/
import Derived.Test.YtelglfmppmdmoaaDWalkE
import Derived.Deep.AppendSrc
import Derived.Lib.AppendStr
import Derived.Deep.Upon
namespace Go.Proofs.Ytelglfmppmdmoaa
open Go.RowKit
open Cv (Chain)
attribute [local go_sem ↓] Go.wp_at_zero Go.wp_at_succ
/-- A row of bytes of one's own, with its room. -/
def Row8 (w : World) (B : Nat) (v : Value) (l : List UInt8) : Prop :=
  ∃ g cap, v = .slice (some ⟨g, 0, none⟩) l.length cap ∧ B ≤ g ∧ g < w.heap.size ∧ w.rangeAt g 0 (cY l) ∧ w.there g 0 cap ∧ l.length ≤ cap
theorem cells8 (t : ByteArray) : byteCells t = cY t.data.toList := rfl
theorem cells9 (t : ByteArray) : Lib.strCells t = cY t.data.toList := rfl
theorem cY_app (l m : List UInt8) : cY (l ++ m) = cY l ++ cY m := by simp [cY]
theorem row8_new (w : World) (s : ByteArray) (cap : Nat) (hc : s.size ≤ cap) : Row8 (w.alloc (.cells (bytesRow s cap) 5 ((bytesRow s cap).size, (bytesRow s cap).size + 1))) w.heap.size (.slice (some ⟨w.heap.size, 0, none⟩) s.size cap) s.data.toList := by
  have hd : s.data.size = s.size := rfl
  have hsz : (bytesRow s cap).size = cap := by simp only [bytesRow, Array.size_append, Array.size_map, Array.size_replicate, hd]; omega
  refine ⟨w.heap.size, cap, by rw [size_list], Nat.le_refl _, by simp, fun j v hv => ?_, fun j hj => ⟨?_, ?_⟩, by rw [size_list]; exact hc⟩
  · have hj : j < s.data.size := by have := (List.getElem?_eq_some_iff.1 hv).1; rw [cY_len, Array.length_toList] at this; exact this
    rw [Nat.zero_add, World.cell?_alloc_mark, bytesRow_at s cap j hj, ← hv]
    simp [cY, Array.getElem?_eq_getElem hj]
  · rw [Nat.zero_add, World.cell?_alloc_mark, Array.getElem?_eq_getElem (by omega)]; rfl
  · rw [Nat.zero_add, World.frozen?_alloc_mark, hsz]
    simp
    omega
theorem there_new (w : World) (cs : Array Value) (t : TypeId) (n : Nat) (hn : n ≤ cs.size) : (w.alloc (.cells cs t)).there w.heap.size 0 n := fun j hj => by
  refine ⟨?_, World.frozen?_alloc_new _ _ _ _⟩
  rw [World.cell?_alloc_new, Nat.zero_add, Array.getElem?_eq_getElem (by omega)]; rfl
theorem Row8.next {w w' : World} {B : Nat} {v : Value} {l : List UInt8} (h : Row8 w B v l) (hb : Below w.heap.size w w') : Row8 w' B v l := by
  obtain ⟨g, cap, rfl, h1, h2, h3, h4, h5⟩ := h
  refine ⟨g, cap, rfl, h1, Nat.lt_of_lt_of_le h2 hb.size, range_below hb h2 h3, fun j hj => ?_, h5⟩
  rw [hb.cell (p := ⟨g, 0 + j, none⟩) h2, hb.frozen (p := ⟨g, 0 + j, none⟩) h2]; exact h4 j hj
theorem Row8.conv {w : World} {B : Nat} {v : Value} {l : List UInt8} (h : Row8 w B v l) : (convert 38 9 v).run Try.prog w = .ok (.string ⟨l.toArray⟩) w := by
  obtain ⟨g, cap, rfl, h1, h2, h3, h4, h5⟩ := h
  refine run_convert_bytes_back _ 38 9 5 ⟨g, 0, none⟩ cap l Try.underlying38 Try.underlying5 Try.underlying9 fun j hj => ?_
  rw [Addr.add_mid]
  exact h3 j _ (by simp [cY, List.getElem?_eq_getElem hj])
theorem below_set8 {B g : Nat} (hg : B ≤ g) : ∀ (vs : List Value) (o : Nat) (w : World), Below B w (w.setCells g o vs)
  | [], _, _ => Below.refl _ _
  | v :: r, o, w => ((Below.refl B w).setCell (p := ⟨g, o, none⟩) hg v).trans (below_set8 hg r (o + 1) _)
theorem wpList_append_8 (w : World) {ops : Array Oper} {rest : List Oper} {o : Oper} {a : Act} {Q : Exit → Act → World → Prop}
    (hg : o.guard = none) (s x : Operand) (hop : o.op = Op.call { callee := Callee.builtin Builtin.append, args := #[s, x], argTypes := #[38, 9] })
    (B : Nat) (v : Value) (l : List UInt8) (hs : a.eval s = v) (h : Row8 w B v l) (t : ByteArray) (hx : a.eval x = .string t) (hlen : l.length + t.size ≤ 140737488355328) (hB : B ≤ w.heap.size)
    (hK : ∀ v' w', Row8 w' B v' (l ++ t.data.toList) → Below B w w' → wpList Try.prog ops Q rest (a.put o.dst v') w') : wpList Try.prog ops Q (o :: rest) a w := by
  obtain ⟨i0, hi, hz0, hz1, hz2⟩ := info_parts Try.infoY
  obtain ⟨g, cap, rfl, h1, h2, h3, h4, h5⟩ := h
  refine wpList_plain hg fun K hK' => ?_
  have ht : (byteCells t).length = t.size := by rw [cells8, cY_len, size_list]
  have main : ∃ v' w', (Builtin.append_ #[38, 9] o.type #[.slice (some ⟨g, 0, none⟩) l.length cap, .string t]).run Try.prog w = .ok v' w' ∧ Row8 w' B v' (l ++ t.data.toList) ∧ Below B w w' := by
    by_cases hroom : l.length + t.size ≤ cap
    · have hr := run_append_room_src (P := Try.prog) w 38 9 o.type 5 i0 Try.underlying38 hi g 0 l.length cap (.string t) t.size (byteCells t) (by rw [hz1]; exact Src.ofString w Try.underlying9 t) hroom
        (fun j hj => by rw [hz1, Nat.mul_one, Nat.add_assoc]; exact (h4 (l.length + j) (by omega)).1) (fun j hj => by rw [hz1, Nat.mul_one, Nat.add_assoc]; exact (h4 (l.length + j) (by omega)).2)
      refine ⟨_, _, hr, ⟨g, cap, by simp, h1, ?_, ?_, World.there_setCells h4 _ _ _, by simp; omega⟩, ?_⟩
      · have := World.isSome_setCells g (byteCells t) (0 + l.length * i0.size) w
        rcases Nat.eq_zero_or_pos cap with h0 | h0
        · have hb : (byteCells t) = [] := List.length_eq_zero_iff.1 (by omega)
          rw [hb]; exact h2
        · obtain ⟨u, hu⟩ := Option.isSome_iff_exists.1 (this ⟨g, 0 + 0, none⟩ (h4 0 h0).1)
          exact World.block_lt_of_cell? _ _ hu
      · rw [hz1, Nat.mul_one, cY_app]
        intro j u hu
        by_cases hj : j < l.length
        · rw [List.getElem?_append_left (by rw [cY_len]; exact hj)] at hu
          exact World.rangeAt_setCells_apart h3 g (0 + l.length) (byteCells t) (.inr (.inl (by rw [cY_len]; exact Nat.le_refl _))) j u hu
        · rw [List.getElem?_append_right (by rw [cY_len]; omega), cY_len] at hu
          have := World.rangeAt_setCells_same w g (0 + l.length) (byteCells t) (fun j hj => by rw [Nat.add_assoc]; exact h4 (l.length + j) (by omega)) (j - l.length) u hu
          rwa [show 0 + l.length + (j - l.length) = 0 + j by omega] at this
      · exact below_set8 h1 _ _ _
    · have hr := Lib.run_append_grow_string (P := Try.prog) w 38 9 o.type 5 i0 (.int .u8 0) Try.underlying38 Try.underlying9 hi hz0 ⟨g, 0, none⟩ l.length cap (cY l) (by rw [hz1, cY_len, Nat.mul_one]) (fun j u hu => by rw [Addr.add_mid]; exact h3 j u hu) t (by omega) (by omega) (by rw [hz2]; exact growslice_fits (by omega) (by omega))
      have hge := grownCap_ge w (l.length + t.size) cap 5
      refine ⟨_, _, hr, ⟨w.heap.size, grownCap w (l.length + t.size) cap 5, by simp, hB, by simp, ?_, ?_, by simp; exact hge⟩, ?_⟩
      · intro j u hu
        show (w.drew.alloc _).cell? ⟨w.drew.heap.size, 0 + j, none⟩ = some u
        rw [World.cell?_alloc_new, Nat.zero_add]
        rw [cY_app, ← cells9] at hu
        rw [Array.getElem?_append_left (by have := (List.getElem?_eq_some_iff.1 hu).1; simpa using this)]
        simpa using hu
      · refine there_new w.drew _ 5 _ ?_
        have hz1' : (Value.int IntKind.u8 0).cells.size = 1 := rfl
        simp only [Array.size_append, List.size_toArray, size_zeroCells, hz1', cY_len, cells9, size_list]
        omega
      · exact (below_drewN (Below.refl B w) 1).alloc hB _
  obtain ⟨v', w', hr, hw, hb⟩ := main
  unfold Oper.wp
  simp [execOp, hop, resolve, invoke, builtin, hs, hx, hr, Result.andThen]
  exact hK' _ _ (hK v' w' hw hb)
theorem bytes8 (W : World) (t : ByteArray) : ∃ v W', (convert 9 38 (.string t)).run Try.prog W = .ok v W' ∧ Row8 W' W.heap.size v t.data.toList ∧ Below W.heap.size W W' := by
  have h := run_bytes_of_string (P := Try.prog) W 9 38 5 t Try.underlying9 Try.underlying38 Try.underlying5
  exact ⟨_, _, h, row8_new W.drew t _ (grownCap_ge W t.size 0 5), (below_drewN (Below.refl _ W) 1).alloc (Nat.le_refl _) _⟩
theorem chain_at : ∀ {S : List Nat} {x n : Nat}, Chain x S n → ∀ j, j < S.length → nxt x (S.take j) ≤ S.getD j 0 ∧ S.getD j 0 < n := by
  intro S
  induction S with
  | nil => intro x n _ j hj; simp at hj
  | cons i S ih =>
    intro x n h j hj
    cases j with
    | zero => exact ⟨h.1, by have := Cv.chain_le h.2; simp; omega⟩
    | succ j => have := ih h.2 j (by simpa using hj); simpa [nxt] using this
theorem laidL_le : ∀ {S : List Nat} {x n : Nat}, Chain x S n → n ≤ 2 ^ 64 → (laidL x S).length ≤ 10 * S.length := by
  intro S
  induction S with
  | nil => intro x n _ _; simp [laidL]
  | cons i S ih =>
    intro x n h hn
    have := ih h.2 hn
    have := Cv.chain_le h.2
    have := num_len (n := i - x) (by omega)
    rw [laidL, List.length_append, List.length_cons]
    omega
theorem laidL_part {n : Nat} (hn : n ≤ 2 ^ 64) : ∀ {S : List Nat} {x : Nat}, Chain x S n → ∀ j, (laidL x (S.take j)).length ≤ 10 * S.length := by
  intro S
  induction S with
  | nil => intro x _ j; simp [laidL]
  | cons i S ih =>
    intro x h j
    cases j with
    | zero => simp [laidL]
    | succ j =>
      have := ih h.2 j
      have := Cv.chain_le h.2
      have := num_len (n := i - x) (by omega)
      rw [List.take_succ_cons, laidL, List.length_append, List.length_cons]
      omega
theorem take_next {S : List Nat} {j : Nat} (hj : j < S.length) : S.take (j + 1) = S.take j ++ [S.getD j 0] := by
  rw [List.take_add_one, List.getElem?_eq_getElem hj, List.getD_eq_getElem?_getD, List.getElem?_eq_getElem hj]; rfl
set_option maxRecDepth 100000 in
set_option maxHeartbeats 1000000 in
theorem laid_any (w : World) (sa : Option Addr) (sb so sc : Nat) (S : List Nat) (n : Nat) (rs : RdU w sa sb so S.length S) (hc : Chain 0 S n) (hn : n ≤ 1099511627776) :
    Calls Try.prog 53 #[.slice sa S.length sc] w fun e w' => e = .returned (.string ⟨(num S.length ++ laidL 0 S).toArray⟩) ∧ Below w.heap.size w w' := by
  have hl := chain_len hc
  have HN := fun W => num_any W S.length (by omega)
  have e0 : IntKind.u64.wrap (S.length : Int) = (S.length : Int) := by rw [IntKind.wrap_u64]; omega
  have HS : Hid (RdU w sa sb so S.length S ∧ Chain 0 S n ∧ n ≤ 1099511627776 ∧ S.length ≤ n) := ⟨rs, hc, hn, by omega⟩
  have hm9 : (S.length : Int) ≤ 1099511627776 := by omega
  obtain ⟨m, hm⟩ : ∃ m, S.length = m := ⟨_, rfl⟩
  have HM : Hid (S.length = m) := hm
  rw [hm] at HN e0 hm9 ⊢
  clear rs hc hn hl hm
  have HZ : Hid ((num m).length ≤ 10) := num_len (by omega)
  go_enter Try.func53, Try.ntmps53
  go_upto_region 2 with (go_at_call 52; with_reducible refine (HN _).mono ?_; rintro x w1 ⟨rfl, hb1⟩; (obtain ⟨v1, W1, kb1, r1, b1⟩ := bytes8 w1 ⟨(num m).toArray⟩))
  have HR : Hid (Row8 W1 w.heap.size v1 (num m ++ laidL 0 (S.take 0)) ∧ Below w.heap.size w W1) := by
    obtain ⟨g, cap, h0, h1, h2⟩ := r1
    exact ⟨⟨g, cap, by simpa [laidL] using h0, Nat.le_trans hb1.size h1, by simpa [laidL] using h2⟩, bnext hb1 b1⟩
  clear kb1 r1 b1 hb1 HN
  go_wp2
  go_loopg [3, 4, 6, 14] m (fun gg v x i6 ix wr => ∃ (j : Nat), j ≤ m ∧ gg = m - j ∧ ix = .int .i64 (j : Int) ∧ x = .int .u64 ((nxt 0 (S.take j) : Nat) : Int) ∧ Row8 wr w.heap.size v (num m ++ laidL 0 (S.take j)) ∧ Below w.heap.size w wr)
  case atStart =>
    go_light
    exact ⟨0, Nat.zero_le _, rfl, rfl, rfl, HR.out.1, HR.out.2⟩
  case round =>
    obtain ⟨j, hj, rfl, rfl, rfl, hr, hb⟩ := hrel
    obtain ⟨k1, k2, k3, k4⟩ := HS.out
    have hmm := HM.out
    have hz := HZ.out
    have hj0 : (0 : Int) ≤ (j : Int) := Int.natCast_nonneg _
    by_cases hlt : j < m
    · have hlt' : (j : Int) < (m : Int) := by omega
      obtain ⟨g, cap, rfl, hr⟩ := hr
      obtain rfl := k1.ptr (by omega)
      have cj := (k1.next hb).at (j := j) (by omega)
      obtain ⟨c1, c2⟩ := chain_at k2 j (by omega)
      have htk := take_next (S := S) (j := j) (by omega)
      have hln := laidL_part (n := n) (by omega) k2 j
      obtain ⟨i, hi⟩ : ∃ i, S.getD j 0 = i := ⟨_, rfl⟩
      rw [hi] at cj c1 c2 htk
      obtain ⟨y, hy⟩ : ∃ y, nxt 0 (S.take j) = y := ⟨_, rfl⟩
      rw [hy] at c1 ⊢
      have HN := fun W => num_any W (i - y) (by omega)
      have hnl := num_len (n := i - y) (by omega)
      have e1 : IntKind.u64.wrap ((i : Int) - (y : Int)) = ((i - y : Nat) : Int) := by rw [IntKind.wrap_u64]; omega
      have e2 : IntKind.u64.wrap ((i : Int) + 1) = ((i + 1 : Nat) : Int) := by rw [IntKind.wrap_u64]; omega
      have HX : Hid (num m ++ laidL 0 (S.take (j + 1)) = (num m ++ laidL 0 (S.take j)) ++ num (i - y) ∧ nxt 0 (S.take (j + 1)) = i + 1 ∧ (num m ++ laidL 0 (S.take j)).length + (num (i - y)).length ≤ 140737488355328 ∧ Row8 wr w.heap.size (.slice (some ⟨g, 0, none⟩) (num m ++ laidL 0 (S.take j)).length cap) (num m ++ laidL 0 (S.take j)) ∧ Below w.heap.size w wr ∧ j + 1 ≤ m) := by
        refine ⟨by rw [htk, laidL_app, hy, List.append_assoc], by rw [htk, nxt_app], ?_, ⟨g, cap, rfl, hr⟩, hb, hlt⟩
        rw [List.length_append]
        omega
      generalize i - y = z at *
      generalize num m ++ laidL 0 (S.take j) = L at *
      clear hr hb k1 k2 k3 k4 hmm hz c1 c2 htk hln hi hy hnl hlt HR HS HZ HM
      go_wp2_with (first
        | (go_at_call 52; with_reducible refine (HN _).mono ?_; rintro x w1 ⟨rfl, hb1⟩)
        | (at_builtin; refine wpList_append_8 _ rfl _ _ rfl w.heap.size _ L rfl (HX.out.2.2.2.1.next hb1) ⟨(num z).toArray⟩ rfl ?c1 ?c2 ?_))
      case c1 => have := HX.out.2.2.1; rw [show (⟨(num z).toArray⟩ : ByteArray).size = (num z).length from by simp [ByteArray.size]]; exact this
      case c2 => exact Nat.le_trans HX.out.2.2.2.2.1.size hb1.size
      intro v2 w2 r2 b2
      go_wp2
      go_roundg (m - (j + 1))
      case rel =>
        go_light
        obtain ⟨x1, x2, x3, x4, x5, x6⟩ := HX.out
        refine ⟨j + 1, x6, rfl, by go_num, by rw [x2, Int.natCast_add]; rfl, ?_, (x5.trans (hb1.mono x5.size)).trans b2⟩
        rw [x1]; exact r2
      case measure => go_light; have := HX.out.2.2.2.2.2; omega
    · obtain rfl : j = m := by omega
      have hlt' : ¬ (j : Int) < (j : Int) := by omega
      have e : S.take j = S := by rw [← hmm, List.take_length]
      rw [e] at hr
      obtain ⟨L, hL⟩ : ∃ L, num j ++ laidL 0 S = L := ⟨_, rfl⟩
      rw [hL] at hr
      have HL := hide hL
      clear hL
      have cv := hr.conv
      obtain ⟨g, cap, rfl, hr⟩ := hr
      have HB := hide hb
      clear hr hb k1 k2 k3 k4 hmm hz hlt e HR HS HZ HM
      go_wp2
      go_ret
      refine ⟨?_, HB.out⟩
      rw [HL.out]
      rfl
end Go.Proofs.Ytelglfmppmdmoaa
