/-
  Bytes of one's own; the walks of Number and of the reference's Number. Own work.
-/
import Derived.Test.YtelglfmppmdmoaaWWalkC
import Derived.Deep.Onto
import Derived.ArgAppend
import Derived.Laws.AppendOwnNone
import Derived.Laws.IdiomStrings
import Derived.Handy
namespace Go.Proofs.Ytelglfmppmdmoaa
open Go.RowKit
attribute [local go_sem ↓] Go.wp_at_zero Go.wp_at_succ
/-- Bytes as cells. -/
def cY (l : List UInt8) : List Value := l.map fun b => Value.int .u8 (b.toNat : Int)
theorem cY_len (l : List UInt8) : (cY l).length = l.length := by simp [cY]
theorem Try.infoY : (Try.prog.info? 5).map (fun i => (i.zero, i.size, i.bytes)) = some (some (.int .u8 0), 1, 1) := by kernel_rfl
/-- A row of bytes of one's own. -/
def OwnY (w : World) (B : Nat) (v : Value) (l : List UInt8) : Prop := w.ownsRow B 5 1 v l.length (cY l)
theorem owny_conv {w : World} {B : Nat} {v : Value} {l : List UInt8} (h : OwnY w B v l) : (convert 38 9 v).run Try.prog w = .ok (.string ⟨l.toArray⟩) w := by
  have hc := fun g => h.cells (g := g)
  obtain ⟨h1, h2⟩ := h
  rcases h2 with ⟨rfl, h0⟩ | ⟨g, cap, cur, rfl, hg, hh, r⟩
  · have : l = [] := List.length_eq_zero_iff.1 h0
    subst this
    exact run_convert_bytes_nil w 38 5 Try.underlying38 Try.underlying5 0 0 9 Try.underlying9
  · refine run_convert_bytes_back _ 38 9 5 ⟨g, 0, none⟩ cap l Try.underlying38 Try.underlying5 Try.underlying9 fun j hj => ?_
    exact hc g rfl j _ (by simp [cY, List.getElem?_eq_getElem hj])
theorem owny_own {w : World} {B : Nat} {v : Value} {l : List UInt8} (h : OwnY w B v l) : ∀ k, v.ownBlock = some k → B ≤ k := by
  obtain ⟨_, h2⟩ := h
  rcases h2 with ⟨rfl, _⟩ | ⟨g, cp, cur, rfl, hg, _⟩
  · intro k hk; cases hk
  · intro k hk; cases hk; exact hg
theorem owny_new (w : World) : OwnY (w.alloc (.cells #[] 5)) w.heap.size (.slice (some ⟨w.heap.size, 0, none⟩) 0 0) [] :=
  ⟨rfl, .inr ⟨w.heap.size, 0, #[], rfl, Nat.le_refl _, heap_alloc_new w _, Nat.le_refl _, by unfold maxLen; omega, rfl, rfl⟩⟩
/-- The law: one byte, laid for it, appended to bytes of one's own. -/
theorem wpList_append_Y (w : World) {ops : Array Oper} {rest : List Oper} {o : Oper} {a : Act} {Q : Exit → Act → World → Prop}
    (hg : o.guard = none) (s x : Operand) (hop : o.op = Op.call { callee := Callee.builtin Builtin.append, args := #[s, x], argTypes := #[38, 38] })
    (B : Nat) (v : Value) (L : List UInt8) (hs : a.eval s = v) (hown : OwnY w B v L) (y : Nat) (b : UInt8) (hb : y = b.toNat) (hx : a.eval x = .slice (some ⟨w.heap.size, 0, none⟩) 1 1)
    (hlen : L.length ≤ 1000) (hB : B ≤ w.heap.size)
    (hK : ∀ v' w', OwnY w' B v' (L ++ [b]) → Below B w w' → wpList Try.prog ops Q rest (a.put o.dst v') w') : wpList Try.prog ops Q (o :: rest) a (w.alloc (.cells #[.int .u8 (y : Int)] 5)) := by
  obtain ⟨i0, hi, hz0, hz1, hz2⟩ := info_parts Try.infoY
  subst hb
  refine wpList_append_own _ hg s x _ hop B 5 i0 (.int .u8 0) 1 1 Try.underlying38 hi hz0 hz1 hz2 rfl (by decide) _ _ _ hs (World.ownsRow.alloc hown _) ⟨w.heap.size, 0, none⟩ 1 1 (cY [b]) hx (by simp [cY]) ?_ (by intro u hu; simp [cY] at hu; subst hu; rfl) (by unfold maxLen; omega) (by omega) (by simp; omega) ?_
  · intro j u hu
    have hj : j = 0 := by have := (List.getElem?_eq_some_iff.1 hu).1; simp [cY] at this; exact this
    subst hj
    have hu' : Value.int .u8 (b.toNat : Int) = u := Option.some.inj hu
    subst hu'
    rw [Addr.add_mid, World.cell?_alloc_new]
    rfl
  · intro v' w' h1 h2 _
    refine hK v' w' ?_ (((Below.refl _ _).alloc hB _).trans ((Below.refl _ _).grown h2 (by simp; omega) (owny_own hown)))
    rw [OwnY, List.length_append, cY, List.map_append]; exact h1
set_option maxRecDepth 100000 in
theorem or128 : ∀ x : Nat, x < 256 → x ||| 128 = x % 128 + 128 := by decide
theorem byte_hi (n : Nat) : bits .or .u8 ((n : Int) % 256) 128 = ((UInt8.ofNat (n % 128 + 128)).toNat : Int) := by
  rw [ofNat_toNat (by omega)]
  have := u8_or_nat (n % 256) 128 (by omega) (by decide)
  rw [show ((n % 256 : Nat) : Int) = (n : Int) % 256 by omega, show ((128 : Nat) : Int) = 128 from rfl] at this
  rw [this, or128 _ (by omega)]
  omega
set_option maxRecDepth 100000 in
theorem num_any (w : World) (n : Nat) (hn : n < 18446744073709551616) :
    Calls Try.prog 52 #[.int .u64 (n : Int)] w fun x w' => x = .returned (.string ⟨(num n).toArray⟩) ∧ Below w.heap.size w w' := by
  have HL := hide (num_len (n := n) hn)
  go_enter Try.func52, Try.ntmps52
  go_wp2
  go_loopg [0, 3] n (fun g x v wr => ∃ (m : Nat) (pre : List UInt8), m = g ∧ x = .int .u64 (m : Int) ∧ OwnY wr w.heap.size v pre ∧ Hid (pre ++ num m = num n ∧ m ≤ n) ∧ Below w.heap.size w wr)
  case atStart =>
    go_light
    exact ⟨n, [], rfl, rfl, owny_new w, ⟨rfl, Nat.le_refl _⟩, (Below.refl _ _).alloc (Nat.le_refl _) _⟩
  case round =>
    obtain ⟨m, pre, hg, rfl, hown, HP, hb⟩ := hrel
    subst hg
    have HS : Hid (pre.length ≤ 10 ∧ w.heap.size ≤ wr.heap.size) := by
      have := congrArg List.length HP.out.1
      rw [List.length_append] at this
      have := HL.out
      exact ⟨by omega, hb.size⟩
    by_cases hm : m < 128
    · have hm' : (m : Int) < 128 := by omega
      have HY := hide (ofNat_toNat (x := m) (by omega)).symm
      have HR : Hid (pre ++ [UInt8.ofNat m] = num n) := by
        have := HP.out.1
        rw [num_low hm] at this
        exact this
      go_wp2_with (at_builtin; refine wpList_append_Y _ rfl _ _ rfl w.heap.size _ pre rfl hown m (UInt8.ofNat m) HY.out rfl ?c1 ?c2 ?_)
      case c1 => have := HS.out; omega
      case c2 => exact HS.out.2
      intro v' w2 r1 r2
      have hcv := owny_conv r1
      rw [HR.out] at hcv
      go_wp2
      go_ret
      exact ⟨rfl, hb.trans r2⟩
    · have hm' : ¬ (m : Int) < 128 := by omega
      have hm2 : (128 : Int) ≤ (m : Int) := by omega
      obtain ⟨c, hc⟩ : ∃ c, c = UInt8.ofNat (m % 128 + 128) := ⟨_, rfl⟩
      obtain ⟨y, hy⟩ : ∃ y, y = c.toNat := ⟨_, rfl⟩
      have ey := byte_hi m
      rw [← hc, ← hy] at ey
      have HY := hide hy
      clear hy
      have HR : Hid ((pre ++ [c]) ++ num (m / 128) = num n ∧ m / 128 ≤ n) := by
        have := HP.out
        rw [num_high (by omega), ← hc] at this
        exact ⟨by rw [← this.1]; simp, by omega⟩
      clear hc
      have HQ : Hid ((m : Int) / 128 = ((m / 128 : Nat) : Int) ∧ m / 128 < m) := ⟨by omega, by omega⟩
      go_wp2_with (at_builtin; refine wpList_append_Y _ rfl _ _ rfl w.heap.size _ pre rfl hown y c HY.out rfl ?c1 ?c2 ?_)
      case c1 => have := HS.out; omega
      case c2 => exact HS.out.2
      intro v' w2 r1 r2
      have hb2 := hb.trans r2
      clear r2 hb hown
      go_wp2
      go_roundg (m / 128)
      case rel =>
        go_light
        exact ⟨m / 128, _, rfl, by rw [← HQ.out.1], r1, HR.out, hb2⟩
      case measure => go_light; exact HQ.out.2
end Go.Proofs.Ytelglfmppmdmoaa
