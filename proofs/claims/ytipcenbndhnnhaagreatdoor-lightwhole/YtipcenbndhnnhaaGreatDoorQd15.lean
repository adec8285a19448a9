/-
  Own work: WWalkB, WWalkC, WWalkD, CoMem, DWalkA.
-/
import Derived.Deep.Onto
import Derived.ArgAppend
import Derived.Laws.AppendOwnNone
import Derived.Laws.IdiomStrings
import Derived.Handy
import Derived.WalkLawsBesides
import Derived.Test.YtipcenbndhnnhaaGreatDoorQd14
namespace Go.Proofs.YtipcenbndhnnhaaGreatDoor
open Go.RowKit
attribute [local go_sem ↓] Go.wp_at_zero Go.wp_at_succ
def tkC (s : ByteArray) (e : Nat) (n : Int) : ByteArray × Nat × ByteArray :=
  if e ≠ 0 then (ByteArray.empty, e, s) else if n < 0 ∨ (s.size : Int) < n then (ByteArray.empty, 60, ByteArray.empty) else (s.extract 0 n.toNat, 0, s.extract n.toNat s.size)
theorem take_any (w : World) (p e : Nat) (s : ByteArray) (n : Int) (hr : Rdr w p s e) :
    Calls Tryz.prog 172 #[.pointer (some ⟨p, 0, none⟩), .int .i64 n] w fun x w' => x = .returned (.tuple #[.string (tkC s e n).1, .int .i64 ((tkC s e n).2.1 : Int)]) ∧ Rdr w' p (tkC s e n).2.2 (tkC s e n).2.1 ∧ Ch p w w' := by
  have c0 := hr.c0
  have c1 := hr.c1
  have f0 := hr.f0
  have f1 := hr.f1
  by_cases he : e = 0
  · subst he
    by_cases hn : n < 0 ∨ (s.size : Int) < n
    · have ht : tkC s 0 n = (ByteArray.empty, 60, ByteArray.empty) := by rw [tkC, if_neg (by simp), if_pos hn]
      rw [ht]
      have HF := fail_any w p 60 s hr
      clear hr
      by_cases h0 : n < 0
      · go_enter Tryz.func172, Tryz.ntmps172
        go_wp2_with (go_at_call 186; refine HF.mono ?_; rintro x w' ⟨rfl, h1, h2⟩)
        go_ret2
        exact ⟨rfl, h1, h2⟩
      · have h1 : (s.size : Int) < n := by omega
        go_enter Tryz.func172, Tryz.ntmps172
        go_wp2_with (go_at_call 186; refine HF.mono ?_; rintro x w' ⟨rfl, h1, h2⟩)
        go_ret2
        exact ⟨rfl, h1, h2⟩
    · have ht : tkC s 0 n = (s.extract 0 n.toNat, 0, s.extract n.toNat s.size) := by rw [tkC, if_neg (by simp), if_neg hn]
      rw [ht]
      obtain ⟨k, rfl⟩ : ∃ k : Nat, n = k := ⟨n.toNat, by omega⟩
      have h0 : ¬ (k : Int) < 0 := by omega
      have h1 : ¬ (s.size : Int) < (k : Int) := by omega
      have h2 : (k : Int) ≤ (s.size : Int) := by omega
      have R1 : Hid (Rdr (w.setCell ⟨p, 0, none⟩ (.string (s.extract k s.size))) p (s.extract k s.size) 0) := hr.set0 _
      clear hr
      go_enter Tryz.func172, Tryz.ntmps172
      go_wp2
      go_ret2
      exact ⟨rfl, R1.out, (Ch.refl p w).set 0 _⟩
  · have ht : tkC s e n = (ByteArray.empty, e, s) := by rw [tkC, if_pos he]
    rw [ht]
    have hz : ¬ (e : Int) = 0 := by omega
    go_enter Tryz.func172, Tryz.ntmps172
    go_wp2
    go_quiet (fail)
    go_wp2
    go_ret2
    exact ⟨rfl, hr.drewN _, (Ch.refl p w).drewN _⟩
end Go.Proofs.YtipcenbndhnnhaaGreatDoor
namespace Go.Proofs.YtipcenbndhnnhaaGreatDoor
open Go.RowKit
attribute [local go_sem ↓] Go.wp_at_zero Go.wp_at_succ
def nb (s : ByteArray) (e : Nat) : Nat × Nat × ByteArray :=
  if e ≠ 0 then (0, e, s) else ((scan s.data.toList 0 0).1, (scan s.data.toList 0 0).2.1, if (scan s.data.toList 0 0).2.1 = 0 then s.extract (scan s.data.toList 0 0).2.2 s.size else ByteArray.empty)
theorem nb_of {s : ByteArray} {n k : Nat} (h : scan s.data.toList 0 0 = (n, 0, k)) : nb s 0 = (n, 0, s.extract k s.size) := by
  simp [nb, h]
theorem nb_err {s : ByteArray} {n e k : Nat} (h : scan s.data.toList 0 0 = (n, e, k)) (he : e ≠ 0) : nb s 0 = (n, e, ByteArray.empty) := by
  simp [nb, h, he]
theorem drop_at (s : ByteArray) (k : Nat) (hk : k < s.size) : s.data.toList.drop k = s[k] :: s.data.toList.drop (k + 1) := by
  rw [List.drop_eq_getElem_cons (by simpa using hk)]
  rfl
theorem hideC {q : Prop} (h : q) : Hid q := h
theorem or7 (n b k : Nat) (hn : n < 128 ^ k) (hk : k ≤ 9) (h : k = 9 → b ≤ 1) :
    bits .or .u64 (n : Int) (IntKind.u64.wrap ((b : Int) % 128 * 2 ^ (7 * k))) = ((n + b % 128 * 128 ^ k : Nat) : Int) ∧ n + b % 128 * 128 ^ k < 18446744073709551616 := by
  have e9 : (128 : Nat) ^ 9 = 9223372036854775808 := by decide
  have hp : 128 ^ k ≤ 128 ^ 9 := pow_le9 hk
  have hx : b % 128 * 128 ^ k ≤ 9223372036854775808 := by
    rcases Nat.lt_or_ge k 9 with h9 | h9
    · have hp1 : 128 ^ (k + 1) ≤ 128 ^ 9 := pow_le9 (by omega)
      have : b % 128 * 128 ^ k ≤ 127 * 128 ^ k := Nat.mul_le_mul_right _ (by omega)
      rw [Nat.pow_succ] at hp1
      omega
    · obtain rfl : k = 9 := by omega
      have : b % 128 * 128 ^ 9 ≤ 1 * 128 ^ 9 := Nat.mul_le_mul_right _ (by have := h rfl; omega)
      omega
  have e1 : ((b : Int) % 128 * 2 ^ (7 * k)) = ((b % 128 * 128 ^ k : Nat) : Int) := by
    rw [Int.natCast_mul, Int.natCast_pow, Int.pow_mul]; rfl
  have e2 : (2 : Nat) ^ (7 * k) = 128 ^ k := by rw [Nat.pow_mul]
  rw [e1, IntKind.wrap_u64, Int.emod_eq_of_lt (by omega) (by omega), u64_or_nat _ _ (by omega) (by omega)]
  refine ⟨?_, by omega⟩
  have := Nat.two_pow_add_eq_or_of_lt (i := 7 * k) (b := n) (by rw [e2]; exact hn) (b % 128)
  rw [Nat.or_comm, ← e2, Nat.mul_comm (b % 128), ← this, Nat.add_comm n]
set_option maxRecDepth 100000 in
theorem rnum_any (w : World) (p e : Nat) (s : ByteArray) (hr : Rdr w p s e) (hs : s.size ≤ 9223372036854775807) :
    Calls Tryz.prog 173 #[.pointer (some ⟨p, 0, none⟩)] w fun x w' => x = .returned (.tuple #[.int .u64 ((nb s e).1 : Int), .int .i64 ((nb s e).2.1 : Int)]) ∧ Rdr w' p (nb s e).2.2 (nb s e).2.1 ∧ Ch p w w' := by
  have c0 := hr.c0
  have c1 := hr.c1
  have f0 := hr.f0
  have f1 := hr.f1
  by_cases he : e = 0
  · subst he
    have F60 := fail_any w p 60 s hr
    have F61 := fail_any w p 61 s hr
    have RSC : Hid (∀ k, Rdr (w.setCell ⟨p, 0, none⟩ (.string (s.extract k s.size))) p (s.extract k s.size) 0) := fun k => hr.set0 _
    clear hr
    go_enter Tryz.func173, Tryz.ntmps173
    go_wp2
    go_loopg [4, 5] 10 (fun g x i wr => w = wr ∧ ∃ (k n : Nat), k ≤ s.size ∧ k ≤ 9 ∧ g = 10 - k ∧ x = .int .u64 (n : Int) ∧ i = .int .i64 k ∧ Hid (n < 128 ^ k ∧ scan (s.data.toList.drop k) k n = scan s.data.toList 0 0))
    case atStart =>
      go_light
      exact ⟨rfl, 0, 0, Nat.zero_le _, by omega, rfl, rfl, rfl, by decide, by rw [List.drop_zero]⟩
    case round =>
      obtain ⟨rfl, k, n, hk, h9, rfl, rfl, rfl, HS⟩ := hrel
      by_cases hlt : k < s.size
      · have hz : (k : Int) < (s.size : Int) := by omega
        obtain ⟨b, hb⟩ : ∃ b, s[k].toNat = b := ⟨_, rfl⟩
        have hb8 : b < 256 := by rw [← hb]; exact s[k].toNat_lt
        obtain ⟨hn, hsc⟩ := HS.out
        rw [drop_at s k hlt, scan, hb] at hsc
        clear HS
        by_cases hi : k = 9 ∧ 1 < b
        · obtain ⟨rfl, hi⟩ := hi
          rw [if_pos ⟨rfl, hi⟩] at hsc
          have HT := hideC (nb_err hsc.symm (by decide))
          have hi' : (1 : Int) < (b : Int) := by omega
          clear hsc hn
          go_wp2_with (go_at_call 186; refine F61.mono ?_; rintro x w' ⟨rfl, h1, h2⟩)
          go_ret2
          rw [HT.out]
          exact ⟨rfl, h1, h2⟩
        · obtain ⟨ho, hlim⟩ := or7 n b k hn h9 (by omega)
          rw [if_neg hi] at hsc
          obtain ⟨m, hm⟩ : ∃ m, m = n + b % 128 * 128 ^ k := ⟨_, rfl⟩
          rw [← hm] at ho hlim
          by_cases hl : b < 128
          · rw [if_pos hl, ← show b % 128 = b from Nat.mod_eq_of_lt hl, ← hm, show b % 128 = b from Nat.mod_eq_of_lt hl] at hsc
            have hl' : (b : Int) < 128 := by omega
            by_cases h0 : b = 0 ∧ 0 < k
            · rw [if_pos h0] at hsc
              have HT := hideC (nb_err hsc.symm (by decide))
              obtain ⟨rfl, h0⟩ := h0
              have h0' : (0 : Int) < (k : Int) := by omega
              clear hsc hn hm
              by_cases hk9 : k = 9
              · subst hk9
                go_wp2_with (go_at_call 186; refine F61.mono ?_; rintro x w' ⟨rfl, h1, h2⟩)
                go_ret2
                rw [HT.out]
                exact ⟨rfl, h1, h2⟩
              · have hq : ¬ (k : Int) = 9 := by omega
                go_wp2_with (go_at_call 186; refine F61.mono ?_; rintro x w' ⟨rfl, h1, h2⟩)
                go_ret2
                rw [HT.out]
                exact ⟨rfl, h1, h2⟩
            · rw [if_neg h0] at hsc
              have HT := hideC (nb_of hsc.symm)
              clear hsc hn hm
              have HC : Hid (Ch p w (w.setCell ⟨p, 0, none⟩ (.string (s.extract (k + 1) s.size)))) := (Ch.refl p w).set 0 _
              have hz1 : ((k : Int) + 1) ≤ (s.size : Int) := by omega
              by_cases hk9 : k = 9
              · subst hk9
                have hb1 : ¬ (1 : Int) < (b : Int) := by omega
                have hb0 : ¬ (b : Int) = 0 := by omega
                have ho9 : bits .or .u64 (n : Int) ((b : Int) % 128 * 9223372036854775808) = (m : Int) := by
                  rw [← ho, IntKind.wrap_u64]
                  have e : (2 : Int) ^ (7 * 9) = 9223372036854775808 := by decide
                  rw [e, Int.emod_eq_of_lt (a := (b : Int) % 128 * 9223372036854775808) (by omega) (by omega)]
                go_wp2
                go_ret2
                rw [HT.out]
                exact ⟨rfl, RSC.out _, HC.out⟩
              · have hq : ¬ (k : Int) = 9 := by omega
                by_cases hb0 : b = 0
                · obtain rfl : k = 0 := by omega
                  subst hb0
                  have ho0 : bits .or .u64 (n : Int) 0 = (m : Int) := by rw [← ho]; rfl
                  go_wp2
                  go_ret2
                  rw [HT.out]
                  exact ⟨rfl, RSC.out _, HC.out⟩
                · have hb1 : ¬ (b : Int) = 0 := by omega
                  go_wp2
                  go_ret2
                  rw [HT.out]
                  exact ⟨rfl, RSC.out _, HC.out⟩
          · have hq : ¬ (k : Int) = 9 := by omega
            have hl' : ¬ (b : Int) < 128 := by omega
            have HS : Hid (m < 128 ^ (k + 1) ∧ scan (s.data.toList.drop (k + 1)) (k + 1) m = scan s.data.toList 0 0) := by
              rw [if_neg hl, ← hm] at hsc
              refine ⟨?_, hsc⟩
              rw [hm, Nat.pow_succ]
              have : b % 128 * 128 ^ k ≤ 127 * 128 ^ k := Nat.mul_le_mul_right _ (by omega)
              omega
            clear hsc hn hm
            go_wp2
            go_roundg (10 - (k + 1))
            case rel =>
              go_light
              exact ⟨rfl, k + 1, m, by omega, by omega, rfl, rfl, by go_num, HS.out⟩
            case measure => go_light; omega
      · obtain rfl : k = s.size := by omega
        have hz : ¬ (s.size : Int) < (s.size : Int) := by omega
        have hsc := HS.out.2
        rw [List.drop_eq_nil_of_le (by simp), scan] at hsc
        have HT := hideC (nb_err hsc.symm (by decide))
        clear hsc HS
        go_wp2_with (go_at_call 186; refine F60.mono ?_; rintro x w' ⟨rfl, h1, h2⟩)
        go_ret2
        rw [HT.out]
        exact ⟨rfl, h1, h2⟩
  · have ht : nb s e = (0, e, s) := by rw [nb, if_pos he]
    rw [ht]
    have hz : ¬ (e : Int) = 0 := by omega
    go_enter Tryz.func173, Tryz.ntmps173
    go_wp2
    go_quiet (fail)
    go_wp2
    go_ret2
    exact ⟨rfl, hr.drewN _, (Ch.refl p w).drewN _⟩
end Go.Proofs.YtipcenbndhnnhaaGreatDoor
namespace Go.Proofs.YtipcenbndhnnhaaGreatDoor
open Go.RowKit
attribute [local go_sem ↓] Go.wp_at_zero Go.wp_at_succ
def cY (l : List UInt8) : List Value := l.map fun b => Value.int .u8 (b.toNat : Int)
theorem cY_len (l : List UInt8) : (cY l).length = l.length := by simp [cY]
theorem Tryz.infoY : (Tryz.prog.info? 5).map (fun i => (i.zero, i.size, i.bytes)) = some (some (.int .u8 0), 1, 1) := by kernel_rfl
def OwnY (w : World) (B : Nat) (v : Value) (l : List UInt8) : Prop := w.ownsRow B 5 1 v l.length (cY l)
theorem owny_conv {w : World} {B : Nat} {v : Value} {l : List UInt8} (h : OwnY w B v l) : (convert 115 9 v).run Tryz.prog w = .ok (.string ⟨l.toArray⟩) w := by
  have hc := fun g => h.cells (g := g)
  obtain ⟨h1, h2⟩ := h
  rcases h2 with ⟨rfl, h0⟩ | ⟨g, cap, cur, rfl, hg, hh, r⟩
  · have : l = [] := List.length_eq_zero_iff.1 h0
    subst this
    exact run_convert_bytes_nil w 115 5 Tryz.underlying115 Tryz.underlying5 0 0 9 Tryz.underlying9
  · refine run_convert_bytes_back _ 115 9 5 ⟨g, 0, none⟩ cap l Tryz.underlying115 Tryz.underlying5 Tryz.underlying9 fun j hj => ?_
    exact hc g rfl j _ (by simp [cY, List.getElem?_eq_getElem hj])
theorem owny_own {w : World} {B : Nat} {v : Value} {l : List UInt8} (h : OwnY w B v l) : ∀ k, v.ownBlock = some k → B ≤ k := by
  obtain ⟨_, h2⟩ := h
  rcases h2 with ⟨rfl, _⟩ | ⟨g, cp, cur, rfl, hg, _⟩
  · intro k hk; cases hk
  · intro k hk; cases hk; exact hg
theorem owny_new (w : World) : OwnY (w.alloc (.cells #[] 5)) w.heap.size (.slice (some ⟨w.heap.size, 0, none⟩) 0 0) [] :=
  ⟨rfl, .inr ⟨w.heap.size, 0, #[], rfl, Nat.le_refl _, heap_alloc_new w _, Nat.le_refl _, by unfold maxLen; omega, rfl, rfl⟩⟩
theorem wpList_append_Y (w : World) {ops : Array Oper} {rest : List Oper} {o : Oper} {a : Act} {Q : Exit → Act → World → Prop}
    (hg : o.guard = none) (s x : Operand) (hop : o.op = Op.call { callee := Callee.builtin Builtin.append, args := #[s, x], argTypes := #[115, 115] })
    (B : Nat) (v : Value) (L : List UInt8) (hs : a.eval s = v) (hown : OwnY w B v L) (y : Nat) (b : UInt8) (hb : y = b.toNat) (hx : a.eval x = .slice (some ⟨w.heap.size, 0, none⟩) 1 1)
    (hlen : L.length ≤ 1000) (hB : B ≤ w.heap.size)
    (hK : ∀ v' w', OwnY w' B v' (L ++ [b]) → Below B w w' → wpList Tryz.prog ops Q rest (a.put o.dst v') w') : wpList Tryz.prog ops Q (o :: rest) a (w.alloc (.cells #[.int .u8 (y : Int)] 5)) := by
  obtain ⟨i0, hi, hz0, hz1, hz2⟩ := info_parts Tryz.infoY
  subst hb
  refine wpList_append_own _ hg s x _ hop B 5 i0 (.int .u8 0) 1 1 Tryz.underlying115 hi hz0 hz1 hz2 rfl (by decide) _ _ _ hs (World.ownsRow.alloc hown _) ⟨w.heap.size, 0, none⟩ 1 1 (cY [b]) hx (by simp [cY]) ?_ (by intro u hu; simp [cY] at hu; subst hu; rfl) (by unfold maxLen; omega) (by omega) (by simp; omega) ?_
  · intro j u hu
    have hj : j = 0 := by have := (List.getElem?_eq_some_iff.1 hu).1; simp [cY] at this; exact this
    subst hj
    have hu' : Value.int .u8 (b.toNat : Int) = u := Option.some.inj hu
    subst hu'
    rw [Addr.add_mid, World.cell?_alloc_new]
    rfl
  · intro v' w' h1 h2 _
    refine hK v' w' ?_ (((Below.refl _ _).alloc hB _).trans ((Below.refl _ _).grown h2 (by simp; omega) (owny_own hown)))
    rw [OwnY, List.length_append, cY, List.map_append]; exact h1
set_option maxRecDepth 100000 in
theorem or128 : ∀ x : Nat, x < 256 → x ||| 128 = x % 128 + 128 := by decide
theorem byte_hi (n : Nat) : bits .or .u8 ((n : Int) % 256) 128 = ((UInt8.ofNat (n % 128 + 128)).toNat : Int) := by
  rw [ofNat_toNat (by omega)]
  have := u8_or_nat (n % 256) 128 (by omega) (by decide)
  rw [show ((n % 256 : Nat) : Int) = (n : Int) % 256 by omega, show ((128 : Nat) : Int) = 128 from rfl] at this
  rw [this, or128 _ (by omega)]
  omega
set_option maxRecDepth 100000 in
theorem num_any (w : World) (n : Nat) (hn : n < 18446744073709551616) :
    Calls Tryz.prog 65 #[.int .u64 (n : Int)] w fun x w' => x = .returned (.string ⟨(num n).toArray⟩) ∧ Below w.heap.size w w' := by
  have HL := hideC (num_len (n := n) hn)
  go_enter Tryz.func65, Tryz.ntmps65
  go_wp2
  go_loopg [0, 3] n (fun g x v wr => ∃ (m : Nat) (pre : List UInt8), m = g ∧ x = .int .u64 (m : Int) ∧ OwnY wr w.heap.size v pre ∧ Hid (pre ++ num m = num n ∧ m ≤ n) ∧ Below w.heap.size w wr)
  case atStart =>
    go_light
    exact ⟨n, [], rfl, rfl, owny_new w, ⟨rfl, Nat.le_refl _⟩, (Below.refl _ _).alloc (Nat.le_refl _) _⟩
  case round =>
    obtain ⟨m, pre, hg, rfl, hown, HP, hb⟩ := hrel
    subst hg
    have HS : Hid (pre.length ≤ 10 ∧ w.heap.size ≤ wr.heap.size) := by
      have := congrArg List.length HP.out.1
      rw [List.length_append] at this
      have := HL.out
      exact ⟨by omega, hb.size⟩
    by_cases hm : m < 128
    · have hm' : (m : Int) < 128 := by omega
      have HY := hideC (ofNat_toNat (x := m) (by omega)).symm
      have HR : Hid (pre ++ [UInt8.ofNat m] = num n) := by
        have := HP.out.1
        rw [num_low hm] at this
        exact this
      go_wp2_with (at_builtin; refine wpList_append_Y _ rfl _ _ rfl w.heap.size _ pre rfl hown m (UInt8.ofNat m) HY.out rfl ?c1 ?c2 ?_)
      case c1 => have := HS.out; omega
      case c2 => exact HS.out.2
      intro v' w2 r1 r2
      have hcv := owny_conv r1
      rw [HR.out] at hcv
      go_wp2
      go_ret
      exact ⟨rfl, hb.trans r2⟩
    · have hm' : ¬ (m : Int) < 128 := by omega
      have hm2 : (128 : Int) ≤ (m : Int) := by omega
      obtain ⟨c, hc⟩ : ∃ c, c = UInt8.ofNat (m % 128 + 128) := ⟨_, rfl⟩
      obtain ⟨y, hy⟩ : ∃ y, y = c.toNat := ⟨_, rfl⟩
      have ey := byte_hi m
      rw [← hc, ← hy] at ey
      have HY := hideC hy
      clear hy
      have HR : Hid ((pre ++ [c]) ++ num (m / 128) = num n ∧ m / 128 ≤ n) := by
        have := HP.out
        rw [num_high (by omega), ← hc] at this
        exact ⟨by rw [← this.1]; simp, by omega⟩
      clear hc
      have HQ : Hid ((m : Int) / 128 = ((m / 128 : Nat) : Int) ∧ m / 128 < m) := ⟨by omega, by omega⟩
      go_wp2_with (at_builtin; refine wpList_append_Y _ rfl _ _ rfl w.heap.size _ pre rfl hown y c HY.out rfl ?c1 ?c2 ?_)
      case c1 => have := HS.out; omega
      case c2 => exact HS.out.2
      intro v' w2 r1 r2
      have hb2 := hb.trans r2
      clear r2 hb hown
      go_wp2
      go_roundg (m / 128)
      case rel =>
        go_light
        exact ⟨m / 128, _, rfl, by rw [← HQ.out.1], r1, HR.out, hb2⟩
      case measure => go_light; exact HQ.out.2
end Go.Proofs.YtipcenbndhnnhaaGreatDoor
namespace Go.Proofs.YtipcenbndhnnhaaGreatDoor
open Go.RowKit
attribute [local go_sem ↓] Go.wp_at_zero Go.wp_at_succ
theorem range_belowC {B : Nat} {a w : World} (hb : Below B a w) {b o : Nat} {cs : List Value} (hlt : b < B) (h : a.rangeAt b o cs) : w.rangeAt b o cs := fun j v hv => by
  rw [hb.cell (p := ⟨b, o + j, none⟩) hlt]; exact h j v hv
open Cv (RdC zl cU)
section
variable {w W : World} {s : Nat} {a b c d e f : Value}
end
section
variable {q : Nat} {w w1 w2 : World}
end
end Go.Proofs.YtipcenbndhnnhaaGreatDoor
namespace Go.Proofs.YtipcenbndhnnhaaGreatDoor
open Go.RowKit
attribute [local go_sem ↓] Go.wp_at_zero Go.wp_at_succ
abbrev pnc : Ending := .panicked [{ v := .iface 33 (.int .i64 140), recovered := false }]
theorem must_yes (w : World) (b : Bool) (hb : b = true) : Calls Tryz.prog 157 #[.bool b] w fun e w' => e = .returned (.tuple #[]) ∧ w' = w := by
  subst hb
  go_enter Tryz.func157, Tryz.ntmps157
  go_wp2
  go_end0
  exact ⟨rfl, rfl⟩
theorem must_no (w : World) (b : Bool) (hb : b = false) : Calls Tryz.prog 157 #[.bool b] w fun e w' => e = pnc ∧ w' = w := by
  subst hb
  go_enter Tryz.func157, Tryz.ntmps157
  go_wp2
  exact ⟨rfl, rfl, rfl⟩
theorem ext_drop (s : ByteArray) (k : Nat) : (s.extract k s.size).data.toList = s.data.toList.drop k := by
  rw [ByteArray.data_extract, Array.toList_extract, List.extract_eq_take_drop, List.take_of_length_le (by rw [List.length_drop, size_list]; omega)]
theorem ext_take (s : ByteArray) (k : Nat) : (s.extract 0 k).data.toList = s.data.toList.take k := by
  rw [ByteArray.data_extract, Array.toList_extract, List.extract_eq_take_drop, List.drop_zero, Nat.sub_zero]
theorem nb_some {s : ByteArray} {n : Nat} {r : List UInt8} (h : nmb s.data.toList = some (n, r)) : ∃ s', s'.data.toList = r ∧ nb s 0 = (n, 0, s') ∧ s'.size ≤ s.size := by
  unfold nmb at h
  split at h
  · rename_i h0
    obtain ⟨a, b, c, hc⟩ : ∃ a b c, scan s.data.toList 0 0 = (a, b, c) := ⟨_, _, _, rfl⟩
    rw [hc] at h h0
    simp only [Option.some.injEq, Prod.mk.injEq] at h h0
    subst h0
    obtain ⟨rfl, rfl⟩ := h
    refine ⟨_, ext_drop s c, nb_of hc, ?_⟩
    have := congrArg List.length (ext_drop s c)
    rw [size_list, List.length_drop, size_list] at this
    omega
  · cases h
theorem nb_none {s : ByteArray} (h : nmb s.data.toList = none) : ∃ n e s', nb s 0 = (n, e, s') ∧ e ≠ 0 := by
  unfold nmb at h
  split at h
  · cases h
  · rename_i h0
    obtain ⟨a, b, c, hc⟩ : ∃ a b c, scan s.data.toList 0 0 = (a, b, c) := ⟨_, _, _, rfl⟩
    rw [hc] at h0
    exact ⟨_, _, _, nb_err hc h0, h0⟩
theorem number_any (w : World) (p : Nat) (s : ByteArray) (hr : Rdr w p s 0) (hs : s.size ≤ 9223372036854775807) :
    Calls Tryz.prog 155 #[.pointer (some ⟨p, 0, none⟩)] w fun e w' => (∃ n s', nmb s.data.toList = some (n, s'.data.toList) ∧ e = .returned (.int .u64 (n : Int)) ∧ Rdr w' p s' 0 ∧ Ch p w w' ∧ s'.size ≤ s.size) ∨ (nmb s.data.toList = none ∧ e = pnc ∧ Ch p w w') := by
  have HR := rnum_any w p 0 s hr hs
  cases hn : nmb s.data.toList with
  | none =>
    obtain ⟨n, e, s', h1, h2⟩ := nb_none hn
    rw [h1] at HR
    have h2' : ((e : Int) == 0) = false := beq_false_of_ne (by omega)
    clear hr hs h1 hn h2
    go_enter Tryz.func155, Tryz.ntmps155
    go_wp2_with (first
      | (go_at_call 173; with_reducible refine HR.mono ?_; rintro x w1 ⟨rfl, h1, h2⟩)
      | (go_at_call 157; refine (must_no _ _ rfl).mono ?_; rintro x w2 ⟨rfl, rfl⟩))
    exact ⟨rfl, .inr ⟨trivial, rfl, h2⟩⟩
  | some a =>
    obtain ⟨n, r⟩ := a
    obtain ⟨s', rfl, h1, h3⟩ := nb_some hn
    rw [h1] at HR
    clear hr hs h1 hn
    go_enter Tryz.func155, Tryz.ntmps155
    go_wp2_with (first
      | (go_at_call 173; with_reducible refine HR.mono ?_; rintro x w1 ⟨rfl, h1, h2⟩)
      | (go_at_call 157; refine (must_yes _ _ rfl).mono ?_; rintro x w2 ⟨rfl, rfl⟩))
    go_ret
    exact .inl ⟨n, s', rfl, rfl, h1, h2, h3⟩
theorem single_any (w : World) (p : Nat) (s : ByteArray) (hr : Rdr w p s 0) (hs : s.size ≤ 9223372036854775807) :
    Calls Tryz.prog 154 #[.pointer (some ⟨p, 0, none⟩)] w fun e w' => (∃ b s', s.data.toList = b :: s'.data.toList ∧ e = .returned (.int .i64 (b.toNat : Int)) ∧ Rdr w' p s' 0 ∧ Ch p w w' ∧ s'.size ≤ s.size) ∨ (s.data.toList = [] ∧ e = pnc ∧ Ch p w w') := by
  have HR := take_any w p 0 s 1 hr
  by_cases h0 : s.size = 0
  · have ht : tkC s 0 1 = (ByteArray.empty, 60, ByteArray.empty) := by rw [tkC, if_neg (by simp), if_pos (by omega)]
    rw [ht] at HR
    have hl : s.data.toList = [] := List.length_eq_zero_iff.1 (by rw [size_list]; exact h0)
    clear hr hs ht
    go_enter Tryz.func154, Tryz.ntmps154
    go_wp2_with (first
      | (go_at_call 172; with_reducible refine HR.mono ?_; rintro x w1 ⟨rfl, h1, h2⟩)
      | (go_at_call 157; refine (must_no _ _ rfl).mono ?_; rintro x w2 ⟨rfl, rfl⟩))
    exact ⟨rfl, .inr ⟨hl, rfl, h2⟩⟩
  · have ht : tkC s 0 1 = (s.extract 0 1, 0, s.extract 1 s.size) := by rw [tkC, if_neg (by simp), if_neg (by omega)]; rfl
    rw [ht] at HR
    obtain ⟨b, r, hl⟩ : ∃ b r, s.data.toList = b :: r := by
      cases h : s.data.toList with
      | nil => exact absurd (by rw [← size_list, h]; rfl) h0
      | cons b r => exact ⟨b, r, rfl⟩
    have h1 : (s.extract 0 1).data.toList = [b] := by rw [ext_take, hl]; rfl
    have h2 : (s.extract 1 s.size).data.toList = r := by rw [ext_drop, hl]; rfl
    have h3 := congrArg List.length h2
    have h4 := congrArg List.length hl
    rw [size_list] at h3 h4
    generalize s.extract 0 1 = t at *
    generalize s.extract 1 s.size = s' at *
    subst h2
    obtain ⟨⟨t⟩⟩ := t
    obtain rfl : t = [b] := h1
    have hb : ∀ W, (Instr.index 9 (.string ⟨⟨[b]⟩⟩) (.int .i64 0)).run Tryz.prog W = .ok (.int .u8 (b.toNat : Int)) W := fun W => by
      have e : (⟨⟨[b]⟩⟩ : ByteArray)[0]? = some b := rfl
      simp [Instr.index, asIntOf, run_underlying Tryz.underlying9, e]
    clear hr hs ht h0
    go_enter Tryz.func154, Tryz.ntmps154
    go_wp2_with (first
      | (go_at_call 172; with_reducible refine HR.mono ?_; rintro x w1 ⟨rfl, h1, h2⟩)
      | (go_at_call 157; refine (must_yes _ _ rfl).mono ?_; rintro x w2 ⟨rfl, rfl⟩))
    go_ret
    have e2 : wrap64 (b.toNat : Int) = (b.toNat : Int) := by
      have := b.toNat_lt
      unfold wrap64
      omega
    exact .inl ⟨b, s', hl, congrArg (fun x => Ending.returned (.int .i64 x)) e2, h1, h2, by simp at h4; omega⟩
end Go.Proofs.YtipcenbndhnnhaaGreatDoor
