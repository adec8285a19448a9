/-
  Own work: FGf, FGo.
-/
import Derived.Test.YthfnpagangjpbabGreatV54
namespace Go.Proofs.YthfnpagangjpbabGreat
open Go.RowKit
open Rc
attribute [local go_sem ↓] Go.wp_at_zero Go.wp_at_succ
section
variable {w w1 W : World} {q r n : Nat} {T : Nat → Prop} {D : DV} {S : SV}
theorem RSm.next (h : RSm w w1 q r T D S n) (hb : Below w1.heap.size w1 W) : RSm w W q r T D S n := by
  obtain ⟨V, T', h1, h2, h3, h4⟩ := h
  exact ⟨V, T', h1, h2.next hb, h3, h4.next hb⟩
theorem RSm.mono {m : Nat} (h : RSm w w1 q r T D S n) (hm : n ≤ m) (hj : m ≤ 2097152) : RSm w w1 q r T D S m := by
  obtain ⟨V, T', h1, h2, h3, h4⟩ := h
  exact ⟨V, T', h1.mono hm hj, h2, h3, h4⟩
theorem RSm.of {V : RV} (h : RSk w q r T V S) (hb : Bd D V n) (hw : Below w.heap.size w W) : RSm w W q r T D S n := ⟨V, T, hb, h.next hw, fun _ hx => .inl hx, Upo.of hw⟩
theorem RSm.after {T1 : Nat → Prop} (a2 : ∀ x, T1 x → T x ∨ w.heap.size ≤ x) (a3 : Upo T w w1) (h : RSm w1 W q r T1 D S n) : RSm w W q r T D S n := by
  obtain ⟨V, T2, b0, b1, b2, b3⟩ := h
  refine ⟨V, T2, b0, b1, fun x hx => ?_, a3.trans b3 (fun x hx ht => ?_)⟩
  · rcases b2 x hx with e | e
    · exact a2 x e
    · exact .inr (Nat.le_trans a3.size e)
  · rcases a2 x ht with e | e
    · exact e
    · omega
theorem rsk_mvd {S0 : Nat → Prop} {v : Value} {l : List MV} {V' : RV} (h2 : RSt w q r v S l) (h3 : ¬ S0 q) (h4 : ∀ g, v.ownBlock = some g → g ≠ q ∧ ¬ S0 g) (h5 : ∀ x, T x ↔ S0 x ∨ x = q ∨ v.ownBlock = some x) (hm : RMvd w W r S0 V') : ∃ T', RSk W q r T' V' S ∧ (∀ x, T' x → T x ∨ w.heap.size ≤ x) ∧ Upo T w W := by
  obtain ⟨S1, m1, m2, m3⟩ := hm
  refine ⟨fun x => S1 x ∨ x = q ∨ v.ownBlock = some x, ⟨S1, v, l, m1, h2.same (m3.block q h2.lt h3) (fun g hg => m3.block g (ownK_lt h2.own hg) (h4 g hg).2), fun hq => ?_, fun g hg => ⟨(h4 g hg).1, fun e => ?_⟩, fun _ => Iff.rfl⟩, fun x hx => ?_, m3.mono (fun x _ hx => (h5 x).2 (.inl hx))⟩
  · rcases m2 q hq with e | e
    · exact h3 e
    · have := h2.lt; omega
  · rcases m2 g e with e | e
    · exact (h4 g hg).2 e
    · have := ownK_lt h2.own hg; omega
  · rcases hx with e | e
    · exact (m2 x e).imp (fun e => (h5 x).2 (.inl e)) id
    · exact .inl ((h5 x).2 (.inr e))
theorem RSm.act {f : Nat} {args : Array Value} {D' : DV} {re : Ending} {m : Nat} (h : RSm w w1 q r T D S n) (hc : ∀ T0, RDm w1 w1 r T0 D n → Calls Tryz.prog f args w1 fun e w' => e = re ∧ RDm w1 w' r T0 D' m) : Calls Tryz.prog f args w1 fun e w' => e = re ∧ RSm w w' q r T D' S m := by
  obtain ⟨V, T', h1, ⟨S0, v, l, d1, d2, d3, d4, d5⟩, h3, h4⟩ := h
  refine (hc S0 (RDm.of d1 h1 (Below.refl _ _))).mono fun e w' z => ⟨z.1, ?_⟩
  obtain ⟨V', z1, z2⟩ := z.2
  obtain ⟨T2, b1, b2, b3⟩ := rsk_mvd d2 d3 d4 d5 z2
  exact RSm.after h3 h4 ⟨V', T2, z1, b1, b2, b3⟩
theorem RSm.cut (h : RSm w w1 q r T D S n) (hn : n + 1 ≤ 2097152) (nm : ByteArray) (hs : nm.size ≤ maxLen) (c : Nat) (hc : c ≤ 4611686018427387904) (x : DV × Int) (hx : cutI nm.data.toList c D = x) : Calls Tryz.prog 74 #[.pointer (some ⟨r, 0, none⟩), .string nm, .int .u64 (c : Int)] w1 fun e w' => e = .returned (.int .i64 x.2) ∧ RSm w w' q r T x.1 S (n + 1) :=
  h.act fun _ hm => rcut19_any hm hn w1 (Below.refl _ _) nm hs c hc x hx
theorem RSm.sync (h : RSm w w1 q r T D S n) (hn : n + 1 ≤ 2097152) (nm : ByteArray) (hs : nm.size ≤ maxLen) (x : DV × Int) (hx : synD D nm.data.toList = x) : Calls Tryz.prog 76 #[.pointer (some ⟨r, 0, none⟩), .string nm] w1 fun e w' => e = .returned (.int .i64 x.2) ∧ RSm w w' q r T x.1 S (n + 1) := by
  subst hx
  exact h.act fun _ hm => hm.sync hn nm hs w1 (Below.refl _ _)
theorem RSm.write (h : RSm w w1 q r T D S n) (hn : n + 1 ≤ 2097152) (nm t : ByteArray) (hs : nm.size ≤ maxLen) (off : Int) (ht : t.size ≤ 140737488355328) (x : DV × Int) (hx : wrD D nm.data.toList off t.data.toList = x) : Calls Tryz.prog 127 #[.pointer (some ⟨r, 0, none⟩), .string nm, .int .i64 off, .string t] w1 fun e w' => e = .returned (.int .i64 x.2) ∧ RSm w w' q r T x.1 S (n + 1) := by
  subst hx
  exact h.act fun _ hm => hm.write hn nm t hs off ht w1 (Below.refl _ _)
theorem RSm.ssize (h : RSm w w1 q r T D S n) : Calls Tryz.prog 9 #[.pointer (some ⟨q, 0, none⟩)] w1 fun e w' => e = .returned (.int .u64 (S.ends.length : Int)) ∧ w' = w1 := by
  obtain ⟨V, T', h1, h2, _⟩ := h
  exact rsize19_any h2 w1 (Below.refl _ _)
end
def nx (f : DV → DV × Int) (x : DV × Int) : DV × Int := if x.2 = 0 then f x.1 else x
theorem runA_stop {l : List (DV → DV × Int)} {x : DV × Int} (h : ¬ x.2 = 0) : l.foldl (fun x f => nx f x) x = x := by
  induction l with
  | nil => rfl
  | cons f l ih => rw [List.foldl_cons, show nx f x = x from if_neg h]; exact ih
theorem runA_fold (l : List (DV → DV × Int)) : ∀ D, runA l D = l.foldl (fun x f => nx f x) (D, 0) := by
  induction l with
  | nil => intro D; rfl
  | cons f l ih =>
    intro D
    rw [runA, List.foldl_cons, show nx f (D, 0) = f D from if_pos rfl]
    split
    · rename_i h
      rw [ih, show ((f D).1, (0 : Int)) = f D by rw [← h]]
    · rename_i h
      rw [runA_stop h]
theorem runA6 (f1 f2 f3 f4 f5 f6 : DV → DV × Int) (D : DV) : runA [f1, f2, f3, f4, f5, f6] D = nx f6 (nx f5 (nx f4 (nx f3 (nx f2 (f1 D))))) := by
  rw [runA_fold]
  rfl
def RopQ (w : World) (r : Nat) (T : Nat → Prop) (x : DV × Option SV × Int) (n : Nat) (e : Ending) (w' : World) : Prop := match x.2.1 with
  | none => e = .returned (.tuple #[.pointer none, .int .i64 x.2.2]) ∧ RDm w w' r T x.1 n
  | some S => ∃ q, e = .returned (.tuple #[.pointer (some ⟨q, 0, none⟩), .int .i64 x.2.2]) ∧ w.heap.size ≤ q ∧ RSm w w' q r T x.1 S n
theorem RSm.rdm {w w1 : World} {q r n : Nat} {T : Nat → Prop} {D : DV} {S : SV} (h : RSm w w1 q r T D S n) : ∃ T', RDm w1 w1 r T' D n ∧ (∀ x, T' x → T x ∨ w.heap.size ≤ x) ∧ Upo T w w1 := by
  obtain ⟨V, T', h1, h2, h3, h4⟩ := h
  obtain ⟨T0, g1, g2⟩ := h2.disk
  exact ⟨T0, RDm.of g1 h1 (Below.refl _ _), fun x hx => h3 x (g2 x hx), h4⟩
theorem RSm.down {w w1 : World} {q r n : Nat} {T : Nat → Prop} {D : DV} {S : SV} (h : RSm w w1 q r T D S n) : RDm w w1 r T D n := by
  obtain ⟨V, T', h1, h2, h3, h4⟩ := h
  obtain ⟨T0, g1, g2⟩ := h2.disk
  exact ⟨V, h1, T0, g1, fun x hx => h3 x (g2 x hx), h4⟩
theorem rsm_new {w w5 : World} {r n : Nat} {T : Nat → Prop} {D : DV} {V : RV} {va : Option Addr} {vc k : Nat} {l : List MV} (h : Rsk w r T V) (hb : Bd D V n) (hw : Below w.heap.size w w5) (ho : OwnK w5 w.heap.size (.slice va l.length vc) l) (k1 : 1 ≤ k) (k2 : k ≤ 32) (hl : l.length ≤ 65536) (hlow : ∀ m ∈ l, m.items ≤ 268435456) :
    RSm w (w5.alloc (.cells #[.pointer (some ⟨r, 0, none⟩), .int .i64 (k : Int), .slice va l.length vc, .bool false] 74)) w5.heap.size r T D ⟨k, l.map (·.items), lastC l, false⟩ n := by
  have hal := bal (Below.refl w5.heap.size w5) (.cells #[.pointer (some ⟨r, 0, none⟩), .int .i64 (k : Int), .slice va l.length vc, .bool false] 74)
  refine ⟨V, fun x => T x ∨ x = w5.heap.size ∨ (Value.slice va l.length vc).ownBlock = some x, hb, ⟨T, _, l, (h.next hw).next hal, ⟨new1 _ _, World.ownsRow.mono (ownK_next ho hal) (Nat.zero_le _), rfl, rfl, k1, k2, by simpa using hl, fun e he => by
    obtain ⟨m, hm, rfl⟩ := List.mem_map.1 he
    exact hlow m hm⟩, fun hq => ?_, fun g hg => ⟨?_, fun hq => ?_⟩, fun _ => Iff.rfl⟩, fun x hx => ?_, Upo.of (bnext hw hal)⟩
  · have := h.lt hq; have := hw.size; omega
  · have := (World.ownsRow.lt ho g hg).2; omega
  · have := (World.ownsRow.lt ho g hg).1; have := h.lt hq; omega
  · rcases hx with e | rfl | e
    · exact .inl e
    · exact .inr hw.size
    · exact .inr (World.ownsRow.lt ho x e).1
theorem RowR.low {k : Nat} {l : List MV} (h : RowR k l) {c : Nat} (hc : bgM l ≤ c) : ∀ m ∈ l, m.items ≤ c := fun m hm => by
  obtain ⟨i, hi, rfl⟩ := List.getElem_of_mem hm
  have := (h.le i hi).2
  rw [List.getD_eq_getElem?_getD, List.getElem?_eq_getElem hi] at this
  exact Nat.le_trans this hc
theorem lastC_chR {k : Nat} {l : List MV} {a b : List UInt8} (h : Rgt k l a b) : lastC l = chR l a b l.length := by
  rcases List.eq_nil_or_concat l with rfl | ⟨l0, m, rfl⟩
  · rfl
  · rw [List.concat_eq_append] at *
    have := h.chain l0.length (by simp)
    rw [getD_snoc_eq] at this
    rw [lastC_snoc, this]
    simp
end Go.Proofs.YthfnpagangjpbabGreat
namespace Go.Proofs.YthfnpagangjpbabGreat
open Go.RowKit
open Rc
attribute [local go_sem ↓] Go.wp_at_zero Go.wp_at_succ
def fin3 (i : Nat) (x : DV × Int) : DV × Int := match i with
  | 0 => nx (fun D => synD D nmM) (nx (fun D => synD D nmN) (nx (fun D => synD D nmI) x))
  | 1 => nx (fun D => synD D nmM) (nx (fun D => synD D nmN) x)
  | 2 => nx (fun D => synD D nmM) x
  | _ => x
theorem nx_no {f : DV → DV × Int} {x : DV × Int} (h : ¬ x.2 = 0) : nx f x = x := if_neg h
theorem nx_yes {f : DV → DV × Int} {D : DV} : nx f (D, 0) = f D := if_pos rfl
theorem fin3_no {i : Nat} {x : DV × Int} (h : ¬ x.2 = 0) : fin3 i x = x := by
  unfold fin3
  split
  · rw [nx_no (f := fun D => synD D nmI) h, nx_no (f := fun D => synD D nmN) h, nx_no (f := fun D => synD D nmM) h]
  · rw [nx_no (f := fun D => synD D nmN) h, nx_no (f := fun D => synD D nmM) h]
  · rw [nx_no h]
  · rfl
section
variable {w : World} {r n : Nat} {T : Nat → Prop} {D : DV} {V : RV}
theorem ropen_no (h : Rsk w r T V) (hb : Bd D V n) (hn : n + 6 ≤ 2097152) {W : World} (hW : Below w.heap.size w W) (c : Int) : RopQ w r T (D, none, c) (n + 6) (.returned (.tuple #[.pointer none, .int .i64 c])) W := ⟨rfl, (RDm.of h hb hW).mono (by omega) hn⟩
set_option maxRecDepth 100000 in
set_option maxHeartbeats 4000000 in
theorem ropen19_any (h : Rsk w r T V) (hb : Bd D V n) (hn : n + 6 ≤ 2097152) (k : Int) (x : DV × Option SV × Int) (hx : opnD D k = x) :
    Calls Tryz.prog 26 #[.pointer (some ⟨r, 0, none⟩), .int .i64 k] w (RopQ w r T x (n + 6)) := by
  have hm : RDm w w r T D n := RDm.of h hb (Below.refl _ _)
  have HZ : Hid (∀ W (c : Int), Below w.heap.size w W → x = (D, none, c) → RopQ w r T x (n + 6) (.returned (.tuple #[.pointer none, .int .i64 c])) W) := fun W c hW hc => by rw [hc]; exact ropen_no h hb hn hW c
  unfold opnD at hx
  by_cases hk1 : k < 1
  · rw [if_pos (by omega)] at hx
    have HZ2 := hide (HZ.out w 70 (Below.refl _ _) hx.symm)
    clear hx h hb hm HZ
    go_enter Tryz.func26, Tryz.ntmps26
    go_wp2
    go_ret2
    exact HZ2.out
  by_cases hk2 : 32 < k
  · rw [if_pos (by omega)] at hx
    have HZ2 := hide (HZ.out w 70 (Below.refl _ _) hx.symm)
    clear hx h hb hm HZ
    go_enter Tryz.func26, Tryz.ntmps26
    go_wp2
    go_ret2
    exact HZ2.out
  rw [if_neg (by omega)] at hx
  have HD : Hid (∀ W, Below w.heap.size w W → Calls Tryz.prog 30 #[.pointer (some ⟨r, 0, none⟩)] W fun e w' => e = .returned (.bool D.down) ∧ w' = W) := fun W hW => hm.down W hW
  by_cases hd : D.down = true
  · rw [if_pos hd] at hx
    have HZ2 := hide (HZ.out w 170 (Below.refl _ _) hx.symm)
    have HD2 := hide (HD.out w (Below.refl _ _))
    rw [hd] at HD2
    clear hx h hb hm HZ HD hd
    go_enter Tryz.func26, Tryz.ntmps26
    go_wp2_with (go_at_call 30; (with_reducible refine HD2.out.mono ?_); rintro e w1 ⟨rfl, rfl⟩)
    go_ret2
    exact HZ2.out
  rw [if_neg hd] at hx
  have hd' : D.down = false := by simpa using hd
  have HD2 := hide (HD.out w (Below.refl _ _))
  rw [hd'] at HD2
  obtain ⟨kn, hkn⟩ : ∃ m : Nat, k = (m : Int) := ⟨k.toNat, by omega⟩
  subst hkn
  rw [Int.toNat_natCast] at hx
  obtain ⟨am, ham⟩ : ∃ a, tx (now D nmM) = a := ⟨_, rfl⟩
  obtain ⟨ai, hai⟩ : ∃ a, tx (now D nmI) = a := ⟨_, rfl⟩
  obtain ⟨an, han⟩ : ∃ a, tx (now D nmN) = a := ⟨_, rfl⟩
  have zm : am.size ≤ 268435456 := by rw [← ham, tx_size]; exact hm.sz nmM
  have zi : ai.size ≤ 268435456 := by rw [← hai, tx_size]; exact hm.sz nmI
  have zn : an.size ≤ 268435456 := by rw [← han, tx_size]; exact hm.sz nmN
  have HWm : Hid (∀ W, Below w.heap.size w W → Calls Tryz.prog 72 #[.pointer (some ⟨r, 0, none⟩), .string ⟨#[109, 97, 114, 107, 115]⟩] W fun e w' => e = .returned (.string am) ∧ Below W.heap.size W w') := fun W hW => rwhole_any hm hd' W hW ⟨#[109, 97, 114, 107, 115]⟩ am ham
  have HWi : Hid (∀ W, Below w.heap.size w W → Calls Tryz.prog 72 #[.pointer (some ⟨r, 0, none⟩), .string ⟨#[105, 116, 101, 109, 115]⟩] W fun e w' => e = .returned (.string ai) ∧ Below W.heap.size W w') := fun W hW => rwhole_any hm hd' W hW ⟨#[105, 116, 101, 109, 115]⟩ ai hai
  have HWn : Hid (∀ W, Below w.heap.size w W → Calls Tryz.prog 72 #[.pointer (some ⟨r, 0, none⟩), .string ⟨#[110, 111, 100, 101, 115]⟩] W fun e w' => e = .returned (.string an) ∧ Below W.heap.size W w') := fun W hW => rwhole_any hm hd' W hW ⟨#[110, 111, 100, 101, 115]⟩ an han
  have lm : am.data.toList = now D nmM := by rw [← ham, tx_data]
  have li : ai.data.toList = now D nmI := by rw [← hai, tx_data]
  have ln : an.data.toList = now D nmN := by rw [← han, tx_data]
  have HRd : Hid (∀ W : World, Calls Tryz.prog 71 #[.string am, .int .i64 (kn : Int)] W (ReQ W (rdR kn (now D nmM) (cntM (now D nmM))))) := fun W => rread19_any W am zm kn _ lm
  cases ho : rdR kn (now D nmM) (cntM (now D nmM)) with
  | none =>
    have htk : tkAll kn (now D nmI) (now D nmN) (now D nmM) = none := by
      cases hq : tkAll kn (now D nmI) (now D nmN) (now D nmM) with
      | none => rfl
      | some st =>
        obtain ⟨l, e1, _⟩ := tkAll_rdR.1 hq
        rw [ho] at e1
        cases e1
    rw [htk] at hx
    rw [ho] at HRd
    have HZ2 := hide (fun W hW => HZ.out W 190 hW hx.symm)
    clear hx h hb hm HZ HD hd ho htk HWi HWn lm li ln ham hai han zm zi zn
    go_enter Tryz.func26, Tryz.ntmps26
    go_wp2_with (first
      | (go_at_call 30; (with_reducible refine HD2.out.mono ?_); rintro e w1 ⟨rfl, rfl⟩)
      | (go_at_call 72; (with_reducible refine (HWm.out _ (Below.refl _ _)).mono ?_); rintro e w2 ⟨rfl, u2⟩)
      | (go_at_call 71; (with_reducible refine (HRd.out _).mono ?_); rintro e w3 ⟨u3, rfl⟩))
    go_ret2
    exact HZ2.out _ (bnext u2 u3)
  | some l =>
    have hrow := rdR_row ho
    obtain ⟨ll, hll⟩ : ∃ m, l.length = m := ⟨_, rfl⟩
    have hl6 : ll ≤ 65536 := by rw [← hll]; exact hrow.few
    have HRd2 : Hid (∀ W : World, Calls Tryz.prog 71 #[.string am, .int .i64 (kn : Int)] W fun e w' => ∃ va vc, e = .returned (.tuple #[.slice va ll vc, .bool true]) ∧ OwnK w' W.heap.size (.slice va ll vc) l ∧ Below W.heap.size W w') := fun W => (HRd.out W).mono fun e w' z => by
      rw [ho] at z
      obtain ⟨z1, va, vc, z2, z3⟩ := z
      rw [hll] at z2 z3
      exact ⟨va, vc, z2, z3, z1⟩
    have HRi : Hid (∀ (W W0 : World) va vc, OwnK W W0.heap.size (.slice va ll vc) l → ∀ W', Below W.heap.size W W' → Calls Tryz.prog 73 #[.slice va ll vc, .int .i64 (kn : Int), .string ai, .string an] W' (RiQ W' (Rgt kn l (now D nmI) (now D nmN)))) := fun W W0 va vc o W' hW' => by
      obtain ⟨ao, b, cap, hv, rd, _⟩ := ownK_rd (ownK_next o hW')
      rw [hll] at hv
      injection hv with g1 g2 g3
      subst g1 g3
      have := rright_any W' va b vc l rd kn (by omega) (by omega) hrow ai an zi zn _ _ li ln
      rw [hll] at this
      exact this
    by_cases hR : Rgt kn l (now D nmI) (now D nmN)
    · have htk := tkAll_rdR.2 ⟨l, ho, hR, rfl⟩
      rw [htk] at hx
      simp only at hx
      have hst : (⟨kn, l.map (·.items), chR l (now D nmI) (now D nmN) l.length, false⟩ : SV) = ⟨kn, l.map (·.items), lastC l, false⟩ := by rw [lastC_chR hR]
      rw [hst] at hx
      obtain ⟨S, hS⟩ : ∃ S : SV, ⟨kn, l.map (·.items), lastC l, false⟩ = S := ⟨_, rfl⟩
      have hSe : S.ends = l.map (·.items) := by rw [← hS]
      have hSl : S.ends.length = ll := by rw [hSe, List.length_map, hll]
      rw [hS, ← hSe] at hx
      have hlow : ∀ m ∈ l, m.items ≤ 268435456 := hrow.low (Nat.le_trans hR.la (hm.sz nmI))
      have HNew : Hid (∀ (w5 : World) va vc, Below w.heap.size w w5 → OwnK w5 w.heap.size (.slice va ll vc) l → RSm w (w5.alloc (.cells #[.pointer (some ⟨r, 0, none⟩), .int .i64 (kn : Int), .slice va ll vc, .bool false] 74)) w5.heap.size r T D S n) := fun w5 va vc h5 o5 => by
        have := rsm_new (k := kn) h hb h5 (by rw [hll]; exact o5) (by omega) (by omega) (by rw [hll]; exact hl6) hlow
        rw [hS, hll] at this
        exact this
      obtain ⟨X, hX⟩ : ∃ X, runA (stl S.ends) D = X := ⟨_, rfl⟩
      rw [hX] at hx
      obtain ⟨⟨D1, e1⟩, hx1⟩ : ∃ y, cutI nmI (lst S.ends) D = y := ⟨_, rfl⟩
      obtain ⟨⟨D2, e2⟩, hx2⟩ : ∃ y, nx (cutI nmN (nn S.ends.length * 40)) (D1, e1) = y := ⟨_, rfl⟩
      obtain ⟨⟨D3, e3⟩, hx3⟩ : ∃ y, nx (cutI nmM (S.ends.length * 64)) (D2, e2) = y := ⟨_, rfl⟩
      have HFn : Hid (fin3 0 (D3, e3) = X) := by
        show _ = _
        rw [← hX, stl, runA6, ← hx3, ← hx2, ← hx1]
        rfl
      obtain ⟨le, hle⟩ : ∃ m, lst S.ends = m := ⟨_, rfl⟩
      have hle2 : le ≤ 268435456 := by
        rw [← hle, hSe]
        exact Nat.le_trans hR.la (hm.sz nmI)
      obtain ⟨N, hN⟩ : ∃ m, nn ll = m := ⟨_, rfl⟩
      obtain ⟨N4, hN4⟩ : ∃ m, N * 40 = m := ⟨_, rfl⟩
      obtain ⟨L4, hL4⟩ : ∃ m, ll * 64 = m := ⟨_, rfl⟩
      have hNn := nn_le ll
      have HEw : Hid (IntKind.u64.wrap (40 * (N : Int)) = (N4 : Int) ∧ IntKind.u64.wrap (64 * (ll : Int)) = (L4 : Int)) := ⟨by rw [wrap_u _ (by omega) (by omega)]; omega, by rw [wrap_u _ (by omega) (by omega)]; omega⟩
      rw [hSl, hN, hN4] at hx2
      rw [hSl, hL4] at hx3
      rw [hle] at hx1
      have HEn : Hid (∀ (W : World) (q : Nat), RSm w W q r T D S n → Calls Tryz.prog 75 #[.pointer (some ⟨q, 0, none⟩)] W fun e w' => e = .returned (.int .u64 (le : Int)) ∧ RSm w w' q r T D S n) := fun W q hq => by
        obtain ⟨V', T', g1, g2, g3, g4⟩ := hq
        have := rend_any g2 W (Below.refl _ _)
        rw [hle] at this
        exact this.mono fun e w' z => by
          obtain ⟨z1, m, rfl⟩ := z
          exact ⟨z1, RSm.next ⟨V', T', g1, g2, g3, g4⟩ (below_drewN (Below.refl _ _) m)⟩
      have HC1 : Hid (∀ (W : World) (q : Nat), RSm w W q r T D S n → Calls Tryz.prog 74 #[.pointer (some ⟨r, 0, none⟩), .string ⟨#[105, 116, 101, 109, 115]⟩, .int .u64 (le : Int)] W fun e w' => e = .returned (.int .i64 e1) ∧ RSm w w' q r T D1 S (n + 1)) := fun W q hq => hq.cut (by omega) ⟨#[105, 116, 101, 109, 115]⟩ (by decide) le (by omega) _ hx1
      have HC2 : Hid (e1 = 0 → ∀ (W : World) (q : Nat), RSm w W q r T D1 S (n + 1) → Calls Tryz.prog 74 #[.pointer (some ⟨r, 0, none⟩), .string ⟨#[110, 111, 100, 101, 115]⟩, .int .u64 (N4 : Int)] W fun e w' => e = .returned (.int .i64 e2) ∧ RSm w w' q r T D2 S (n + 2)) := fun h0 W q hq => by
        rw [h0, nx_yes] at hx2
        exact hq.cut (by omega) ⟨#[110, 111, 100, 101, 115]⟩ (by decide) N4 (by omega) _ hx2
      have HN2 : Hid (¬ e1 = 0 → e1 = e2 ∧ D1 = D2) := fun h0 => by
        rw [nx_no h0] at hx2
        exact ⟨congrArg Prod.snd hx2, congrArg Prod.fst hx2⟩
      have HC3 : Hid (e2 = 0 → ∀ (W : World) (q : Nat), RSm w W q r T D2 S (n + 2) → Calls Tryz.prog 74 #[.pointer (some ⟨r, 0, none⟩), .string ⟨#[109, 97, 114, 107, 115]⟩, .int .u64 (L4 : Int)] W fun e w' => e = .returned (.int .i64 e3) ∧ RSm w w' q r T D3 S (n + 3)) := fun h0 W q hq => by
        rw [h0, nx_yes] at hx3
        exact hq.cut (by omega) ⟨#[109, 97, 114, 107, 115]⟩ (by decide) L4 (by omega) _ hx3
      have HN3 : Hid (¬ e2 = 0 → e2 = e3 ∧ D2 = D3) := fun h0 => by
        rw [nx_no h0] at hx3
        exact ⟨congrArg Prod.snd hx3, congrArg Prod.fst hx3⟩
      have HSz : Hid (∀ (W : World) (q m : Nat) (D' : DV), RSm w W q r T D' S m → Calls Tryz.prog 9 #[.pointer (some ⟨q, 0, none⟩)] W fun e w' => e = .returned (.int .u64 (ll : Int)) ∧ w' = W) := fun W q m D' hq => by
        have := hq.ssize
        rw [hSl] at this
        exact this
      have HCt : Hid (∀ W : World, Calls Tryz.prog 36 #[.int .u64 (ll : Int)] W fun e w' => e = .returned (.int .u64 (N : Int)) ∧ w' = W) := fun W => by
        have := rcount_any W ll (by omega)
        rw [hN] at this
        exact this
      have HRi2 : Hid (∀ (W W0 : World) va vc, OwnK W W0.heap.size (.slice va ll vc) l → ∀ W', Below W.heap.size W W' → Calls Tryz.prog 73 #[.slice va ll vc, .int .i64 (kn : Int), .string ai, .string an] W' fun e w' => e = .returned (.bool true) ∧ Below W'.heap.size W' w') := fun W W0 va vc o W' hW' => (HRi.out W W0 va vc o W' hW').mono fun e w' z => by
        obtain ⟨b, z1, z2, z3⟩ := z
        cases b
        · exact absurd (z2.2 hR) (by decide)
        · exact ⟨z1, z3⟩
      have HUp : Hid (∀ (w2 w3 : World) va vc, Below w.heap.size w w2 → OwnK w3 w2.heap.size (.slice va ll vc) l → Below w2.heap.size w2 w3 → ∀ W, Below w3.heap.size w3 W → OwnK W w.heap.size (.slice va ll vc) l) := fun w2 w3 va vc g1 g2 g3 W hW => World.ownsRow.mono (ownK_next g2 hW) g1.size
      have HX : Hid ((if X.2 = 0 then (X.1, some S, 0) else (X.1, none, X.2)) = x ∧ n + 6 ≤ 2097152) := ⟨hx, hn⟩
      clear hx h hb hm HZ HD hd ho htk lm li ln ham hai han zm zi zn HRi HRd hrow hll hR hX hx1 hx2 hx3 hle hle2 hN hN4 hL4 hNn hS hSe hSl hlow hst hl6
      go_enter Tryz.func26, Tryz.ntmps26
      go_upto_region 12 with (first
        | (go_at_call 30; (with_reducible refine HD2.out.mono ?_); rintro e w1 ⟨rfl, rfl⟩; have u1 := Below.refl w1.heap.size w1)
        | (go_at_call 72; (with_reducible refine (HWm.out _ u1).mono ?_); rintro e w2 ⟨rfl, u2⟩)
        | (go_at_call 71; (with_reducible refine (HRd2.out _).mono ?_); rintro e w3 ⟨va, vc, rfl, o3, v3⟩; have u3 := bnext u2 v3)
        | (go_at_call 72; (with_reducible refine (HWi.out _ u3).mono ?_); rintro e w4 ⟨rfl, v4⟩; have u4 := bnext u3 v4)
        | (go_at_call 72; (with_reducible refine (HWn.out _ u4).mono ?_); rintro e w5 ⟨rfl, v5⟩; have u5 := bnext u4 v5)
        | (go_at_call 73; (with_reducible refine (HRi2.out _ _ _ _ o3 _ (bnext v4 v5)).mono ?_); rintro e w6 ⟨rfl, v6⟩))
      have t7 := HNew.out _ va vc (bnext u5 v6) (HUp.out _ _ va vc u2 o3 v3 _ (bnext (bnext v4 v5) v6))
      have HQ0 : Hid (w1.heap.size ≤ w6.heap.size) := (bnext u5 v6).size
      obtain ⟨q0, hq0⟩ : ∃ b, w6.heap.size = b := ⟨_, rfl⟩
      rw [hq0] at t7 HQ0 ⊢
      generalize w6.alloc (.cells #[.pointer (some ⟨r, 0, none⟩), .int .i64 (kn : Int), .slice va ll vc, .bool false] 74) = w7 at *
      clear hq0 u2 o3 v3 u3 v4 u4 v5 u5 v6 HUp HNew HRi2 HRd2 HWm HWi HWn HD2
      go_upto_if 52 with (first
        | (go_at_call 75; (with_reducible refine (HEn.out _ _ t7).mono ?_); rintro e w8 ⟨rfl, t8⟩)
        | (go_at_call 74; (with_reducible refine (HC1.out _ _ t8).mono ?_); rintro e w9 ⟨rfl, t9⟩))
      clear HEn HC1 t7 t8
      go_cut [9] from 12 (fun v wx => v = .int .i64 e2 ∧ Hid (RSm w1 wx q0 r T D2 S (n + 2)))
      case first =>
        by_cases h0 : e1 = 0
        · subst h0
          have HC := hide (HC2.out rfl)
          obtain ⟨ew1, ew2⟩ := HEw.out
          clear HC2 HN2
          go_wp2_with (first
            | (go_at_call 9; (with_reducible refine (HSz.out _ _ _ _ t9).mono ?_); rintro e wa ⟨rfl, rfl⟩)
            | (go_at_call 36; (with_reducible refine (HCt.out _).mono ?_); rintro e wb ⟨rfl, rfl⟩)
            | (go_at_call 74; (with_reducible refine (HC.out _ _ t9).mono ?_); rintro e wd ⟨rfl, td⟩))
          go_meet
          case rel => exact ⟨rfl, td⟩
        · have hb0 : (e1 == 0) = false := by simpa using h0
          have HE := hide (HN2.out h0)
          have T9 := hide (t9.mono (m := n + 2) (by omega) (by have := HX.out.2; omega))
          clear h0 HC2 HN2
          go_wp2
          go_meet
          case rel => exact ⟨by rw [HE.out.1], by rw [← HE.out.2]; exact T9.out⟩
      case rest =>
      obtain ⟨rfl, T9⟩ := hcut
      generalize wc = w9 at *
      clear wc
      have t9 := T9.out
      go_upto_if 60 with (fail)
      clear HC2 HN2
      go_cut [9] from 12 (fun v wx => v = .int .i64 e3 ∧ Hid (RSm w1 wx q0 r T D3 S (n + 3)))
      case first =>
        by_cases h0 : e2 = 0
        · subst h0
          have HC := hide (HC3.out rfl)
          obtain ⟨ew1, ew2⟩ := HEw.out
          clear HC3 HN3
          go_wp2_with (first
            | (go_at_call 9; (with_reducible refine (HSz.out _ _ _ _ t9).mono ?_); rintro e wa ⟨rfl, rfl⟩)
            | (go_at_call 74; (with_reducible refine (HC.out _ _ t9).mono ?_); rintro e wd ⟨rfl, td⟩))
          go_meet
          case rel => exact ⟨rfl, td⟩
        · have hb0 : (e2 == 0) = false := by simpa using h0
          have HE := hide (HN3.out h0)
          have T9 := hide (t9.mono (m := n + 3) (by omega) (by have := HX.out.2; omega))
          clear h0 HC3 HN3
          go_wp2
          go_meet
          case rel => exact ⟨by rw [HE.out.1], by rw [← HE.out.2]; exact T9.out⟩
      case rest =>
      obtain ⟨rfl, TA⟩ := hcut
      generalize wc = wa at *
      clear wc t9 T9 HC3 HN3 HSz HCt HEw
      obtain ⟨V3, T3, b1, b2, b3, b4⟩ := TA.out
      have hal := bal (Below.refl wa.heap.size wa) (.cells #[.string ⟨#[105, 116, 101, 109, 115]⟩, .string ⟨#[110, 111, 100, 101, 115]⟩, .string ⟨#[109, 97, 114, 107, 115]⟩] 9)
      have HB0 : Hid (RSm (wa.alloc (.cells #[.string ⟨#[105, 116, 101, 109, 115]⟩, .string ⟨#[110, 111, 100, 101, 115]⟩, .string ⟨#[109, 97, 114, 107, 115]⟩] 9)) (wa.alloc (.cells #[.string ⟨#[105, 116, 101, 109, 115]⟩, .string ⟨#[110, 111, 100, 101, 115]⟩, .string ⟨#[109, 97, 114, 107, 115]⟩] 9)) q0 r T3 D3 S (n + 3 + 0)) := RSm.of (b2.next hal) b1 (Below.refl _ _)
      have HB1 : Hid (∀ W m D', RSm (wa.alloc (.cells #[.string ⟨#[105, 116, 101, 109, 115]⟩, .string ⟨#[110, 111, 100, 101, 115]⟩, .string ⟨#[109, 97, 114, 107, 115]⟩] 9)) W q0 r T3 D' S m → RSm w1 W q0 r T D' S m ∧ (W.cell? ⟨wa.heap.size, 0, none⟩ = some (.string ⟨#[105, 116, 101, 109, 115]⟩) ∧ W.cell? ⟨wa.heap.size, 1, none⟩ = some (.string ⟨#[110, 111, 100, 101, 115]⟩) ∧ W.cell? ⟨wa.heap.size, 2, none⟩ = some (.string ⟨#[109, 97, 114, 107, 115]⟩))) := fun W m D' hq => ⟨RSm.after b3 (b4.next hal) hq, by
        obtain ⟨_, _, _, _, _, g4⟩ := hq
        exact three_at ((g4.block wa.heap.size (by rw [al_size]; omega) (fun q => Nat.lt_irrefl _ (b2.lt q))).trans (new1 _ _))⟩
      obtain ⟨bn, hbn⟩ : ∃ b, wa.heap.size = b := ⟨_, rfl⟩
      obtain ⟨wn, hwn⟩ : ∃ W, wa.alloc (.cells #[.string ⟨#[105, 116, 101, 109, 115]⟩, .string ⟨#[110, 111, 100, 101, 115]⟩, .string ⟨#[109, 97, 114, 107, 115]⟩] 9) = W := ⟨_, rfl⟩
      have HWn := hide hwn
      have HBn := hide hbn
      rw [hwn] at HB0 HB1
      rw [hbn] at HB1
      clear b1 b2 b3 b4 hal TA hwn hbn
      go_upto_region 18 with (fail)
      rw [HWn.out, HBn.out]
      go_wp2
      go_loopg [9, 11] 3 (fun g x y wr => ∃ (i : Nat) (Di : DV) (ei : Int), i ≤ 3 ∧ g = 3 - i ∧ x = .int .i64 ei ∧ y = .int .i64 (i : Int) ∧ Hid (fin3 i (Di, ei) = X ∧ RSm wn wr q0 r T3 Di S (n + 3 + i)))
      case atStart =>
        go_light
        exact ⟨0, D3, e3, by omega, rfl, rfl, rfl, HFn.out, HB0.out⟩
      case round =>
        obtain ⟨i, Di, ei, hi, rfl, rfl, rfl, HI⟩ := hrel
        obtain ⟨_, y0, y1, y2⟩ := HB1.out _ _ _ HI.out.2
        by_cases h0 : ei = 0
        · subst h0
          by_cases h3 : i < 3
          · have hc : i = 0 ∨ i = 1 ∨ i = 2 := by omega
            clear h3 hi
            rcases hc with rfl | rfl | rfl
            · obtain ⟨⟨Dj, ej⟩, hxj⟩ : ∃ y, synD Di nmI = y := ⟨_, rfl⟩
              have HS := hide (HI.out.2.sync (by have := HX.out.2; omega) ⟨#[105, 116, 101, 109, 115]⟩ (by decide) _ hxj)
              have HF : Hid (fin3 1 (Dj, ej) = X) := by
                have h := HI.out.1
                change nx (fun D => synD D nmM) (nx (fun D => synD D nmN) (nx (fun D => synD D nmI) (Di, 0))) = X at h
                rw [nx_yes] at h
                rw [← hxj]
                exact h
              clear hxj HI HFn HB0
              go_wp2_with (go_at_call 76; (with_reducible refine HS.out.mono ?_); rintro e wj ⟨rfl, tj⟩)
              go_roundg (3 - (0 + 1))
              case rel =>
                go_light
                exact ⟨1, Dj, ej, by omega, rfl, rfl, by first | rfl | go_num, HF.out, tj⟩
              case measure => go_light; omega
            · obtain ⟨⟨Dj, ej⟩, hxj⟩ : ∃ y, synD Di nmN = y := ⟨_, rfl⟩
              have HS := hide (HI.out.2.sync (by have := HX.out.2; omega) ⟨#[110, 111, 100, 101, 115]⟩ (by decide) _ hxj)
              have HF : Hid (fin3 2 (Dj, ej) = X) := by
                have h := HI.out.1
                change nx (fun D => synD D nmM) (nx (fun D => synD D nmN) (Di, 0)) = X at h
                rw [nx_yes] at h
                rw [← hxj]
                exact h
              clear hxj HI HFn HB0
              go_wp2_with (go_at_call 76; (with_reducible refine HS.out.mono ?_); rintro e wj ⟨rfl, tj⟩)
              go_roundg (3 - (1 + 1))
              case rel =>
                go_light
                exact ⟨2, Dj, ej, by omega, rfl, rfl, by first | rfl | go_num, HF.out, tj⟩
              case measure => go_light; omega
            · obtain ⟨⟨Dj, ej⟩, hxj⟩ : ∃ y, synD Di nmM = y := ⟨_, rfl⟩
              have HS := hide (HI.out.2.sync (by have := HX.out.2; omega) ⟨#[109, 97, 114, 107, 115]⟩ (by decide) _ hxj)
              have HF : Hid (fin3 3 (Dj, ej) = X) := by
                have h := HI.out.1
                change nx (fun D => synD D nmM) (Di, 0) = X at h
                rw [nx_yes] at h
                rw [← hxj]
                exact h
              clear hxj HI HFn HB0
              go_wp2_with (go_at_call 76; (with_reducible refine HS.out.mono ?_); rintro e wj ⟨rfl, tj⟩)
              go_roundg (3 - (2 + 1))
              case rel =>
                go_light
                exact ⟨3, Dj, ej, by omega, rfl, rfl, by first | rfl | go_num, HF.out, tj⟩
              case measure => go_light; omega
          · obtain rfl : i = 3 := by omega
            have HZ : Hid (RopQ w1 r T x (n + 6) (.returned (.tuple #[.pointer (some ⟨q0, 0, none⟩), .int .i64 0])) wr) := by
              obtain ⟨g1, g2⟩ := HI.out
              have hX : (Di, (0 : Int)) = X := g1
              obtain ⟨h1, _⟩ := HX.out
              rw [← hX, if_pos rfl] at h1
              rw [← h1]
              exact ⟨q0, rfl, HQ0.out, (HB1.out _ _ _ g2).1⟩
            clear HI HX HFn HB0 HB1 HQ0 h3 hi
            go_wp2
            go_ret2
            exact HZ.out
        · have hb0 : (ei == 0) = false := by simpa using h0
          have hb1 : (ei != 0) = true := by simpa using h0
          have HZ : Hid (RopQ w1 r T x (n + 6) (.returned (.tuple #[.pointer none, .int .i64 ei])) wr) := by
            obtain ⟨g1, g2⟩ := HI.out
            rw [fin3_no h0] at g1
            obtain ⟨h1, h2⟩ := HX.out
            rw [← g1, if_neg h0] at h1
            rw [← h1]
            exact ⟨rfl, ((HB1.out _ _ _ g2).1.down).mono (by omega) h2⟩
          clear HI HX HFn HB0 HB1 HQ0 h0
          by_cases h3 : i < 3
          · have h31 : (i : Int) < 3 := by omega
            clear h3 hi
            go_wp2
            go_ret2
            exact HZ.out
          · have h31 : ¬ (i : Int) < 3 := by omega
            clear h3 hi
            go_wp2
            go_ret2
            exact HZ.out
    · have htk : tkAll kn (now D nmI) (now D nmN) (now D nmM) = none := by
        cases hq : tkAll kn (now D nmI) (now D nmN) (now D nmM) with
        | none => rfl
        | some st =>
          obtain ⟨l', e1, e2, _⟩ := tkAll_rdR.1 hq
          rw [ho] at e1
          cases e1
          exact absurd e2 hR
      rw [htk] at hx
      have HZ2 := hide (fun W hW => HZ.out W 190 hW hx.symm)
      have HRi2 : Hid (∀ (W W0 : World) va vc, OwnK W W0.heap.size (.slice va ll vc) l → ∀ W', Below W.heap.size W W' → Calls Tryz.prog 73 #[.slice va ll vc, .int .i64 (kn : Int), .string ai, .string an] W' fun e w' => e = .returned (.bool false) ∧ Below W'.heap.size W' w') := fun W W0 va vc o W' hW' => (HRi.out W W0 va vc o W' hW').mono fun e w' z => by
        obtain ⟨b, z1, z2, z3⟩ := z
        cases b
        · exact ⟨z1, z3⟩
        · exact absurd (z2.1 rfl) hR
      clear hx h hb hm HZ HD hd ho htk lm li ln ham hai han zm zi zn HRi HRd hrow hll hR
      go_enter Tryz.func26, Tryz.ntmps26
      go_wp2_with (first
        | (go_at_call 30; (with_reducible refine HD2.out.mono ?_); rintro e w1 ⟨rfl, rfl⟩; have u1 := Below.refl w1.heap.size w1)
        | (go_at_call 72; (with_reducible refine (HWm.out _ u1).mono ?_); rintro e w2 ⟨rfl, u2⟩; replace u2 := bnext u1 u2)
        | (go_at_call 71; (with_reducible refine (HRd2.out _).mono ?_); rintro e w3 ⟨va, vc, rfl, o3, u3⟩; replace u3 := bnext u2 u3)
        | (go_at_call 72; (with_reducible refine (HWi.out _ u3).mono ?_); rintro e w4 ⟨rfl, v4⟩; have u4 := bnext u3 v4)
        | (go_at_call 72; (with_reducible refine (HWn.out _ u4).mono ?_); rintro e w5 ⟨rfl, v5⟩; have u5 := bnext u4 v5)
        | (go_at_call 73; (with_reducible refine (HRi2.out _ _ _ _ o3 _ (bnext v4 v5)).mono ?_); rintro e w6 ⟨rfl, u6⟩))
      go_ret2
      exact HZ2.out _ (bnext u5 u6)
end
end Go.Proofs.YthfnpagangjpbabGreat
