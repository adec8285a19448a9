/-
  Forest's script: the program's forest and the reference's side by side. Own work.
-/
import Derived.Test.YtabdobdopcfllaaDoorFScrA
import Derived.Test.YtabdobdopcfllaaDoorFAlive
import Derived.Test.YtabdobdopcfllaaDoorFRefD
namespace Go.Proofs.YtabdobdopcfllaaDoor
open Go.RowKit
attribute [local go_sem ↓] Go.wp_at_zero Go.wp_at_succ
/-- What both hold. -/
def Fp (m q gA : Nat) (vs : List Value) (b : Nat) : Prop := b = m ∨ b = m + 1 ∨ Foot q gA vs b
structure Pair (w : World) (B m q : Nat) (K : Int) (L : List ByteArray) (gA cA : Nat) (vs : List Value) : Prop where
  fr : Frs w m K L
  rf : Rf w B q K L gA cA vs
  bm : B ≤ m
  ap : ∀ b, Foot q gA vs b → b ≠ m ∧ b ≠ m + 1
/-- How far it has come since w. -/
structure St (w wr : World) (B m q : Nat) (K : Int) (gA : Nat) (vs : List Value) (L' : List ByteArray) (gA' cA' : Nat) (vs' : List Value) : Prop where
  pr : Pair wr B m q K L' gA' cA' vs'
  ch : ChS (Fp m q gA vs) w wr
  ft : ∀ b, Foot q gA' vs' b → Foot q gA vs b ∨ w.heap.size ≤ b
section
variable {w w' wr wa w1 w2 : World} {B m q gA cA gA' cA' : Nat} {K : Int} {L L' : List ByteArray} {vs vs' : List Value}
theorem Pair.lt (h : Pair w B m q K L gA cA vs) {b : Nat} (hb : Fp m q gA vs b) : B ≤ b ∧ b < w.heap.size := by
  have h1 := h.fr.lt
  have h2 := h.bm
  rcases hb with rfl | rfl | hb
  · exact ⟨h2, by omega⟩
  · exact ⟨by omega, h1⟩
  · exact h.rf.lv.foot hb
theorem Pair.same (h : Pair w B m q K L gA cA vs) (hs : ∀ b, Fp m q gA vs b → w'.heap[b]? = w.heap[b]?) : Pair w' B m q K L gA cA vs :=
  ⟨h.fr.same (hs m (.inl rfl)) (hs (m + 1) (.inr (.inl rfl))), h.rf.same fun b hb => hs b (.inr (.inr hb)), h.bm, h.ap⟩
theorem Pair.next (h : Pair w B m q K L gA cA vs) (hb : Below w.heap.size w w') : Pair w' B m q K L gA cA vs := h.same fun b hf => hb.block b (h.lt hf).2
theorem Pair.chs {S : Nat → Prop} (h : Pair w B m q K L gA cA vs) (hc : ChS S w w') (hn : ∀ b, Fp m q gA vs b → ¬ S b) : Pair w' B m q K L gA cA vs := h.same fun b hf => hc.block b (h.lt hf).2 (hn b hf)
theorem St.refl (h : Pair w B m q K L gA cA vs) : St w w B m q K gA vs L gA cA vs := ⟨h, ChS.refl _ _, fun _ hb => .inl hb⟩
theorem St.next (h : St w wr B m q K gA vs L' gA' cA' vs') (hb : Below wr.heap.size wr wa) : St w wa B m q K gA vs L' gA' cA' vs' :=
  ⟨h.pr.next hb, h.ch.trans (ChS.of (S := fun _ => False) hb) (fun _ _ e => e.elim), h.ft⟩
theorem St.below (h : St w wr B m q K gA vs L' gA' cA' vs') (hP : Pair w B m q K L gA cA vs) (hB : B ≤ w.heap.size) : Below B w wr := h.ch.below hB fun _ hb => (hP.lt hb).1
theorem St.set (h : St w wr B m q K gA vs L' gA' cA' vs') (hP : Pair w B m q K L gA cA vs) {g : Nat} (i : Nat) (v : Value) (hg : w.heap.size ≤ g) (hn : ¬ Foot q gA' vs' g) : St w (wr.setCell ⟨g, i, none⟩ v) B m q K gA vs L' gA' cA' vs' := by
  refine ⟨h.pr.same fun b hb => Below.heap_setCell _ ⟨g, i, none⟩ _ b ?_, h.ch.set g i v (.inr hg), h.ft⟩
  show b ≠ g
  rintro rfl
  rcases hb with rfl | rfl | hb
  · have := (hP.lt (.inl rfl)).2; omega
  · have := (hP.lt (.inr (.inl rfl))).2; omega
  · exact hn hb
theorem St.trans {w0 : World} (hb : Below w.heap.size w w0) (h : St w0 wr B m q K gA vs L' gA' cA' vs') : St w wr B m q K gA vs L' gA' cA' vs' :=
  ⟨h.pr, (ChS.of hb).trans h.ch (fun _ _ e => e), fun b hf => (h.ft b hf).imp_right fun e => Nat.le_trans hb.size e⟩
/-- An item laid at the program: the reference's is as it was. -/
theorem Pair.half (h : Pair w B m q K L gA cA vs) (hc : Chf m w w1) : Rf w1 B q K L gA cA vs :=
  h.rf.same fun b hb => hc.block b (h.lt (.inr (.inr hb))).2 (h.ap b hb).1 (h.ap b hb).2
theorem Pair.both (h : Pair w B m q K L gA cA vs) (hF : Frs w1 m K L') (hc : Chf m w w1) (hR : Rf w2 B q K L' gA' cA' vs') (hS : ChS (Foot q gA vs) w1 w2) (hft : ∀ b, Foot q gA' vs' b → Foot q gA vs b ∨ w1.heap.size ≤ b) : St w w2 B m q K gA vs L' gA' cA' vs' := by
  have hl := hF.lt
  have hm := (h.lt (.inl rfl)).2
  have hm1 := (h.lt (.inr (.inl rfl))).2
  have hsz := hc.size
  refine ⟨⟨hF.same (hS.block m (by omega) fun e => (h.ap m e).1 rfl) (hS.block (m + 1) hl fun e => (h.ap (m + 1) e).2 rfl), hR, h.bm, fun b hb => ?_⟩, ?_, fun b hb => (hft b hb).imp_right fun e => Nat.le_trans hc.size e⟩
  · rcases hft b hb with e | e
    · exact h.ap b e
    · exact ⟨by omega, by omega⟩
  · refine ⟨hS.os.trans hc.below.os, hS.tape.trans hc.below.tape, hS.output.trans hc.below.output, Nat.le_trans hc.size hS.size, fun b hb hn => ?_⟩
    rw [hS.block b (by omega) fun e => hn (.inr (.inr e)), hc.block b hb (fun e => hn (.inl e)) (fun e => hn (.inr (.inl e)))]
end
/-- What Append comes to. -/
def apE (L : List ByteArray) (s : ByteArray) : Nat := if 1048576 < s.size then 100 else if L.length = 65536 then 101 else 0
def apL (L : List ByteArray) (s : ByteArray) : List ByteArray := if apE L s = 0 then L ++ [s] else L
def apA (K : Int) (L : List ByteArray) (s : ByteArray) : List ByteArray := if apE L s = 0 then nw (clk K) (L ++ [s]) (tr 64 (L.length + 1)) else []
theorem ap_long {L : List ByteArray} {s : ByteArray} (K : Int) (h : 1048576 < s.size) : apE L s = 100 ∧ apL L s = L ∧ apA K L s = [] := by
  have e : apE L s = 100 := by rw [apE, if_pos h]
  exact ⟨e, by rw [apL, e]; rfl, by rw [apA, e]; rfl⟩
theorem ap_many {L : List ByteArray} {s : ByteArray} (K : Int) (h : s.size ≤ 1048576) (hl : L.length = 65536) : apE L s = 101 ∧ apL L s = L ∧ apA K L s = [] := by
  have e : apE L s = 101 := by rw [apE, if_neg (by omega), if_pos hl]
  exact ⟨e, by rw [apL, e]; rfl, by rw [apA, e]; rfl⟩
theorem ap_ok {L : List ByteArray} {s : ByteArray} (K : Int) (h : s.size ≤ 1048576) (hl : L.length ≠ 65536) : apE L s = 0 ∧ apL L s = L ++ [s] ∧ apA K L s = nw (clk K) (L ++ [s]) (tr 64 (L.length + 1)) := by
  have e : apE L s = 0 := by rw [apE, if_neg (by omega), if_neg hl]
  exact ⟨e, by rw [apL, if_pos e], by rw [apA, if_pos e]⟩
theorem apA_size (K : Int) (L : List ByteArray) (s : ByteArray) : (∀ x ∈ apA K L s, x.size ≤ 9223372036854775807) ∧ (apA K L s).length ≤ 1000 := by
  rw [apA]
  split
  · refine ⟨fun x hx => ?_, ?_⟩
    · rw [nw_size (clk_le K) _ _ x hx]; have := clk_le K; omega
    · rw [nw_len]; have := tr_le 64 (L.length + 1); omega
  · exact ⟨(fun x hx => by cases hx), by simp⟩
theorem fapp_any (w : World) (ht : Tb w) (m : Nat) (K : Int) (L : List ByteArray) (hF : Frs w m K L) (s : ByteArray) (e0 : Nat) (L' A : List ByteArray) (he : Hid (apE L s = e0 ∧ apL L s = L' ∧ apA K L s = A)) :
    Calls Tryd.prog 12 #[.pointer (some ⟨m + 1, 0, none⟩), .string s] w fun e w' => ∃ v, e = .returned (.tuple #[v, .int .i64 (e0 : Int)]) ∧ Frs w' m K L' ∧ OwnS w' w.heap.size v A ∧ Chf m w w' := by
  obtain ⟨rfl, rfl, rfl⟩ := he.out
  by_cases h1 : 1048576 < s.size
  · obtain ⟨e1, e2, e3⟩ := ap_long (L := L) K h1
    rw [e1, e2, e3]
    refine (fappend_long w m s h1).mono ?_
    rintro e w' ⟨rfl, rfl⟩
    exact ⟨_, rfl, hF, owns_nil _ _, Chf.refl _ _⟩
  · by_cases h2 : L.length = 65536
    · obtain ⟨e1, e2, e3⟩ := ap_many (L := L) (s := s) K (by omega) h2
      rw [e1, e2, e3]
      refine (fappend_many w m K L hF s (by omega) h2).mono ?_
      rintro e w' ⟨rfl, rfl⟩
      exact ⟨_, rfl, hF, owns_nil _ _, Chf.refl _ _⟩
    · obtain ⟨e1, e2, e3⟩ := ap_ok (L := L) (s := s) K (by omega) h2
      rw [e1, e2, e3]
      have := hF.hn
      exact fappend_ok w ht m K L hF s (by omega) (by omega) _ rfl
theorem rapp_any (w : World) (ht : Tr w) (B q : Nat) (K : Int) (L : List ByteArray) (gA cA : Nat) (vs : List Value) (hF : Rf w B q K L gA cA vs) (hBw : ∀ W, (∀ b, Foot q gA vs b → B ≤ b) → ChS (Foot q gA vs) w W → Tr W) (s : ByteArray) (e0 : Nat) (L' A : List ByteArray) (he : Hid (apE L s = e0 ∧ apL L s = L' ∧ apA K L s = A)) :
    Calls Tryd.prog 45 #[.pointer (some ⟨q, 0, none⟩), .string s] w fun e w' => ∃ v gA' cA' vs', e = .returned (.tuple #[v, .int .i64 (e0 : Int)]) ∧ Rf w' B q K L' gA' cA' vs' ∧ OwnS w' w.heap.size v A ∧ ChS (Foot q gA vs) w w' ∧ (∀ b, Foot q gA' vs' b → Foot q gA vs b ∨ w.heap.size ≤ b) := by
  obtain ⟨rfl, rfl, rfl⟩ := he.out
  by_cases h1 : 1048576 < s.size
  · obtain ⟨e1, e2, e3⟩ := ap_long (L := L) K h1
    rw [e1, e2, e3]
    refine (refappend_long w q s h1).mono ?_
    rintro e w' ⟨rfl, rfl⟩
    exact ⟨_, gA, cA, vs, rfl, hF, owns_nil _ _, ChS.refl _ _, fun b hb => .inl hb⟩
  · by_cases h2 : L.length = 65536
    · obtain ⟨e1, e2, e3⟩ := ap_many (L := L) (s := s) K (by omega) h2
      rw [e1, e2, e3]
      refine (refappend_many w B q K L gA cA vs hF s (by omega) h2).mono ?_
      rintro e w' ⟨rfl, rfl⟩
      exact ⟨_, gA, cA, vs, rfl, hF, owns_nil _ _, ChS.refl _ _, fun b hb => .inl hb⟩
    · obtain ⟨e1, e2, e3⟩ := ap_ok (L := L) (s := s) K (by omega) h2
      rw [e1, e2, e3]
      have := hF.hn
      exact refappend_ok w ht B q K L gA cA vs hF hBw s (by omega) (by omega) _ rfl
theorem same_own (w : World) (v u : Value) (B B' : Nat) (A : List ByteArray) (hv : OwnS w B v A) (hu : OwnS w B' u A) (hs : ∀ s ∈ A, s.size ≤ 9223372036854775807) (hl : A.length ≤ 8796093022208) :
    Calls Tryd.prog 24 #[v, u] w fun e w' => e = .returned (.bool true) ∧ Below w.heap.size w w' := by
  obtain ⟨a1, b1, c1, rfl, r1, _, _⟩ := owns_rds hv hs
  obtain ⟨a2, b2, c2, rfl, r2, _, _⟩ := owns_rds hu hs
  exact same_any w a1 b1 0 A.length c1 A r1 a2 b2 0 c2 r2 hl
theorem fstrength_b (w : World) (m : Nat) (k : Int) (L : List ByteArray) (hF : Frs w m k L) :
    Calls Tryd.prog 53 #[.pointer (some ⟨m + 1, 0, none⟩)] w fun e w' => e = .returned (.int .i64 k) ∧ Below w.heap.size w w' :=
  (fstrength_any w m k L hF).mono fun e w' h => ⟨h.1, by rw [h.2]; exact Below.refl _ _⟩
theorem fdigests_all (w : World) (m : Nat) (k : Int) (L : List ByteArray) (hF : Frs w m k L) (ao : Option Addr) (g off cap : Nat) (Bs : List (Int × Nat)) (hr : RdB w ao g off Bs.length Bs) (hmx : Bs.length ≤ 8796093021952) (D : List ByteArray) (ok : Bool) (hd : Hid ((dgs (clk k) L Bs).getD [] = D ∧ (dgs (clk k) L Bs).isSome = ok)) :
    Calls Tryd.prog 23 #[.pointer (some ⟨m + 1, 0, none⟩), .slice ao Bs.length cap] w fun e w' => ∃ v, e = .returned (.tuple #[v, .bool ok]) ∧ OwnS w' w.heap.size v D ∧ Below w.heap.size w w' := by
  obtain ⟨rfl, rfl⟩ := hd.out
  refine (fdigests_any w m k L hF ao g off cap Bs hr hmx).mono ?_
  rintro e w' ⟨hb, ⟨h1, rfl⟩ | ⟨D, h1, v, rfl, ho⟩⟩
  · rw [h1]; exact ⟨_, rfl, owns_nil _ _, hb⟩
  · rw [h1]; exact ⟨v, rfl, ho, hb⟩
theorem rdigests_all (w : World) (B q : Nat) (K : Int) (L : List ByteArray) (gA cA : Nat) (vs : List Value) (hF : Rf w B q K L gA cA vs) (ao : Option Addr) (g off cap : Nat) (Bs : List (Int × Nat)) (hr : RdB w ao g off Bs.length Bs) (hmx : Bs.length ≤ 8796093021952) (D : List ByteArray) (ok : Bool) (hd : Hid ((dgs (clk K) L Bs).getD [] = D ∧ (dgs (clk K) L Bs).isSome = ok)) :
    Calls Tryd.prog 49 #[.pointer (some ⟨q, 0, none⟩), .slice ao Bs.length cap] w fun e w' => ∃ v, e = .returned (.tuple #[v, .bool ok]) ∧ OwnS w' w.heap.size v D ∧ Below w.heap.size w w' := by
  obtain ⟨rfl, rfl⟩ := hd.out
  refine (refdigests_any w B q K L gA cA vs hF ao g off cap Bs hr hmx).mono ?_
  rintro e w' ⟨hb, ⟨h1, rfl⟩ | ⟨D, h1, v, rfl, ho⟩⟩
  · rw [h1]; exact ⟨_, rfl, owns_nil _ _, hb⟩
  · rw [h1]; exact ⟨v, rfl, ho, hb⟩
theorem dgs_max (K : Int) (L : List ByteArray) (Bs : List (Int × Nat)) : (∀ s ∈ (dgs (clk K) L Bs).getD [], s.size ≤ 9223372036854775807) ∧ ((dgs (clk K) L Bs).getD []).length ≤ Bs.length := by
  cases h : dgs (clk K) L Bs with
  | none => exact ⟨(fun x hx => by cases hx), by simp⟩
  | some D =>
    obtain ⟨h1, h2⟩ := dgs_size (clk_le K) h
    exact ⟨fun s hs => by rw [h1 s hs]; have := clk_le K; omega, by rw [Option.getD_some]; omega⟩
/-- What Root comes to. -/
def roR (K : Int) (L : List ByteArray) (n : Nat) : Nat × ByteArray × Nat := if L.length < n then (0, ⟨#[]⟩, 30) else (n, rtD (clk K) L n, 0)
theorem froot_all (w : World) (ht : Tb w) (m : Nat) (k : Int) (L : List ByteArray) (hF : Frs w m k L) (n : Nat) (a : Nat) (r : ByteArray) (e0 : Nat) (hq : Hid (roR k L n = (a, r, e0))) :
    Calls Tryd.prog 16 #[.pointer (some ⟨m + 1, 0, none⟩), .int .u64 (n : Int)] w fun e w' => e = .returned (.tuple #[.agg #[.int .u64 (a : Int), .string r], .int .i64 (e0 : Int)]) ∧ Below w.heap.size w w' := by
  have h := hq.out
  rw [roR] at h
  split at h
  · rename_i h1
    injection h with e1 e2
    injection e2 with e2 e3
    subst e1 e2 e3
    exact froot_no w m k L hF n h1
  · injection h with e1 e2
    injection e2 with e2 e3
    subst e1 e2 e3
    exact froot_ok w ht m k L hF n (by omega) _ rfl
theorem rroot_all (w : World) (ht : Tr w) (B q : Nat) (K : Int) (L : List ByteArray) (gA cA : Nat) (vs : List Value) (hF : Rf w B q K L gA cA vs) (n : Nat) (a : Nat) (r : ByteArray) (e0 : Nat) (hq : Hid (roR K L n = (a, r, e0))) :
    Calls Tryd.prog 51 #[.pointer (some ⟨q, 0, none⟩), .int .u64 (n : Int)] w fun e w' => e = .returned (.tuple #[.agg #[.int .u64 (a : Int), .string r], .int .i64 (e0 : Int)]) ∧ Below w.heap.size w w' := by
  have h := hq.out
  rw [roR] at h
  split at h
  · rename_i h1
    injection h with e1 e2
    injection e2 with e2 e3
    subst e1 e2 e3
    exact rroot_no w B q K L gA cA vs hF n h1
  · injection h with e1 e2
    injection e2 with e2 e3
    subst e1 e2 e3
    exact rroot_ok w ht B q K L gA cA vs hF n (by omega) _ rfl
end Go.Proofs.YtabdobdopcfllaaDoor
