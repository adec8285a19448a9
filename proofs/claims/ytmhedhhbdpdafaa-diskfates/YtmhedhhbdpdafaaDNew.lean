/-
  New. Own work.
-/
import Derived.Test.YtmhedhhbdpdafaaDOps3
namespace Go.Proofs.Ytmhedhhbdpdafaa
open Go.RowKit
/-- An empty disk. -/
def newD (room : Nat) : DV := ⟨room, [], 0, 0, 0, [], false⟩
/-- A disk somewhere, its blocks within S. -/
def Dsk (w : World) (p : Nat) (S : Nat → Prop) (D : DV) : Prop := ∃ m R ka kb ko kc, Dk w p m R ka kb ko kc D none ∧ ∀ x, Foot p m R kb D x ↔ S x
set_option maxRecDepth 100000 in
theorem new_any (w : World) (room : Int) (n : Nat) (hn : n = room.toNat) (h2 : room ≤ 9223372036854775807) :
    Calls Try.prog 11 #[.int .i64 room] w fun e w' => ∃ p S, e = .returned (.pointer (some ⟨p, 0, none⟩)) ∧ Dsk w' p S (newD n) ∧ (∀ x, S x → w.heap.size ≤ x) ∧ Below w.heap.size w w' := by
  have hmm := @run_makeMap Try.prog
  have e1 : (if room < 0 then 0 else room) = (n : Int) := by split <;> omega
  go_enter Try.func11, Try.ntmps11
  go_wp2
  go_ret
  have hm : max room 0 = (n : Int) := by omega
  rw [hm]
  have k0 := new0 w (.map #[] 0) (.cells #[.int .i64 (n : Int), .map (some w.heap.size), .int .i64 0, .int .i64 0, .int .i64 0, .slice none 0 0, .bool false] 69)
  have k1 := new2 w (.map #[] 0) (.cells #[.int .i64 (n : Int), .map (some w.heap.size), .int .i64 0, .int .i64 0, .int .i64 0, .slice none 0 0, .bool false] 69)
  have hM := (mv_new w).same (k0.trans (new1 w (.map #[] 0)).symm)
  refine ⟨w.heap.size + 1, Foot (w.heap.size + 1) w.heap.size (fun _ => fr0) 0 (newD n), rfl, ⟨w.heap.size, fun _ => fr0, none, 0, 0, 0, ⟨k1, hM, ?_, ?_, ?_, ?_, ?_, ?_, ?_, ?_, ?_, ?_, ?_, ?_⟩, fun x => Iff.rfl⟩, fun x hx => ?_, bal (bal (Below.refl _ _) _) _⟩
  · exact ord_nil
  · intro s hs; simp [keys, newD] at hs
  · intro s hs; simp [keys, newD] at hs
  · intro s hs; simp [keys, newD] at hs
  · intro s hs; simp [keys, newD] at hs
  · simp [newD]
  · exact rdl_nil _ _ _ _
  · intro h0; simp [newD] at h0
  · simp [newD]
  · show n ≤ _; omega
  · simp [newD]
  · exact .inl rfl
  · rcases hx with rfl | rfl | ⟨s, hs, _⟩ | ⟨h0, _⟩
    · omega
    · omega
    · simp [keys, newD] at hs
    · simp [newD] at h0
/-- What an act leaves of a disk. -/
def Mvd (w w' : World) (p : Nat) (S : Nat → Prop) (D' : DV) : Prop := ∃ S', Dsk w' p S' D' ∧ (∀ x, S' x → S x ∨ w.heap.size ≤ x) ∧ Upo S w w'
section
variable {w W : World} {p : Nat} {S : Nat → Prop} {D : DV}
theorem Dsk.same (h : Dsk w p S D) (hb : ∀ x, S x → W.heap[x]? = w.heap[x]?) : Dsk W p S D := by
  obtain ⟨m, R, ka, kb, ko, kc, h1, h2⟩ := h
  exact ⟨m, R, ka, kb, ko, kc, h1.same (fun x hx => hb x ((h2 x).1 hx)), h2⟩
theorem Dsk.lt (h : Dsk w p S D) {x : Nat} (hx : S x) : x < w.heap.size := by
  obtain ⟨m, R, ka, kb, ko, kc, h1, h2⟩ := h
  exact h1.lt ((h2 x).2 hx)
theorem Dsk.next (h : Dsk w p S D) (hb : Below w.heap.size w W) : Dsk W p S D := h.same fun x hx => hb.block x (h.lt hx)
theorem Dsk.keep {T : Nat → Prop} (h : Dsk w p S D) (hu : Upo T w W) (hd : ∀ x, S x → ¬ T x) : Dsk W p S D := h.same fun x hx => hu.block x (h.lt hx) (hd x hx)
theorem Dsk.mvd {m : Nat} {R : List UInt8 → FR} {kb ko : Nat} {D' : DV} (hi : ∀ x, Foot p m R kb D x ↔ S x) (h : Left w W p m R kb ko D D') : Mvd w W p S D' := by
  obtain ⟨m', R', ka', kc', h1, h2, h3⟩ := h
  exact ⟨Foot p m' R' kb D', ⟨m', R', ka', kb, ko, kc', h1, fun _ => Iff.rfl⟩, fun x hx => (h2 x hx).imp (hi x).1 id, h3.mono (fun x _ q => (hi x).1 q)⟩
theorem Dsk.write (h : Dsk w p S D) (s t : ByteArray) (hs : s.size ≤ maxLen) (off : Int) (ho1 : -9223372036854775808 ≤ off) (ho2 : off ≤ 9223372036854775807) (ht : t.size ≤ 140737488355328) (hac : D.acts + 1 ≤ 4611686018427387904) (hcnt : D.L.length < 1099511627776) (hfr : D.down = false → D.free + (fget D.L s.data.toList).now.length ≤ 9223372036854775807) :
    Calls Try.prog 13 #[.pointer (some ⟨p, 0, none⟩), .string s, .int .i64 off, .string t] w fun e w' => e = .returned (.int .i64 (wrD D s.data.toList off t.data.toList).2) ∧ Mvd w w' p S (wrD D s.data.toList off t.data.toList).1 := by
  obtain ⟨m, R, ka, kb, ko, kc, h1, h2⟩ := h
  exact (write_any w h1 s t hs off ho1 ho2 ht hac hcnt hfr).mono fun e w' q => ⟨q.1, Dsk.mvd h2 q.2⟩
theorem Dsk.cut (h : Dsk w p S D) (s : ByteArray) (hs : s.size ≤ maxLen) (off : Int) (ho1 : -9223372036854775808 ≤ off) (ho2 : off ≤ 9223372036854775807) (hac : D.acts + 1 ≤ 4611686018427387904) (hcnt : D.L.length < 1099511627776) (hfr : D.down = false → D.free + (fget D.L s.data.toList).now.length ≤ 9223372036854775807) :
    Calls Try.prog 14 #[.pointer (some ⟨p, 0, none⟩), .string s, .int .i64 off] w fun e w' => e = .returned (.int .i64 (cutD D s.data.toList off).2) ∧ Mvd w w' p S (cutD D s.data.toList off).1 := by
  obtain ⟨m, R, ka, kb, ko, kc, h1, h2⟩ := h
  exact (cut_any w h1 s hs off ho1 ho2 hac hcnt hfr).mono fun e w' q => ⟨q.1, Dsk.mvd h2 q.2⟩
theorem Dsk.sync (h : Dsk w p S D) (s : ByteArray) (hs : s.size ≤ maxLen) (hac : D.acts + 1 ≤ 4611686018427387904) (hcnt : D.L.length < 1099511627776) (hfr : D.down = false → D.free + (fget D.L s.data.toList).now.length ≤ 9223372036854775807) :
    Calls Try.prog 15 #[.pointer (some ⟨p, 0, none⟩), .string s] w fun e w' => e = .returned (.int .i64 (synD D s.data.toList).2) ∧ Mvd w w' p S (synD D s.data.toList).1 := by
  obtain ⟨m, R, ka, kb, ko, kc, h1, h2⟩ := h
  exact (sync_any w h1 s hs hac hcnt hfr).mono fun e w' q => ⟨q.1, Dsk.mvd h2 q.2⟩
theorem Dsk.read (h : Dsk w p S D) (s : ByteArray) (hs : s.size ≤ maxLen) (off q : Int) (ho1 : -9223372036854775808 ≤ off) (ho2 : off ≤ 9223372036854775807) (hq1 : -9223372036854775808 ≤ q) (hq2 : q ≤ 9223372036854775807) :
    Calls Try.prog 16 #[.pointer (some ⟨p, 0, none⟩), .string s, .int .i64 off, .int .i64 q] w fun e w' => e = .returned (.tuple #[.string ⟨(rdD D s.data.toList off q).1.toArray⟩, .int .i64 (rdD D s.data.toList off q).2]) ∧ Below w.heap.size w w' := by
  obtain ⟨m, R, ka, kb, ko, kc, h1, h2⟩ := h
  exact read_any w h1 s hs off q ho1 ho2 hq1 hq2
/-- Size. -/
def sizD (D : DV) (s : List UInt8) : Nat := if D.down then 0 else (fget D.L s).now.length
theorem Dsk.size (h : Dsk w p S D) (s : ByteArray) (hs : s.size ≤ maxLen) : Calls Try.prog 17 #[.pointer (some ⟨p, 0, none⟩), .string s] w fun e w' => e = .returned (.int .i64 (sizD D s.data.toList : Int)) ∧ w' = w := by
  obtain ⟨m, R, ka, kb, ko, kc, h1, h2⟩ := h
  exact size_any w h1 s hs _ rfl
theorem Dsk.acts (h : Dsk w p S D) : Calls Try.prog 18 #[.pointer (some ⟨p, 0, none⟩)] w fun e w' => e = .returned (.int .i64 (D.acts : Int)) ∧ w' = w := by
  obtain ⟨m, R, ka, kb, ko, kc, h1, h2⟩ := h
  exact acts_any w h1
theorem Dsk.down (h : Dsk w p S D) : Calls Try.prog 19 #[.pointer (some ⟨p, 0, none⟩)] w fun e w' => e = .returned (.bool D.down) ∧ w' = w := by
  obtain ⟨m, R, ka, kb, ko, kc, h1, h2⟩ := h
  exact down_any w h1
theorem Dsk.files (h : Dsk w p S D) : Calls Try.prog 21 #[.pointer (some ⟨p, 0, none⟩)] w fun e w' => ∃ v, e = .returned v ∧ OwnF w' w.heap.size v (tell D.L) ∧ Below w.heap.size w w' := by
  obtain ⟨m, R, ka, kb, ko, kc, h1, h2⟩ := h
  exact files_any w h1
theorem Dsk.after (h : Dsk w p S D) (ao : Option Addr) (b o c : Nat) (ks : List Bool) (hk : RdL w ao b o ks) (hkl : ks.length ≤ 9223372036854775807) :
    Calls Try.prog 22 #[.pointer (some ⟨p, 0, none⟩), .slice ao ks.length c] w fun e w' => ∃ v, e = .returned v ∧ OwnF w' w.heap.size v (aft ks D.L 0) ∧ Below w.heap.size w w' := by
  obtain ⟨m, R, ka, kb, ko, kc, h1, h2⟩ := h
  exact after_any w h1 ao b o c ks hk hkl
end
end Go.Proofs.Ytmhedhhbdpdafaa
