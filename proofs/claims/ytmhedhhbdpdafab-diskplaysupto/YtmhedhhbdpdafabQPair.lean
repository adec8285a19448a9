/-
  Both disks and the pair that holds them. Own work.
-/
import Derived.Test.YtmhedhhbdpdafabGOn
import Derived.Test.YtmhedhhbdpdafabGCa
import Derived.Test.YtmhedhhbdpdafabGLa
namespace Go.Proofs.Ytmhedhhbdpdafab
open Go.RowKit
section
variable {w W : World} {p : Nat} {S : Nat → Prop} {V : RV}
theorem Rsk.write (h : Rsk w p S V) (hf : Fit V) (s t : ByteArray) (hs : s.size ≤ maxLen) (off : Int) (ht : t.size ≤ 140737488355328) (htot : tot V.L ≤ 4611686018427387904) :
    Calls Try.prog 22 #[.pointer (some ⟨p, 0, none⟩), .string s, .int .i64 off, .string t] w fun e w' => e = .returned (.int .i64 (rwr V s.data.toList off t.data.toList).2) ∧ RMvd w w' p S (rwr V s.data.toList off t.data.toList).1 := by
  obtain ⟨lv, ka, kb, ko, kc, h1, h2⟩ := h
  exact (rwrite_any w h1 hf s t hs off ht htot).mono fun e w' q => ⟨q.1, Rsk.mvd h2 q.2⟩
theorem Rsk.cut (h : Rsk w p S V) (hf : Fit V) (s : ByteArray) (hs : s.size ≤ maxLen) (off : Int) :
    Calls Try.prog 23 #[.pointer (some ⟨p, 0, none⟩), .string s, .int .i64 off] w fun e w' => e = .returned (.int .i64 (rcut V s.data.toList off).2) ∧ RMvd w w' p S (rcut V s.data.toList off).1 := by
  obtain ⟨lv, ka, kb, ko, kc, h1, h2⟩ := h
  exact (rcut_any w h1 hf s hs off).mono fun e w' q => ⟨q.1, Rsk.mvd h2 q.2⟩
theorem Rsk.sync (h : Rsk w p S V) (hf : Fit V) (s : ByteArray) (hs : s.size ≤ maxLen) :
    Calls Try.prog 24 #[.pointer (some ⟨p, 0, none⟩), .string s] w fun e w' => e = .returned (.int .i64 (rsyn V s.data.toList).2) ∧ RMvd w w' p S (rsyn V s.data.toList).1 := by
  obtain ⟨lv, ka, kb, ko, kc, h1, h2⟩ := h
  exact (rsync_any w h1 hf s hs).mono fun e w' q => ⟨q.1, Rsk.mvd h2 q.2⟩
theorem Rsk.lay (h : Rsk w p S V) (a k : Int) (ha : a ≤ 9223372036854775807) (qa : Option Addr) (qb qo qc : Nat) (ks : List Bool) (hk : RdL w qa qb qo ks) (hkl : ks.length ≤ 140737488355328) (hqn : qa = none → qc = 0) (hne : 0 < ks.length → ¬ S qb) :
    Calls Try.prog 25 #[.pointer (some ⟨p, 0, none⟩), .agg #[.int .i64 a, .int .i64 k, .slice qa ks.length qc]] w fun e w' => e = .returned (.tuple #[]) ∧ RMvd w w' p S (rlay V a k ks) := by
  obtain ⟨lv, ka, kb, ko, kc, h1, h2⟩ := h
  exact (rlay_any w h1 a k ha qa qb qo qc ks hk hkl hqn (fun h0 q => hne h0 ((h2 _).1 (.inl q)))).mono fun e w' q => ⟨q.1, Rsk.mvd h2 q.2⟩
end
/-- Both, made since w0 or of F, in the block pa. -/
def Pq (w0 w : World) (F : Nat → Prop) (pa p r : Nat) (D : DV) (V : RV) : Prop := ∃ S T, w.heap[pa]? = some (.cells #[.pointer (some ⟨p, 0, none⟩), .pointer (some ⟨r, 0, none⟩)] 32) ∧ Dsk w p S D ∧ Rsk w r T V ∧ (∀ x, S x → ¬ T x) ∧ ¬ S pa ∧ ¬ T pa ∧ (∀ x, S x → F x ∨ w0.heap.size ≤ x) ∧ (∀ x, T x → F x ∨ w0.heap.size ≤ x) ∧ (F pa ∨ w0.heap.size ≤ pa) ∧ Upo F w0 w
/-- How much a disk may hold, and what both are to each other. -/
structure Bd (D : DV) (V : RV) (k : Nat) : Prop where
  sim : Sim D V
  len : V.L.length ≤ k
  cnt : V.cnt ≤ k
  few : k ≤ 2097152
theorem Bd.fit {D : DV} {V : RV} {k : Nat} (h : Bd D V k) : Fit V := by
  have := h.len; have := h.cnt; have := h.few
  exact ⟨by omega, by omega, h.sim.fate.imp (fun q => q.1) (fun q => ⟨q.2.2.2.2.1, q.2.2.2.2.2⟩)⟩
theorem tot_le : ∀ {L : List (List UInt8 × FV)} (_ : ∀ p ∈ L, p.2.now.length ≤ 268435456), tot L ≤ 268435456 * L.length
  | [], _ => Nat.zero_le _
  | p :: L, h => by
    have h1 := h p (by simp)
    have h2 := tot_le (L := L) fun q hq => h q (by simp [hq])
    simp only [tot, List.length_cons] at h2 ⊢
    omega
section
variable {w0 w W : World} {F : Nat → Prop} {pa p r k : Nat} {D : DV} {V : RV}
theorem Pq.upo (h : Pq w0 w F pa p r D V) : Upo F w0 w := by obtain ⟨_, _, _, _, _, _, _, _, _, _, _, h⟩ := h; exact h
theorem Pq.lt (h : Pq w0 w F pa p r D V) : pa < w.heap.size := by
  obtain ⟨_, _, h, _⟩ := h
  rcases Nat.lt_or_ge pa w.heap.size with q | q
  · exact q
  · rw [Array.getElem?_eq_none q] at h; cases h
theorem Pq.next (h : Pq w0 w F pa p r D V) (hb : Below w.heap.size w W) : Pq w0 W F pa p r D V := by
  have hl := h.lt
  obtain ⟨S, T, h1, h2, h3, h4, h5, h6, h7, h8, h9, hA⟩ := h
  exact ⟨S, T, (hb.block pa hl).trans h1, h2.next hb, h3.next hb, h4, h5, h6, h7, h8, h9, hA.next hb⟩
theorem Pq.dmv {S T : Nat → Prop} {D' : DV} (h1 : w.heap[pa]? = some (.cells #[.pointer (some ⟨p, 0, none⟩), .pointer (some ⟨r, 0, none⟩)] 32)) (h3 : Rsk w r T V) (h4 : ∀ x, S x → ¬ T x) (h5 : ¬ S pa) (h6 : ¬ T pa) (h7 : ∀ x, S x → F x ∨ w0.heap.size ≤ x) (h8 : ∀ x, T x → F x ∨ w0.heap.size ≤ x) (h9 : F pa ∨ w0.heap.size ≤ pa) (hA : Upo F w0 w) (hm : Mvd w W p S D') : Pq w0 W F pa p r D' V := by
  have hl : pa < w.heap.size := by
    rcases Nat.lt_or_ge pa w.heap.size with q | q
    · exact q
    · rw [Array.getElem?_eq_none q] at h1; cases h1
  obtain ⟨S', m1, m2, m3⟩ := hm
  exact ⟨S', T, (m3.block pa hl h5).trans h1, m1, h3.keep m3 (fun x hx q => h4 x q hx), fun x hx hq => (m2 x hx).elim (fun q => h4 x q hq) (fun q => Nat.lt_irrefl _ (Nat.lt_of_lt_of_le (h3.lt hq) q)), fun q => (m2 pa q).elim h5 (fun q => Nat.lt_irrefl _ (Nat.lt_of_lt_of_le hl q)), h6, fun x hx => (m2 x hx).elim (h7 x) (fun q => .inr (Nat.le_trans hA.size q)), h8, h9, hA.trans m3 fun b hb q => (h7 b q).elim id (fun q => absurd hb (Nat.not_lt.2 q))⟩
theorem Pq.rmv {S T : Nat → Prop} {V' : RV} (h1 : w.heap[pa]? = some (.cells #[.pointer (some ⟨p, 0, none⟩), .pointer (some ⟨r, 0, none⟩)] 32)) (h3 : Dsk w p S D) (h4 : ∀ x, S x → ¬ T x) (h5 : ¬ S pa) (h6 : ¬ T pa) (h7 : ∀ x, S x → F x ∨ w0.heap.size ≤ x) (h8 : ∀ x, T x → F x ∨ w0.heap.size ≤ x) (h9 : F pa ∨ w0.heap.size ≤ pa) (hA : Upo F w0 w) (hm : RMvd w W r T V') : Pq w0 W F pa p r D V' := by
  have hl : pa < w.heap.size := by
    rcases Nat.lt_or_ge pa w.heap.size with q | q
    · exact q
    · rw [Array.getElem?_eq_none q] at h1; cases h1
  obtain ⟨T', m1, m2, m3⟩ := hm
  exact ⟨S, T', (m3.block pa hl h6).trans h1, h3.keep m3 (fun x hx q => h4 x hx q), m1, fun x hx hq => (m2 x hq).elim (fun q => h4 x hx q) (fun q => Nat.lt_irrefl _ (Nat.lt_of_lt_of_le (h3.lt hx) q)), h5, fun q => (m2 pa q).elim h6 (fun q => Nat.lt_irrefl _ (Nat.lt_of_lt_of_le hl q)), h7, fun x hx => (m2 x hx).elim (h8 x) (fun q => .inr (Nat.le_trans hA.size q)), h9, hA.trans m3 fun b hb q => (h8 b q).elim id (fun q => absurd hb (Nat.not_lt.2 q))⟩
theorem Pq.tot (h : Pq w0 w F pa p r D V) (hb : Bd D V k) : tot V.L ≤ 562949953421312 := by
  obtain ⟨_, _, _, _, ⟨lv, ka, kb, ko, kc, h1, _⟩, _⟩ := h
  have := tot_le fun q hq => (h1.sz q hq).1
  have := hb.len; have := hb.few
  omega
theorem Pq.dlen (hb : Bd D V k) : D.L.length < 1099511627776 := by
  have := hb.len; have := hb.few
  have h1 : D.L.length ≤ V.L.length := by rw [hb.sim.L]; exact List.length_filter_le _ _
  omega
theorem Pq.room (h : Pq w0 w F pa p r D V) (hb : Bd D V k) (s : List UInt8) : D.down = false → D.free + (fget D.L s).now.length ≤ 9223372036854775807 := by
  intro hd
  obtain ⟨_, _, _, _, ⟨lv, ka, kb, ko, kc, h1, _⟩, _⟩ := h
  have h2 := hb.sim.room (by rw [← hb.sim.down]; exact hd)
  have h3 := h1.rm
  have h4 : (fget D.L s).now.length ≤ Go.Proofs.Ytmhedhhbdpdafab.tot V.L := by
    have := tot_put (L := D.L) (by rw [hb.sim.L]; exact ord_filt hb.sim.srt) s fz
    have h5 : Go.Proofs.Ytmhedhhbdpdafab.tot D.L = Go.Proofs.Ytmhedhhbdpdafab.tot V.L := by rw [hb.sim.L, tot_filt]
    simp only [fz, List.length_nil] at this
    omega
  omega
theorem Pq.dwrite (h : Pq w0 w F pa p r D V) (s : ByteArray) (hs : s.size ≤ maxLen) (off : Int) (ho1 : -9223372036854775808 ≤ off) (ho2 : off ≤ 9223372036854775807) (t : ByteArray) (ht : t.size ≤ 140737488355328) (hac : D.acts + 1 ≤ 4611686018427387904) (hcnt : D.L.length < 1099511627776) (hfr : D.down = false → D.free + (fget D.L s.data.toList).now.length ≤ 9223372036854775807) :
    Calls Try.prog 10 #[.pointer (some ⟨p, 0, none⟩), .string s, .int .i64 off, .string t] w fun e w' => e = .returned (.int .i64 (wrD D s.data.toList off t.data.toList).2) ∧ Pq w0 w' F pa p r (wrD D s.data.toList off t.data.toList).1 V := by
  obtain ⟨S, T, h1, h2, h3, h4, h5, h6, h7, h8, h9, hA⟩ := h
  exact (h2.write s t hs off ho1 ho2 ht hac hcnt hfr).mono fun e w' q => ⟨q.1, Pq.dmv h1 h3 h4 h5 h6 h7 h8 h9 hA q.2⟩
theorem Pq.dcut (h : Pq w0 w F pa p r D V) (s : ByteArray) (hs : s.size ≤ maxLen) (off : Int) (ho1 : -9223372036854775808 ≤ off) (ho2 : off ≤ 9223372036854775807) (hac : D.acts + 1 ≤ 4611686018427387904) (hcnt : D.L.length < 1099511627776) (hfr : D.down = false → D.free + (fget D.L s.data.toList).now.length ≤ 9223372036854775807) :
    Calls Try.prog 16 #[.pointer (some ⟨p, 0, none⟩), .string s, .int .i64 off] w fun e w' => e = .returned (.int .i64 (cutD D s.data.toList off).2) ∧ Pq w0 w' F pa p r (cutD D s.data.toList off).1 V := by
  obtain ⟨S, T, h1, h2, h3, h4, h5, h6, h7, h8, h9, hA⟩ := h
  exact (h2.cut s hs off ho1 ho2 hac hcnt hfr).mono fun e w' q => ⟨q.1, Pq.dmv h1 h3 h4 h5 h6 h7 h8 h9 hA q.2⟩
theorem Pq.dsync (h : Pq w0 w F pa p r D V) (s : ByteArray) (hs : s.size ≤ maxLen) (hac : D.acts + 1 ≤ 4611686018427387904) (hcnt : D.L.length < 1099511627776) (hfr : D.down = false → D.free + (fget D.L s.data.toList).now.length ≤ 9223372036854775807) :
    Calls Try.prog 14 #[.pointer (some ⟨p, 0, none⟩), .string s] w fun e w' => e = .returned (.int .i64 (synD D s.data.toList).2) ∧ Pq w0 w' F pa p r (synD D s.data.toList).1 V := by
  obtain ⟨S, T, h1, h2, h3, h4, h5, h6, h7, h8, h9, hA⟩ := h
  exact (h2.sync s hs hac hcnt hfr).mono fun e w' q => ⟨q.1, Pq.dmv h1 h3 h4 h5 h6 h7 h8 h9 hA q.2⟩
theorem Pq.rwrite (h : Pq w0 w F pa p r D V) (hf : Fit V) (s : ByteArray) (hs : s.size ≤ maxLen) (off : Int) (t : ByteArray) (ht : t.size ≤ 140737488355328) (htot : Go.Proofs.Ytmhedhhbdpdafab.tot V.L ≤ 4611686018427387904) :
    Calls Try.prog 22 #[.pointer (some ⟨r, 0, none⟩), .string s, .int .i64 off, .string t] w fun e w' => e = .returned (.int .i64 (rwr V s.data.toList off t.data.toList).2) ∧ Pq w0 w' F pa p r D (rwr V s.data.toList off t.data.toList).1 := by
  obtain ⟨S, T, h1, h2, h3, h4, h5, h6, h7, h8, h9, hA⟩ := h
  exact (h3.write hf s t hs off ht htot).mono fun e w' q => ⟨q.1, Pq.rmv h1 h2 h4 h5 h6 h7 h8 h9 hA q.2⟩
theorem Pq.rcut (h : Pq w0 w F pa p r D V) (hf : Fit V) (s : ByteArray) (hs : s.size ≤ maxLen) (off : Int) :
    Calls Try.prog 23 #[.pointer (some ⟨r, 0, none⟩), .string s, .int .i64 off] w fun e w' => e = .returned (.int .i64 (rcut V s.data.toList off).2) ∧ Pq w0 w' F pa p r D (rcut V s.data.toList off).1 := by
  obtain ⟨S, T, h1, h2, h3, h4, h5, h6, h7, h8, h9, hA⟩ := h
  exact (h3.cut hf s hs off).mono fun e w' q => ⟨q.1, Pq.rmv h1 h2 h4 h5 h6 h7 h8 h9 hA q.2⟩
theorem Pq.rsync (h : Pq w0 w F pa p r D V) (hf : Fit V) (s : ByteArray) (hs : s.size ≤ maxLen) :
    Calls Try.prog 24 #[.pointer (some ⟨r, 0, none⟩), .string s] w fun e w' => e = .returned (.int .i64 (rsyn V s.data.toList).2) ∧ Pq w0 w' F pa p r D (rsyn V s.data.toList).1 := by
  obtain ⟨S, T, h1, h2, h3, h4, h5, h6, h7, h8, h9, hA⟩ := h
  exact (h3.sync hf s hs).mono fun e w' q => ⟨q.1, Pq.rmv h1 h2 h4 h5 h6 h7 h8 h9 hA q.2⟩
theorem Pq.dlay (h : Pq w0 w F pa p r D V) (a f : Int) (ha : a ≤ 9223372036854775807) (qa : Option Addr) (qb qo qc : Nat) (ks : List Bool) (hk : RdL w qa qb qo ks) (hkl : ks.length ≤ 140737488355328) (hne : 0 < ks.length → (∀ S, Dsk w p S D → (∀ x, S x → F x ∨ w0.heap.size ≤ x) → ¬ S qb)) :
    Calls Try.prog 26 #[.pointer (some ⟨p, 0, none⟩), .agg #[.int .i64 a, .int .i64 f, .slice qa ks.length qc]] w fun e w' => e = .returned (.tuple #[]) ∧ Pq w0 w' F pa p r (layD D a f ks) V := by
  obtain ⟨S, T, h1, h2, h3, h4, h5, h6, h7, h8, h9, hA⟩ := h
  exact (h2.lay a f ha qa qb qo qc ks hk hkl (fun h0 => hne h0 S h2 h7)).mono fun e w' q => ⟨q.1, Pq.dmv h1 h3 h4 h5 h6 h7 h8 h9 hA q.2⟩
theorem Pq.rlay (h : Pq w0 w F pa p r D V) (a f : Int) (ha : a ≤ 9223372036854775807) (qa : Option Addr) (qb qo qc : Nat) (ks : List Bool) (hk : RdL w qa qb qo ks) (hkl : ks.length ≤ 140737488355328) (hqn : qa = none → qc = 0) (hne : 0 < ks.length → (∀ T, Rsk w r T V → (∀ x, T x → F x ∨ w0.heap.size ≤ x) → ¬ T qb)) :
    Calls Try.prog 25 #[.pointer (some ⟨r, 0, none⟩), .agg #[.int .i64 a, .int .i64 f, .slice qa ks.length qc]] w fun e w' => e = .returned (.tuple #[]) ∧ Pq w0 w' F pa p r D (rlay V a f ks) := by
  obtain ⟨S, T, h1, h2, h3, h4, h5, h6, h7, h8, h9, hA⟩ := h
  exact (h3.lay a f ha qa qb qo qc ks hk hkl hqn (fun h0 => hne h0 T h3 h8)).mono fun e w' q => ⟨q.1, Pq.rmv h1 h2 h4 h5 h6 h7 h8 h9 hA q.2⟩
theorem Pq.dread (h : Pq w0 w F pa p r D V) (s : ByteArray) (hs : s.size ≤ maxLen) (off : Int) (ho1 : -9223372036854775808 ≤ off) (ho2 : off ≤ 9223372036854775807) (q : Int) (hq1 : -9223372036854775808 ≤ q) (hq2 : q ≤ 9223372036854775807) :
    Calls Try.prog 11 #[.pointer (some ⟨p, 0, none⟩), .string s, .int .i64 off, .int .i64 q] w fun e w' => e = .returned (.tuple #[.string ⟨(rdD D s.data.toList off q).1.toArray⟩, .int .i64 (rdD D s.data.toList off q).2]) ∧ Below w.heap.size w w' := by
  obtain ⟨S, T, h1, h2, h3, h4, h5, h6, h7, h8, h9, hA⟩ := h
  exact h2.read s hs off q ho1 ho2 hq1 hq2
theorem Pq.rread (h : Pq w0 w F pa p r D V) (s : ByteArray) (off : Int) (ho1 : -9223372036854775808 ≤ off) (ho2 : off ≤ 9223372036854775807) (q : Int) (x : ByteArray) (hx : (⟨(rrd V s.data.toList off q).1.toArray⟩ : ByteArray) = x) :
    Calls Try.prog 52 #[.pointer (some ⟨r, 0, none⟩), .string s, .int .i64 off, .int .i64 q] w fun e w' => e = .returned (.tuple #[.string x, .int .i64 (rrd V s.data.toList off q).2]) ∧ Below w.heap.size w w' := by
  obtain ⟨_, _, _, _, ⟨lv, ka, kb, ko, kc, h1, _⟩, _⟩ := h
  exact rread_any w h1 s off q ho1 ho2 x hx
theorem Pq.dsize (h : Pq w0 w F pa p r D V) (s : ByteArray) (hs : s.size ≤ maxLen) : Calls Try.prog 12 #[.pointer (some ⟨p, 0, none⟩), .string s] w fun e w' => e = .returned (.int .i64 (sizD D s.data.toList : Int)) ∧ w' = w := by
  obtain ⟨S, T, h1, h2, h3, h4, h5, h6, h7, h8, h9, hA⟩ := h
  exact h2.size s hs
theorem Pq.rsize (h : Pq w0 w F pa p r D V) (s : ByteArray) : Calls Try.prog 53 #[.pointer (some ⟨r, 0, none⟩), .string s] w fun e w' => e = .returned (.int .i64 (rsz V s.data.toList : Int)) ∧ Below w.heap.size w w' := by
  obtain ⟨_, _, _, _, ⟨lv, ka, kb, ko, kc, h1, _⟩, _⟩ := h
  exact rsize_any w h1 s
theorem Pq.dacts (h : Pq w0 w F pa p r D V) : Calls Try.prog 15 #[.pointer (some ⟨p, 0, none⟩)] w fun e w' => e = .returned (.int .i64 (D.acts : Int)) ∧ w' = w := by
  obtain ⟨S, T, h1, h2, h3, h4, h5, h6, h7, h8, h9, hA⟩ := h
  exact h2.acts
theorem Pq.racts (h : Pq w0 w F pa p r D V) : Calls Try.prog 29 #[.pointer (some ⟨r, 0, none⟩)] w fun e w' => e = .returned (.int .i64 (V.cnt : Int)) ∧ w' = w := by
  obtain ⟨_, _, _, _, ⟨lv, ka, kb, ko, kc, h1, _⟩, _⟩ := h
  exact racts_any w h1
theorem Pq.ddown (h : Pq w0 w F pa p r D V) : Calls Try.prog 19 #[.pointer (some ⟨p, 0, none⟩)] w fun e w' => e = .returned (.bool D.down) ∧ w' = w := by
  obtain ⟨S, T, h1, h2, h3, h4, h5, h6, h7, h8, h9, hA⟩ := h
  exact h2.down
theorem Pq.rdown (h : Pq w0 w F pa p r D V) : Calls Try.prog 30 #[.pointer (some ⟨r, 0, none⟩)] w fun e w' => e = .returned (.bool V.out) ∧ w' = w := by
  obtain ⟨_, _, _, _, ⟨lv, ka, kb, ko, kc, h1, _⟩, _⟩ := h
  exact rdown_any w h1
theorem Pq.dfiles (h : Pq w0 w F pa p r D V) {l : List (List UInt8 × List UInt8)} (hl : tell D.L = l) : Calls Try.prog 18 #[.pointer (some ⟨p, 0, none⟩)] w fun e w' => ∃ v, e = .returned v ∧ OwnF w' w.heap.size v l ∧ Below w.heap.size w w' := by
  obtain ⟨S, T, h1, h2, h3, h4, h5, h6, h7, h8, h9, hA⟩ := h
  rw [← hl]
  exact h2.files
theorem Pq.rfiles (h : Pq w0 w F pa p r D V) {l : List (List UInt8 × List UInt8)} (hl : tell V.L = l) : Calls Try.prog 31 #[.pointer (some ⟨r, 0, none⟩)] w fun e w' => ∃ v, e = .returned v ∧ OwnF w' w.heap.size v l ∧ Below w.heap.size w w' := by
  obtain ⟨_, _, _, _, ⟨lv, ka, kb, ko, kc, h1, _⟩, _⟩ := h
  rw [← hl]
  exact rfiles_any w h1
theorem Pq.dafter (h : Pq w0 w F pa p r D V) (qa : Option Addr) (qb qo qc : Nat) (ks : List Bool) (hk : RdL w qa qb qo ks) (hkl : ks.length ≤ 140737488355328) {l : List (List UInt8 × List UInt8)} (hl : aft ks D.L 0 = l) : Calls Try.prog 13 #[.pointer (some ⟨p, 0, none⟩), .slice qa ks.length qc] w fun e w' => ∃ v, e = .returned v ∧ OwnF w' w.heap.size v l ∧ Below w.heap.size w w' := by
  obtain ⟨S, T, h1, h2, h3, h4, h5, h6, h7, h8, h9, hA⟩ := h
  rw [← hl]
  exact h2.after qa qb qo qc ks hk (by omega)
theorem Pq.rafter (h : Pq w0 w F pa p r D V) (hn : V.L.length ≤ 1073741824) (qa : Option Addr) (qb qo qc : Nat) (ks : List Bool) (hk : RdL w qa qb qo ks) (hkl : ks.length ≤ 140737488355328) {l : List (List UInt8 × List UInt8)} (hl : raf V ks = l) : Calls Try.prog 32 #[.pointer (some ⟨r, 0, none⟩), .slice qa ks.length qc] w fun e w' => ∃ v, e = .returned v ∧ OwnF w' w.heap.size v l ∧ Below w.heap.size w w' := by
  obtain ⟨_, _, _, _, ⟨lv, ka, kb, ko, kc, h1, _⟩, _⟩ := h
  rw [← hl]
  exact rafter_any w h1 hn qa qb qo qc ks hk hkl
/-- What a call leaves. -/
def PL (w w' : World) (F : Nat → Prop) (pa k : Nat) : Prop := ∃ p r D V, Bd D V (k + 1) ∧ Pq w w' F pa p r D V
theorem ract_len (V : RV) (s : List UInt8) (f : FV) : (ract V s f).1.L.length ≤ V.L.length + 1 ∧ (ract V s f).1.cnt = V.cnt + 1 := by
  have h1 := rput_len V.L s f
  have h2 := aft_len V.ks (rput V.L s f) 0
  have h3 := aft_len V.ks V.L 0
  unfold ract
  dsimp only
  (repeat' split) <;> simp [allS] <;> omega
theorem Bd.write {D : DV} {V : RV} {k : Nat} (h : Bd D V k) (hk : k + 1 ≤ 2097152) (s : List UInt8) (off : Int) (t : List UInt8) : Bd (wrD D s off t).1 (rwr V s off t).1 (k + 1) := by
  have h1 := h.len; have h2 := h.cnt
  refine ⟨(h.sim.write s off t).2, ?_, ?_, hk⟩ <;> unfold rwr <;> (repeat' split) <;> first | (dsimp only; omega) | (have := ract_len V s ‹_›; omega) | (refine Nat.le_trans (ract_len _ _ _).1 ?_; omega) | (rw [(ract_len _ _ _).2]; omega)
theorem Bd.cut {D : DV} {V : RV} {k : Nat} (h : Bd D V k) (hk : k + 1 ≤ 2097152) (s : List UInt8) (off : Int) : Bd (cutD D s off).1 (rcut V s off).1 (k + 1) := by
  have h1 := h.len; have h2 := h.cnt
  refine ⟨(h.sim.cut s off).2, ?_, ?_, hk⟩ <;> unfold rcut <;> (repeat' split) <;> first | (dsimp only; omega) | (refine Nat.le_trans (ract_len _ _ _).1 ?_; omega) | (rw [(ract_len _ _ _).2]; omega)
theorem Bd.sync {D : DV} {V : RV} {k : Nat} (h : Bd D V k) (hk : k + 1 ≤ 2097152) (s : List UInt8) : Bd (synD D s).1 (rsyn V s).1 (k + 1) := by
  have h1 := h.len; have h2 := h.cnt
  refine ⟨(h.sim.sync s).2, ?_, ?_, hk⟩ <;> unfold rsyn <;> (repeat' split) <;> first | (dsimp only; omega) | (refine Nat.le_trans (ract_len _ _ _).1 ?_; omega) | (rw [(ract_len _ _ _).2]; omega)
theorem Bd.lay {D : DV} {V : RV} {k : Nat} (h : Bd D V k) (hk : k + 1 ≤ 2097152) (a f : Int) (ks : List Bool) : Bd (layD D a f ks) (rlay V a f ks) (k + 1) := by
  have h1 := h.len; have h2 := h.cnt
  refine ⟨h.sim.lay a f ks, ?_, ?_, hk⟩ <;> unfold rlay <;> (repeat' split) <;> (try dsimp only) <;> omega
theorem Bd.up {D : DV} {V : RV} {k : Nat} (h : Bd D V k) (hk : k + 1 ≤ 2097152) : Bd D V (k + 1) := ⟨h.sim, Nat.le_succ_of_le h.len, Nat.le_succ_of_le h.cnt, hk⟩
end
end Go.Proofs.Ytmhedhhbdpdafab
