/-
  Own work: FGq, FRfP, FGa, FGn, FGb.
-/
import Derived.BigQuiet
import Derived.Test.YthfnpagangjpbabGreatV31
import Derived.Test.YthfnpagangjpbabGreatV41
import Derived.Test.YthfnpagangjpbabGreatV47
namespace Go.Proofs.YthfnpagangjpbabGreat
open Go.RowKit
section
variable {w W : World} {p : Nat} {S : Nat → Prop} {V : RV}
theorem Rsk.write (h : Rsk w p S V) (hf : Fit V) (s t : ByteArray) (hs : s.size ≤ maxLen) (off : Int) (ht : t.size ≤ 140737488355328) (htot : tot V.L ≤ 4611686018427387904) :
    Calls Tryz.prog 127 #[.pointer (some ⟨p, 0, none⟩), .string s, .int .i64 off, .string t] w fun e w' => e = .returned (.int .i64 (rwr V s.data.toList off t.data.toList).2) ∧ RMvd w w' p S (rwr V s.data.toList off t.data.toList).1 := by
  obtain ⟨lv, ka, kb, ko, kc, h1, h2⟩ := h
  exact (rwrite_any w h1 hf s t hs off ht htot).mono fun e w' q => ⟨q.1, Rsk.mvd h2 q.2⟩
theorem Rsk.cut (h : Rsk w p S V) (hf : Fit V) (s : ByteArray) (hs : s.size ≤ maxLen) (off : Int) :
    Calls Tryz.prog 119 #[.pointer (some ⟨p, 0, none⟩), .string s, .int .i64 off] w fun e w' => e = .returned (.int .i64 (rcut V s.data.toList off).2) ∧ RMvd w w' p S (rcut V s.data.toList off).1 := by
  obtain ⟨lv, ka, kb, ko, kc, h1, h2⟩ := h
  exact (rcut_any w h1 hf s hs off).mono fun e w' q => ⟨q.1, Rsk.mvd h2 q.2⟩
theorem Rsk.sync (h : Rsk w p S V) (hf : Fit V) (s : ByteArray) (hs : s.size ≤ maxLen) :
    Calls Tryz.prog 76 #[.pointer (some ⟨p, 0, none⟩), .string s] w fun e w' => e = .returned (.int .i64 (rsyn V s.data.toList).2) ∧ RMvd w w' p S (rsyn V s.data.toList).1 := by
  obtain ⟨lv, ka, kb, ko, kc, h1, h2⟩ := h
  exact (rsync_any w h1 hf s hs).mono fun e w' q => ⟨q.1, Rsk.mvd h2 q.2⟩
theorem Rsk.lay (h : Rsk w p S V) (a k : Int) (ha : a ≤ 9223372036854775807) (qa : Option Addr) (qb qo qc : Nat) (ks : List Bool) (hk : RdL w qa qb qo ks) (hkl : ks.length ≤ 140737488355328) (hqn : qa = none → qc = 0) (hne : 0 < ks.length → ¬ S qb) :
    Calls Tryz.prog 39 #[.pointer (some ⟨p, 0, none⟩), .agg #[.int .i64 a, .int .i64 k, .slice qa ks.length qc]] w fun e w' => e = .returned (.tuple #[]) ∧ RMvd w w' p S (rlay V a k ks) := by
  obtain ⟨lv, ka, kb, ko, kc, h1, h2⟩ := h
  exact (rlay_any w h1 a k ha qa qb qo qc ks hk hkl hqn (fun h0 q => hne h0 ((h2 _).1 (.inl q)))).mono fun e w' q => ⟨q.1, Rsk.mvd h2 q.2⟩
end
structure Bd (D : DV) (V : RV) (k : Nat) : Prop where
  sim : Sim D V
  len : V.L.length ≤ k
  cnt : V.cnt ≤ k
  few : k ≤ 2097152
  rom : V.room ≤ 1099511627776
  fre : D.free ≤ 1099511627776
theorem Bd.fit {D : DV} {V : RV} {k : Nat} (h : Bd D V k) : Fit V := by
  have := h.len; have := h.cnt; have := h.few
  exact ⟨by omega, by omega, h.sim.fate.imp (fun q => q.1) (fun q => ⟨q.2.2.2.2.1, q.2.2.2.2.2⟩)⟩
theorem tot_le : ∀ {L : List (List UInt8 × FV)} (_ : ∀ p ∈ L, p.2.now.length ≤ 268435456), tot L ≤ 268435456 * L.length
  | [], _ => Nat.zero_le _
  | p :: L, h => by
    have h1 := h p (by simp)
    have h2 := tot_le (L := L) fun q hq => h q (by simp [hq])
    simp only [tot, List.length_cons] at h2 ⊢
    omega
theorem ract_len (V : RV) (s : List UInt8) (f : FV) : (ract V s f).1.L.length ≤ V.L.length + 1 ∧ (ract V s f).1.cnt = V.cnt + 1 := by
  have h1 := rput_len V.L s f
  have h2 := aft_len V.ks (rput V.L s f) 0
  have h3 := aft_len V.ks V.L 0
  unfold ract
  dsimp only
  (repeat' split) <;> simp [allS] <;> omega
theorem ract_room (V : RV) (s : List UInt8) (f : FV) : (ract V s f).1.room = V.room := by
  unfold ract
  dsimp only
  (repeat' split) <;> rfl
theorem act_free (D : DV) (s : List UInt8) (f : FV) : (actD D s f).1.free ≤ D.free + (fget D.L s).now.length := by
  obtain ⟨e1, e2, e3, e4, _⟩ := metD_L { D with acts := D.acts + 1 }
  have q1 : (metD { D with acts := D.acts + 1 }).1.free ≤ D.free + (fget D.L s).now.length := by rw [e2]; exact Nat.le_add_right _ _
  have q2 : (dput (metD { D with acts := D.acts + 1 }).1 s f).free ≤ D.free + (fget D.L s).now.length := by
    show (metD { D with acts := D.acts + 1 }).1.free + (fget (metD { D with acts := D.acts + 1 }).1.L s).now.length - f.now.length ≤ _
    rw [e2, e1]
    exact Nat.sub_le _ _
  unfold actD
  simp only
  split
  · exact q1
  · split
    · exact q1
    · split
      · exact q1
      · split
        · exact q2
        · split
          · exact q2
          · exact q2
theorem Sim.old {D : DV} {V : RV} (h : Sim D V) (ho : V.out = false) (s : List UInt8) : D.free + (fget D.L s).now.length ≤ V.room := by
  have h2 := h.room ho
  have := tot_put (L := D.L) (by rw [h.L]; exact ord_filt h.srt) s fz
  have h5 : tot D.L = tot V.L := by rw [h.L, tot_filt]
  simp only [fz, List.length_nil] at this
  omega
theorem Bd.act {D : DV} {V : RV} {k : Nat} (h : Bd D V k) (hd : ¬ D.down = true) (s : List UInt8) (f : FV) : (actD D s f).1.free ≤ 1099511627776 := by
  have h1 := act_free D s f
  have h2 := h.sim.old (by rw [← h.sim.down]; simpa using hd) s
  have h3 := h.rom
  omega
theorem Bd.write {D : DV} {V : RV} {k : Nat} (h : Bd D V k) (hk : k + 1 ≤ 2097152) (s : List UInt8) (off : Int) (t : List UInt8) : Bd (wrD D s off t).1 (rwr V s off t).1 (k + 1) := by
  have h1 := h.len; have h2 := h.cnt
  refine ⟨(h.sim.write s off t).2, ?_, ?_, hk, ?_, by unfold wrD; split; exact h.fre; rename_i hd; split; exact h.fre; split; exact h.fre; exact h.act hd _ _⟩ <;> unfold rwr <;> (repeat' split) <;> first | (exact h.rom) | (rw [ract_room]; exact h.rom) | (dsimp only; omega) | (have := ract_len V s ‹_›; omega) | (refine Nat.le_trans (ract_len _ _ _).1 ?_; omega) | (rw [(ract_len _ _ _).2]; omega)
theorem Bd.cut {D : DV} {V : RV} {k : Nat} (h : Bd D V k) (hk : k + 1 ≤ 2097152) (s : List UInt8) (off : Int) : Bd (cutD D s off).1 (rcut V s off).1 (k + 1) := by
  have h1 := h.len; have h2 := h.cnt
  refine ⟨(h.sim.cut s off).2, ?_, ?_, hk, ?_, by unfold cutD; split; exact h.fre; rename_i hd; split; exact h.fre; exact h.act hd _ _⟩ <;> unfold rcut <;> (repeat' split) <;> first | (exact h.rom) | (rw [ract_room]; exact h.rom) | (dsimp only; omega) | (refine Nat.le_trans (ract_len _ _ _).1 ?_; omega) | (rw [(ract_len _ _ _).2]; omega)
theorem Bd.sync {D : DV} {V : RV} {k : Nat} (h : Bd D V k) (hk : k + 1 ≤ 2097152) (s : List UInt8) : Bd (synD D s).1 (rsyn V s).1 (k + 1) := by
  have h1 := h.len; have h2 := h.cnt
  refine ⟨(h.sim.sync s).2, ?_, ?_, hk, ?_, by unfold synD; split; exact h.fre; rename_i hd; exact h.act hd _ _⟩ <;> unfold rsyn <;> (repeat' split) <;> first | (exact h.rom) | (rw [ract_room]; exact h.rom) | (dsimp only; omega) | (refine Nat.le_trans (ract_len _ _ _).1 ?_; omega) | (rw [(ract_len _ _ _).2]; omega)
theorem Bd.lay {D : DV} {V : RV} {k : Nat} (h : Bd D V k) (hk : k + 1 ≤ 2097152) (a f : Int) (ks : List Bool) : Bd (layD D a f ks) (rlay V a f ks) (k + 1) := by
  have h1 := h.len; have h2 := h.cnt
  refine ⟨h.sim.lay a f ks, ?_, ?_, hk, ?_, by unfold layD; (repeat' split) <;> exact h.fre⟩ <;> unfold rlay <;> (repeat' split) <;> first | (exact h.rom) | (dsimp only; omega) | omega
theorem Bd.mono {D : DV} {V : RV} {k j : Nat} (h : Bd D V k) (hk : k ≤ j) (hj : j ≤ 2097152) : Bd D V j := ⟨h.sim, Nat.le_trans h.len hk, Nat.le_trans h.cnt hk, hj, h.rom, h.fre⟩
theorem Bd.dlen {D : DV} {V : RV} {k : Nat} (h : Bd D V k) : D.L.length ≤ k ∧ D.acts ≤ k := ⟨by have := h.len; have h1 : D.L.length ≤ V.L.length := by { rw [h.sim.L]; exact List.length_filter_le _ _ }; omega, by rw [h.sim.acts]; exact h.cnt⟩
theorem Bd.rm {D : DV} {V : RV} {k : Nat} (h : Bd D V k) : Rm 7 D := ⟨by have := h.dlen; have := h.few; omega, by have := h.dlen; have := h.few; omega, by have := h.fre; omega⟩
theorem Rsk.tot {w : World} {r k : Nat} {T : Nat → Prop} {D : DV} {V : RV} (h : Rsk w r T V) (hb : Bd D V k) : tot V.L ≤ 562949953421312 := by
  obtain ⟨lv, ka, kb, ko, kc, h1, _⟩ := h
  have := tot_le fun q hq => (h1.sz q hq).1
  have := hb.len; have := hb.few
  omega
def RDm (w w' : World) (r : Nat) (T : Nat → Prop) (D : DV) (k : Nat) : Prop := ∃ V, Bd D V k ∧ RMvd w w' r T V
section
variable {w W : World} {r k : Nat} {T : Nat → Prop} {D : DV} {V : RV}
theorem RMvd.of (h : Rsk w r T V) (hb : Below w.heap.size w W) : RMvd w W r T V := ⟨T, h.next hb, fun _ hx => .inl hx, Upo.of hb⟩
theorem RMvd.next {w1 : World} (h : RMvd w w1 r T V) (hb : Below w1.heap.size w1 W) : RMvd w W r T V := by
  obtain ⟨T', h1, h2, h3⟩ := h
  exact ⟨T', h1.next hb, h2, h3.next hb⟩
theorem RMvd.first {w1 : World} (hb : Below w.heap.size w w1) (h : RMvd w1 W r T V) : RMvd w W r T V := by
  obtain ⟨T', h1, h2, h3⟩ := h
  exact ⟨T', h1, fun x hx => (h2 x hx).imp id (fun e => Nat.le_trans hb.size e), (Upo.of hb).trans h3 (fun _ _ q => q)⟩
theorem RMvd.trans {w1 w2 : World} {V2 : RV} (h : RMvd w w1 r T V) (h2 : ∀ T1, Rsk w1 r T1 V → RMvd w1 w2 r T1 V2) : RMvd w w2 r T V2 := by
  obtain ⟨T1, a1, a2, a3⟩ := h
  obtain ⟨T2, b1, b2, b3⟩ := h2 T1 a1
  refine ⟨T2, b1, fun x hx => ?_, a3.trans b3 (fun x hx ht => ?_)⟩
  · rcases b2 x hx with e | e
    · exact a2 x e
    · exact .inr (Nat.le_trans a3.size e)
  · rcases a2 x ht with e | e
    · exact e
    · omega
theorem Rsk.read (h : Rsk w r T V) (s : ByteArray) (off : Int) (ho1 : -9223372036854775808 ≤ off) (ho2 : off ≤ 9223372036854775807) (q : Int) (x : ByteArray) (hx : (⟨(rrd V s.data.toList off q).1.toArray⟩ : ByteArray) = x) :
    Calls Tryz.prog 32 #[.pointer (some ⟨r, 0, none⟩), .string s, .int .i64 off, .int .i64 q] w fun e w' => e = .returned (.tuple #[.string x, .int .i64 (rrd V s.data.toList off q).2]) ∧ Below w.heap.size w w' := by
  obtain ⟨lv, ka, kb, ko, kc, h1, _⟩ := h
  exact rread_any w h1 s off q ho1 ho2 x hx
theorem Rsk.size (h : Rsk w r T V) (s : ByteArray) : Calls Tryz.prog 117 #[.pointer (some ⟨r, 0, none⟩), .string s] w fun e w' => e = .returned (.int .i64 (rsz V s.data.toList : Int)) ∧ Below w.heap.size w w' := by
  obtain ⟨lv, ka, kb, ko, kc, h1, _⟩ := h
  exact rsize_any w h1 s
theorem Rsk.acts (h : Rsk w r T V) : Calls Tryz.prog 44 #[.pointer (some ⟨r, 0, none⟩)] w fun e w' => e = .returned (.int .i64 (V.cnt : Int)) ∧ w' = w := by
  obtain ⟨lv, ka, kb, ko, kc, h1, _⟩ := h
  exact racts_any w h1
theorem Rsk.down (h : Rsk w r T V) : Calls Tryz.prog 30 #[.pointer (some ⟨r, 0, none⟩)] w fun e w' => e = .returned (.bool V.out) ∧ w' = w := by
  obtain ⟨lv, ka, kb, ko, kc, h1, _⟩ := h
  exact rdown_any w h1
theorem Rsk.files (h : Rsk w r T V) {l : List (List UInt8 × List UInt8)} (hl : tell V.L = l) : Calls Tryz.prog 48 #[.pointer (some ⟨r, 0, none⟩)] w fun e w' => ∃ v, e = .returned v ∧ OwnF w' w.heap.size v l ∧ Below w.heap.size w w' := by
  obtain ⟨lv, ka, kb, ko, kc, h1, _⟩ := h
  rw [← hl]
  exact rfiles_any w h1
theorem Rsk.after (h : Rsk w r T V) (hn : V.L.length ≤ 1073741824) (qa : Option Addr) (qb qo qc : Nat) (ks : List Bool) (hk : RdL w qa qb qo ks) (hkl : ks.length ≤ 140737488355328) {l : List (List UInt8 × List UInt8)} (hl : raf V ks = l) : Calls Tryz.prog 50 #[.pointer (some ⟨r, 0, none⟩), .slice qa ks.length qc] w fun e w' => ∃ v, e = .returned v ∧ OwnF w' w.heap.size v l ∧ Below w.heap.size w w' := by
  obtain ⟨lv, ka, kb, ko, kc, h1, _⟩ := h
  rw [← hl]
  exact rafter_any w h1 hn qa qb qo qc ks hk hkl
theorem Sim.rd (h : Sim D V) (s : List UInt8) (off q : Int) : rrd V s off q = rdD D s off q := by
  unfold rrd rdD
  rw [h.down, h.get]
theorem Sim.sz (h : Sim D V) (s : List UInt8) : rsz V s = sizD D s := by
  unfold rsz sizD
  rw [h.down, h.get]
theorem RDm.of (h : Rsk w r T V) (hb : Bd D V k) (hw : Below w.heap.size w W) : RDm w W r T D k := ⟨V, hb, RMvd.of h hw⟩
theorem RDm.mono {w1 : World} {j : Nat} (h : RDm w w1 r T D k) (hk : k ≤ j) (hj : j ≤ 2097152) : RDm w w1 r T D j := by
  obtain ⟨V, h1, h2⟩ := h
  exact ⟨V, h1.mono hk hj, h2⟩
theorem RDm.next {w1 : World} (h : RDm w w1 r T D k) (hb : Below w1.heap.size w1 W) : RDm w W r T D k := by
  obtain ⟨V, h1, h2⟩ := h
  exact ⟨V, h1, h2.next hb⟩
theorem RMvd.step {w1 : World} {T1 : Nat → Prop} (a2 : ∀ x, T1 x → T x ∨ w.heap.size ≤ x) (a3 : Upo T w w1) (h : RMvd w1 W r T1 V) : RMvd w W r T V := by
  obtain ⟨T2, b1, b2, b3⟩ := h
  refine ⟨T2, b1, fun x hx => ?_, a3.trans b3 (fun x hx ht => ?_)⟩
  · rcases b2 x hx with e | e
    · exact a2 x e
    · exact .inr (Nat.le_trans a3.size e)
  · rcases a2 x ht with e | e
    · exact e
    · omega
theorem RDm.write {w1 : World} (h : RDm w w1 r T D k) (hk : k + 1 ≤ 2097152) (s t : ByteArray) (hs : s.size ≤ maxLen) (off : Int) (ht : t.size ≤ 140737488355328) (W : World) (hW : Below w1.heap.size w1 W) :
    Calls Tryz.prog 127 #[.pointer (some ⟨r, 0, none⟩), .string s, .int .i64 off, .string t] W fun e w' => e = .returned (.int .i64 (wrD D s.data.toList off t.data.toList).2) ∧ RDm w w' r T (wrD D s.data.toList off t.data.toList).1 (k + 1) := by
  obtain ⟨V, h1, T1, a1, a2, a3⟩ := h
  have hr := a1.next hW
  refine (hr.write h1.fit s t hs off ht (by have := hr.tot h1; omega)).mono fun e w' q => ?_
  rw [(h1.sim.write _ _ _).1]
  exact ⟨q.1, _, h1.write hk _ _ _, RMvd.step a2 a3 (RMvd.first hW q.2)⟩
theorem RDm.cut {w1 : World} (h : RDm w w1 r T D k) (hk : k + 1 ≤ 2097152) (s : ByteArray) (hs : s.size ≤ maxLen) (off : Int) (W : World) (hW : Below w1.heap.size w1 W) :
    Calls Tryz.prog 119 #[.pointer (some ⟨r, 0, none⟩), .string s, .int .i64 off] W fun e w' => e = .returned (.int .i64 (cutD D s.data.toList off).2) ∧ RDm w w' r T (cutD D s.data.toList off).1 (k + 1) := by
  obtain ⟨V, h1, T1, a1, a2, a3⟩ := h
  have hr := a1.next hW
  refine (hr.cut h1.fit s hs off).mono fun e w' q => ?_
  rw [(h1.sim.cut _ _).1]
  exact ⟨q.1, _, h1.cut hk _ _, RMvd.step a2 a3 (RMvd.first hW q.2)⟩
theorem RDm.sync {w1 : World} (h : RDm w w1 r T D k) (hk : k + 1 ≤ 2097152) (s : ByteArray) (hs : s.size ≤ maxLen) (W : World) (hW : Below w1.heap.size w1 W) :
    Calls Tryz.prog 76 #[.pointer (some ⟨r, 0, none⟩), .string s] W fun e w' => e = .returned (.int .i64 (synD D s.data.toList).2) ∧ RDm w w' r T (synD D s.data.toList).1 (k + 1) := by
  obtain ⟨V, h1, T1, a1, a2, a3⟩ := h
  have hr := a1.next hW
  refine (hr.sync h1.fit s hs).mono fun e w' q => ?_
  rw [(h1.sim.sync _).1]
  exact ⟨q.1, _, h1.sync hk _, RMvd.step a2 a3 (RMvd.first hW q.2)⟩
theorem RDm.read {w1 : World} (h : RDm w w1 r T D k) (s : ByteArray) (off : Int) (ho1 : -9223372036854775808 ≤ off) (ho2 : off ≤ 9223372036854775807) (q : Int) (W : World) (hW : Below w1.heap.size w1 W) :
    Calls Tryz.prog 32 #[.pointer (some ⟨r, 0, none⟩), .string s, .int .i64 off, .int .i64 q] W fun e w' => e = .returned (.tuple #[.string (tx (rdD D s.data.toList off q).1), .int .i64 (rdD D s.data.toList off q).2]) ∧ Below W.heap.size W w' := by
  obtain ⟨V, h1, T1, a1, a2, a3⟩ := h
  have := (a1.next hW).read s off ho1 ho2 q _ rfl
  rw [h1.sim.rd] at this
  exact this
theorem RDm.size {w1 : World} (h : RDm w w1 r T D k) (s : ByteArray) (W : World) (hW : Below w1.heap.size w1 W) : Calls Tryz.prog 117 #[.pointer (some ⟨r, 0, none⟩), .string s] W fun e w' => e = .returned (.int .i64 (sizD D s.data.toList : Int)) ∧ Below W.heap.size W w' := by
  obtain ⟨V, h1, T1, a1, a2, a3⟩ := h
  have := (a1.next hW).size s
  rw [h1.sim.sz] at this
  exact this
theorem RDm.down {w1 : World} (h : RDm w w1 r T D k) (W : World) (hW : Below w1.heap.size w1 W) : Calls Tryz.prog 30 #[.pointer (some ⟨r, 0, none⟩)] W fun e w' => e = .returned (.bool D.down) ∧ w' = W := by
  obtain ⟨V, h1, T1, a1, a2, a3⟩ := h
  have := (a1.next hW).down
  rw [← h1.sim.down] at this
  exact this
theorem RDm.sz {w1 : World} (h : RDm w w1 r T D k) (s : List UInt8) : (fget D.L s).now.length ≤ 268435456 := by
  obtain ⟨V, h1, T1, ⟨lv, ka, kb, ko, kc, a1, _⟩, a2, a3⟩ := h
  rw [h1.sim.get]
  exact (fget_sz a1 s).1
end
end Go.Proofs.YthfnpagangjpbabGreat
namespace Go.Proofs.YthfnpagangjpbabGreat
open Rc
def bgM (l : List MV) : Nat := lst (l.map (·.items))
def nxR (k : Nat) (l : List MV) (m : MV) : Bool := decide (l.length < 65536) && decide (m.size = l.length + 1) && decide (m.k = (k : Int)) && decide (bgM l < m.items) && decide (m.nodes = 40 * nn m.size)
def rdR (k : Nat) (s : List UInt8) : Nat → Option (List MV)
  | 0 => some []
  | j + 1 => match rdR k s j with
    | none => none
    | some l => match rmrk (rowM s j) with
      | none => none
      | some m => if nxR k l m then some (l ++ [m]) else none
def plR (l : List MV) (a : List UInt8) (i : Nat) : List UInt8 := (a.drop (bgM (l.take i))).take ((l.getD i MV.z).items - bgM (l.take i))
def rwR (b : List UInt8) (p n : Nat) : List ByteArray := (List.range n).map fun j => tx (rowN b (p + j))
def chR (l : List MV) (a b : List UInt8) : Nat → BitVec 32
  | 0 => 0#32
  | i + 1 => BitVec.ofNat 32 (chn (chR l a b i) (plR l a i) (rwR b (nn i) (nn (i + 1) - nn i)))
structure Rgt (k : Nat) (l : List MV) (a b : List UInt8) : Prop where
  la : bgM l ≤ a.length
  lb : 40 * nn l.length ≤ b.length
  pay : ∀ i, i < l.length → whl (plR l a i) = true
  nod : ∀ p, p < nn l.length → (rnod k p (rowN b p)).isSome = true
  chain : ∀ i, i < l.length → (l.getD i MV.z).chain = chR l a b (i + 1)
theorem rdR_len {k : Nat} {s : List UInt8} : ∀ {j : Nat} {l : List MV}, rdR k s j = some l → l.length = j
  | 0, l, h => by cases h; rfl
  | j + 1, l, h => by
    rw [rdR] at h
    cases hj : rdR k s j with
    | none => rw [hj] at h; cases h
    | some l0 =>
      rw [hj] at h
      simp only at h
      cases hm : rmrk (rowM s j) with
      | none => rw [hm] at h; cases h
      | some m =>
        rw [hm] at h
        simp only at h
        split at h
        · cases h
          rw [List.length_append, rdR_len hj]; rfl
        · cases h
structure RowR (k : Nat) (l : List MV) : Prop where
  few : l.length ≤ 65536
  size : ∀ i, i < l.length → (l.getD i MV.z).size = i + 1
  kk : ∀ i, i < l.length → (l.getD i MV.z).k = (k : Int)
  up : ∀ i, i < l.length → bgM (l.take i) < (l.getD i MV.z).items
  nodes : ∀ i, i < l.length → (l.getD i MV.z).nodes = 40 * nn (i + 1)
theorem getD_snoc_lt (l : List MV) (m : MV) (i : Nat) (h : i < l.length) : (l ++ [m]).getD i MV.z = l.getD i MV.z := by
  rw [List.getD_eq_getElem?_getD, List.getD_eq_getElem?_getD, List.getElem?_append_left h]
theorem getD_snoc_eq (l : List MV) (m : MV) : (l ++ [m]).getD l.length MV.z = m := by
  rw [List.getD_eq_getElem?_getD, List.getElem?_concat_length]; rfl
theorem take_snoc_lt (l : List MV) (m : MV) (i : Nat) (h : i ≤ l.length) : (l ++ [m]).take i = l.take i := List.take_append_of_le_length h
theorem bgM_snoc (l : List MV) (m : MV) : bgM (l ++ [m]) = m.items := by
  unfold bgM
  rw [List.map_append]
  exact lst_snoc _ _
theorem nxR_iff {k : Nat} {l : List MV} {m : MV} : nxR k l m = true ↔ l.length < 65536 ∧ m.size = l.length + 1 ∧ m.k = (k : Int) ∧ bgM l < m.items ∧ m.nodes = 40 * nn m.size := by
  simp [nxR, and_assoc]
theorem plR_snoc (l : List MV) (m : MV) (a : List UInt8) (i : Nat) (h : i < l.length) : plR (l ++ [m]) a i = plR l a i := by
  unfold plR
  rw [getD_snoc_lt l m i h, take_snoc_lt l m i (by omega)]
theorem plR_last (l : List MV) (m : MV) (a : List UInt8) : plR (l ++ [m]) a l.length = (a.drop (bgM l)).take (m.items - bgM l) := by
  unfold plR
  rw [getD_snoc_eq, take_snoc_lt l m _ (Nat.le_refl _), List.take_length]
theorem chR_snoc (l : List MV) (m : MV) (a b : List UInt8) : ∀ i, i ≤ l.length → chR (l ++ [m]) a b i = chR l a b i
  | 0, _ => rfl
  | i + 1, h => by rw [chR, chR, chR_snoc l m a b i (by omega), plR_snoc l m a i (by omega)]
theorem rgt_snoc {k : Nat} {l : List MV} {m : MV} {a b : List UInt8} (hm : bgM l < m.items) (hn : nn l.length ≤ nn (l.length + 1)) : Rgt k (l ++ [m]) a b ↔ Rgt k l a b ∧ m.items ≤ a.length ∧ 40 * nn (l.length + 1) ≤ b.length ∧ whl ((a.drop (bgM l)).take (m.items - bgM l)) = true ∧ (∀ p, nn l.length ≤ p → p < nn (l.length + 1) → (rnod k p (rowN b p)).isSome = true) ∧ m.chain = BitVec.ofNat 32 (chn (chR l a b l.length) ((a.drop (bgM l)).take (m.items - bgM l)) (rwR b (nn l.length) (nn (l.length + 1) - nn l.length))) := by
  have hl : (l ++ [m]).length = l.length + 1 := by simp
  constructor
  · intro h
    have ha := h.la
    have hb := h.lb
    rw [bgM_snoc] at ha
    rw [hl] at hb
    have hc := h.chain l.length (by omega)
    rw [getD_snoc_eq, chR, chR_snoc l m a b _ (Nat.le_refl _), plR_last] at hc
    have hp := h.pay l.length (by omega)
    rw [plR_last] at hp
    refine ⟨⟨by omega, by omega, fun i hi => ?_, fun p hp => h.nod p (by rw [hl]; omega), fun i hi => ?_⟩, ha, hb, hp, fun p h1 h2 => h.nod p (by rw [hl]; exact h2), hc⟩
    · have := h.pay i (by omega); rwa [plR_snoc l m a i hi] at this
    · have := h.chain i (by omega)
      rwa [getD_snoc_lt l m i hi, chR_snoc l m a b (i + 1) (by omega)] at this
  · rintro ⟨h, h1, h2, h3, h4, h5⟩
    refine ⟨by rw [bgM_snoc]; exact h1, by rw [hl]; exact h2, fun i hi => ?_, fun p hp => ?_, fun i hi => ?_⟩
    · by_cases e : i < l.length
      · rw [plR_snoc l m a i e]; exact h.pay i e
      · obtain rfl : i = l.length := by omega
        rw [plR_last]; exact h3
    · by_cases e : p < nn l.length
      · exact h.nod p e
      · exact h4 p (by omega) (by rw [hl] at hp; exact hp)
    · by_cases e : i < l.length
      · rw [getD_snoc_lt l m i e, chR_snoc l m a b (i + 1) (by omega)]; exact h.chain i e
      · obtain rfl : i = l.length := by omega
        rw [getD_snoc_eq, chR, chR_snoc l m a b _ (Nat.le_refl _), plR_last]; exact h5
theorem rdN_rwR (k : Nat) (b : List UInt8) (p : Nat) : ∀ n, rdN k b p n = if 40 * (p + n) ≤ b.length ∨ n = 0 then (if ∀ j, j < n → (rnod k (p + j) (rowN b (p + j))).isSome = true then some (rwR b p n) else none) else none
  | 0 => by simp [rdN, rwR]
  | n + 1 => by
    have ih := rdN_rwR k b p n
    rw [rdN, ih]
    have hs : rwR b p (n + 1) = rwR b p n ++ [tx (rowN b (p + n))] := by unfold rwR; rw [List.range_succ, List.map_append]; rfl
    by_cases h1 : 40 * (p + (n + 1)) ≤ b.length
    · rw [if_pos (show 40 * (p + n) ≤ b.length ∨ n = 0 from .inl (by omega)), if_pos (show 40 * (p + (n + 1)) ≤ b.length ∨ n + 1 = 0 from .inl h1)]
      by_cases h2 : ∀ j, j < n → (rnod k (p + j) (rowN b (p + j))).isSome = true
      · rw [if_pos h2]
        simp only
        by_cases h3 : (rnod k (p + n) (rowN b (p + n))).isSome = true
        · rw [if_pos ⟨by omega, h3⟩, if_pos (fun j hj => (Nat.lt_or_eq_of_le (Nat.le_of_lt_succ hj)).elim (h2 j) (fun e => by rw [e]; exact h3)), hs]
        · rw [if_neg (fun h => h3 h.2), if_neg (fun h => h3 (h n (by omega)))]
      · rw [if_neg h2]
        simp only
        rw [if_neg (fun h => h2 fun j hj => h j (by omega))]
    · rw [if_neg (show ¬ (40 * (p + (n + 1)) ≤ b.length ∨ n + 1 = 0) from fun h => h.elim h1 (fun e => by omega))]
      split
      · rfl
      · rw [if_neg (fun h => h1 (by omega))]
theorem map_len (l : List MV) : (l.map (·.items)).length = l.length := List.length_map _
theorem tkN_step {k : Nat} {l : List MV} {c : BitVec 32} {row a b : List UInt8} {st' : List Nat × BitVec 32} : tkN k a b (l.map (·.items), c) row = some st' ↔ ∃ m, rmrk row = some m ∧ nxR k l m = true ∧ m.items ≤ a.length ∧ 40 * nn (l.length + 1) ≤ b.length ∧ whl ((a.drop (bgM l)).take (m.items - bgM l)) = true ∧ (∀ p, nn l.length ≤ p → p < nn (l.length + 1) → (rnod k p (rowN b p)).isSome = true) ∧ m.chain = BitVec.ofNat 32 (chn c ((a.drop (bgM l)).take (m.items - bgM l)) (rwR b (nn l.length) (nn (l.length + 1) - nn l.length))) ∧ st' = ((l ++ [m]).map (·.items), m.chain) := by
  unfold tkN
  cases hm : rmrk row with
  | none => simp
  | some m =>
    simp only [map_len, Option.some.injEq]
    have hb0 : lst (l.map (·.items)) = bgM l := rfl
    rw [hb0]
    by_cases hc : 65536 ≤ l.length ∨ m.items ≤ bgM l ∨ a.length < m.items ∨ whl ((a.drop (bgM l)).take (m.items - bgM l)) = false
    · rw [if_pos hc]
      constructor
      · intro h; cases h
      · rintro ⟨m', rfl, h1, h2, h3, h4, _⟩
        obtain ⟨g1, g2, g3, g4, g5⟩ := nxR_iff.1 h1
        rcases hc with e | e | e | e
        · omega
        · omega
        · omega
        · rw [h4] at e; cases e
    · rw [if_neg hc]
      have c1 : l.length < 65536 := by omega
      have c2 : bgM l < m.items := by omega
      have c3 : m.items ≤ a.length := by omega
      have c4 : whl ((a.drop (bgM l)).take (m.items - bgM l)) = true := by
        cases hw : whl ((a.drop (bgM l)).take (m.items - bgM l))
        · exact absurd (.inr (.inr (.inr hw))) hc
        · rfl
      have hpl : ((a.drop (bgM l)).take (m.items - bgM l)).length = m.items - bgM l := by rw [List.length_take, List.length_drop]; omega
      have hnx := nn_next l.length (by omega)
      have hpn : nn l.length + (nn (l.length + 1) - nn l.length) = nn (l.length + 1) := by omega
      have hrd := rdN_rwR k b (nn l.length) (nn (l.length + 1) - nn l.length)
      rw [hpn] at hrd
      rw [hrd]
      generalize hP : (a.drop (bgM l)).take (m.items - bgM l) = P at *
      generalize hRw : rwR b (nn l.length) (nn (l.length + 1) - nn l.length) = Rw at *
      by_cases d1 : 40 * nn (l.length + 1) ≤ b.length
      · rw [if_pos (.inl d1)]
        by_cases d2 : ∀ j, j < nn (l.length + 1) - nn l.length → (rnod k (nn l.length + j) (rowN b (nn l.length + j))).isSome = true
        · rw [if_pos d2]
          simp only
          have d2' : ∀ p, nn l.length ≤ p → p < nn (l.length + 1) → (rnod k p (rowN b p)).isSome = true := fun p h1 h2 => by
            have := d2 (p - nn l.length) (by omega)
            rwa [show nn l.length + (p - nn l.length) = p by omega] at this
          by_cases d3 : m = nxM k (l.map (·.items)) c P Rw
          · rw [if_pos d3]
            have f1 : m.size = l.length + 1 := by rw [d3]; show (l.map (·.items)).length + 1 = _; rw [map_len]
            have f2 : m.k = (k : Int) := by rw [d3]; rfl
            have f3 : m.nodes = 40 * nn m.size := by rw [f1, d3]; show nn ((l.map (·.items)).length + 1) * 40 = _; rw [map_len, Nat.mul_comm]
            have f4 : m.chain = BitVec.ofNat 32 (chn c P Rw) := by rw [d3]; rfl
            constructor
            · intro h
              refine ⟨m, rfl, nxR_iff.2 ⟨c1, f1, f2, c2, f3⟩, c3, d1, by rw [hP]; exact c4, d2', by rw [hP]; exact f4, ?_⟩
              rw [List.map_append]; exact (Option.some.inj h).symm
            · rintro ⟨m', rfl, _, _, _, _, _, _, rfl⟩
              rw [List.map_append]; rfl
          · rw [if_neg d3]
            constructor
            · intro h; cases h
            · rintro ⟨m', rfl, h1, h2, h3, h4, h5, h6, _⟩
              obtain ⟨g1, g2, g3, g4, g5⟩ := nxR_iff.1 h1
              refine absurd (MV.ext' g3 ?_ ?_ ?_ ?_) d3
              · show m.size = (l.map (·.items)).length + 1; rw [map_len]; exact g2
              · show m.items = bgM l + P.length; omega
              · show m.nodes = nn ((l.map (·.items)).length + 1) * 40; rw [map_len, g5, g2, Nat.mul_comm]
              · rw [hP] at h6; exact h6
        · rw [if_neg d2]
          constructor
          · intro h; cases h
          · rintro ⟨m', rfl, h1, h2, h3, h4, h5, _⟩
            exact absurd (fun j hj => h5 (nn l.length + j) (by omega) (by omega)) d2
      · rw [if_neg (fun h => h.elim d1 (fun e => by omega))]
        constructor
        · intro h; cases h
        · rintro ⟨m', rfl, h1, h2, h3, _⟩
          exact absurd h3 d1
theorem tkA_rdR {k : Nat} {a b s : List UInt8} : ∀ {j : Nat} {st : List Nat × BitVec 32}, tkA k a b s j = some st ↔ ∃ l, rdR k s j = some l ∧ Rgt k l a b ∧ st = (l.map (·.items), chR l a b l.length)
  | 0, st => by
    constructor
    · intro h
      cases h
      exact ⟨[], rfl, ⟨Nat.zero_le _, Nat.zero_le _, fun i hi => absurd hi (Nat.not_lt_zero _), fun p hp => absurd hp (Nat.not_lt_zero _), fun i hi => absurd hi (Nat.not_lt_zero _)⟩, rfl⟩
    · rintro ⟨l, h, _, rfl⟩
      cases h
      rfl
  | j + 1, st => by
    have ih := fun st => tkA_rdR (k := k) (a := a) (b := b) (s := s) (j := j) (st := st)
    rw [tkA, rdR]
    constructor
    · intro h
      cases ht : tkA k a b s j with
      | none => rw [ht] at h; cases h
      | some st0 =>
        rw [ht] at h
        simp only at h
        obtain ⟨l, h1, h2, rfl⟩ := (ih st0).1 ht
        obtain ⟨m, g1, g2, g3, g4, g5, g6, g7, rfl⟩ := tkN_step.1 h
        obtain ⟨e1, e2, e3, e4, e5⟩ := nxR_iff.1 g2
        have hl := rdR_len h1
        rw [h1]
        simp only
        rw [g1]
        simp only
        rw [if_pos g2]
        refine ⟨l ++ [m], rfl, (rgt_snoc e4 (by have := nn_next l.length (by omega); omega)).2 ⟨h2, g3, g4, g5, g6, g7⟩, ?_⟩
        rw [show (l ++ [m]).length = l.length + 1 by simp, chR, chR_snoc l m a b _ (Nat.le_refl _), plR_last, ← g7]
    · rintro ⟨l, h1, h2, rfl⟩
      cases hj : rdR k s j with
      | none => rw [hj] at h1; cases h1
      | some l0 =>
        rw [hj] at h1
        simp only at h1
        cases hm : rmrk (rowM s j) with
        | none => rw [hm] at h1; cases h1
        | some m =>
          rw [hm] at h1
          simp only at h1
          split at h1
          · rename_i hn
            cases h1
            obtain ⟨e1, e2, e3, e4, e5⟩ := nxR_iff.1 hn
            obtain ⟨r0, r1, r2, r3, r4, r5⟩ := (rgt_snoc e4 (by have := nn_next l0.length (by omega); omega)).1 h2
            rw [(ih _).2 ⟨l0, hj, r0, rfl⟩]
            simp only
            refine tkN_step.2 ⟨m, hm, hn, r1, r2, r3, r4, r5, ?_⟩
            rw [show (l0 ++ [m]).length = l0.length + 1 by simp, chR, chR_snoc l0 m a b _ (Nat.le_refl _), plR_last, ← r5]
          · cases h1
theorem tkAll_rdR {k : Nat} {a b s : List UInt8} {st : List Nat × BitVec 32} : tkAll k a b s = some st ↔ ∃ l, rdR k s (cntM s) = some l ∧ Rgt k l a b ∧ st = (l.map (·.items), chR l a b l.length) := tkA_rdR
end Go.Proofs.YthfnpagangjpbabGreat
namespace Go.Proofs.YthfnpagangjpbabGreat
open Go.RowKit
open Rc
def cK : List MV → List Value
  | [] => []
  | m :: r => .int .i64 m.k :: .int .u64 (m.size : Int) :: .int .u64 (m.items : Int) :: .int .u64 (m.nodes : Int) :: .int .u32 (m.chain.toNat : Int) :: cK r
theorem cK_app (l m : List MV) : cK (l ++ m) = cK l ++ cK m := by
  induction l with
  | nil => rfl
  | cons b r ih => simp [cK, ih]
theorem cK_one (l : List MV) : ∀ u ∈ cK l, u.oneCell' = true := by
  induction l with
  | nil => intro u hu; cases hu
  | cons b r ih =>
    intro u hu
    simp [cK] at hu
    rcases hu with rfl | rfl | rfl | rfl | rfl | hu
    · rfl
    · rfl
    · rfl
    · rfl
    · rfl
    · exact ih u hu
theorem cK_at : ∀ (l : List MV) (j : Nat), j < l.length → (cK l)[j * 5]? = some (.int .i64 (l.getD j MV.z).k) ∧ (cK l)[j * 5 + 1]? = some (.int .u64 ((l.getD j MV.z).size : Int)) ∧ (cK l)[j * 5 + 2]? = some (.int .u64 ((l.getD j MV.z).items : Int)) ∧ (cK l)[j * 5 + 3]? = some (.int .u64 ((l.getD j MV.z).nodes : Int)) ∧ (cK l)[j * 5 + 4]? = some (.int .u32 ((l.getD j MV.z).chain.toNat : Int))
  | [], j, h => by simp at h
  | x :: r, 0, _ => ⟨rfl, rfl, rfl, rfl, rfl⟩
  | x :: r, j + 1, h => by
    have := cK_at r j (by simpa using h)
    rw [show (j + 1) * 5 = j * 5 + 5 by omega]
    exact this
theorem Tryz.infoK : (Tryz.prog.info? 85).map (fun i => (i.zero, i.size, i.bytes)) = some (some (.agg #[.int .i64 0, .int .u64 0, .int .u64 0, .int .u64 0, .int .u32 0]), 5, 40) := by kernel_rfl
def OwnK (w : World) (B : Nat) (v : Value) (l : List MV) : Prop := w.ownsRow B 85 5 v l.length (cK l)
theorem ownK_nil (w : World) (B : Nat) : OwnK w B (.slice none 0 0) [] := ⟨rfl, .inl ⟨rfl, rfl⟩⟩
theorem ownK_next {w w' : World} {B : Nat} {v : Value} {l : List MV} (h : OwnK w B v l) (hb : Below w.heap.size w w') : OwnK w' B v l := row_keep h fun g hg => hb.block g (World.ownsRow.lt h g hg).2
structure RdK (w : World) (ao : Option Addr) (b : Nat) (l : List MV) : Prop where
  ptr : 0 < l.length → ao = some ⟨b, 0, none⟩
  c0 : ∀ j, j < l.length → w.cell? ⟨b, j * 5, none⟩ = some (.int .i64 (l.getD j MV.z).k) ∧ w.cell? ⟨b, j * 5 + 1, none⟩ = some (.int .u64 ((l.getD j MV.z).size : Int)) ∧ w.cell? ⟨b, j * 5 + 2, none⟩ = some (.int .u64 ((l.getD j MV.z).items : Int)) ∧ w.cell? ⟨b, j * 5 + 3, none⟩ = some (.int .u64 ((l.getD j MV.z).nodes : Int)) ∧ w.cell? ⟨b, j * 5 + 4, none⟩ = some (.int .u32 ((l.getD j MV.z).chain.toNat : Int))
theorem RdK.lt {w : World} {ao : Option Addr} {b : Nat} {l : List MV} (h : RdK w ao b l) (h0 : 0 < l.length) : b < w.heap.size := World.block_lt_of_cell? w _ (h.c0 0 h0).1
theorem RdK.same {w W : World} {ao : Option Addr} {b : Nat} {l : List MV} (h : RdK w ao b l) (hb : 0 < l.length → W.heap[b]? = w.heap[b]?) : RdK W ao b l :=
  ⟨h.ptr, fun j hj => by
    obtain ⟨h0, h1, h2, h3, h4⟩ := h.c0 j hj
    have e := hb (by omega)
    exact ⟨(World.cell?_of_block (a := ⟨b, j * 5, none⟩) e).trans h0, (World.cell?_of_block (a := ⟨b, j * 5 + 1, none⟩) e).trans h1, (World.cell?_of_block (a := ⟨b, j * 5 + 2, none⟩) e).trans h2, (World.cell?_of_block (a := ⟨b, j * 5 + 3, none⟩) e).trans h3, (World.cell?_of_block (a := ⟨b, j * 5 + 4, none⟩) e).trans h4⟩⟩
theorem RdK.next {w W : World} {ao : Option Addr} {b : Nat} {l : List MV} (h : RdK w ao b l) (hb : Below w.heap.size w W) : RdK W ao b l := h.same fun h0 => hb.block b (h.lt h0)
theorem ownK_rd {w : World} {B : Nat} {v : Value} {l : List MV} (h : OwnK w B v l) : ∃ ao b cap, v = .slice ao l.length cap ∧ RdK w ao b l ∧ (0 < l.length → B ≤ b ∧ v.ownBlock = some b) := by
  rcases h.2 with ⟨e1, e2⟩ | ⟨g, cap, cur, e1, e2, hb, h1, h2, h3, h4⟩
  · exact ⟨none, 0, 0, by rw [e1, e2], ⟨fun h0 => by omega, fun j hj => by omega⟩, fun h0 => by omega⟩
  · have at' : ∀ i, i < l.length * 5 → w.cell? ⟨g, i, none⟩ = (cK l)[i]? := fun i hi => by
      rw [cell_of_row w g i cur _ (0, 0) hb]
      have := congrArg (fun x => x[i]?) h4
      simp only [List.getElem?_take, if_pos hi] at this
      rw [Array.getElem?_toList] at this
      exact this
    refine ⟨some ⟨g, 0, none⟩, g, cap, e1, ⟨fun _ => rfl, fun j hj => ?_⟩, fun _ => ⟨e2, by rw [e1]; rfl⟩⟩
    rw [at' _ (by omega), at' _ (by omega), at' _ (by omega), at' _ (by omega), at' _ (by omega)]
    exact cK_at l j hj
theorem ownK_lt {w : World} {B : Nat} {v : Value} {l : List MV} (h : OwnK w B v l) {g : Nat} (hg : v.ownBlock = some g) : g < w.heap.size := (World.ownsRow.lt h g hg).2
theorem five_new (w : World) (a b c d e : Value) (T : TypeId) : ∀ j u, [a, b, c, d, e][j]? = some u → (w.alloc (.cells #[a, b, c, d, e] T)).cell? ((⟨w.heap.size, 0, none⟩ : Addr).add j) = some u := fun j u hu => by
  rw [Addr.add_mid, World.cell?_alloc_new, Nat.zero_add]
  simpa using hu
def WentK (w w' : World) (v v' : Value) : Prop := (∃ g n cap, v = .slice (some ⟨g, 0, none⟩) n cap ∧ v' = .slice (some ⟨g, 0, none⟩) (n + 1) cap ∧ w.grownBy w' (some g)) ∨ (w.grownBy w' none ∧ ∀ g, v'.ownBlock = some g → w.heap.size ≤ g)
theorem run_app_K (w : World) (ty B : Nat) (v : Value) (L : List MV) (hown : OwnK w B v L) (ad : Addr) (mc : Nat) (z : MV) (hr : ∀ j u, (cK [z])[j]? = some u → w.cell? (ad.add j) = some u)
    (hlen : L.length + 1 ≤ 1048576) (hB : B ≤ w.heap.size) :
    ∃ v' w', (Builtin.append_ #[72, 72] ty #[v, .slice (some ad) 1 mc]).run Tryz.prog w = .ok v' w' ∧ OwnK w' B v' (L ++ [z]) ∧ WentK w w' v v' := by
  obtain ⟨i0, hi, hz0, hz1, hz2⟩ := info_parts Tryz.infoK
  have hap : ∀ {w' : World} {v' : Value} {n : Nat}, n = L.length + 1 → w'.ownsRow B 85 5 v' n (cK L ++ cK [z]) → OwnK w' B v' (L ++ [z]) := fun hn h => by
    rw [OwnK, cK_app, List.length_append, List.length_cons, List.length_nil, Nat.zero_add, ← hn]; exact h
  have h1c := cK_one [z]
  have hown0 := hown
  rcases hown.2 with ⟨rfl, h0⟩ | ⟨g, cp, cur, rfl, hgb, hh, hc⟩
  · have hL : L = [] := List.length_eq_zero_iff.1 h0
    subst hL
    obtain ⟨v', w', hrun, r1, r2, _⟩ := run_append_own (P := Tryz.prog) w w.heap.size 72 ty 85 i0 _ 5 40 Tryz.underlying72 hi hz0 hz1 hz2 rfl (by decide) _ 0 [] (World.ownsRow_nil _ _ _ _) ad 1 mc (cK [z]) rfl hr h1c (by decide) (by decide) (Nat.le_refl _)
    exact ⟨v', w', hrun, hap rfl (by simpa [cK] using World.ownsRow.mono r1 hB), .inr ⟨r2, fun k hk => (World.ownsRow.lt r1 k hk).1⟩⟩
  · by_cases hfit : L.length + 1 ≤ cp
    · obtain ⟨w', hrun, r1, r2⟩ := run_append_fits (P := Tryz.prog) w B 72 ty 85 i0 5 Tryz.underlying72 hi hz1 g L.length cp (cK L) hown0 ad 1 mc (cK [z]) rfl hr h1c hfit
      exact ⟨_, w', hrun, hap rfl r1, .inl ⟨g, L.length, cp, rfl, rfl, r2⟩⟩
    · obtain ⟨v', w', hrun, r1, r2⟩ := run_append_arg_grows (P := Tryz.prog) w 72 ty 85 i0 _ 5 40 Tryz.underlying72 hi hz0 hz1 hz2 rfl (by decide) ⟨g, 0, none⟩ L.length cp (cK L) hown0.1 (World.ownsRow.cells hown0 rfl) ad 1 mc (cK [z]) rfl hr (by omega) (by unfold maxLen; omega) (by omega)
      exact ⟨v', w', hrun, hap rfl (World.ownsRow.mono r1 hB), .inr ⟨r2, fun k hk => (World.ownsRow.lt r1 k hk).1⟩⟩
theorem WentK.below {w w' : World} {v v' : Value} {B : Nat} {l : List MV} (h : WentK w w' v v') (ho : OwnK w B v l) (hB : B ≤ w.heap.size) : Below B w w' := by
  rcases h with ⟨g, n, cap, rfl, rfl, h⟩ | ⟨h, _⟩
  · exact (Below.refl B w).grown h hB (fun k hk => by cases hk; exact (World.ownsRow.lt ho g rfl).1)
  · exact (Below.refl B w).grown h hB (fun k hk => by cases hk)
def lastC (l : List MV) : BitVec 32 := (l.getLastD MV.z).chain
theorem lastC_snoc (l : List MV) (m : MV) : lastC (l ++ [m]) = m.chain := by simp [lastC]
structure RSt (w : World) (q r : Nat) (v : Value) (S : SV) (l : List MV) : Prop where
  blk : w.heap[q]? = some (.cells #[.pointer (some ⟨r, 0, none⟩), .int .i64 (S.k : Int), v, .bool S.lame] 74 (0, 0))
  own : OwnK w 0 v l
  it : l.map (·.items) = S.ends
  ch : lastC l = S.chain
  k1 : 1 ≤ S.k
  k2 : S.k ≤ 32
  few : S.ends.length ≤ 65536
  low : ∀ e ∈ S.ends, e ≤ 268435456
def RSk (w : World) (q r : Nat) (T : Nat → Prop) (V : RV) (S : SV) : Prop :=
  ∃ S0 v l, Rsk w r S0 V ∧ RSt w q r v S l ∧ ¬ S0 q ∧ (∀ g, v.ownBlock = some g → g ≠ q ∧ ¬ S0 g) ∧ ∀ x, T x ↔ S0 x ∨ x = q ∨ v.ownBlock = some x
section
variable {w W : World} {q r : Nat} {v : Value} {T : Nat → Prop} {V V' : RV} {S S' : SV} {l : List MV}
theorem RSt.lt (h : RSt w q r v S l) : q < w.heap.size := (Array.getElem?_eq_some_iff.1 h.blk).1
theorem RSt.same (h : RSt w q r v S l) (hq : W.heap[q]? = w.heap[q]?) (hv : ∀ g, v.ownBlock = some g → W.heap[g]? = w.heap[g]?) : RSt W q r v S l :=
  ⟨hq.trans h.blk, row_keep h.own hv, h.it, h.ch, h.k1, h.k2, h.few, h.low⟩
theorem RSk.lt (h : RSk w q r T V S) {x : Nat} (hx : T x) : x < w.heap.size := by
  obtain ⟨S0, v, l, h1, h2, h3, h4, h5⟩ := h
  rcases (h5 x).1 hx with e | rfl | e
  · exact h1.lt e
  · exact h2.lt
  · exact ownK_lt h2.own e
theorem RSk.same (h : RSk w q r T V S) (hb : ∀ x, T x → W.heap[x]? = w.heap[x]?) : RSk W q r T V S := by
  obtain ⟨S0, v, l, h1, h2, h3, h4, h5⟩ := h
  exact ⟨S0, v, l, h1.same (fun x hx => hb x ((h5 x).2 (.inl hx))), h2.same (hb q ((h5 q).2 (.inr (.inl rfl)))) (fun g hg => hb g ((h5 g).2 (.inr (.inr hg)))), h3, h4, h5⟩
theorem RSk.next (h : RSk w q r T V S) (hb : Below w.heap.size w W) : RSk W q r T V S := h.same fun x hx => hb.block x (h.lt hx)
theorem RSk.keep {U : Nat → Prop} (h : RSk w q r T V S) (hu : Upo U w W) (hd : ∀ x, T x → ¬ U x) : RSk W q r T V S := h.same fun x hx => hu.block x (h.lt hx) (hd x hx)
theorem four_at {W : World} {q : Nat} {a b c d : Value} {T : TypeId} (h : W.heap[q]? = some (.cells #[a, b, c, d] T (0, 0))) : W.cell? ⟨q, 0, none⟩ = some a ∧ W.cell? ⟨q, 1, none⟩ = some b ∧ W.cell? ⟨q, 2, none⟩ = some c ∧ W.cell? ⟨q, 3, none⟩ = some d :=
  ⟨by rw [cell_of_row W q 0 _ _ (0, 0) h]; rfl, by rw [cell_of_row W q 1 _ _ (0, 0) h]; rfl, by rw [cell_of_row W q 2 _ _ (0, 0) h]; rfl, by rw [cell_of_row W q 3 _ _ (0, 0) h]; rfl⟩
theorem RSk.disk (h : RSk w q r T V S) : ∃ S0, Rsk w r S0 V ∧ ∀ x, S0 x → T x := by
  obtain ⟨S0, v, l, h1, _, _, _, h5⟩ := h
  exact ⟨S0, h1, fun x hx => (h5 x).2 (.inl hx)⟩
theorem RSk.seen (h : RSk w q r T V S) : ∃ ao b cap, ∃ l : List MV, (l.map (·.items) = S.ends ∧ lastC l = S.chain) ∧ ∀ W, Below w.heap.size w W → (W.cell? ⟨q, 0, none⟩ = some (.pointer (some ⟨r, 0, none⟩)) ∧ W.cell? ⟨q, 1, none⟩ = some (.int .i64 (S.k : Int)) ∧ W.cell? ⟨q, 2, none⟩ = some (.slice ao l.length cap) ∧ W.cell? ⟨q, 3, none⟩ = some (.bool S.lame)) ∧ RdK W ao b l := by
  obtain ⟨S0, v, l, h1, h2, h3, h4, h5⟩ := h
  obtain ⟨ao, b, cap, rfl, hc, _⟩ := ownK_rd h2.own
  exact ⟨ao, b, cap, l, ⟨h2.it, h2.ch⟩, fun W hW => ⟨four_at ((hW.block q h2.lt).trans h2.blk), hc.next hW⟩⟩
theorem RSk.small (h : RSk w q r T V S) : 1 ≤ S.k ∧ S.k ≤ 32 ∧ S.ends.length ≤ 65536 ∧ (∀ i, S.ends.getD i 0 ≤ 268435456) ∧ (∀ i, endE S.ends i ≤ 268435456) ∧ lst S.ends ≤ 268435456 := by
  obtain ⟨S0, v, l, h1, h2, h3, h4, h5⟩ := h
  have hg : ∀ i, S.ends.getD i 0 ≤ 268435456 := fun i => by
    rw [List.getD_eq_getElem?_getD]
    by_cases hi : i < S.ends.length
    · rw [List.getElem?_eq_getElem hi]; exact h2.low _ (List.getElem_mem _)
    · rw [List.getElem?_eq_none (by omega)]; simp
  have he : ∀ i, endE S.ends i ≤ 268435456 := fun i => by
    unfold endE
    split
    · omega
    · exact hg _
  exact ⟨h2.k1, h2.k2, h2.few, hg, he, by rw [← endE_all]; exact he _⟩
def RSm (w w' : World) (q r : Nat) (T : Nat → Prop) (D : DV) (S : SV) (k : Nat) : Prop := ∃ V T', Bd D V k ∧ RSk w' q r T' V S ∧ (∀ x, T' x → T x ∨ w.heap.size ≤ x) ∧ Upo T w w'
end
end Go.Proofs.YthfnpagangjpbabGreat
namespace Go.Proofs.YthfnpagangjpbabGreat.Pl
open Go.RowKit
attribute [local go_sem ↓] Go.wp_at_zero Go.wp_at_succ
theorem rones_any (n : Nat) (w : World) (hn : n < 2 ^ 64) :
    Calls Tryz.prog 125 #[.int .u64 n] w fun e w' => e = .returned (.int .i64 (ones 64 n : Nat)) ∧ w = w' := by
  go_enter Tryz.func125, Tryz.ntmps125
  go_wp2
  go_loopg [0, 3] 64 (fun g a c wr => ∃ k m s : Nat, k ≤ 64 ∧ g = 64 - k ∧ a = .int .u64 (m : Int) ∧ c = .int .i64 (s : Int) ∧ n / 2 ^ k = m ∧ s ≤ k ∧ s + ones (64 - k) (n / 2 ^ k) = ones 64 n ∧ w = wr)
  case atStart =>
    go_light
    exact ⟨0, n, 0, Nat.zero_le _, rfl, rfl, rfl, by simp, Nat.zero_le _, by simp, rfl⟩
  case round =>
    obtain ⟨k, m, s, hk, rfl, rfl, rfl, hm, hsk, hs, rfl⟩ := hrel
    have hmb : m < 2 ^ 64 := by rw [← hm]; exact Nat.lt_of_le_of_lt (Nat.div_le_self _ _) hn
    by_cases hb : 0 < m
    · have hk64 : k < 64 := by
        by_cases h64 : k < 64
        · exact h64
        · have : k = 64 := by omega
          subst this
          have : n / 2 ^ 64 = 0 := Nat.div_eq_of_lt hn
          omega
      have HS := ones_step k n hk64
      have hd : (0 : Int) < (m : Int) := by omega
      obtain ⟨r, hr⟩ : ∃ r : Nat, m % 2 = r := ⟨_, rfl⟩
      have er : (m : Int) % 2 = (r : Int) := by omega
      have er2 : IntKind.i64.wrap (r : Int) = (r : Int) := by rw [IntKind.wrap_i64]; omega
      obtain ⟨s2, hs2⟩ : ∃ s2 : Nat, s + r = s2 := ⟨_, rfl⟩
      have es : IntKind.i64.wrap ((s : Int) + (r : Int)) = (s2 : Int) := by rw [IntKind.wrap_i64]; omega
      obtain ⟨m2, hm2⟩ : ∃ m2 : Nat, m / 2 = m2 := ⟨_, rfl⟩
      have em : (m : Int) / 2 = (m2 : Int) := by omega
      have em2 : IntKind.u64.wrap (m2 : Int) = (m2 : Int) := by rw [IntKind.wrap_u64]; omega
      have HX : Hid (n / 2 ^ (k + 1) = m2 ∧ s2 ≤ k + 1 ∧ s2 + ones (64 - (k + 1)) (n / 2 ^ (k + 1)) = ones 64 n) := ⟨by rw [div_pow_succ, hm, hm2], by omega, by rw [hm, hr] at HS; rw [hm] at hs; omega⟩
      clear HS hs hm hb hmb hm2 hk hs2 hr hsk hn
      go_wp2
      go_roundg (64 - (k + 1))
      case rel =>
        go_light
        exact ⟨k + 1, m2, s2, by omega, rfl, rfl, rfl, HX.out.1, HX.out.2.1, HX.out.2.2, rfl⟩
      case measure => go_light; omega
    · obtain rfl : m = 0 := by omega
      have HX : Hid (s = ones 64 n) := by rw [hm, ones_zero] at hs; exact hs
      clear hs hm hb hmb hn
      go_wp2
      go_ret
      exact ⟨by rw [← HX.out]; rfl, rfl⟩
theorem rnodesN_yes (n : Nat) (w : World) (hn : n ≤ 2 ^ 40) :
    Calls Tryz.prog 86 #[.int .u64 n] w fun e w' => e = .returned (.tuple #[.int .u64 (N n : Nat), .bool true]) ∧ w = w' := by
  have HC := rones_any n w (by omega)
  have h1 := ones_self 64 n
  have h2 := ones_le 64 n
  have h3 := N_eq n
  have ht : decide ((1099511627776 : Int) < (n : Int)) = false := decide_eq_false (by omega)
  generalize N n = x at *
  generalize ones 64 n = y at *
  obtain ⟨d, hd⟩ : ∃ d : Nat, 2 * n = d := ⟨_, rfl⟩
  have e1 : IntKind.u64.wrap (2 * (n : Int)) = (d : Int) := by rw [IntKind.wrap_u64]; omega
  have e2 : IntKind.u64.wrap (y : Int) = (y : Int) := by rw [IntKind.wrap_u64]; omega
  have e3 : IntKind.u64.wrap ((d : Int) - (y : Int)) = (x : Int) := by rw [IntKind.wrap_u64]; omega
  clear hn h1 h2 h3 hd
  go_enter Tryz.func86, Tryz.ntmps86
  go_wp2_with (go_at_call 125; refine HC.mono ?_; rintro e w' ⟨rfl, rfl⟩)
  go_ret2
  exact ⟨rfl, rfl⟩
end Go.Proofs.YthfnpagangjpbabGreat.Pl
namespace Go.Proofs.YthfnpagangjpbabGreat
open Go.RowKit
open Rc
attribute [local go_sem ↓] Go.wp_at_zero Go.wp_at_succ
theorem rdD_all {D : DV} (hd : D.down = false) (s : List UInt8) : rdD D s 0 (sizD D s : Int) = (now D s, 0) := by
  unfold rdD sizD now
  rw [hd]
  simp
theorem rcount_any (w : World) (n : Nat) (hn : n ≤ 1099511627776) : Calls Tryz.prog 36 #[.int .u64 (n : Int)] w fun e w' => e = .returned (.int .u64 (nn n : Int)) ∧ w' = w := by
  have HC := hide (Pl.rnodesN_yes n w (by omega))
  go_enter Tryz.func36, Tryz.ntmps36
  go_wp2_with (go_at_call 86; refine HC.out.mono ?_; rintro e w1 ⟨rfl, rfl⟩)
  go_ret
  exact ⟨rfl, rfl⟩
section
variable {w0 w : World} {r k : Nat} {T : Nat → Prop} {D : DV}
theorem rwhole_any (h : RDm w0 w r T D k) (hd : D.down = false) (W : World) (hW : Below w.heap.size w W) (nm : ByteArray) (x : ByteArray) (hx : tx (now D nm.data.toList) = x) :
    Calls Tryz.prog 72 #[.pointer (some ⟨r, 0, none⟩), .string nm] W fun e w' => e = .returned (.string x) ∧ Below W.heap.size W w' := by
  have HS := hide (h.size nm W hW)
  have hz := h.sz nm.data.toList
  have hs : sizD D nm.data.toList ≤ 268435456 := by unfold sizD; rw [hd]; exact hz
  have HR : Hid (∀ W', Below W.heap.size W W' → Calls Tryz.prog 32 #[.pointer (some ⟨r, 0, none⟩), .string nm, .int .i64 0, .int .i64 (sizD D nm.data.toList : Int)] W' fun e w' => e = .returned (.tuple #[.string x, .int .i64 0]) ∧ Below W'.heap.size W' w') := fun W' hW' => by
    have := h.read nm 0 (by decide) (by decide) (sizD D nm.data.toList : Int) W' (bnext hW hW')
    rw [rdD_all hd, hx] at this
    exact this
  clear h hx hz
  generalize sizD D nm.data.toList = n at *
  go_enter Tryz.func72, Tryz.ntmps72
  go_wp2_with (first
    | (go_at_call 117; (with_reducible refine HS.out.mono ?_); rintro e w1 ⟨rfl, u1⟩)
    | (go_at_call 32; (with_reducible refine (HR.out _ u1).mono ?_); rintro e w2 ⟨rfl, u2⟩))
  go_ret
  exact ⟨rfl, bnext u1 u2⟩
theorem rcut19_any (h : RDm w0 w r T D k) (hk : k + 1 ≤ 2097152) (W : World) (hW : Below w.heap.size w W) (nm : ByteArray) (hs : nm.size ≤ maxLen) (n : Nat) (hn : n ≤ 4611686018427387904) (x : DV × Int) (hx : cutI nm.data.toList n D = x) :
    Calls Tryz.prog 74 #[.pointer (some ⟨r, 0, none⟩), .string nm, .int .u64 (n : Int)] W fun e w' => e = .returned (.int .i64 x.2) ∧ RDm w0 w' r T x.1 (k + 1) := by
  have HS := hide (h.size nm W hW)
  have hz := h.sz nm.data.toList
  have hs2 : sizD D nm.data.toList ≤ 268435456 := by unfold sizD; split <;> omega
  have HR : Hid (∀ W', Below W.heap.size W W' → Calls Tryz.prog 119 #[.pointer (some ⟨r, 0, none⟩), .string nm, .int .i64 (n : Int)] W' fun e w' => e = .returned (.int .i64 (cutD D nm.data.toList (n : Int)).2) ∧ RDm w0 w' r T (cutD D nm.data.toList (n : Int)).1 (k + 1)) := fun W' hW' => h.cut hk nm hs _ W' (bnext hW hW')
  have HZ : Hid (∀ W', Below W.heap.size W W' → RDm w0 W' r T D (k + 1)) := fun W' hW' => (h.next (bnext hW hW')).mono (by omega) hk
  have ew : IntKind.i64.wrap (n : Int) = (n : Int) := by rw [IntKind.wrap_i64]; omega
  unfold cutI at hx
  by_cases hle : sizD D nm.data.toList ≤ n
  · rw [if_pos hle] at hx
    subst hx
    have hle2 : (sizD D nm.data.toList : Int) ≤ (n : Int) := by omega
    have ew2 : IntKind.u64.wrap (sizD D nm.data.toList : Int) = (sizD D nm.data.toList : Int) := wrap_u _ (by omega) (by omega)
    clear h hz HR
    generalize sizD D nm.data.toList = z at *
    go_enter Tryz.func74, Tryz.ntmps74
    go_wp2_with (go_at_call 117; (with_reducible refine HS.out.mono ?_); rintro e w1 ⟨rfl, u1⟩)
    go_ret
    exact ⟨rfl, HZ.out _ u1⟩
  · rw [if_neg hle] at hx
    subst hx
    have hle2 : ¬ (sizD D nm.data.toList : Int) ≤ (n : Int) := by omega
    have ew2 : IntKind.u64.wrap (sizD D nm.data.toList : Int) = (sizD D nm.data.toList : Int) := wrap_u _ (by omega) (by omega)
    clear h hz HZ
    generalize sizD D nm.data.toList = z at *
    generalize cutD D nm.data.toList (n : Int) = y at *
    go_enter Tryz.func74, Tryz.ntmps74
    go_wp2_with (first
      | (go_at_call 117; (with_reducible refine HS.out.mono ?_); rintro e w1 ⟨rfl, u1⟩)
      | (go_at_call 119; (with_reducible refine (HR.out _ u1).mono ?_); rintro e w2 ⟨rfl, u2⟩))
    go_ret
    exact ⟨rfl, u2⟩
end
theorem bgM_take (l : List MV) (i : Nat) (hi : i ≤ l.length) : bgM (l.take i) = endE (l.map (·.items)) i := by
  have := endE_all ((l.take i).map (·.items))
  unfold bgM
  rw [← this, List.length_map, List.length_take, Nat.min_eq_left hi]
  unfold endE
  split
  · rfl
  · rw [List.getD_eq_getElem?_getD, List.getD_eq_getElem?_getD, List.getElem?_map, List.getElem?_map, List.getElem?_take_of_lt (by omega)]
theorem endE_succ (l : List MV) (i : Nat) (hi : i < l.length) : endE (l.map (·.items)) (i + 1) = (l.getD i MV.z).items := by
  unfold endE
  rw [if_neg (by omega), List.getD_eq_getElem?_getD, List.getElem?_map, List.getD_eq_getElem?_getD, Nat.add_sub_cancel, List.getElem?_eq_getElem hi]
  rfl
theorem rbegins_any (w : World) (ao : Option Addr) (b cap : Nat) (l : List MV) (hr : RdK w ao b l) (i : Nat) (hi : i ≤ l.length) (h1 : i ≤ 1048576) (x : Nat) (hx : endE (l.map (·.items)) i = x) :
    Calls Tryz.prog 31 #[.slice ao l.length cap, .int .i64 (i : Int)] w fun e w' => e = .returned (.int .u64 (x : Int)) ∧ w' = w := by
  cases i with
  | zero =>
    obtain rfl : 0 = x := hx
    clear hr
    generalize l.length = n at *
    go_enter Tryz.func31, Tryz.ntmps31
    go_wp2
    go_ret
    exact ⟨rfl, rfl⟩
  | succ i =>
    rw [endE_succ l i (by omega)] at hx
    obtain ⟨_, _, c2, _, _⟩ := hr.c0 i (by omega)
    obtain rfl := hr.ptr (by omega)
    rw [hx] at c2
    have hz : ¬ ((i : Int) + 1 = 0) := by omega
    have hm : IntKind.i64.wrap ((i : Int) + 1 - 1) = (i : Int) := by rw [IntKind.wrap_i64]; omega
    have hlt : (i : Int) < (l.length : Int) := by omega
    clear hr hx
    generalize l.length = n at *
    go_enter Tryz.func31, Tryz.ntmps31
    go_wp2
    go_ret
    exact ⟨rfl, rfl⟩
section
variable {w : World} {q r k : Nat} {T : Nat → Prop} {V : RV} {S : SV} {D : DV}
theorem len_ends {l : List MV} {e : List Nat} (h : l.map (·.items) = e) : l.length = e.length := by rw [← h, List.length_map]
theorem RSk.rdm (h : RSk w q r T V S) (hb : Bd D V k) : ∃ T0, RDm w w r T0 D k ∧ ∀ x, T0 x → T x := by
  obtain ⟨T0, h1, h2⟩ := h.disk
  exact ⟨T0, RDm.of h1 hb (Below.refl _ _), h2⟩
set_option maxRecDepth 100000 in
theorem rend_any (h : RSk w q r T V S) (W : World) (hW : Below w.heap.size w W) : Calls Tryz.prog 75 #[.pointer (some ⟨q, 0, none⟩)] W fun e w' => e = .returned (.int .u64 (lst S.ends : Int)) ∧ ∃ m, w' = W.drewN m := by
  obtain ⟨_, _, hf, _⟩ := h.small
  obtain ⟨ao, b, cap, l, ⟨hl, _⟩, hc⟩ := h.seen
  obtain ⟨⟨c0, c1, c2, c3⟩, _⟩ := hc W hW
  have hn := len_ends hl
  have HB : Hid (∀ t, Calls Tryz.prog 31 #[.slice ao l.length cap, .int .i64 (l.length : Int)] (W.drewN t) fun e w' => e = .returned (.int .u64 (lst S.ends : Int)) ∧ w' = W.drewN t) := fun t => rbegins_any _ ao b cap l (hc _ (below_drewN hW t)).2 l.length (Nat.le_refl _) (by omega) (lst S.ends) (by rw [hl, hn, endE_all])
  clear h hc hn hl hf
  generalize lst S.ends = x at *
  generalize l.length = n at *
  go_enter Tryz.func75, Tryz.ntmps75
  go_upto_region 1 with (fail)
  go_quiet (first | (go_at_call 31; refine Calls.quiet_of_same (HB.out _)))
  go_wp2
  go_ret
  exact ⟨rfl, nq, rfl⟩
theorem rsize19_any (h : RSk w q r T V S) (W : World) (hW : Below w.heap.size w W) : Calls Tryz.prog 9 #[.pointer (some ⟨q, 0, none⟩)] W fun e w' => e = .returned (.int .u64 (S.ends.length : Int)) ∧ w' = W := by
  obtain ⟨_, _, hf, _⟩ := h.small
  obtain ⟨ao, b, cap, l, ⟨hl, _⟩, hc⟩ := h.seen
  obtain ⟨⟨c0, c1, c2, c3⟩, rd⟩ := hc W hW
  have hn := len_ends hl
  rw [hn] at c2
  have hw : IntKind.u64.wrap (S.ends.length : Int) = (S.ends.length : Int) := wrap_u _ (by omega) (by omega)
  clear h hc rd hn hl
  generalize S.ends.length = n at *
  go_enter Tryz.func9, Tryz.ntmps9
  go_wp2
  go_ret
  exact ⟨rfl, rfl⟩
theorem rlame19_any (h : RSk w q r T V S) (W : World) (hW : Below w.heap.size w W) : Calls Tryz.prog 43 #[.pointer (some ⟨q, 0, none⟩)] W fun e w' => e = .returned (.bool S.lame) ∧ w' = W := by
  obtain ⟨ao, b, cap, l, ⟨hl, _⟩, hc⟩ := h.seen
  obtain ⟨⟨c0, c1, c2, c3⟩, rd⟩ := hc W hW
  clear h hc rd
  go_enter Tryz.func43, Tryz.ntmps43
  go_wp2
  go_ret
  exact ⟨rfl, rfl⟩
end
end Go.Proofs.YthfnpagangjpbabGreat
