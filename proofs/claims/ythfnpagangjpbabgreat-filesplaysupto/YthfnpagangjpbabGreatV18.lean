/-
  Own work: FSpec, FMem, FRm, FBk.
-/
import Derived.Deep.Onto
import Derived.Test.YthfnpagangjpbabGreatV03
import Derived.Test.YthfnpagangjpbabGreatV05
import Derived.Test.YthfnpagangjpbabGreatV14
namespace Go.Proofs.YthfnpagangjpbabGreat
open Rc
def nmI : List UInt8 := [105, 116, 101, 109, 115]
def nmN : List UInt8 := [110, 111, 100, 101, 115]
def nmM : List UInt8 := [109, 97, 114, 107, 115]
def nn (n : Nat) : Nat := Pl.N n
def lst (l : List Nat) : Nat := l.getLastD 0
def endE (l : List Nat) (n : Nat) : Nat := if n = 0 then 0 else l.getD (n - 1) 0
theorem endE_all (l : List Nat) : endE l l.length = lst l := by
  unfold endE lst
  rcases List.eq_nil_or_concat l with rfl | ⟨a, b, rfl⟩
  · rfl
  · simp
structure SV where
  k : Nat
  ends : List Nat
  chain : BitVec 32
  lame : Bool
def tx (l : List UInt8) : ByteArray := ⟨l.toArray⟩
theorem tx_data (l : List UInt8) : (tx l).data.toList = l := rfl
theorem tx_size (l : List UInt8) : (tx l).size = l.length := by show l.toArray.size = _; simp
def rowN (b : List UInt8) (p : Nat) : List UInt8 := (b.drop (40 * p)).take 40
def rdN (k : Nat) (b : List UInt8) (p : Nat) : Nat → Option (List ByteArray)
  | 0 => some []
  | j + 1 => match rdN k b p j with
    | none => none
    | some l => if 40 * (p + j) + 40 ≤ b.length ∧ (rnod k (p + j) (rowN b (p + j))).isSome then some (l ++ [tx (rowN b (p + j))]) else none
instance decMV : DecidableEq MV := fun a b => decidable_of_iff (a.k = b.k ∧ a.size = b.size ∧ a.items = b.items ∧ a.nodes = b.nodes ∧ a.chain = b.chain) ⟨fun h => MV.ext' h.1 h.2.1 h.2.2.1 h.2.2.2.1 h.2.2.2.2, fun h => by subst h; exact ⟨rfl, rfl, rfl, rfl, rfl⟩⟩
def nxM (k : Nat) (ends : List Nat) (c : BitVec 32) (pl : List UInt8) (rows : List ByteArray) : MV :=
  ⟨(k : Int), ends.length + 1, lst ends + pl.length, nn (ends.length + 1) * 40, BitVec.ofNat 32 (chn c pl rows)⟩
def whl (pl : List UInt8) : Bool := match rpay pl with
  | none => false
  | some x => x.length + 8 == pl.length
def tkN (k : Nat) (a b : List UInt8) (st : List Nat × BitVec 32) (row : List UInt8) : Option (List Nat × BitVec 32) :=
  match rmrk row with
  | none => none
  | some m =>
    if 65536 ≤ st.1.length ∨ m.items ≤ lst st.1 ∨ a.length < m.items ∨ whl ((a.drop (lst st.1)).take (m.items - lst st.1)) = false then none else
    match rdN k b (nn st.1.length) (nn (st.1.length + 1) - nn st.1.length) with
    | none => none
    | some rows => if m = nxM k st.1 st.2 ((a.drop (lst st.1)).take (m.items - lst st.1)) rows then some (st.1 ++ [m.items], m.chain) else none
def rowM (m : List UInt8) (i : Nat) : List UInt8 := (m.drop (64 * i)).take 64
def tkA (k : Nat) (a b m : List UInt8) : Nat → Option (List Nat × BitVec 32)
  | 0 => some ([], 0#32)
  | j + 1 => match tkA k a b m j with
    | none => none
    | some st => tkN k a b st (rowM m j)
def cntM (m : List UInt8) : Nat := if 0 < m.length / 64 ∧ rowM m (m.length / 64 - 1) = zer 64 then m.length / 64 - 1 else m.length / 64
def tkAll (k : Nat) (a b m : List UInt8) : Option (List Nat × BitVec 32) := tkA k a b m (cntM m)
def runA : List (DV → DV × Int) → DV → DV × Int
  | [], D => (D, 0)
  | f :: r, D => if (f D).2 = 0 then runA r (f D).1 else f D
def cutI (s : List UInt8) (n : Nat) (D : DV) : DV × Int := if sizD D s ≤ n then (D, 0) else cutD D s (n : Int)
def stl (ends : List Nat) : List (DV → DV × Int) :=
  [cutI nmI (lst ends), cutI nmN (nn ends.length * 40), cutI nmM (ends.length * 64), fun D => synD D nmI, fun D => synD D nmN, fun D => synD D nmM]
def now (D : DV) (s : List UInt8) : List UInt8 := (fget D.L s).now
def opnD (D : DV) (k : Int) : DV × Option SV × Int :=
  if ¬ (1 ≤ k ∧ k ≤ 32) then (D, none, 70) else if D.down then (D, none, 170) else
  match tkAll k.toNat (now D nmI) (now D nmN) (now D nmM) with
  | none => (D, none, 190)
  | some st => if (runA (stl st.1) D).2 = 0 then ((runA (stl st.1) D).1, some ⟨k.toNat, st.1, st.2, false⟩, 0) else ((runA (stl st.1) D).1, none, (runA (stl st.1) D).2)
def nxt (S : SV) (ds : List ByteArray) : Bool := ds.length == nn (S.ends.length + 1) - nn S.ends.length && ds.all fun d => d.size == S.k
def recs (p : Nat) (ds : List ByteArray) : List ByteArray := ds.mapIdx fun i d => tx (nod (p + i) d.data.toList)
def six (S : SV) (pl jn mk : List UInt8) : List (DV → DV × Int) :=
  [fun D => wrD D nmI (lst S.ends : Int) pl, fun D => wrD D nmN ((nn S.ends.length * 40 : Nat) : Int) jn, fun D => synD D nmI, fun D => synD D nmN, fun D => wrD D nmM ((S.ends.length * 64 : Nat) : Int) mk, fun D => synD D nmM]
def addM (S : SV) (item : List UInt8) (ds : List ByteArray) : MV := nxM S.k S.ends S.chain (pay item) (recs (nn S.ends.length) ds)
def addA (S : SV) (item : List UInt8) (ds : List ByteArray) : List (DV → DV × Int) := six S (pay item) (flat (recs (nn S.ends.length) ds)) (mrk (addM S item ds))
def refD (S : SV) (item : List UInt8) (ds : List ByteArray) : Int :=
  if S.lame then 191 else if 1048576 < item.length then 100 else if 65536 ≤ S.ends.length then 101 else if nxt S ds = false then 192 else if 268435456 < lst S.ends + (item.length + 8) then 172 else 0
def addD (D : DV) (S : SV) (item : List UInt8) (ds : List ByteArray) : DV × SV × Int :=
  if refD S item ds ≠ 0 then (D, S, refD S item ds) else
  if (runA (addA S item ds) D).2 = 0 then ((runA (addA S item ds) D).1, { S with ends := S.ends ++ [(addM S item ds).items], chain := (addM S item ds).chain }, 0) else
  ((runA (addA S item ds) D).1, { S with lame := true }, (runA (addA S item ds) D).2)
def rdS (D : DV) (s : List UInt8) (off n : Int) : List UInt8 × Int := if (rdD D s off n).2 = 173 then ([], 190) else rdD D s off n
def itmR (D : DV) (S : SV) (i : Nat) : List UInt8 × Int := rdS D nmI (endE S.ends i : Int) ((S.ends.getD i 0 : Int) - (endE S.ends i : Int))
def itmD (D : DV) (S : SV) (i : Nat) : List UInt8 × Int :=
  if S.ends.length ≤ i then ([], 31) else if (itmR D S i).2 ≠ 0 then ([], (itmR D S i).2) else
  if whl (itmR D S i).1 then ((rpay (itmR D S i).1).getD [], 0) else ([], 190)
def nodR (D : DV) (p : Nat) : List UInt8 × Int := rdS D nmN ((p * 40 : Nat) : Int) 40
def nodD (D : DV) (S : SV) (p : Nat) : List UInt8 × Int :=
  if nn S.ends.length ≤ p then ([], 31) else if (nodR D p).2 ≠ 0 then ([], (nodR D p).2) else
  match rnod S.k p (nodR D p).1 with
  | none => ([], 190)
  | some x => (x, 0)
end Go.Proofs.YthfnpagangjpbabGreat
namespace Go.Proofs.YthfnpagangjpbabGreat
open Go.RowKit
open Rc
def cE (l : List Nat) : List Value := l.map fun (n : Nat) => Value.int .i64 (n : Int)
def OwnE (w : World) (B : Nat) (v : Value) (l : List Nat) : Prop := w.ownsRow B 3 1 v l.length (cE l)
theorem Tryz.infoE : (Tryz.prog.info? 3).map (fun i => (i.zero, i.size, i.bytes)) = some (some (.int .i64 0), 1, 8) := by kernel_rfl
theorem ownE_nil (w : World) (B : Nat) : OwnE w B (.slice none 0 0) [] := ⟨rfl, .inl ⟨rfl, rfl⟩⟩
theorem ownE_form {w : World} {B : Nat} {v : Value} {l : List Nat} (h : OwnE w B v l) : ∃ ao cap, v = .slice ao l.length cap ∧ ∀ j, j < l.length → ∃ g, v.ownBlock = some g ∧ ao = some ⟨g, 0, none⟩ ∧ w.cell? ⟨g, j, none⟩ = some (.int .i64 ((l.getD j 0 : Nat) : Int)) := by
  have hh := h
  rcases h.2 with ⟨rfl, e⟩ | ⟨g, cap, cur, rfl, hg, hb, _⟩
  · exact ⟨none, 0, by rw [e], fun j hj => by omega⟩
  · refine ⟨_, cap, rfl, fun j hj => ⟨g, rfl, rfl, ?_⟩⟩
    rw [World.ownsRow.cellAt hh j (by omega), cE, List.getElem?_map, List.getD_eq_getElem?_getD, List.getElem?_eq_getElem hj]
    rfl
theorem ownE_lt {w : World} {B : Nat} {v : Value} {l : List Nat} (h : OwnE w B v l) {g : Nat} (hg : v.ownBlock = some g) : g < w.heap.size := by
  rcases h.2 with ⟨rfl, e⟩ | ⟨g', cap, cur, rfl, _, hb, _⟩
  · cases hg
  · cases hg
    exact (Array.getElem?_eq_some_iff.1 hb).1
structure Sto (w : World) (q p : Nat) (v : Value) (S : SV) : Prop where
  blk : w.heap[q]? = some (.cells #[.pointer (some ⟨p, 0, none⟩), .int .i64 (S.k : Int), v, .int .u32 (S.chain.toNat : Int), .bool S.lame] 80 (0, 0))
  own : OwnE w 0 v S.ends
  k1 : 1 ≤ S.k
  k2 : S.k ≤ 32
  few : S.ends.length ≤ 65536
  low : ∀ e ∈ S.ends, e ≤ 268435456
def Sk (w : World) (q p : Nat) (T : Nat → Prop) (D : DV) (S : SV) : Prop :=
  ∃ S0 v, Dsk w p S0 D ∧ Sto w q p v S ∧ ¬ S0 q ∧ (∀ g, v.ownBlock = some g → g ≠ q ∧ ¬ S0 g) ∧ ∀ x, T x ↔ S0 x ∨ x = q ∨ v.ownBlock = some x
section
variable {w W : World} {q p : Nat} {v : Value} {T : Nat → Prop} {D D' : DV} {S S' : SV}
theorem Sto.lt (h : Sto w q p v S) : q < w.heap.size := (Array.getElem?_eq_some_iff.1 h.blk).1
theorem Sto.same (h : Sto w q p v S) (hq : W.heap[q]? = w.heap[q]?) (hv : ∀ g, v.ownBlock = some g → W.heap[g]? = w.heap[g]?) : Sto W q p v S :=
  ⟨hq.trans h.blk, row_keep h.own hv, h.k1, h.k2, h.few, h.low⟩
theorem Sk.lt (h : Sk w q p T D S) {x : Nat} (hx : T x) : x < w.heap.size := by
  obtain ⟨S0, v, h1, h2, h3, h4, h5⟩ := h
  rcases (h5 x).1 hx with e | rfl | e
  · exact h1.lt e
  · exact h2.lt
  · exact ownE_lt h2.own e
theorem Sk.same (h : Sk w q p T D S) (hb : ∀ x, T x → W.heap[x]? = w.heap[x]?) : Sk W q p T D S := by
  obtain ⟨S0, v, h1, h2, h3, h4, h5⟩ := h
  exact ⟨S0, v, h1.same (fun x hx => hb x ((h5 x).2 (.inl hx))), h2.same (hb q ((h5 q).2 (.inr (.inl rfl)))) (fun g hg => hb g ((h5 g).2 (.inr (.inr hg)))), h3, h4, h5⟩
theorem Sk.next (h : Sk w q p T D S) (hb : Below w.heap.size w W) : Sk W q p T D S := h.same fun x hx => hb.block x (h.lt hx)
theorem Sk.keep {U : Nat → Prop} (h : Sk w q p T D S) (hu : Upo U w W) (hd : ∀ x, T x → ¬ U x) : Sk W q p T D S := h.same fun x hx => hu.block x (h.lt hx) (hd x hx)
theorem five_at {W : World} {q : Nat} {a b c d e : Value} {T : TypeId} (h : W.heap[q]? = some (.cells #[a, b, c, d, e] T (0, 0))) : W.cell? ⟨q, 0, none⟩ = some a ∧ W.cell? ⟨q, 1, none⟩ = some b ∧ W.cell? ⟨q, 2, none⟩ = some c ∧ W.cell? ⟨q, 3, none⟩ = some d ∧ W.cell? ⟨q, 4, none⟩ = some e :=
  ⟨by rw [cell_of_row W q 0 _ _ (0, 0) h]; rfl, by rw [cell_of_row W q 1 _ _ (0, 0) h]; rfl, by rw [cell_of_row W q 2 _ _ (0, 0) h]; rfl, by rw [cell_of_row W q 3 _ _ (0, 0) h]; rfl, by rw [cell_of_row W q 4 _ _ (0, 0) h]; rfl⟩
theorem Sk.cells (h : Sk w q p T D S) : ∃ ao cap, (w.cell? ⟨q, 0, none⟩ = some (.pointer (some ⟨p, 0, none⟩)) ∧ w.cell? ⟨q, 1, none⟩ = some (.int .i64 (S.k : Int)) ∧ w.cell? ⟨q, 2, none⟩ = some (.slice ao S.ends.length cap) ∧ w.cell? ⟨q, 3, none⟩ = some (.int .u32 (S.chain.toNat : Int)) ∧ w.cell? ⟨q, 4, none⟩ = some (.bool S.lame)) ∧
    (∀ j, j < S.ends.length → ∃ g, ao = some ⟨g, 0, none⟩ ∧ w.cell? ⟨g, j, none⟩ = some (.int .i64 ((S.ends.getD j 0 : Nat) : Int))) := by
  obtain ⟨S0, v, h1, h2, h3, h4, h5⟩ := h
  obtain ⟨ao, cap, rfl, hc⟩ := ownE_form h2.own
  exact ⟨ao, cap, five_at h2.blk, fun j hj => by obtain ⟨g, _, e1, e2⟩ := hc j hj; exact ⟨g, e1, e2⟩⟩
theorem Sk.seen (h : Sk w q p T D S) : ∃ ao cap, ∀ W, Below w.heap.size w W → (W.cell? ⟨q, 0, none⟩ = some (.pointer (some ⟨p, 0, none⟩)) ∧ W.cell? ⟨q, 1, none⟩ = some (.int .i64 (S.k : Int)) ∧ W.cell? ⟨q, 2, none⟩ = some (.slice ao S.ends.length cap) ∧ W.cell? ⟨q, 3, none⟩ = some (.int .u32 (S.chain.toNat : Int)) ∧ W.cell? ⟨q, 4, none⟩ = some (.bool S.lame)) := by
  obtain ⟨S0, v, h1, h2, h3, h4, h5⟩ := h
  obtain ⟨ao, cap, rfl, hc⟩ := ownE_form h2.own
  exact ⟨ao, cap, fun W hW => five_at ((hW.block q h2.lt).trans h2.blk)⟩
theorem Sk.small (h : Sk w q p T D S) : 1 ≤ S.k ∧ S.k ≤ 32 ∧ S.ends.length ≤ 65536 ∧ (∀ i, S.ends.getD i 0 ≤ 268435456) ∧ (∀ i, endE S.ends i ≤ 268435456) ∧ lst S.ends ≤ 268435456 := by
  obtain ⟨S0, v, h1, h2, h3, h4, h5⟩ := h
  have hg : ∀ i, S.ends.getD i 0 ≤ 268435456 := fun i => by
    rw [List.getD_eq_getElem?_getD]
    by_cases hi : i < S.ends.length
    · rw [List.getElem?_eq_getElem hi]; exact h2.low _ (List.getElem_mem _)
    · rw [List.getElem?_eq_none (by omega)]; simp
  have he : ∀ i, endE S.ends i ≤ 268435456 := fun i => by
    unfold endE
    split
    · omega
    · exact hg _
  exact ⟨h2.k1, h2.k2, h2.few, hg, he, by rw [← endE_all]; exact he _⟩
theorem Sk.disk (h : Sk w q p T D S) : ∃ S0, Dsk w p S0 D := by
  obtain ⟨S0, v, h1, _⟩ := h
  exact ⟨S0, h1⟩
def SkM (w w' : World) (q p : Nat) (T : Nat → Prop) (D' : DV) (S' : SV) : Prop := ∃ T', Sk w' q p T' D' S' ∧ (∀ x, T' x → T x ∨ w.heap.size ≤ x) ∧ Upo T w w'
theorem SkM.of (h : Sk w q p T D S) (hb : Below w.heap.size w W) : SkM w W q p T D S := ⟨T, h.next hb, fun _ hx => .inl hx, Upo.of hb⟩
theorem SkM.trans {w1 w2 : World} (h : SkM w w1 q p T D S) {D2 : DV} {S2 : SV} (h2 : ∀ T1, Sk w1 q p T1 D S → SkM w1 w2 q p T1 D2 S2) : SkM w w2 q p T D2 S2 := by
  obtain ⟨T1, a1, a2, a3⟩ := h
  obtain ⟨T2, b1, b2, b3⟩ := h2 T1 a1
  refine ⟨T2, b1, fun x hx => ?_, a3.trans b3 (fun x hx ht => ?_)⟩
  · rcases b2 x hx with e | e
    · exact a2 x e
    · exact .inr (Nat.le_trans a3.size e)
  · rcases a2 x ht with e | e
    · exact e
    · omega
theorem SkM.first {w1 w2 : World} (hb : Below w.heap.size w w1) (h : SkM w1 w2 q p T D S) : SkM w w2 q p T D S := by
  obtain ⟨T', h1, h2, h3⟩ := h
  exact ⟨T', h1, fun x hx => (h2 x hx).imp id (fun e => Nat.le_trans hb.size e), (Upo.of hb).trans h3 (fun _ _ q => q)⟩
theorem SkM.last {w1 w2 : World} (h : SkM w w1 q p T D S) (hb : Below w1.heap.size w1 w2) : SkM w w2 q p T D S := by
  obtain ⟨T', h1, h2, h3⟩ := h
  exact ⟨T', h1.next hb, h2, h3.next hb⟩
theorem sk_mvd {S0 : Nat → Prop} {v : Value} (h2 : Sto w q p v S) (h3 : ¬ S0 q) (h4 : ∀ g, v.ownBlock = some g → g ≠ q ∧ ¬ S0 g) (h5 : ∀ x, T x ↔ S0 x ∨ x = q ∨ v.ownBlock = some x) (hm : Mvd w W p S0 D') : SkM w W q p T D' S := by
  obtain ⟨S1, m1, m2, m3⟩ := hm
  refine ⟨fun x => S1 x ∨ x = q ∨ v.ownBlock = some x, ⟨S1, v, m1, h2.same (m3.block q h2.lt h3) (fun g hg => m3.block g (ownE_lt h2.own hg) (h4 g hg).2), fun hq => ?_, fun g hg => ⟨(h4 g hg).1, fun e => ?_⟩, fun _ => Iff.rfl⟩, fun x hx => ?_, m3.mono (fun x _ hx => (h5 x).2 (.inl hx))⟩
  · rcases m2 q hq with e | e
    · exact h3 e
    · have := h2.lt; omega
  · rcases m2 g e with e | e
    · exact (h4 g hg).2 e
    · have := ownE_lt h2.own hg; omega
  · rcases hx with e | e
    · exact (m2 x e).imp (fun e => (h5 x).2 (.inl e)) id
    · exact .inl ((h5 x).2 (.inr e))
def Rmy (D : DV) : Prop := D.acts + 1 ≤ 4611686018427387904 ∧ D.L.length < 1099511627776 ∧ D.free ≤ 4611686018427387904
theorem Dsk.rmy {S0 : Nat → Prop} (h : Dsk w p S0 D) (hr : Rmy D) (s : List UInt8) : D.down = false → D.free + (fget D.L s).now.length ≤ 9223372036854775807 := fun _ => by
  obtain ⟨m, R, ka, kb, ko, kc, h1, h2⟩ := h
  have : (fget D.L s).now.length ≤ 268435456 := by
    by_cases hm : s ∈ keys D.L
    · exact (h1.fil s hm (by simp)).b1
    · rw [fget_none hm]; exact Nat.zero_le _
  have := hr.2.2
  omega
theorem Sk.write (h : Sk w q p T D S) (hr : Rmy D) (nm dt : ByteArray) (hs : nm.size ≤ maxLen) (off : Int) (ho1 : -9223372036854775808 ≤ off) (ho2 : off ≤ 9223372036854775807) (ht : dt.size ≤ 140737488355328) :
    Calls Tryz.prog 107 #[.pointer (some ⟨p, 0, none⟩), .string nm, .int .i64 off, .string dt] w fun e w' => e = .returned (.int .i64 (wrD D nm.data.toList off dt.data.toList).2) ∧ SkM w w' q p T (wrD D nm.data.toList off dt.data.toList).1 S := by
  obtain ⟨S0, v, h1, h2, h3, h4, h5⟩ := h
  exact (h1.write nm dt hs off ho1 ho2 ht hr.1 hr.2.1 (h1.rmy hr _)).mono fun e w' z => ⟨z.1, sk_mvd h2 h3 h4 h5 z.2⟩
theorem Sk.cut (h : Sk w q p T D S) (hr : Rmy D) (nm : ByteArray) (hs : nm.size ≤ maxLen) (off : Int) (ho1 : -9223372036854775808 ≤ off) (ho2 : off ≤ 9223372036854775807) :
    Calls Tryz.prog 101 #[.pointer (some ⟨p, 0, none⟩), .string nm, .int .i64 off] w fun e w' => e = .returned (.int .i64 (cutD D nm.data.toList off).2) ∧ SkM w w' q p T (cutD D nm.data.toList off).1 S := by
  obtain ⟨S0, v, h1, h2, h3, h4, h5⟩ := h
  exact (h1.cut nm hs off ho1 ho2 hr.1 hr.2.1 (h1.rmy hr _)).mono fun e w' z => ⟨z.1, sk_mvd h2 h3 h4 h5 z.2⟩
theorem Sk.sync (h : Sk w q p T D S) (hr : Rmy D) (nm : ByteArray) (hs : nm.size ≤ maxLen) :
    Calls Tryz.prog 64 #[.pointer (some ⟨p, 0, none⟩), .string nm] w fun e w' => e = .returned (.int .i64 (synD D nm.data.toList).2) ∧ SkM w w' q p T (synD D nm.data.toList).1 S := by
  obtain ⟨S0, v, h1, h2, h3, h4, h5⟩ := h
  exact (h1.sync nm hs hr.1 hr.2.1 (h1.rmy hr _)).mono fun e w' z => ⟨z.1, sk_mvd h2 h3 h4 h5 z.2⟩
theorem Sk.read (h : Sk w q p T D S) (s : ByteArray) (hs : s.size ≤ maxLen) (off y : Int) (ho1 : -9223372036854775808 ≤ off) (ho2 : off ≤ 9223372036854775807) (hq1 : -9223372036854775808 ≤ y) (hq2 : y ≤ 9223372036854775807) :
    Calls Tryz.prog 77 #[.pointer (some ⟨p, 0, none⟩), .string s, .int .i64 off, .int .i64 y] w fun e w' => e = .returned (.tuple #[.string (tx (rdD D s.data.toList off y).1), .int .i64 (rdD D s.data.toList off y).2]) ∧ Below w.heap.size w w' := by
  obtain ⟨S0, h1⟩ := h.disk
  exact h1.read s hs off y ho1 ho2 hq1 hq2
theorem Sk.size (h : Sk w q p T D S) (s : ByteArray) (hs : s.size ≤ maxLen) : Calls Tryz.prog 98 #[.pointer (some ⟨p, 0, none⟩), .string s] w fun e w' => e = .returned (.int .i64 (sizD D s.data.toList : Int)) ∧ w' = w := by
  obtain ⟨S0, h1⟩ := h.disk
  exact h1.size s hs
theorem Sk.sz (h : Sk w q p T D S) (s : List UInt8) : (fget D.L s).now.length ≤ 268435456 := by
  obtain ⟨S0, h⟩ := h.disk
  obtain ⟨m, R, ka, kb, ko, kc, h1, h2⟩ := h
  by_cases hm : s ∈ keys D.L
  · exact (h1.fil s hm (by simp)).b1
  · rw [fget_none hm]; exact Nat.zero_le _
end
end Go.Proofs.YthfnpagangjpbabGreat
namespace Go.Proofs.YthfnpagangjpbabGreat
structure Rm (n : Nat) (D : DV) : Prop where
  acts : D.acts + n ≤ 4611686018427387904
  cnt : D.L.length + n ≤ 1099511627776
  free : D.free + 268435456 * n ≤ 4611686018427387904
theorem Rm.rmy {n : Nat} {D : DV} (h : Rm (n + 1) D) : Rmy D := ⟨by have := h.acts; omega, by have := h.cnt; omega, by have := h.free; omega⟩
theorem Rm.mono {n m : Nat} {D : DV} (h : Rm n D) (hm : m ≤ n) : Rm m D := ⟨by have := h.acts; omega, by have := h.cnt; omega, by have := h.free; omega⟩
theorem rm_put {n : Nat} {D : DV} (s : List UInt8) (f : FV) (hz : (fget D.L s).now.length ≤ 268435456) (ha : D.acts + n ≤ 4611686018427387904) (hc : D.L.length + (n + 1) ≤ 1099511627776) (hf : D.free + 268435456 * (n + 1) ≤ 4611686018427387904) : Rm n (dput D s f) := by
  refine ⟨ha, ?_, ?_⟩
  · have := len_put (L := D.L) s f
    show (fput D.L s f).length + n ≤ _
    omega
  · show D.free + (fget D.L s).now.length - f.now.length + 268435456 * n ≤ _
    omega
theorem rm_down {n : Nat} {D : DV} (ks : List Bool) (h : Rm n D) : Rm n (downD D ks) := by
  refine ⟨h.acts, ?_, h.free⟩
  have h1 := layL_len (aft ks D.L 0)
  have h2 := aft_len ks D.L 0
  have := h.cnt
  show (layL (aft ks D.L 0)).length + n ≤ _
  omega
theorem rm_act {n : Nat} {D : DV} (s : List UInt8) (f : FV) (hz : (fget D.L s).now.length ≤ 268435456) (h : Rm (n + 1) D) : Rm n (actD D s f).1 := by
  obtain ⟨e1, e2, e3, e4, _⟩ := metD_L { D with acts := D.acts + 1 }
  have ha := h.acts
  have hc := h.cnt
  have hf := h.free
  have q1 : Rm n (metD { D with acts := D.acts + 1 }).1 := ⟨by rw [e4]; show D.acts + 1 + n ≤ _; omega, by rw [e1]; show D.L.length + n ≤ _; omega, by rw [e2]; show D.free + _ ≤ _; omega⟩
  have q2 : Rm n (dput (metD { D with acts := D.acts + 1 }).1 s f) := rm_put s f (by rw [e1]; exact hz) (by rw [e4]; show D.acts + 1 + n ≤ _; omega) (by rw [e1]; exact hc) (by rw [e2]; exact hf)
  unfold actD
  simp only
  split
  · exact q1
  · split
    · exact q1
    · split
      · exact rm_down _ q1
      · split
        · exact q2
        · split
          · exact rm_down _ q2
          · exact q2
theorem rm_wr {n : Nat} {D : DV} (s : List UInt8) (off : Int) (t : List UInt8) (hz : (fget D.L s).now.length ≤ 268435456) (h : Rm (n + 1) D) : Rm n (wrD D s off t).1 := by
  unfold wrD
  split
  · exact h.mono (by omega)
  · split
    · exact h.mono (by omega)
    · split
      · exact h.mono (by omega)
      · exact rm_act s _ hz h
theorem rm_cut {n : Nat} {D : DV} (s : List UInt8) (off : Int) (hz : (fget D.L s).now.length ≤ 268435456) (h : Rm (n + 1) D) : Rm n (cutD D s off).1 := by
  unfold cutD
  split
  · exact h.mono (by omega)
  · split
    · exact h.mono (by omega)
    · exact rm_act s _ hz h
theorem rm_syn {n : Nat} {D : DV} (s : List UInt8) (hz : (fget D.L s).now.length ≤ 268435456) (h : Rm (n + 1) D) : Rm n (synD D s).1 := by
  unfold synD
  split
  · exact h.mono (by omega)
  · exact rm_act s _ hz h
end Go.Proofs.YthfnpagangjpbabGreat
namespace Go.Proofs.YthfnpagangjpbabGreat
open Go.RowKit
def Bk (W : World) (b : Nat) (x : Value) (T : TypeId) : Prop := W.heap[b]? = some (.cells #[x] T (0, 0))
section
variable {W W' : World} {b : Nat} {x y : Value} {T : TypeId}
theorem Bk.lt (h : Bk W b x T) : b < W.heap.size := (Array.getElem?_eq_some_iff.1 h).1
theorem Bk.both (h : Bk W b x T) : W.cell? ⟨b, 0, none⟩ = some x ∧ W.frozen? ⟨b, 0, none⟩ = false := ⟨by rw [cell_of_row W b 0 _ _ (0, 0) h]; rfl, frozen_of_row W b 0 _ _ h⟩
theorem Bk.next (h : Bk W b x T) (u : Below W.heap.size W W') : Bk W' b x T := (u.block b h.lt).trans h
theorem Bk.al (h : Bk W b x T) (o : Obj) : Bk (W.alloc o) b x T := h.next (bal (Below.refl _ _) o)
theorem Bk.four (h : Bk W b x T) : W.cell? ⟨b, 0, none⟩ = some x ∧ W.frozen? ⟨b, 0, none⟩ = false ∧ (∀ o, (W.alloc o).cell? ⟨b, 0, none⟩ = some x) ∧ ∀ o, (W.alloc o).frozen? ⟨b, 0, none⟩ = false := ⟨h.both.1, h.both.2, fun o => (h.al o).both.1, fun o => (h.al o).both.2⟩
theorem Bk.ne (h : Bk W b x T) : ¬ b = W.heap.size ∧ ¬ W.heap.size = b := by have := h.lt; omega
theorem Bk.put (h : Bk W b x T) (y : Value) : Bk (W.setCell ⟨b, 0, none⟩ y) b y T := heap_setCell_same W b 0 _ _ y h
theorem Bk.other (h : Bk W b x T) {c i : Nat} (hc : b ≠ c) (y : Value) : Bk (W.setCell ⟨c, i, none⟩ y) b x T := (Below.heap_setCell _ _ _ _ hc).trans h
theorem bk_new (W : World) (x : Value) (T : TypeId) : Bk (W.alloc (.cells #[x] T)) W.heap.size x T := new1 _ _
theorem bk_one (u : Below (W.alloc (.cells #[x] T)).heap.size (W.alloc (.cells #[x] T)) W') : Bk W' W.heap.size x T := (bk_new W x T).next u
theorem bk_two {U : TypeId} (u : Below ((W.alloc (.cells #[x] T)).alloc (.cells #[y] U)).heap.size ((W.alloc (.cells #[x] T)).alloc (.cells #[y] U)) W') : Bk W' W.heap.size x T ∧ Bk W' (W.heap.size + 1) y U := by
  refine ⟨((bk_new W x T).al _).next u, ?_⟩
  have h := bk_new (W.alloc (.cells #[x] T)) y U
  rw [al_size] at h
  exact h.next u
theorem undrew {V : World} (u : Below V.drew.heap.size V.drew W') : Below V.heap.size V W' := ⟨u.os, u.tape, u.output, u.size, u.block⟩
theorem bk_oneD (u : Below (W.alloc (.cells #[x] T)).drew.heap.size (W.alloc (.cells #[x] T)).drew W') : Bk W' W.heap.size x T := bk_one (undrew u)
theorem bk_twoD {U : TypeId} (u : Below ((W.alloc (.cells #[x] T)).alloc (.cells #[y] U)).drew.heap.size ((W.alloc (.cells #[x] T)).alloc (.cells #[y] U)).drew W') : Bk W' W.heap.size x T ∧ Bk W' (W.heap.size + 1) y U := bk_two (undrew u)
theorem apart {w : World} {B : Nat} {v : Value} {ss : List ByteArray} (o : Rc.OwnS w B v ss) (hb : b < B) : ∀ g, v.ownBlock = some g → g ≠ b := fun g hg e => by
  have := (World.ownsRow.lt o g hg).1
  omega
end
end Go.Proofs.YthfnpagangjpbabGreat
