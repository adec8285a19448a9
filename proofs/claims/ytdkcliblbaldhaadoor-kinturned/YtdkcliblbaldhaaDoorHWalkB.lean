/-
  Walks of package hash: bytes of one's own, RootText. Own work.
-/
import Derived.Test.YtdkcliblbaldhaaDoorHWalkA
namespace Go.Proofs.YtdkcliblbaldhaaDoor
open Go.RowKit
attribute [local go_sem ↓] Go.wp_at_zero Go.wp_at_succ
theorem hide {p : Prop} (h : p) : Hid p := h
theorem Tryd.infoI : (Tryd.prog.info? 5).map (fun i => (i.zero, i.size, i.bytes)) = some (some (.int .u8 0), 1, 1) := by kernel_rfl
/-- A row of bytes of one's own. -/
def OwnI (w : World) (B : Nat) (v : Value) (l : List Int) : Prop := w.ownsRow B 5 1 v l.length (cB l)
theorem owni_conv {w : World} {B : Nat} {v : Value} {l : List Int} (h : OwnI w B v l) (h0 : 0 < l.length) : (convert 51 9 v).run Tryd.prog w = .ok (.string (strB l)) w := by
  have hc := fun g => h.cells (g := g)
  obtain ⟨h1, h2⟩ := h
  rcases h2 with ⟨rfl, h2⟩ | ⟨g, cap, cur, rfl, hg, hh, r⟩
  · omega
  · rw [run_convert_bytes_string w 51 9 5 _ _ _ Tryd.underlying51 Tryd.underlying5 Tryd.underlying9]
    refine run_bytesToString w ⟨g, 0, none⟩ l.length cap l ?_
    have := run_loadCells_list (P := Tryd.prog) w ⟨g, 0, none⟩ (cB l) (fun j v hv => hc g rfl j v hv)
    rwa [cB_len] at this
theorem owni_own {w : World} {B : Nat} {v : Value} {l : List Int} (h : OwnI w B v l) : ∀ k, v.ownBlock = some k → B ≤ k := by
  obtain ⟨_, h2⟩ := h
  rcases h2 with ⟨rfl, _⟩ | ⟨g, cp, cur, rfl, hg, _⟩
  · intro k hk; cases hk
  · intro k hk; cases hk; exact hg
theorem owni_new (w : World) (x : Int) : OwnI (w.alloc (.cells #[.int .u8 x] 5)) w.heap.size (.slice (some ⟨w.heap.size, 0, none⟩) 1 1) [x] :=
  ⟨rfl, .inr ⟨w.heap.size, 1, #[.int .u8 x], rfl, Nat.le_refl _, heap_alloc_new w _, Nat.le_refl _, by unfold maxLen; omega, rfl, rfl⟩⟩
/-- The law: one byte, laid for it, appended to bytes of one's own. -/
theorem wpList_append_I (w : World) {ops : Array Oper} {rest : List Oper} {o : Oper} {a : Act} {Q : Exit → Act → World → Prop}
    (hg : o.guard = none) (s x : Operand) (hop : o.op = Op.call { callee := Callee.builtin Builtin.append, args := #[s, x], argTypes := #[51, 51] })
    (B : Nat) (v : Value) (L : List Int) (hs : a.eval s = v) (hown : OwnI w B v L) (y : Int) (hx : a.eval x = .slice (some ⟨w.heap.size, 0, none⟩) 1 1)
    (hlen : L.length ≤ 1000) (hB : B ≤ w.heap.size)
    (hK : ∀ v' w', OwnI w' B v' (L ++ [y]) → Below B w w' → wpList Tryd.prog ops Q rest (a.put o.dst v') w') : wpList Tryd.prog ops Q (o :: rest) a (w.alloc (.cells #[.int .u8 y] 5)) := by
  obtain ⟨i0, hi, hz0, hz1, hz2⟩ := info_parts Tryd.infoI
  refine wpList_append_own _ hg s x _ hop B 5 i0 (.int .u8 0) 1 1 Tryd.underlying51 hi hz0 hz1 hz2 rfl (by decide) _ _ _ hs (World.ownsRow.alloc hown _) ⟨w.heap.size, 0, none⟩ 1 1 (cB [y]) hx (by simp [cB]) ?_ (by intro u hu; simp [cB] at hu; subst hu; rfl) (by unfold maxLen; omega) (by omega) (by simp; omega) ?_
  · intro j u hu
    have hj : j = 0 := by have := (List.getElem?_eq_some_iff.1 hu).1; simp [cB] at this; exact this
    subst hj
    have hu' : Value.int .u8 y = u := Option.some.inj hu
    subst hu'
    rw [Addr.add_mid, World.cell?_alloc_new]
    rfl
  · intro v' w' h1 h2 _
    refine hK v' w' ?_ (((Below.refl _ _).alloc hB _).trans ((Below.refl _ _).grown h2 (by simp; omega) (owni_own hown)))
    rw [OwnI, List.length_append, cB, List.map_append]; exact h1
/-- The first j of n's eight bytes, the highest first. -/
def nbL (n : Nat) (j : Nat) : List Int := (List.range j).map fun i => ((n / 256 ^ (7 - i) % 256 : Nat) : Int)
theorem nbL_len (n j : Nat) : (nbL n j).length = j := by simp [nbL]
theorem nbL_succ (n j : Nat) : nbL n (j + 1) = nbL n j ++ [((n / 256 ^ (7 - j) % 256 : Nat) : Int)] := by
  simp [nbL, List.range_succ]
theorem shr_byte (n k : Nat) : (n : Int) / 2 ^ (8 * (7 - k)) % 256 = ((n / 256 ^ (7 - k) % 256 : Nat) : Int) := by
  rw [Int.natCast_emod, Int.natCast_ediv, Int.natCast_pow, Int.pow_mul]
  rfl
def rootH (n : Nat) : List Int := 3 :: nbL n 8
def rootT (n : Nat) (d : ByteArray) : ByteArray := strB (rootH n) ++ d
theorem rootH_size (n : Nat) : (strB (rootH n)).size = 9 := by rw [strB_size, rootH, List.length_cons, nbL_len]
theorem rootT_size (n : Nat) (d : ByteArray) : (rootT n d).size = 9 + d.size := by rw [rootT, ByteArray.size_append, rootH_size]
set_option maxRecDepth 100000 in
theorem roott_any (w : World) (n : Nat) (d : ByteArray) (hs : d.size < 2305843009213693952) (r : ByteArray) (hr : rootT n d = r) :
    Calls Tryd.prog 45 #[.int .u64 (n : Int), .string d] w fun e w' => e = .returned (.string r) ∧ Below w.heap.size w w' := by
  subst hr
  have hns : ¬ (9223372036854775807 < 9 + d.size) := by omega
  have HS := rootH_size n
  unfold rootT
  obtain ⟨z, HE⟩ : ∃ z, Hid (strB (rootH n) = z) := ⟨_, rfl⟩
  rw [HE.out] at HS ⊢
  go_enter Tryd.func45, Tryd.ntmps45
  go_wp2
  go_loopg [5, 8] 8 (fun g v i wr => ∃ k : Nat, k ≤ 8 ∧ g = 8 - k ∧ i = .int .i64 (k : Int) ∧ OwnI wr w.heap.size v (3 :: nbL n k) ∧ Below w.heap.size w wr)
  case atStart =>
    go_light
    exact ⟨0, Nat.zero_le _, rfl, rfl, owni_new w 3, bal (Below.refl _ _) _⟩
  case round =>
    obtain ⟨k, hk, rfl, rfl, hown, hb⟩ := hrel
    by_cases hlt : k < 8
    · have hz : (k : Int) < 8 := by omega
      have HZ : Hid (w.heap.size ≤ wr.heap.size) := hb.size
      have HL : Hid ((3 :: nbL n k).length ≤ 1000) := by show _ ≤ _; rw [List.length_cons, nbL_len]; omega
      have HN := hide (nbL_succ n k)
      go_wp2_with (at_builtin; refine wpList_append_I _ rfl _ _ rfl w.heap.size _ (3 :: nbL n k) rfl hown _ rfl HL.out HZ.out ?_)
      intro v' w2 r1 r2
      have HO : Hid (OwnI w2 w.heap.size v' (3 :: nbL n (k + 1))) := by
        show OwnI _ _ _ _
        rw [HN.out, ← shr_byte n k]
        exact r1
      have HB : Hid (Below w.heap.size w w2) := hb.trans r2
      clear r1 r2 hb hown HN
      go_wp2
      go_roundg (8 - (k + 1))
      case rel =>
        go_light
        exact ⟨k + 1, by omega, rfl, by go_num, HO.out, HB.out⟩
      case measure => go_light; omega
    · obtain rfl : k = 8 := by omega
      have hcv := owni_conv hown (by simp)
      have HB : Hid (Below w.heap.size w wr) := hb
      clear hown hb hlt hk
      rw [show (3 :: nbL n 8) = rootH n from rfl, HE.out] at hcv
      go_wp2
      go_ret
      exact ⟨rfl, HB.out⟩
end Go.Proofs.YtdkcliblbaldhaaDoor
