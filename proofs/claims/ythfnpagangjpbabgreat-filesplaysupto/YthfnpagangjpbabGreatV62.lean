/-
  Own work: FHd.
-/
import Derived.Test.YthfnpagangjpbabGreatV31
namespace Go.Proofs.YthfnpagangjpbabGreat
open Go.RowKit
open Rc
attribute [local go_sem ↓] Go.wp_at_zero Go.wp_at_succ
def DgQ (w : World) (k : Nat) (e : Ending) (w' : World) : Prop := ∃ (va : Option Addr) (m vc : Nat) (ds : List ByteArray), e = .returned (.slice va m vc) ∧ OwnS w' w.heap.size (.slice va m vc) ds ∧ ds.length = m ∧ m ≤ 65 ∧ (∀ d ∈ ds, d.size = k) ∧ Below w.heap.size w w'
def DrJ (wo : World) (g k : Nat) (wz : World) : Prop := (∃ row : List UInt8, row.length = k ∧ Byt wz g row) ∧ Below g wo wz ∧ g < wz.heap.size
theorem DrJ.set {wo wz : World} {g k : Nat} (h : DrJ wo g k wz) (j : Nat) (b : UInt8) : DrJ wo g k (wz.setCell ⟨g, j, none⟩ (.int .u8 ((b.toNat : Nat) : Int))) := by
  obtain ⟨⟨row, h1, h2⟩, h3, h4⟩ := h
  exact ⟨⟨row.set j b, by rw [List.length_set]; exact h1, h2.set j b _ rfl⟩, h3.setCell (Nat.le_refl _) _, by simpa using h4⟩
theorem DrJ.drew {wo wz : World} {g k : Nat} (h : DrJ wo g k wz) : DrJ wo g k wz.drew := by
  obtain ⟨⟨row, h1, h2⟩, h3, h4⟩ := h
  exact ⟨⟨row, h1, h2.same rfl⟩, h3.drew, h4⟩
theorem DrJ.at {wo wz : World} {g k : Nat} (h : DrJ wo g k wz) (j : Nat) (hj : j < k) : ∃ x : UInt8, wz.cell? ⟨g, j, none⟩ = some (.int .u8 ((x.toNat : Nat) : Int)) ∧ wz.frozen? ⟨g, j, none⟩ = false := by
  obtain ⟨⟨row, h1, h2⟩, h3, h4⟩ := h
  exact ⟨_, h2.at (j := j) (by omega), h2.free (j := j) (by omega)⟩
set_option maxRecDepth 100000 in
set_option maxHeartbeats 4000000 in
theorem digests_any (w : World) (n k : Nat) (hn : n ≤ 65536) (hk : k ≤ 32) (ao : Option Addr) (b off len cap : Nat) (l : List ByteArray) (hr : RdS w ao b off len l) (hlen : len ≤ 1048576) :
    Calls Tryz.prog 90 #[.int .u64 (n : Int), .int .i64 (k : Int), .slice ao len cap] w (DgQ w k) := by
  have HT := hide (fun W => ltrail_any n W (by omega) _ rfl)
  have h41 : Pl.trl 64 n ≤ 64 := by
    have hh : ∀ f n, Pl.trl f n ≤ f := fun f => by
      induction f with
      | zero => intro n; exact Nat.le_refl _
      | succ f ih => intro n; have := ih (n / 2); simp only [Pl.trl]; split <;> omega
    exact hh 64 n
  generalize Pl.trl 64 n = t at *
  obtain ⟨m, hm⟩ : ∃ m, 1 + t = m := ⟨_, rfl⟩
  have em : IntKind.i64.wrap (1 + (t : Int)) = (m : Int) := by rw [IntKind.wrap_i64]; omega
  have hm65 : m ≤ 65 := by omega
  have HRd : Hid (∀ W, Below w.heap.size w W → RdS W ao b off len l) := fun W hW => hr.next hW (Nat.le_refl _)
  have hptr := hr.ptr
  have HLt : Hid (0 < len → b < w.heap.size) := fun h0 => hr.lt h0
  have HSz : Hid (∀ i, i < len → (l.getD i ByteArray.empty).size ≤ 9223372036854775807) := fun i hi => hr.szAt hi
  clear hm h41 hr
  go_enter Tryz.func90, Tryz.ntmps90
  go_wp2_with (go_at_call 126; (with_reducible refine (HT.out _).mono ?_); rintro e w1 ⟨rfl, rfl⟩)
  go_loopg [7, 9] m (fun g v x wr => ∃ (i : Nat) (ds : List ByteArray), i ≤ m ∧ g = m - i ∧ x = .int .i64 (i : Int) ∧ ds.length = i ∧ Hid ((∀ d ∈ ds, d.size = k) ∧ OwnS wr w.heap.size v ds) ∧ Hid (Below w.heap.size w wr))
  case atStart =>
    go_light
    exact ⟨0, [], Nat.zero_le _, rfl, rfl, rfl, ⟨fun d hd => absurd hd (by simp), owns_nil _ _⟩, Below.refl _ _⟩
  case round =>
    obtain ⟨i, ds, hi, rfl, rfl, hln, HO, HB⟩ := hrel
    obtain ⟨va, vc, hv⟩ := own_slice HO.out.2
    rw [hln] at hv
    subst hv
    have HLn := hide hln
    clear hln
    by_cases hlt : i < m
    · have hz : (i : Int) < (m : Int) := by omega
      have HM := make_bytes k (by omega) wr
      obtain ⟨w2, hw2⟩ : ∃ W, wr.alloc (.cells (Array.replicate k (Value.int .u8 0)) 5) = W := ⟨_, rfl⟩
      have HY : Hid (DrJ wr wr.heap.size k w2) := by
        rw [← hw2]
        exact ⟨⟨_, zer_len k, byt_made wr k⟩, bal (Below.refl _ _) _, by rw [al_size]; omega⟩
      rw [hw2] at HM
      obtain ⟨g, hg⟩ : ∃ g, wr.heap.size = g := ⟨_, rfl⟩
      have HG := hide hg
      rw [hg] at HM HY
      have HOw : Hid (∀ W, Below wr.heap.size wr W → ((∀ d ∈ ds, d.size = k) ∧ OwnS W w.heap.size (.slice va i vc) ds) ∧ Below w.heap.size w W) := fun W hW => ⟨⟨HO.out.1, own_next HO.out.2 hW (Nat.le_refl _)⟩, bnext HB.out hW⟩
      have HGb : Hid (0 < len → b ≠ g) := fun h0 e => by have h1 := HLt.out h0; have h2 := HB.out.size; omega
      clear hw2 hg HO HB
      go_wp2
      generalize wr = wo at *
      clear wr
      go_loopg [11] k (fun g' y wz => ∃ j : Nat, j ≤ k ∧ g' = k - j ∧ y = .int .i64 (j : Int) ∧ Hid (DrJ wo g k wz))
      case atStart =>
        go_light
        exact ⟨0, Nat.zero_le _, rfl, rfl, HY.out⟩
      case round =>
        clear HY
        obtain ⟨j, hj, rfl, rfl, HJ⟩ := hrel
        by_cases hjl : j < k
        · have hz2 : (j : Int) < (k : Int) := by omega
          obtain ⟨x0, c1, f1⟩ := HJ.out.at j hjl
          have e1 : IntKind.u8.wrap (n : Int) = ((n % 256 : Nat) : Int) := by rw [IntKind.wrap_u8]; omega
          have e2 : IntKind.i64.wrap (7 * (i : Int)) = 7 * (i : Int) := by rw [IntKind.wrap_i64]; omega
          have e3 : IntKind.i64.wrap (7 * (i : Int) + (j : Int)) = 7 * (i : Int) + (j : Int) := by rw [IntKind.wrap_i64]; omega
          have e4 : IntKind.u8.wrap (7 * (i : Int) + (j : Int)) = (((7 * i + j) % 256 : Nat) : Int) := by rw [IntKind.wrap_u8]; omega
          have e5 := u8_sum n i j
          obtain ⟨bb, hbb⟩ : ∃ b : UInt8, UInt8.ofNat (n + (7 * i + j)) = b := ⟨_, rfl⟩
          rw [hbb] at e5
          have e6 : IntKind.i64.wrap ((j : Int) + 1) = (j : Int) + 1 := by rw [IntKind.wrap_i64]; omega
          have HJn := hide (HJ.out.set j bb)
          generalize n % 256 = n8 at *
          generalize (7 * i + j) % 256 = j8 at *
          obtain ⟨w2, hw2⟩ : ∃ W, wr.setCell ⟨g, j, none⟩ (.int .u8 ((bb.toNat : Nat) : Int)) = W := ⟨_, rfl⟩
          have HW2 := hide hw2
          rw [hw2] at HJn
          clear hw2
          obtain ⟨y0, c2, f2⟩ := HJn.out.at j hjl
          by_cases h0 : 0 < len
          · obtain rfl := hptr h0
            obtain ⟨q, hq⟩ : ∃ q, i % len = q := ⟨_, rfl⟩
            have hql : q < len := by rw [← hq]; exact Nat.mod_lt _ h0
            have d0 : ((len : Int) > 0) := by omega
            have d1 : ¬ (len : Int) = 0 := by omega
            have d2 : (i : Int).tmod (len : Int) = (q : Int) := by rw [← hq]; rfl
            have d3 : (i : Int) % (len : Int) = (q : Int) := by rw [← hq]; rfl
            have d4 : IntKind.i64.wrap (q : Int) = (q : Int) := by rw [IntKind.wrap_i64]; omega
            have d5 : (q : Int) < (len : Int) := by omega
            have hbg := HGb.out h0
            have HOw2 := HOw.out _ (by rw [HG.out]; exact HJn.out.2.1)
            have hrd := (HRd.out w2 HOw2.2).at hql
            have hsz := HSz.out q hql
            obtain ⟨si, hsi⟩ : ∃ s, l.getD q ByteArray.empty = s := ⟨_, rfl⟩
            rw [hsi] at hrd hsz
            by_cases hjs : j < si.size
            · have d6 : (j : Int) < (si.size : Int) := by omega
              obtain ⟨xb, hxb⟩ : ∃ x : UInt8, y0 ^^^ si[j] = x := ⟨_, rfl⟩
              have e7 : bits .xor .u8 ((y0.toNat : Nat) : Int) ((si[j].toNat : Nat) : Int) = ((xb.toNat : Nat) : Int) := by
                rw [← hxb, u8_xor_nat _ _ (UInt8.toNat_lt _) (UInt8.toNat_lt _), UInt8.toNat_xor]
              have HJm := hide (HJn.out.set j xb)
              clear HJ hbb HOw HM HT HLn HOw2 HJn hsi hq hxb HRd HLt HSz HGb
              go_upto_region 11 with (fail)
              rw [HW2.out]
              clear e5 e1 e2 e3 e4 c1 f1
              go_upto_region 12 with (fail)
              go_region
              go_wp2
              go_roundg (k - (j + 1))
              case rel =>
                go_light
                exact ⟨j + 1, by omega, rfl, by go_num, HJm.out.drew⟩
              case measure => go_light; omega
            · have d6 : ¬ (j : Int) < (si.size : Int) := by omega
              clear HJ hbb HOw HM HT HLn HOw2 hsi hq HRd HLt HSz HGb
              go_upto_region 11 with (fail)
              rw [HW2.out]
              clear e5 e1 e2 e3 e4 c1 f1
              go_wp2
              go_roundg (k - (j + 1))
              case rel =>
                go_light
                exact ⟨j + 1, by omega, rfl, by go_num, HJn.out⟩
              case measure => go_light; omega
          · obtain rfl : len = 0 := by omega
            clear HJ hbb HOw HM HT HLn HRd HLt HSz HGb hptr
            go_upto_region 11 with (fail)
            rw [HW2.out]
            clear e5 e1 e2 e3 e4 c1 f1
            go_wp2
            go_roundg (k - (j + 1))
            case rel =>
              go_light
              exact ⟨j + 1, by omega, rfl, by go_num, HJn.out⟩
            case measure => go_light; omega
        · have hz2 : ¬ (j : Int) < (k : Int) := by omega
          obtain rfl : j = k := by omega
          obtain ⟨⟨row, q1, q2⟩, q3, q4⟩ := HJ.out
          obtain ⟨td, htd⟩ : ∃ t : ByteArray, (⟨row.toArray⟩ : ByteArray) = t := ⟨_, rfl⟩
          have hcv : (convert 111 9 (.slice (some ⟨g, 0, none⟩) j j)).run Tryz.prog wr = .ok (.string td) wr := q2.conv (k := 0) (n := j) (by omega) 0 (fun _ => rfl) j _ (by
            rw [List.drop_zero, List.take_of_length_le (by omega)]; exact htd)
          have htz : td.size = j := by rw [← htd, ← size_list]; exact q1
          have hts : td.size ≤ 9223372036854775807 := by omega
          have ew : IntKind.i64.wrap ((i : Int) + 1) = (i : Int) + 1 := by rw [IntKind.wrap_i64]; omega
          have HO2 := hide (HOw.out wr (by rw [HG.out]; exact q3))
          have HTz := hide htz
          clear HJ HOw HM HT q1 q2 q3 q4 htd htz
          have HLi := hide HLn.out
          clear HLn
          go_wp2_with (at_builtin; refine wpList_append_S _ rfl _ _ rfl w.heap.size _ ds rfl (own_al HO2.out.1.2 _) (some ⟨wr.heap.size, 0, none⟩) wr.heap.size 0 1 [td] rfl (rds_one wr td hts) (fun h => by cases h) (by rw [HLi.out]; show i + 1 ≤ _; omega) (by have := HO2.out.2.size; rw [al_size]; omega) ?_)
          intro v5 w5 h5 u5
          have HZ : Hid (((∀ d ∈ ds ++ [td], d.size = j) ∧ OwnS w5 w.heap.size v5 (ds ++ [td])) ∧ Below w.heap.size w w5 ∧ (ds ++ [td]).length = i + 1) := ⟨⟨fun d hd => by
            rcases List.mem_append.1 hd with e | e
            · exact HO2.out.1.1 d e
            · rw [List.mem_singleton.1 e]; exact HTz.out, h5⟩, (bal HO2.out.2 _).trans u5, by rw [List.length_append, HLi.out]; rfl⟩
          clear h5 u5 HO2
          go_wp2
          go_roundg (m - (i + 1))
          case rel =>
            go_light
            exact ⟨i + 1, ds ++ [td], by omega, rfl, by go_num, HZ.out.2.2, HZ.out.1, HZ.out.2.1⟩
          case measure => go_light; omega
    · have hz : ¬ (i : Int) < (m : Int) := by omega
      obtain rfl : i = m := by omega
      have HZ : Hid (DgQ w k (.returned (.slice va i vc)) wr) := ⟨va, i, vc, ds, rfl, HO.out.2, HLn.out, hm65, HO.out.1, HB.out⟩
      clear HO HB HT
      go_wp2
      go_ret
      exact HZ.out
end Go.Proofs.YthfnpagangjpbabGreat
