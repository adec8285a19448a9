/-
  Walks of package peaks: Size, Peaks, Root, New, From. Own work.
-/
import Derived.Test.YtncndefggegicaaDoorKWalkB
namespace Go.Proofs.YtncndefggegicaaDoor
open Go.RowKit
open Pl (ones)
attribute [local go_sem ↓] Go.wp_at_zero Go.wp_at_succ
theorem size_any (w : World) (p : Nat) (v : Value) (k : Int) (n : Nat) (P : List ByteArray) (hr : Rg w p v k n P) :
    Calls Tryd.prog 16 #[.pointer (some ⟨p, 0, none⟩)] w fun e w' => e = .returned (.int .u64 (n : Int)) ∧ Below w.heap.size w w' := by
  have c1 := hr.c1
  clear hr
  go_enter Tryd.func16, Tryd.ntmps16
  go_wp2
  go_ret
  exact ⟨rfl, Below.refl _ _⟩
theorem rpeaks_own (w : World) (p : Nat) (v : Value) (k : Int) (n : Nat) (P : List ByteArray) (hr : Rg w p v k n P) :
    Calls Tryd.prog 13 #[.pointer (some ⟨p, 0, none⟩)] w fun e w' => ∃ u, e = .returned u ∧ OwnS w' w.heap.size u P ∧ Below w.heap.size w w' := by
  obtain ⟨ao, b, cap, hv, hrd, hcap, hno⟩ := hr.rd
  have c2 := hr.c2
  rw [hv] at c2
  have HC : Hid (Calls Tryd.prog 36 #[.slice ao P.length cap] w fun e w' => ∃ v, e = .returned v ∧ OwnS w' w.heap.size v P ∧ Below w.heap.size w w') := clone_any w ao b 0 cap P hrd hno (by have := hr.short; omega)
  clear hr hv hrd hcap hno
  go_enter Tryd.func13, Tryd.ntmps13
  go_wp2_with (go_at_call 36; with_reducible refine HC.out.mono ?_; rintro e w1 ⟨u, rfl, ho, hb⟩)
  go_ret
  exact ⟨u, rfl, ho, hb⟩
/-- The digest of a range's root. -/
def rgD (k : Int) (n : Nat) (P : List ByteArray) : ByteArray := dg (clk k) (rootT n (bagL (clk k) P))
set_option maxRecDepth 100000 in
set_option maxHeartbeats 1000000 in
theorem rroot_any (w : World) (ht : Tb w) (p : Nat) (v : Value) (k : Int) (n : Nat) (P : List ByteArray) (hr : Rg w p v k n P) (r : ByteArray) (hq : Hid (rgD k n P = r)) :
    Calls Tryd.prog 17 #[.pointer (some ⟨p, 0, none⟩)] w fun e w' => e = .returned (.agg #[.int .u64 (n : Int), .string r]) ∧ Below w.heap.size w w' := by
  obtain ⟨ao, b, cap, hv, hrd, hcap, hno⟩ := hr.rd
  have hb := bal (Below.refl w.heap.size w) (.cells #[.int .u64 0, .string ⟨#[]⟩] 39)
  have HRo : Hid (∀ W, Below w.heap.size w W → Calls Tryd.prog 33 #[.int .i64 k, .int .u64 (n : Int), .slice ao P.length cap] W fun e w' => e = .returned (.string r) ∧ Below W.heap.size W w') := fun W hb => root_any W (ht.next hb) k n ao b 0 P.length cap P (hrd.next hb (Nat.le_refl _)) hr.small (by have := hr.short; omega) r hq.out
  have HK : Hid (∀ W, Below w.heap.size w W → W.cell? ⟨p, 0, none⟩ = some (.int .i64 k) ∧ W.cell? ⟨p, 1, none⟩ = some (.int .u64 (n : Int)) ∧ W.cell? ⟨p, 2, none⟩ = some (.slice ao P.length cap)) := fun W hb => by
    have h := hr.next hb (Nat.le_refl _)
    have h2 := h.c2
    rw [hv] at h2
    exact ⟨h.c0, h.c1, h2⟩
  have HP0 : Hid (p < w.heap.size) := hr.lt
  clear hq ht hr hv hrd hcap hno
  go_enter Tryd.func17, Tryd.ntmps17
  go_upto_region 1 with (fail)
  obtain ⟨w0, hw0⟩ : ∃ w0, w.alloc (.cells #[.int .u64 0, .string ⟨#[]⟩] 39) = w0 := ⟨_, rfl⟩
  have HN : Hid (w0.cell? ⟨w.heap.size, 0, none⟩ = some (.int .u64 0) ∧ w0.cell? ⟨w.heap.size, 1, none⟩ = some (.string ⟨#[]⟩) ∧ w0.frozen? ⟨w.heap.size, 0, none⟩ = false ∧ w0.frozen? ⟨w.heap.size, 1, none⟩ = false ∧ w.heap.size < w0.heap.size) := by
    subst hw0
    refine ⟨?_, ?_, ?_, ?_, ?_⟩ <;> simp
  rw [hw0] at hb
  try rw [hw0]
  clear hw0
  have hd : Below w.heap.size w w0.drew := hb.drew
  have HN2 : Hid (∀ W, Below w0.drew.heap.size w0.drew W → W.cell? ⟨w.heap.size, 0, none⟩ = some (.int .u64 0) ∧ W.cell? ⟨w.heap.size, 1, none⟩ = some (.string ⟨#[]⟩) ∧ W.frozen? ⟨w.heap.size, 0, none⟩ = false ∧ W.frozen? ⟨w.heap.size, 1, none⟩ = false) := fun W h => by
    obtain ⟨a1, a2, a3, a4, a5⟩ := HN.out
    exact ⟨(h.cell (p := ⟨w.heap.size, 0, none⟩) a5).trans a1, (h.cell (p := ⟨w.heap.size, 1, none⟩) a5).trans a2, (h.frozen (p := ⟨w.heap.size, 0, none⟩) a5).trans a3, (h.frozen (p := ⟨w.heap.size, 1, none⟩) a5).trans a4⟩
  have HK3 : Hid (∀ W x y, Below w.heap.size w W → (fun w' : World => w'.cell? ⟨p, 0, none⟩ = some (.int .i64 k) ∧ w'.cell? ⟨p, 1, none⟩ = some (.int .u64 (n : Int)) ∧ w'.cell? ⟨p, 2, none⟩ = some (.slice ao P.length cap)) ((W.setCell ⟨w.heap.size, 0, none⟩ x).setCell ⟨w.heap.size, 1, none⟩ y)) := fun W x y h => by
    have hp := HP0.out
    exact HK.out _ ((h.setCell (p := ⟨w.heap.size, 0, none⟩) (Nat.le_refl _) _).setCell (p := ⟨w.heap.size, 1, none⟩) (Nat.le_refl _) _)
  obtain ⟨y0, y1, y2⟩ := HK.out w0.drew hd
  clear hb HN
  go_region_held3 (fun w' => w'.cell? ⟨p, 0, none⟩ = some (.int .i64 k) ∧ w'.cell? ⟨p, 1, none⟩ = some (.int .u64 (n : Int)) ∧ w'.cell? ⟨p, 2, none⟩ = some (.slice ao P.length cap)) (first | assumption | (exact HK.out _ hd) | (exact HK.out _ (bnext hd hb2)) | (exact HK3.out _ _ _ (bnext hd hb2))) ((go_at_call 33; with_reducible refine (HRo.out _ hd).mono ?_; rintro e w2 ⟨rfl, hb2⟩; obtain ⟨k0, k1, f0, f1⟩ := HN2.out _ hb2))
  go_wp2
  have s0 : (w2.setCell ⟨w.heap.size, 0, none⟩ (.int .u64 (n : Int))).cell? ⟨w.heap.size, 0, none⟩ = some (.int .u64 (n : Int)) := World.cell?_setCell_same _ _ _ k0
  have s1 : ((w2.setCell ⟨w.heap.size, 0, none⟩ (.int .u64 (n : Int))).setCell ⟨w.heap.size, 1, none⟩ (.string r)).cell? ⟨w.heap.size, 1, none⟩ = some (.string r) :=
    World.cell?_setCell_same _ _ _ ((World.cell?_setCell_other _ _ _ _ (by simp)).trans k1)
  refine bodyPost_ret (v := .agg #[.int .u64 (n : Int), .string r]) (by simp [results, Tryd.results17, go_sem, s0, s1]) rfl ⟨rfl, ?_⟩
  exact ((bnext hd hb2).setCell (p := ⟨w.heap.size, 0, none⟩) (Nat.le_refl _) _).setCell (p := ⟨w.heap.size, 1, none⟩) (Nat.le_refl _) _
theorem own_slice {w : World} {B : Nat} {v : Value} {l : List ByteArray} (h : OwnS w B v l) : ∃ ao cap, v = .slice ao l.length cap := by
  obtain ⟨_, h2⟩ := h
  rcases h2 with ⟨h2, h3⟩ | ⟨g, cap, cur, hv, _⟩
  · exact ⟨none, 0, by rw [h2, h3]⟩
  · exact ⟨_, cap, hv⟩
/-- Why From is refused. -/
def fe (k : Int) (n : Nat) (L : List ByteArray) : Nat :=
  if k < 1 ∨ 32 < k then 70 else if 1099511627776 < n then 30 else if L.length ≠ ones 64 n ∨ ¬ (∀ s ∈ L, (s.size : Int) = k) then 90 else 0
theorem kchk_ok {k : Int} (h1 : 1 ≤ k) (h2 : k ≤ 32) : chk k = 0 := by rw [chk, if_neg (by omega)]
theorem kchk_no {k : Int} (h : k < 1 ∨ 32 < k) : chk k = 70 := by rw [chk, if_pos h]
/-- What From answers. -/
def Made (w w' : World) (k : Int) (n : Nat) (L : List ByteArray) (e0 : Nat) (e : Ending) : Prop :=
  Below w.heap.size w w' ∧ ((e0 ≠ 0 ∧ e = .returned (.tuple #[.pointer none, .int .i64 (e0 : Int)])) ∨ (e0 = 0 ∧ ∃ p v, e = .returned (.tuple #[.pointer (some ⟨p, 0, none⟩), .int .i64 0]) ∧ Rg w' p v k n L ∧ w.heap.size ≤ p ∧ ∀ g, v.ownBlock = some g → w.heap.size ≤ g))
set_option maxRecDepth 100000 in
set_option maxHeartbeats 1000000 in
theorem from_any (w : World) (k : Int) (n : Nat) (hn64 : n < 18446744073709551616) (ao : Option Addr) (b off cap : Nat) (L : List ByteArray) (hr : RdS w ao b off L.length L) (hno : ao = none → cap = 0) (hmx : L.length ≤ 8796093022208) (e0 : Nat) (he : fe k n L = e0) :
    Calls Tryd.prog 12 #[.int .i64 k, .int .u64 (n : Int), .slice ao L.length cap] w fun e w' => Made w w' k n L e0 e := by
  have hb := Below.refl w.heap.size w
  have HC : Hid (∀ W, Calls Tryd.prog 34 #[.int .i64 k] W fun e w' => e = .returned (.int .i64 (chk k)) ∧ W = w') := fun W => (check_any W k).mono fun _ _ h => ⟨h.1, h.2.symm⟩
  by_cases hk : k < 1 ∨ 32 < k
  · obtain rfl : e0 = 70 := by rw [← he, fe, if_pos hk]
    rw [kchk_no hk] at HC
    clear he hk hr hno hmx hn64
    go_enter Tryd.func12, Tryd.ntmps12
    go_wp2_with (go_at_call 34; with_reducible refine (HC.out _).mono ?_; rintro e w1 ⟨rfl, rfl⟩)
    go_ret2
    exact ⟨hb, .inl ⟨by decide, rfl⟩⟩
  · have k1 : 1 ≤ k := by omega
    have k2 : k ≤ 32 := by omega
    rw [kchk_ok k1 k2] at HC
    by_cases hn : 1099511627776 < n
    · obtain rfl : e0 = 30 := by rw [← he, fe, if_neg hk, if_pos hn]
      have hn' : decide ((1099511627776 : Int) < (n : Int)) = true := by simp; omega
      clear he hk hr hno hmx hn64 hn
      go_enter Tryd.func12, Tryd.ntmps12
      go_wp2_with (go_at_call 34; with_reducible refine (HC.out _).mono ?_; rintro e w1 ⟨rfl, rfl⟩)
      go_ret2
      exact ⟨hb, .inl ⟨by decide, rfl⟩⟩
    · have hn' : decide ((1099511627776 : Int) < (n : Int)) = false := by simp; omega
      obtain ⟨o, ho⟩ : ∃ o, ones 64 n = o := ⟨_, rfl⟩
      have HO : Hid (∀ W, Calls Tryd.prog 35 #[.int .u64 (n : Int)] W fun e w' => e = .returned (.int .i64 (o : Int)) ∧ W = w') := fun W => by
        have := Pl.ones_any n W (by omega)
        rw [ho] at this
        exact this.mono fun _ _ h => ⟨h.1, h.2.symm⟩
      by_cases hl : L.length = o
      · subst hl
        have HE : Hid ((¬ (∀ s ∈ L, (s.size : Int) = k) → e0 = 90) ∧ ((∀ s ∈ L, (s.size : Int) = k) → e0 = 0)) := by
          refine ⟨fun h => ?_, fun h => ?_⟩
          · rw [← he, fe, if_neg hk, if_neg hn, if_pos (.inr h)]
          · rw [← he, fe, if_neg hk, if_neg hn, if_neg]
            rintro (h1 | h1)
            · exact h1 ho.symm
            · exact h1 h
        have HG : Hid (n ≤ 1099511627776 ∧ L.length = (hts n).length ∧ L.length ≤ 1000) := by
          have h1 := hts_ones (n := n) (by omega)
          have h2 := hts_le n
          exact ⟨by omega, by omega, by omega⟩
        have HCl : Hid (Calls Tryd.prog 36 #[.slice ao L.length cap] w fun e w' => ∃ v, e = .returned v ∧ OwnS w' w.heap.size v L ∧ Below w.heap.size w w') := clone_any w ao b off cap L hr hno hmx
        have HR : Hid (RdS w ao b off L.length L) := hr
        have HB := hide hb
        have HK := hide (And.intro k1 k2)
        clear he hk hno hmx hn64 hn ho hr hb k1 k2
        go_enter Tryd.func12, Tryd.ntmps12
        go_wp2_with (first
          | (go_at_call 34; with_reducible refine (HC.out _).mono ?_; rintro e w1 ⟨rfl, rfl⟩)
          | (go_at_call 35; with_reducible refine (HO.out _).mono ?_; rintro e w1 ⟨rfl, rfl⟩))
        go_loopg [25] L.length (fun g i wr => ∃ j : Nat, j ≤ L.length ∧ g = L.length - j ∧ i = .int .i64 (j : Int) ∧ Hid (∀ s ∈ L.take j, (s.size : Int) = k) ∧ w = wr)
        case atStart =>
          go_light
          exact ⟨0, Nat.zero_le _, rfl, rfl, (fun s hs => by cases hs), rfl⟩
        case round =>
          obtain ⟨j, hj, rfl, rfl, HT, rfl⟩ := hrel
          by_cases hlt : j < L.length
          · have hz : (j : Int) < (L.length : Int) := by omega
            have hz9 : (j : Int) < 1000 := by have := HG.out.2.2; omega
            have hz0 : (0 : Int) ≤ (j : Int) := Int.natCast_nonneg _
            obtain rfl := HR.out.ptr (by omega)
            have cj := HR.out.at hlt
            obtain ⟨x, hx⟩ : ∃ x, L.getD j ByteArray.empty = x := ⟨_, rfl⟩
            have hxm := getD_mem hlt
            have hx2 : L.take (j + 1) = L.take j ++ [x] := by
              rw [List.take_add_one, ← hx, List.getD_eq_getElem?_getD, List.getElem?_eq_getElem hlt]; rfl
            rw [hx] at cj hxm
            by_cases hs : (x.size : Int) = k
            · have HT2 : Hid (∀ s ∈ L.take (j + 1), (s.size : Int) = k) := fun s hs2 => by
                rw [hx2] at hs2
                rcases List.mem_append.1 hs2 with h | h
                · exact HT.out s h
                · simp at h; rw [h]; exact hs
              subst hs
              clear hx hxm hx2 HT
              go_wp2
              go_roundg (L.length - (j + 1))
              case rel =>
                go_light
                exact ⟨j + 1, by omega, rfl, by go_num, HT2, rfl⟩
              case measure => go_light; omega
            · have hE : e0 = 90 := HE.out.1 fun h => hs (h x hxm)
              have HE2 := hide hE
              clear hE hx hxm hx2 HT
              go_wp2
              go_ret2
              refine ⟨HB.out, .inl ?_⟩
              rw [HE2.out]
              exact ⟨by decide, rfl⟩
          · obtain rfl : j = L.length := by omega
            have hz : ¬ ((L.length : Int) < (L.length : Int)) := by omega
            have HT2 : Hid (∀ s ∈ L, (s.size : Int) = k) := by have := HT.out; rwa [List.take_length] at this
            clear HT
            go_wp2_with (go_at_call 36; with_reducible refine HCl.out.mono ?_; rintro e w1 ⟨v, rfl, hv, hbv⟩; obtain ⟨ao2, cap2, rfl⟩ := own_slice hv)
            go_ret2
            have hE : e0 = 0 := HE.out.2 HT2.out
            have hsz := hbv.size
            refine ⟨bal hbv _, .inr ⟨hE, _, _, rfl, ⟨heap_alloc_new w1 _, own_mono (own_al hv _) (Nat.zero_le _), HK.out.1, HK.out.2, HG.out.1, HG.out.2.1, fun s hs => ?_⟩, hsz, fun g hg => (World.ownsRow.lt hv g hg).1⟩⟩
            have h1 := HT2.out s hs
            have h2 := clk_of HK.out.1 HK.out.2
            omega
      · obtain rfl : e0 = 90 := by rw [← he, fe, if_neg hk, if_neg hn, if_pos (.inl (by rw [ho]; exact hl))]
        have hl' : ¬ ((L.length : Int) = (o : Int)) := by omega
        clear he hk hr hno hmx hn64 hn hl ho
        go_enter Tryd.func12, Tryd.ntmps12
        go_wp2_with (first
          | (go_at_call 34; with_reducible refine (HC.out _).mono ?_; rintro e w1 ⟨rfl, rfl⟩)
          | (go_at_call 35; with_reducible refine (HO.out _).mono ?_; rintro e w1 ⟨rfl, rfl⟩))
        go_ret2
        exact ⟨hb, .inl ⟨by decide, rfl⟩⟩
theorem Made.no {w w' : World} {k : Int} {n : Nat} {L : List ByteArray} {e0 : Nat} {e : Ending} (h : Made w w' k n L e0 e) (h0 : e0 ≠ 0) : e = .returned (.tuple #[.pointer none, .int .i64 (e0 : Int)]) ∧ Below w.heap.size w w' := by
  obtain ⟨hb, ⟨_, h2⟩ | ⟨h1, _⟩⟩ := h
  · exact ⟨h2, hb⟩
  · exact absurd h1 h0
theorem Made.ok {w w' : World} {k : Int} {n : Nat} {L : List ByteArray} {e : Ending} (h : Made w w' k n L 0 e) : ∃ p v, e = .returned (.tuple #[.pointer (some ⟨p, 0, none⟩), .int .i64 0]) ∧ Rg w' p v k n L ∧ w.heap.size ≤ p ∧ (∀ g, v.ownBlock = some g → w.heap.size ≤ g) ∧ Below w.heap.size w w' := by
  obtain ⟨hb, ⟨h1, _⟩ | ⟨_, p, v, h2, h3, h4, h5⟩⟩ := h
  · exact absurd rfl h1
  · exact ⟨p, v, h2, h3, h4, h5, hb⟩
/-- New. -/
theorem knew_any (w : World) (k : Int) (e0 : Nat) (he : fe k 0 [] = e0) : Calls Tryd.prog 18 #[.int .i64 k] w fun e w' => Made w w' k 0 [] e0 e := by
  have HF : Hid (Calls Tryd.prog 12 #[.int .i64 k, .int .u64 0, .slice none 0 0] w fun e w' => Made w w' k 0 [] e0 e) :=
    from_any w k 0 (by decide) none 0 0 0 [] ⟨rfl, fun h => absurd h (Nat.lt_irrefl 0), (fun j v h => by cases h), fun s hs => by cases hs⟩ (fun _ => rfl) (Nat.zero_le _) e0 he
  clear he
  by_cases h0 : e0 = 0
  · subst h0
    go_enter Tryd.func18, Tryd.ntmps18
    go_wp2_with (go_at_call 12; with_reducible refine HF.out.mono ?_; intro e w1 hM; obtain ⟨p, v, rfl, h2, h3, h4, hb⟩ := hM.ok; clear hM)
    go_ret2
    exact ⟨hb, .inr ⟨rfl, p, v, rfl, h2, h3, h4⟩⟩
  · have H0 := hide h0
    clear h0
    go_enter Tryd.func18, Tryd.ntmps18
    go_wp2_with (go_at_call 12; with_reducible refine HF.out.mono ?_; intro e w1 hM; obtain ⟨rfl, hb⟩ := hM.no H0.out; clear hM)
    go_ret2
    exact ⟨hb, .inl ⟨H0.out, rfl⟩⟩
end Go.Proofs.YtncndefggegicaaDoor
