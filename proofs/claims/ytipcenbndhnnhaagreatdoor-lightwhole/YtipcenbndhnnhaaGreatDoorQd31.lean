/-
  Own work: JWalkF.
-/
import Derived.Test.YtipcenbndhnnhaaGreatDoorQd27
import Derived.Test.YtipcenbndhnnhaaGreatDoorQd30
namespace Go.Proofs.YtipcenbndhnnhaaGreatDoor
open Go.RowKit
open Cv (RdC zl cU cov)
open Pl (pw)
attribute [local go_sem ↓] Go.wp_at_zero Go.wp_at_succ
theorem kprove_size (w : World) (f : Nat) (K : Int) (L : List ByteArray) (hF : Frs w f K L) (m n : Nat) (hn : L.length < n) :
    Calls Tryz.prog 12 #[.pointer (some ⟨f + 1, 0, none⟩), .int .u64 (m : Int), .int .u64 (n : Int)] w fun e w' => e = .returned (.tuple #[noP, .int .i64 30]) ∧ Below w.heap.size w w' := by
  have hb := bal (Below.refl w.heap.size w) zP
  have HS := fsize_any _ f K L (hF.next hb (Nat.le_refl _))
  have hn' : (L.length : Int) < (n : Int) := by omega
  unfold zP at hb HS
  clear hF hn
  go_enter Tryz.func12, Tryz.ntmps12
  go_wp2_with (go_at_call 26; with_reducible refine HS.mono ?_; rintro e w1 ⟨rfl, rfl⟩)
  refine bodyPost_ret (v := .tuple #[noP, .int .i64 30]) (by simp [results, Tryz.results12, go_sem]) rfl ⟨rfl, ?_⟩
  exact hb
def dgKn (c : Nat) (L : List ByteArray) (m n : Nat) : List ByteArray := (kb m n).map fun b => nd c L b.1 b.2
theorem dgKn_len (c : Nat) (L : List ByteArray) (m n : Nat) : (dgKn c L m n).length = (kb m n).length := List.length_map ..
theorem kb_in {m n : Nat} (hm : m ≤ n) (hn : n ≤ 2 ^ 40) : ∀ b ∈ kb m n, (b.2 + 1) * 2 ^ b.1 ≤ n := fun b hb => (row_fromJ (kb_row hm hn) b hb).2
set_option maxRecDepth 100000 in
set_option maxHeartbeats 1000000 in
theorem kprove_ok (w : World) (f : Nat) (K : Int) (L : List ByteArray) (hF : Frs w f K L) (hL : L.length ≤ 5000) (m n : Nat) (hn : n ≤ L.length) (hmn : m ≤ n) (D : List ByteArray) (hD : dgKn (clk K) L m n = D) :
    Calls Tryz.prog 12 #[.pointer (some ⟨f + 1, 0, none⟩), .int .u64 (m : Int), .int .u64 (n : Int)] w fun e w' => ∃ vd, e = .returned (.tuple #[.agg #[.int .i64 3, .int .i64 K, .int .u64 (m : Int), .int .u64 (n : Int), .slice none 0 0, vd], .int .i64 0]) ∧ OwnS w' w.heap.size vd D ∧ Below w.heap.size w w' := by
  have h40 : n ≤ 2 ^ 40 := by omega
  have hin := kb_in hmn h40
  obtain ⟨o0, ho0⟩ : ∃ o0, zP = o0 := ⟨_, rfl⟩
  have hb := bal (Below.refl w.heap.size w) o0
  have HS := fsize_any _ f K L (hF.next hb (Nat.le_refl _))
  obtain ⟨C, hC⟩ : ∃ C, zl (kb m n) = C := ⟨_, rfl⟩
  have hlC : C.length ≤ 1000000 := by rw [← hC, Cv.zl_len]; have := kb_len hmn h40; omega
  have HBk : Calls Tryz.prog 31 #[.int .u64 (m : Int), .int .u64 (n : Int)] (w.alloc o0) fun e w' => ∃ ao g cap, e = .returned (.slice ao C.length cap) ∧ RdB w' ao g 0 C.length C ∧ Below (w.alloc o0).heap.size (w.alloc o0) w' := by
    refine (blocksof_any (w.alloc o0) m n hmn h40).mono fun e w' ⟨v, e1, e2, e3⟩ => ?_
    rw [hC] at e2
    obtain ⟨ao, g, n', cap, rfl, hr', _⟩ := own_rdB e2 (fun x hx => by
      rw [← hC] at hx
      obtain ⟨b0, hb0, rfl⟩ := List.mem_map.1 hx
      exact (fit40 (hin b0 hb0) h40).1)
    obtain rfl := hr'.len
    exact ⟨ao, g, cap, e1, hr', e3⟩
  have hds : dgs (clk K) L C = some D := by rw [← hC, dgs_all (fun b hb => Nat.le_trans (hin b hb) hn), ← hD]; rfl
  have HD : Hid (∀ W ao g cap, Below w.heap.size w W → RdB W ao g 0 C.length C → Calls Tryz.prog 28 #[.pointer (some ⟨f + 1, 0, none⟩), .slice ao C.length cap] W fun e w' => Below W.heap.size W w' ∧ ∃ ad md cd, e = .returned (.tuple #[.slice ad md cd, .bool true]) ∧ OwnS w' W.heap.size (.slice ad md cd) D) := fun W ao g cap hb hr => by
    refine (fdigests_any W f K L (hF.next hb (Nat.le_refl _)) ao g 0 cap C hr (by omega)).mono ?_
    rintro e w' ⟨hb', ⟨h1, _⟩ | ⟨D', h1, v, rfl, ho⟩⟩
    · rw [hds] at h1; cases h1
    · rw [hds] at h1
      injection h1 with h1
      subst h1
      obtain ⟨ad, md, cd, rfl⟩ := Cv.own_slice ho
      exact ⟨hb', ad, md, cd, rfl, ho⟩
  have HSt : Hid (∀ W, Below w.heap.size w W → Calls Tryz.prog 29 #[.pointer (some ⟨f + 1, 0, none⟩)] W fun e w' => e = .returned (.int .i64 K) ∧ W = w') := fun W hb => (fstrength_any W f K L (hF.next hb (Nat.le_refl _))).mono fun _ _ h => ⟨h.1, h.2.symm⟩
  have hn' : ¬ (L.length : Int) < (n : Int) := by omega
  have hm' : ¬ (n : Int) < (m : Int) := by omega
  have HP : Hid (∀ W, Below (w.alloc o0).heap.size (w.alloc o0) W → Six W w.heap.size (.int .i64 0) (.int .i64 0) (.int .u64 0) (.int .u64 0) (.slice none 0 0) (.slice none 0 0)) := fun W hb => Six.next (show Six (w.alloc o0) _ _ _ _ _ _ _ by rw [← ho0]; exact six_new w _ _ _ _ _ _) hb
  rw [← ho0] at hb HS HP HBk
  unfold zP at hb HS HP HBk
  clear hF hn hL ho0 hin hds hD hlC hC h40 hmn
  go_enter Tryz.func12, Tryz.ntmps12
  go_wp2_with (first
    | (go_at_call 26; with_reducible refine HS.mono ?_; rintro e w0 ⟨rfl, rfl⟩)
    | (go_at_call 31; with_reducible refine HBk.mono ?_; rintro e w1 ⟨ao, g, cap, rfl, hr1, hb1⟩)
    | (go_at_call 28; with_reducible refine (HD.out _ _ _ _ (bnext hb hb1) hr1).mono ?_; rintro e w2 ⟨hb2, ad, md, cd, rfl, ho⟩)
    | (go_at_call 29; with_reducible refine (HSt.out _ (bnext (bnext hb hb1) hb2)).mono ?_; rintro e w3 ⟨rfl, rfl⟩; have h6 := HP.out _ (bnext hb1 hb2); obtain ⟨k0, k1, k2, k3, k4, k5⟩ := h6.cells; have f0 := h6.fz))
  have hF6 := h6.put (.int .i64 3) (.int .i64 K) (.int .u64 (m : Int)) (.int .u64 (n : Int)) (.slice none 0 0) (.slice ad md cd)
  have hch := put6_ch w2 w.heap.size (.int .i64 3) (.int .i64 K) (.int .u64 (m : Int)) (.int .u64 (n : Int)) (.slice none 0 0) (.slice ad md cd)
  unfold put6 at hF6 hch
  obtain ⟨s0, s1, s2, s3, s4, s5⟩ := hF6.cells
  refine bodyPost_ret (v := .tuple #[.agg #[.int .i64 3, .int .i64 K, .int .u64 (m : Int), .int .u64 (n : Int), .slice none 0 0, .slice ad md cd], .int .i64 0]) (by simp [results, Tryz.results12, go_sem, s0, s1, s2, s3, s4, s5]) rfl ?_
  have hz1 := hb1.size
  rw [World.size_alloc] at hz1
  exact ⟨_, rfl, (keep_row ho fun g _ hg => hch.block g (by omega)).mono (by omega), (bnext (bnext hb hb1) hb2).trans (hch.below (by rintro b rfl; exact Nat.le_refl _))⟩
def Rh (w : World) (g n : Nat) (d : ByteArray) : Prop := w.heap[g]? = some (.cells #[.int .u64 (n : Int), .string d] 32 (0, 0))
section
variable {w W : World} {g n : Nat} {d : ByteArray}
theorem Rh.cells (t : Rh w g n d) : w.cell? ⟨g, 0, none⟩ = some (.int .u64 (n : Int)) ∧ w.cell? ⟨g, 1, none⟩ = some (.string d) :=
  ⟨by rw [cell_of_row w g 0 _ _ (0, 0) t]; rfl, by rw [cell_of_row w g 1 _ _ (0, 0) t]; rfl⟩
theorem Rh.fz (t : Rh w g n d) (j : Nat) : w.frozen? ⟨g, j, none⟩ = false := frozen_of_row w g j _ _ t
theorem Rh.lt (t : Rh w g n d) : g < w.heap.size := (Array.getElem?_eq_some_iff.1 t).1
theorem Rh.same (t : Rh w g n d) (hb : W.heap[g]? = w.heap[g]?) : Rh W g n d := hb.trans t
theorem Rh.next (t : Rh w g n d) (hb : Below w.heap.size w W) : Rh W g n d := t.same (hb.block g t.lt)
theorem rh_new (w : World) (n : Nat) (d : ByteArray) : Rh (w.alloc (.cells #[.int .u64 (n : Int), .string d] 32)) w.heap.size n d := heap_alloc_new w _
def putR (w : World) (g n : Nat) (d : ByteArray) : World := (w.setCell ⟨g, 0, none⟩ (.int .u64 (n : Int))).setCell ⟨g, 1, none⟩ (.string d)
theorem Rh.put (t : Rh w g n d) (n' : Nat) (d' : ByteArray) : Rh (putR w g n' d') g n' d' := by
  have h0 := heap_setCell_same w g 0 _ _ (.int .u64 (n' : Int)) t
  exact heap_setCell_same _ g 1 _ _ (.string d') h0
theorem putR_ch (w : World) (g n : Nat) (d : ByteArray) : ChT (fun x => x = g) w (putR w g n d) := ((ChT.refl (fun x => x = g) w).set g 0 _ rfl).set g 1 _ rfl
end
structure K3 (w : World) (s0 : Nat) (kd k : Int) (old size : Nat) (vs vd : Value) (n1 : Nat) (d1 : ByteArray) (n2 : Nat) (d2 : ByteArray) : Prop where
  six : Six w s0 (.int .i64 kd) (.int .i64 k) (.int .u64 (old : Int)) (.int .u64 (size : Int)) vs vd
  r1 : Rh w (s0 + 1) n1 d1
  r2 : Rh w (s0 + 2) n2 d2
section
variable {w W : World} {s0 : Nat} {kd k : Int} {old size : Nat} {vs vd : Value} {n1 n2 : Nat} {d1 d2 : ByteArray}
theorem K3.next (h : K3 w s0 kd k old size vs vd n1 d1 n2 d2) (hb : Below w.heap.size w W) : K3 W s0 kd k old size vs vd n1 d1 n2 d2 := ⟨h.six.next hb, h.r1.next hb, h.r2.next hb⟩
theorem K3.put1 (h : K3 w s0 kd k old size vs vd n1 d1 n2 d2) (n : Nat) (d : ByteArray) : K3 (putR w (s0 + 1) n d) s0 kd k old size vs vd n d n2 d2 := by
  have hc := putR_ch w (s0 + 1) n d
  exact ⟨h.six.same (hc.block s0 (by omega)), h.r1.put n d, h.r2.same (hc.block (s0 + 2) (by omega))⟩
theorem K3.put2 (h : K3 w s0 kd k old size vs vd n1 d1 n2 d2) (n : Nat) (d : ByteArray) : K3 (putR w (s0 + 2) n d) s0 kd k old size vs vd n1 d1 n d := by
  have hc := putR_ch w (s0 + 2) n d
  exact ⟨h.six.same (hc.block s0 (by omega)), h.r1.same (hc.block (s0 + 1) (by omega)), h.r2.put n d⟩
theorem k3_start (w : World) (kd k : Int) (old size : Nat) (vs vd : Value) {W0 : World} (h : ((w.alloc (.cells #[.int .i64 kd, .int .i64 k, .int .u64 (old : Int), .int .u64 (size : Int), vs, vd] 38)).alloc (.cells #[.int .u64 0, .string ⟨#[]⟩] 32)).alloc (.cells #[.int .u64 0, .string ⟨#[]⟩] 32) = W0) :
    K3 W0 w.heap.size kd k old size vs vd 0 ⟨#[]⟩ 0 ⟨#[]⟩ ∧ Below w.heap.size w W0 := by
  subst h
  refine ⟨⟨?_, ?_, ?_⟩, bal (bal (bal (Below.refl _ _) _) _) _⟩
  · exact (six_new w _ _ _ _ _ _).next (bal (bal (Below.refl _ _) _) _)
  · have := rh_new (w.alloc (.cells #[.int .i64 kd, .int .i64 k, .int .u64 (old : Int), .int .u64 (size : Int), vs, vd] 38)) 0 ⟨#[]⟩
    rw [World.size_alloc] at this
    exact this.next (bal (Below.refl _ _) _)
  · have := rh_new ((w.alloc (.cells #[.int .i64 kd, .int .i64 k, .int .u64 (old : Int), .int .u64 (size : Int), vs, vd] 38)).alloc (.cells #[.int .u64 0, .string ⟨#[]⟩] 32)) 0 ⟨#[]⟩
    rw [World.size_alloc, World.size_alloc] at this
    exact this
end
def okK (kd k : Int) (old size ns : Nat) (D : List ByteArray) : Prop := isK kd k old size ns ∧ fil k (kb old size).length D
instance (kd k : Int) (old size ns : Nat) (D : List ByteArray) : Decidable (okK kd k old size ns D) := by unfold okK; infer_instance
set_option maxRecDepth 100000 in
set_option maxHeartbeats 1000000 in
theorem kroots_no (w : World) (kd k : Int) (old size : Nat) (sa : Option Addr) (ns sc : Nat) (da : Option Addr) (db dO dc : Nat) (D : List ByteArray) (hr : RdS w da db dO D.length D) (hm : D.length ≤ 8796093022208) (hno : ¬ okK kd k old size ns D) :
    Calls Tryz.prog 39 #[vP kd k old size (.slice sa ns sc) (.slice da D.length dc)] w fun e w' => e = .returned (.tuple #[noR, noR, .int .i64 150]) ∧ Below w.heap.size w w' := by
  obtain ⟨W0, hW0⟩ : ∃ W0, ((w.alloc (.cells #[.int .i64 kd, .int .i64 k, .int .u64 (old : Int), .int .u64 (size : Int), .slice sa ns sc, .slice da D.length dc] 38)).alloc (.cells #[.int .u64 0, .string ⟨#[]⟩] 32)).alloc (.cells #[.int .u64 0, .string ⟨#[]⟩] 32) = W0 := ⟨_, rfl⟩
  obtain ⟨h3, hb⟩ := k3_start w kd k old size (.slice sa ns sc) (.slice da D.length dc) hW0
  obtain ⟨c0, c1, c2, c3, c4, c5⟩ := h3.six.cells
  have H3 := hide h3
  by_cases h1 : isK kd k old size ns
  · have h2 : ¬ fil k (kb old size).length D := fun h => hno ⟨h1, h⟩
    have HI : Hid (∀ W, Calls Tryz.prog 74 #[vP kd k old size (.slice sa ns sc) (.slice da D.length dc)] W fun e w' => e = .returned (.bool true) ∧ Below W.heap.size W w') := fun W => isk_core W kd k old size sa ns sc da D.length dc true (decide_eq_true h1)
    have HBk : Hid (∀ W, Calls Tryz.prog 31 #[.int .u64 (old : Int), .int .u64 (size : Int)] W fun e w' => ∃ ao cap, e = .returned (.slice ao (kb old size).length cap) ∧ Below W.heap.size W w') := fun W => (blocksof_any W old size h1.2.2.1 h1.2.1).mono fun e w' ⟨v, e1, e2, e3⟩ => by
      obtain ⟨ao, n', cap, rfl⟩ := Cv.own_slice e2
      rcases e2.2 with ⟨q1, q2⟩ | ⟨_, _, _, q1, _⟩
      · obtain ⟨rfl, rfl, rfl⟩ := Value.slice.inj q1
        rw [Cv.zl_len] at q2
        rw [q2]
        exact ⟨_, _, e1, e3⟩
      · obtain ⟨rfl, rfl, rfl⟩ := Value.slice.inj q1
        rw [Cv.zl_len] at e1
        exact ⟨_, _, e1, e3⟩
    have HF : Hid (∀ W ao c, Below w.heap.size w W → Calls Tryz.prog 75 #[.slice ao (kb old size).length c, vP kd k old size (.slice sa ns sc) (.slice da D.length dc)] W fun e w' => e = .returned (.bool false) ∧ Below W.heap.size W w') := fun W ao c hb => kfilled_core W kd k old size sa ns sc da db dO dc D (hr.next hb (Nat.le_refl _)) hm ao (kb old size).length c false (decide_eq_false h2)
    clear hr hm hno h1 h2 h3
    unfold vP at HI HF
    unfold vP
    go_enter Tryz.func39, Tryz.ntmps39
    go_wp2_with (first
      | (go_at_call 74; with_reducible refine (HI.out _).mono ?_; rintro e w1 ⟨rfl, hb1⟩; obtain ⟨d0, d1, d2, d3, d4, d5⟩ := (H3.out.next hb1).six.cells)
      | (go_at_call 31; with_reducible refine (HBk.out _).mono ?_; rintro e w2 ⟨ao, cap, rfl, hb2⟩; obtain ⟨g0, g1, g2, g3, g4, g5⟩ := (H3.out.next (bnext hb1 hb2)).six.cells)
      | (go_at_call 75; with_reducible refine (HF.out _ _ _ (bnext (bnext hb hb1) hb2)).mono ?_; rintro e w3 ⟨rfl, hb3⟩; have hK := H3.out.next (bnext (bnext hb1 hb2) hb3); obtain ⟨k0, k1⟩ := hK.r1.cells; obtain ⟨k2, k3⟩ := hK.r2.cells; have f0 := hK.r1.fz; have f1 := hK.r2.fz))
    have hK1 := (hK.put1 0 ⟨#[]⟩).put2 0 ⟨#[]⟩
    have hc1 := putR_ch w3 (w.heap.size + 1) 0 ⟨#[]⟩
    have hc2 := putR_ch (putR w3 (w.heap.size + 1) 0 ⟨#[]⟩) (w.heap.size + 2) 0 ⟨#[]⟩
    unfold putR at hK1 hc1 hc2
    rw [show ((0 : Nat) : Int) = 0 from rfl] at hK1 hc1 hc2
    obtain ⟨s0, s1⟩ := hK1.r1.cells
    obtain ⟨s2, s3⟩ := hK1.r2.cells
    refine bodyPost_ret (v := .tuple #[noR, noR, .int .i64 150]) (by simp [results, Tryz.results39, go_sem, s0, s1, s2, s3]) rfl ⟨rfl, ?_⟩
    exact ((bnext (bnext (bnext hb hb1) hb2) hb3).trans (hc1.below (by rintro b rfl; omega))).trans (hc2.below (by rintro b rfl; omega))
  · have HI : Hid (∀ W, Calls Tryz.prog 74 #[vP kd k old size (.slice sa ns sc) (.slice da D.length dc)] W fun e w' => e = .returned (.bool false) ∧ Below W.heap.size W w') := fun W => isk_core W kd k old size sa ns sc da D.length dc false (decide_eq_false h1)
    clear hr hm hno h1 h3
    unfold vP at HI
    unfold vP
    go_enter Tryz.func39, Tryz.ntmps39
    go_wp2_with (go_at_call 74; with_reducible refine (HI.out _).mono ?_; rintro e w3 ⟨rfl, hb3⟩; have hK := H3.out.next hb3; obtain ⟨k0, k1⟩ := hK.r1.cells; obtain ⟨k2, k3⟩ := hK.r2.cells; have f0 := hK.r1.fz; have f1 := hK.r2.fz)
    have hK1 := (hK.put1 0 ⟨#[]⟩).put2 0 ⟨#[]⟩
    have hc1 := putR_ch w3 (w.heap.size + 1) 0 ⟨#[]⟩
    have hc2 := putR_ch (putR w3 (w.heap.size + 1) 0 ⟨#[]⟩) (w.heap.size + 2) 0 ⟨#[]⟩
    unfold putR at hK1 hc1 hc2
    rw [show ((0 : Nat) : Int) = 0 from rfl] at hK1 hc1 hc2
    obtain ⟨s0, s1⟩ := hK1.r1.cells
    obtain ⟨s2, s3⟩ := hK1.r2.cells
    refine bodyPost_ret (v := .tuple #[noR, noR, .int .i64 150]) (by simp [results, Tryz.results39, go_sem, s0, s1, s2, s3]) rfl ⟨rfl, ?_⟩
    exact ((bnext hb hb3).trans (hc1.below (by rintro b rfl; omega))).trans (hc2.below (by rintro b rfl; omega))
end Go.Proofs.YtipcenbndhnnhaaGreatDoor
