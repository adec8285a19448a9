/-
  CodecBack. Own work. (written by mkBack.py)
-/
import Derived.Test.YtelglfmppmdmoaaGBackA
namespace Go.Proofs.Ytelglfmppmdmoaa
open Go.RowKit
attribute [local go_sem ↓] Go.wp_at_zero Go.wp_at_succ
set_option maxRecDepth 100000 in
set_option maxHeartbeats 8000000 in
theorem back_walk (w : World) (sa : Option Addr) (sb so sc : Nat) (da : Option Addr) (db dO dc : Nat) (P : PV) (hp : RdP w sa sb so sc da db dO dc P) (hns : sa = none → sc = 0) (hnd : da = none → dc = 0) (s : ByteArray) (hs : s.size ≤ 140737488355328) (a : Int) :
    Calls Try.prog 3 #[pvP P sa sc da dc, .string s, .int .i64 a] w fun e w' => e = .returned (.bool true) ∧ Below w.heap.size w w' := by
  obtain ⟨W, hW, h6, hb, _⟩ := box6 w (.int .i64 P.kd) (.int .i64 P.k) (.int .u64 (P.old : Int)) (.int .u64 (P.size : Int)) (.slice sa P.S.length sc) (.slice da P.D.length dc)
  have HX : Hid (∀ F, Below W.heap.size W F → RdP F sa sb so sc da db dO dc P ∧ Six F w.heap.size (.int .i64 P.kd) (.int .i64 P.k) (.int .u64 (P.old : Int)) (.int .u64 (P.size : Int)) (.slice sa P.S.length sc) (.slice da P.D.length dc) ∧ Below w.heap.size w F) := fun F hF => ⟨hp.next (bnext hb hF), h6.next hF, bnext hb hF⟩
  have HS : Hid (s.size ≤ 140737488355328) := hs
  have HNN : Hid ((sa = none → sc = 0) ∧ (da = none → dc = 0)) := ⟨hns, hnd⟩
  clear hp h6 hb hs hns hnd
  simp only [pvP, pv6]
  go_enter Try.func3, Try.ntmps3
  go_upto_region 3 with (go_at_call 9; (try rw [hW]); with_reducible refine (fixed_any _).mono ?_; rintro x w1 ⟨rfl, hb1⟩)
  clear hW
  rcases hd : dec s.data.toList with _ | Q
  · have HD := decode_none w1 s (by have := HS.out; omega) hd
    clear hd
    go_upto_region 4 with (go_at_call 10; with_reducible refine HD.mono ?_; rintro x w2 ⟨rfl, hb2⟩)
    obtain ⟨F, hF, h7, hb3, _⟩ := box6 w2 (.int .i64 0) (.int .i64 0) (.int .u64 0) (.int .u64 0) (.slice none 0 0) (.slice none 0 0)
    try rw [hF]
    clear hF HD
    have hbF : Below W.heap.size W F := bnext (bnext hb1 hb2) hb3
    obtain ⟨m0, m1, m2, m3, m4, m5⟩ := h7.cells
    have HN : Calls Try.prog 13 #[.agg #[.int .i64 0, .int .i64 0, .int .u64 0, .int .u64 0, .slice none 0 0, .slice none 0 0], .agg #[.int .i64 0, .int .i64 0, .int .u64 0, .int .u64 0, .slice none 0 0, .slice none 0 0]] F fun e w' => e = .returned (.bool true) ∧ Below F.heap.size F w' :=
      same_yes F none 0 0 0 none 0 0 0 none 0 0 0 none 0 0 0 noV (rdp_no F) (rdp_no F)
    clear h7 hb1 hb2 hb3
    go_upto_region 11 with (go_at_call 13; with_reducible refine HN.mono ?_; rintro x w5 ⟨rfl, hb5⟩)
    have hbG : Below W.heap.size W w5 := bnext hbF hb5
    clear HN hbF hb5 m0 m1 m2 m3 m4 m5
    obtain ⟨x1, x2, x3⟩ := HX.out _ hbG
    obtain ⟨e0, e1, e2, e3, e4, e5⟩ := x2.cells
    by_cases hw : Well P
    · have HE := encode_yes w5 sa sb so sc da db dO dc P x1 hw
      obtain ⟨t, ht⟩ : ∃ t, (⟨(enc P).toArray⟩ : ByteArray) = t := ⟨_, rfl⟩
      have ht1 : t.data.toList = enc P := by rw [← ht, ba_list]
      have hlen := enc_len hw
      have hpos := enc_pos P
      have htz : t.size = (enc P).length := by rw [← ht, ba_size]
      rw [ht] at HE
      simp only [pvP, pv6] at HE
      have HT : Hid (Well P ∧ t.data.toList = enc P ∧ t.size ≤ 70368744177664 ∧ 2 ≤ t.size) := ⟨hw, ht1, by omega, by omega⟩
      have hz1 : (t.size : Int) ≤ 70368744177664 := by omega
      have hz2 : (2 : Int) ≤ (t.size : Int) := by omega
      have hko := cnt_ok hw.1
      obtain ⟨kn, hkn⟩ : ∃ kn : Nat, P.k = (kn : Int) := ⟨P.k.toNat, by have := hko.k1; omega⟩
      have HK : Hid (1 ≤ kn ∧ kn ≤ 32 ∧ P.S.length ≤ 1099511627776 ∧ P.D.length ≤ 1099511627776 ∧ P.k = (kn : Int)) := by
        have i1 := hko.k1; have i2 := hko.k32; have i3 := hko.len; have i4 := hko.hsz; have i5 := hko.hc
        exact ⟨by omega, by omega, by omega, i5, hkn⟩
      have hSl : (P.S.length : Int) ≤ 1099511627776 := by have := HK.out; omega
      have hDl : (P.D.length : Int) ≤ 1099511627776 := by have := HK.out; omega
      have HWl : Hid (∀ F, Below W.heap.size W F → Calls Try.prog 14 #[.agg #[.int .i64 P.kd, .int .i64 P.k, .int .u64 (P.old : Int), .int .u64 (P.size : Int), .slice sa P.S.length sc, .slice da P.D.length dc]] F fun e w' => e = .returned (.bool true) ∧ Below F.heap.size F w') := fun F hF => by
        have := rwell_any F sa sb so sc da db dO dc P (HX.out F hF).1
        rw [decide_eq_true hw] at this
        exact this
      have HL : Hid (∀ F, Below W.heap.size W F → Calls Try.prog 15 #[.agg #[.int .i64 P.kd, .int .i64 P.k, .int .u64 (P.old : Int), .int .u64 (P.size : Int), .slice sa P.S.length sc, .slice da P.D.length dc]] F fun e w' => ∃ gs cs gd cd, e = .returned (.agg #[.int .i64 P.kd, .int .i64 P.k, .int .u64 (P.old : Int), .int .u64 (P.size : Int), .slice (some ⟨gs, 0, none⟩) P.S.length cs, .slice (some ⟨gd, 0, none⟩) P.D.length cd]) ∧ Cv.Own w' F.heap.size (.slice (some ⟨gs, 0, none⟩) (P.S.length + 2) cs) (P.S ++ [7000000, 7000001]) ∧ OwnS w' F.heap.size (.slice (some ⟨gd, 0, none⟩) (P.D.length + 2) cd) (P.D ++ [oneB, twoB]) ∧ P.S.length + 2 ≤ cs ∧ P.D.length + 2 ≤ cd ∧ Below F.heap.size F w') := fun F hF => by
        have r := (HX.out F hF).1
        have := HK.out
        exact lent_any F P.kd P.k P.old P.size sa sb so sc P.S r.rs HNN.out.1 (by omega) da db dO dc P.D r.rd HNN.out.2 (by omega)
      clear hw ht ht1 hlen hpos htz x1 x2 x3 hko hkn
      go_upto_region 14 with (go_at_call 11; with_reducible refine HE.mono ?_; rintro x w6' ⟨rfl, hb6⟩)
      have hw6 : Below W.heap.size W w6' := bnext hbG hb6
      have HD := decode_some w6' t (by have := HT.out; omega) P (by rw [HT.out.2.1]; exact dec_enc HT.out.1)
      clear HE e0 e1 e2 e3 e4 e5 hbG hb6
      go_upto_region 15 with (go_at_call 10; (refine HD.mono ?_); rintro x w7 ⟨za, zb, zc, ua, ub, uc, rfl, z1, hb7⟩)
      obtain ⟨G, hG, h9, hb8, _⟩ := box6 w7 (.int .i64 P.kd) (.int .i64 P.k) (.int .u64 (P.old : Int)) (.int .u64 (P.size : Int)) (.slice za P.S.length zc) (.slice ua P.D.length uc)
      try rw [hG]
      clear hG HD
      have hbG : Below W.heap.size W G := bnext (bnext hw6 hb7) hb8
      obtain ⟨x1, x2, x3⟩ := HX.out _ hbG
      have HSm := same_yes G _ _ _ _ _ _ _ _ _ _ _ _ _ _ _ _ P x1 (z1.next hb8)
      simp only [pvP, pv6] at HSm
      obtain ⟨e0, e1, e2, e3, e4, e5⟩ := x2.cells
      obtain ⟨m0, m1, m2, m3, m4, m5⟩ := h9.cells
      have htn : ((t.size : Int) == 0) = false := beq_eq_false_iff_ne.2 (by omega)
      clear x1 x2 x3 z1 hb7 hb8 hw6 h9
      go_upto_region 17 with (first
        | (go_at_call 13; with_reducible refine HSm.mono ?_; rintro x w10 ⟨rfl, hb10⟩; (have hw10 := bnext hbG hb10); (obtain ⟨j1, j2, j3⟩ := HX.out _ hw10); (obtain ⟨e0', e1', e2', e3', e4', e5'⟩ := j2.cells); clear j1 j2 j3)
        | (go_at_call 14; with_reducible refine (HWl.out _ hw10).mono ?_; rintro x w11 ⟨rfl, hb11⟩; (have hw11 := bnext hw10 hb11)))
      clear HSm HWl m0 m1 m2 m3 m4 m5 hb10 hw10 hb11 hbG e0 e1 e2 e3 e4 e5 e0' e1' e2' e3' e4' e5'
      obtain ⟨r, j, hr, hr1, hr2, hj1, hj2⟩ := cut_at a t.size (by have := HT.out; omega)
      have hj3 : (j : Int) ≤ (t.size : Int) := by omega
      have hj0 : (0 : Int) ≤ (j : Int) := Int.natCast_nonneg _
      have hn0 : ¬ (t.size : Int) = 0 := by omega
      have HD1 := fun F' => decode_none F' (t.extract 0 j) (by have := ext_size t j; have := HT.out; omega) (dec_less HT.out.1 HT.out.2.1 hj2)
      have HD2 := fun F' => decode_none F' (t ++ ⟨#[0]⟩) (by have := HT.out; rw [ByteArray.size_append]; show t.size + 1 ≤ _; omega) (dec_nul HT.out.1 HT.out.2.1)
      clear htn
      go_upto_region 18 with (fail)
      go_upto_region 19 with (go_at_call 10; (refine (HD1 _).mono ?_); rintro x w12 ⟨rfl, hb12⟩)
      clear HD1
      go_upto_region 20 with (go_at_call 10; (refine (HD2 _).mono ?_); rintro x w13 ⟨rfl, hb13⟩)
      obtain ⟨G2, hG2, _, hb14, _⟩ := box6 w13 (.int .i64 0) (.int .i64 0) (.int .u64 0) (.int .u64 0) (.slice none 0 0) (.slice none 0 0)
      try rw [hG2]
      clear hG2 HD2 hr hr1 hr2 hj1 hj2 hj3 hj0 hn0
      have hw14 : Below W.heap.size W G2 := bnext (bnext (bnext hw11 hb12) hb13) hb14
      clear hw11 hb12 hb13 hb14
      obtain ⟨j1, j2, j3⟩ := HX.out _ hw14
      obtain ⟨e0, e1, e2, e3, e4, e5⟩ := j2.cells
      clear j1 j2 j3
      go_upto_region 21 with (go_at_call 15; with_reducible refine (HL.out _ hw14).mono ?_; rintro x w15 ⟨gs, cs, gd, cd, rfl, o1, o2, hc1, hc2, hb15⟩)
      obtain ⟨Z, hZ, h16, hb16, hz16⟩ := box6 w15 (.int .i64 P.kd) (.int .i64 P.k) (.int .u64 (P.old : Int)) (.int .u64 (P.size : Int)) (.slice (some ⟨gs, 0, none⟩) P.S.length cs) (.slice (some ⟨gd, 0, none⟩) P.D.length cd)
      try rw [hZ]
      clear hZ e0 e1 e2 e3 e4 e5 hz16
      have hwZ : Below W.heap.size W Z := bnext (bnext hw14 hb15) hb16
      have HC : Hid (∀ F, Below Z.heap.size Z F → (F.cell? ⟨w15.heap.size, 5, none⟩ = some (.slice (some ⟨gd, 0, none⟩) P.D.length cd) ∧ F.cell? ⟨w.heap.size, 5, none⟩ = some (.slice da P.D.length dc) ∧ F.cell? ⟨w.heap.size, 1, none⟩ = some (.int .i64 (kn : Int)))) := fun F hF => by
        have k1 := (h16.next hF).cells
        have k2 := (HX.out F (bnext hwZ hF)).2.1.cells
        exact ⟨k1.2.2.2.2.2, k2.2.2.2.2.2, by rw [← HK.out.2.2.2.2]; exact k2.2.1⟩
      have HF6 : Hid (∀ F, Below Z.heap.size Z F → Six F w15.heap.size (.int .i64 P.kd) (.int .i64 P.k) (.int .u64 (P.old : Int)) (.int .u64 (P.size : Int)) (.slice (some ⟨gs, 0, none⟩) P.S.length cs) (.slice (some ⟨gd, 0, none⟩) P.D.length cd)) := fun F hF => h16.next hF
      have HRd : Hid (∀ F, Below Z.heap.size Z F → Cv.Own F G2.heap.size (.slice (some ⟨gs, 0, none⟩) (P.S.length + 2) cs) (P.S ++ [7000000, 7000001]) ∧ OwnS F G2.heap.size (.slice (some ⟨gd, 0, none⟩) (P.D.length + 2) cd) (P.D ++ [oneB, twoB])) := fun F hF => ⟨Cv.ownB_next (Cv.ownB_next o1 hb16) hF, own_next (own_next o2 hb16 (Nat.le_refl _)) hF (Nat.le_refl _)⟩
      have hgs : gs < w15.heap.size := (World.ownsRow.lt o1 gs rfl).2
      have hzW : W.heap.size ≤ w15.heap.size ∧ w15.heap.size < Z.heap.size := ⟨(bnext hw14 hb15).size, h16.lt⟩
      have HG : Hid (gs < w15.heap.size ∧ W.heap.size ≤ w15.heap.size ∧ w15.heap.size < Z.heap.size ∧ Below W.heap.size W Z ∧ (∀ d ∈ P.D, d.size ≤ 9223372036854775807)) := ⟨hgs, hzW.1, hzW.2, hwZ, fun d hd => by have := HT.out.1.2 d hd; have := HK.out; omega⟩
      have hcdI : (P.D.length : Int) ≤ (cd : Int) := by omega
      have hD0 : (0 : Int) ≤ (P.D.length : Int) := Int.natCast_nonneg _
      have hZd : Below Z.heap.size Z Z.drew := (Below.refl Z.heap.size Z).drew
      obtain ⟨q1, q2, q3⟩ := HC.out _ hZd
      have hmk := make_bytes kn HK.out.2.1 Z.drew
      have hcv := conv_zero Z.drew kn
      obtain ⟨M, hM⟩ : ∃ M, Z.drew.alloc (.cells (List.replicate kn (Value.int .u8 0)).toArray 5) = M := ⟨_, rfl⟩
      rw [hM] at hmk hcv
      have hcv : (convert 38 9 (.slice (some ⟨Z.heap.size, 0, none⟩) kn kn)).run Try.prog M = .ok (.string (zB kn)) M := hcv
      have hmk : (Instr.makeSlice 38 (.int .i64 (kn : Int)) (.int .i64 (kn : Int))).run Try.prog Z.drew = .ok (.slice (some ⟨Z.heap.size, 0, none⟩) kn kn) M := hmk
      have hBM : Below Z.heap.size Z M := by rw [← hM]; exact bal hZd _
      obtain ⟨i0, hi0, hi1, hi2, hi3⟩ := info_parts Try.infoS
      have HI : Hid (Try.prog.info? 9 = some i0 ∧ i0.zero = some (.string ByteArray.empty) ∧ i0.size = 1 ∧ i0.bytes = 16) := ⟨hi0, hi1, hi2, hi3⟩
      have HOld : Hid (∀ b, some (⟨gd, 0, none⟩ : Addr) = some b → ∀ j u, (P.D.map Value.string)[j]? = some u → (M.alloc (.cells #[.string (zB kn)] 9)).cell? (b.add j) = some u) := by
        rintro b hb j u hu
        cases hb
        rw [Addr.add_mid]
        exact (own_rds (HRd.out _ (bal hBM (.cells #[.string (zB kn)] 9))).2 HG.out.2.2.2.2).rng j u hu
      have HNew : Hid (∀ j u, [Value.string (zB kn)][j]? = some u → (M.alloc (.cells #[.string (zB kn)] 9)).cell? ((⟨M.heap.size, 0, none⟩ : Addr).add j) = some u) := fun j u hu => by
        rw [Addr.add_mid]; exact range_new M [.string (zB kn)] 9 j u hu
      have HBM := hide hBM
      have qm := (HC.out _ hBM).1
      have qa := (HC.out _ (bal hBM (.cells #[.string (zB kn)] 9))).1
      have HC2 : Hid (∀ F x, Below Z.heap.size Z F → ((F.setCell ⟨w15.heap.size, 5, none⟩ x).cell? ⟨w.heap.size, 5, none⟩ = some (.slice da P.D.length dc) ∧ (F.setCell ⟨w15.heap.size, 5, none⟩ x).cell? ⟨w.heap.size, 1, none⟩ = some (.int .i64 (kn : Int)))) := fun F x hF => by
        have h1 := HC.out F hF
        have hne : ∀ i, (⟨w15.heap.size, 5, none⟩ : Addr) ≠ ⟨w.heap.size, i, none⟩ := fun i e => by
          have h2 := congrArg Addr.block e
          have h3 := (HX.out W (Below.refl _ _)).2.1.lt
          have h4 := HG.out.2.1
          simp at h2
          omega
        rw [World.cell?_setCell_other _ _ _ _ (hne 5), World.cell?_setCell_other _ _ _ _ (hne 1)]
        exact h1.2
      clear hM hi0 hi1 hi2 hi3 hc1 hc2 o1 o2 hb15 hb16 h16 hwZ hw14 hgs hzW
      refine wp_region_noPanic ?_
      refine wp_region_held_drew (S := fun Y => Y.cell? ⟨w.heap.size, 5, none⟩ = some (.slice da P.D.length dc) ∧ Y.cell? ⟨w.heap.size, 1, none⟩ = some (.int .i64 (kn : Int))) (by kernel_rfl) ?_ (fun hHeld => ?_)
      · exact (HC.out _ hZd).2
      refine wpAnyH_take (i := 0) (oi := ({ dst := some 131, op := Op.fieldAddr 26 (Operand.tmp 18) 5, type := 0, pos := "law.go:105", after := #[], guard := none } : Oper)) (v := ?v1) rfl (by kernel_rfl) (by kernel_rfl) (by kernel_rfl) (fun _ _ _ h => h) (Or.inl ⟨by rfl, ?y1⟩) (by assumption) ?r1
      case y1 => intro w0 hSw; (try dsimp only at hSw); go_simp <;> (try with_reducible rfl)
      try simp only [Act.put, List.setIfInBounds_toArray, List.set_cons_zero, List.set_cons_succ]
      refine wpAnyH_take (i := 2) (oi := ({ dst := some 133, op := Op.fieldAddr 26 (Operand.tmp 3) 5, type := 0, pos := "law.go:105", after := #[], guard := none } : Oper)) (v := ?v2) rfl (by kernel_rfl) (by kernel_rfl) (by kernel_rfl) (fun _ _ _ h => h) (Or.inl ⟨by rfl, ?y2⟩) (by assumption) ?r2
      case y2 => intro w0 hSw; (try dsimp only at hSw); go_simp <;> (try with_reducible rfl)
      try simp only [Act.put, List.setIfInBounds_toArray, List.set_cons_zero, List.set_cons_succ]
      refine wpAnyH_take (i := 3) (oi := ({ dst := some 134, op := Op.load 24 (Operand.tmp 133), type := 24, pos := "law.go:105", after := #[{ on := 2, ground := Ground.data }], guard := none } : Oper)) (v := ?v3) rfl (by kernel_rfl) (by kernel_rfl) (by kernel_rfl) (fun _ _ _ h => h) (Or.inl ⟨by rfl, ?y3⟩) (by assumption) ?r3
      case y3 => intro w0 hSw; (try dsimp only at hSw); go_simp <;> (try with_reducible rfl)
      try simp only [Act.put, List.setIfInBounds_toArray, List.set_cons_zero, List.set_cons_succ]
      refine wpAnyH_take (i := 4) (oi := ({ dst := some 135, op := Op.call { callee := Callee.builtin Builtin.len, args := #[Operand.tmp 134], argTypes := #[24] }, type := 3, pos := "law.go:105", after := #[{ on := 3, ground := Ground.data }], guard := none } : Oper)) (v := ?v4) rfl (by kernel_rfl) (by kernel_rfl) (by kernel_rfl) (fun _ _ _ h => h) (Or.inl ⟨by rfl, ?y4⟩) (by assumption) ?r4
      case y4 => intro w0 hSw; (try dsimp only at hSw); go_simp <;> (try with_reducible rfl)
      try simp only [Act.put, List.setIfInBounds_toArray, List.set_cons_zero, List.set_cons_succ]
      refine wpAnyH_take (i := 5) (oi := ({ dst := some 136, op := Op.fieldAddr 26 (Operand.tmp 3) 5, type := 0, pos := "law.go:105", after := #[], guard := none } : Oper)) (v := ?v5) rfl (by kernel_rfl) (by kernel_rfl) (by kernel_rfl) (fun _ _ _ h => h) (Or.inl ⟨by rfl, ?y5⟩) (by assumption) ?r5
      case y5 => intro w0 hSw; (try dsimp only at hSw); go_simp <;> (try with_reducible rfl)
      try simp only [Act.put, List.setIfInBounds_toArray, List.set_cons_zero, List.set_cons_succ]
      refine wpAnyH_take (i := 6) (oi := ({ dst := some 137, op := Op.load 24 (Operand.tmp 136), type := 24, pos := "law.go:105", after := #[{ on := 5, ground := Ground.data }], guard := none } : Oper)) (v := ?v6) rfl (by kernel_rfl) (by kernel_rfl) (by kernel_rfl) (fun _ _ _ h => h) (Or.inl ⟨by rfl, ?y6⟩) (by assumption) ?r6
      case y6 => intro w0 hSw; (try dsimp only at hSw); go_simp <;> (try with_reducible rfl)
      try simp only [Act.put, List.setIfInBounds_toArray, List.set_cons_zero, List.set_cons_succ]
      refine wpAnyH_take (i := 7) (oi := ({ dst := some 138, op := Op.call { callee := Callee.builtin Builtin.len, args := #[Operand.tmp 137], argTypes := #[24] }, type := 3, pos := "law.go:105", after := #[{ on := 6, ground := Ground.data }], guard := none } : Oper)) (v := ?v7) rfl (by kernel_rfl) (by kernel_rfl) (by kernel_rfl) (fun _ _ _ h => h) (Or.inl ⟨by rfl, ?y7⟩) (by assumption) ?r7
      case y7 => intro w0 hSw; (try dsimp only at hSw); go_simp <;> (try with_reducible rfl)
      try simp only [Act.put, List.setIfInBounds_toArray, List.set_cons_zero, List.set_cons_succ]
      refine wpAnyH_take (i := 9) (oi := ({ dst := some 140, op := Op.fieldAddr 26 (Operand.tmp 3) 1, type := 0, pos := "law.go:105", after := #[], guard := none } : Oper)) (v := ?v8) rfl (by kernel_rfl) (by kernel_rfl) (by kernel_rfl) (fun _ _ _ h => h) (Or.inl ⟨by rfl, ?y8⟩) (by assumption) ?r8
      case y8 => intro w0 hSw; (try dsimp only at hSw); go_simp <;> (try with_reducible rfl)
      try simp only [Act.put, List.setIfInBounds_toArray, List.set_cons_zero, List.set_cons_succ]
      refine wpAnyH_take (i := 10) (oi := ({ dst := some 141, op := Op.load 3 (Operand.tmp 140), type := 3, pos := "law.go:105", after := #[{ on := 9, ground := Ground.data }], guard := none } : Oper)) (v := ?v9) rfl (by kernel_rfl) (by kernel_rfl) (by kernel_rfl) (fun _ _ _ h => h) (Or.inl ⟨by rfl, ?y9⟩) (by assumption) ?r9
      case y9 => intro w0 hSw; (try dsimp only at hSw); go_simp <;> (try with_reducible rfl)
      try simp only [Act.put, List.setIfInBounds_toArray, List.set_cons_zero, List.set_cons_succ]
      refine wpAnyH_ready (rs := [1, 11]) (by kernel_rfl) (by simp) ?_
      refine AllReadyH.cons (o := ({ dst := some 132, op := Op.load 24 (Operand.tmp 131), type := 24, pos := "law.go:105", after := #[{ on := 0, ground := Ground.data }], guard := none } : Oper)) rfl (fun K hK => ?_) ?_
      go_simp
      refine hK.out _ _ ?_ (fun hHeld => ?_)
      · exact (HC.out _ hZd).2
      clear hK K
      try simp only [Act.put, List.setIfInBounds_toArray, List.set_cons_zero, List.set_cons_succ]
      refine wpAnyH_take (i := 8) (oi := ({ dst := some 139, op := Op.slice 24 (Operand.tmp 132) none (some (Operand.tmp 135)) (some (Operand.tmp 138)), type := 24, pos := "law.go:105", after := #[{ on := 1, ground := Ground.data }, { on := 4, ground := Ground.data }, { on := 7, ground := Ground.data }], guard := none } : Oper)) (v := ?v10) rfl (by kernel_rfl) (by kernel_rfl) (by kernel_rfl) (fun _ _ _ h => h) (Or.inl ⟨by rfl, ?y10⟩) (by assumption) ?r10
      case y10 => intro w0 hSw; (try dsimp only at hSw); go_simp <;> (try with_reducible rfl)
      try simp only [Act.put, List.setIfInBounds_toArray, List.set_cons_zero, List.set_cons_succ]
      refine wpAnyH_ready (rs := [11]) (by kernel_rfl) (by simp) ?_
      refine AllReadyH.cons (o := ({ dst := some 142, op := Op.makeSlice 38 (Operand.tmp 141) (Operand.tmp 141), type := 38, pos := "law.go:105", after := #[{ on := 10, ground := Ground.data }, { on := 10, ground := Ground.data }], guard := none } : Oper)) rfl (fun K hK => ?_) ?_
      go_simp
      refine hK.out _ _ ?_ (fun hHeld => ?_)
      · exact (HC.out _ HBM.out).2
      clear hK K
      try simp only [Act.put, List.setIfInBounds_toArray, List.set_cons_zero, List.set_cons_succ]
      refine wpAnyH_ready (rs := [12]) (by kernel_rfl) (by simp) ?_
      refine AllReadyH.cons (o := ({ dst := some 143, op := Op.convert 38 9 (Operand.tmp 142), type := 9, pos := "law.go:105", after := #[{ on := 11, ground := Ground.data }], guard := none } : Oper)) rfl (fun K hK => ?_) ?_
      go_simp
      refine hK.out _ _ ?_ (fun hHeld => ?_)
      · exact (HC.out _ HBM.out).2
      clear hK K
      try simp only [Act.put, List.setIfInBounds_toArray, List.set_cons_zero, List.set_cons_succ]
      refine wpAnyH_ready (rs := [13]) (by kernel_rfl) (by simp) ?_
      refine AllReadyH.cons (o := ({ dst := some 144, op := Op.buildSlice 24 1 #[(0, Operand.tmp 143)], type := 24, pos := "law.go:105", after := #[{ on := 12, ground := Ground.data }], guard := none } : Oper)) rfl (fun K hK => ?_) ?_
      go_simp
      refine hK.out _ _ ?_ (fun hHeld => ?_)
      · exact (HC.out _ (bal HBM.out _)).2
      clear hK K
      try simp only [Act.put, List.setIfInBounds_toArray, List.set_cons_zero, List.set_cons_succ]
      refine wpAnyH_ready (rs := [14]) (by kernel_rfl) (by simp) ?_
      refine AllReadyH.cons (o := ({ dst := some 145, op := Op.call { callee := Callee.builtin Builtin.append, args := #[Operand.tmp 139, Operand.tmp 144], argTypes := #[24, 24] }, type := 24, pos := "law.go:105", after := #[{ on := 8, ground := Ground.data }, { on := 13, ground := Ground.data }], guard := none } : Oper)) rfl (fun K hK => ?_) ?_
      refine step_append_grows (P := Try.prog) (by rfl) _ _ _ (by rfl) 9 i0 (.string ByteArray.empty) 1 16 Try.underlying24 HI.out.1 HI.out.2.1 HI.out.2.2.1 HI.out.2.2.2 rfl (by decide) (some ⟨gd, 0, none⟩) P.D.length P.D.length (P.D.map Value.string) (by rfl) (fun h => by cases h) (by simp) HOld.out ⟨M.heap.size, 0, none⟩ 1 1 [.string (zB kn)] (by rfl) rfl HNew.out (by simp [Value.oneCell']) (by omega) (by have := HK.out; unfold maxLen; omega) (by have := HK.out; omega) ?_
      intro v' w3 o3 g3
      have hB3 : Below Z.heap.size Z w3 := bnext (bal HBM.out _) ((Below.refl _ _).grown g3 (Nat.le_refl _) (fun k hk => by cases hk))
      have f3 := (HF6.out _ hB3).fz 5
      have c3 := (HC.out _ hB3).1
      obtain ⟨va, vm, vc, rfl⟩ := Cv.own_slice o3
      refine hK.out _ _ ?_ (fun hHeld => ?_)
      · exact (HC.out _ hB3).2
      clear hK K
      try simp only [Act.put, List.setIfInBounds_toArray, List.set_cons_zero, List.set_cons_succ]
      refine wpAnyH_take (i := 15) (oi := ({ dst := some 146, op := Op.fieldAddr 26 (Operand.tmp 18) 5, type := 0, pos := "law.go:105", after := #[{ on := 0, ground := Ground.phase }, { on := 1, ground := Ground.phase }, { on := 2, ground := Ground.phase }, { on := 3, ground := Ground.phase }, { on := 4, ground := Ground.phase }, { on := 5, ground := Ground.phase }, { on := 6, ground := Ground.phase }, { on := 7, ground := Ground.phase }, { on := 8, ground := Ground.phase }, { on := 9, ground := Ground.phase }, { on := 10, ground := Ground.phase }, { on := 11, ground := Ground.phase }, { on := 12, ground := Ground.phase }, { on := 13, ground := Ground.phase }, { on := 14, ground := Ground.phase }], guard := none } : Oper)) (v := ?v11) rfl (by kernel_rfl) (by kernel_rfl) (by kernel_rfl) (fun _ _ _ h => h) (Or.inl ⟨by rfl, ?y11⟩) (by assumption) ?r11
      case y11 => intro w0 hSw; (try dsimp only at hSw); go_simp <;> (try with_reducible rfl)
      try simp only [Act.put, List.setIfInBounds_toArray, List.set_cons_zero, List.set_cons_succ]
      refine wpAnyH_ready (rs := [16]) (by kernel_rfl) (by simp) ?_
      refine AllReadyH.cons (o := ({ dst := none, op := Op.store 24 (Operand.tmp 146) (Operand.tmp 145), type := 0, pos := "law.go:105", after := #[{ on := 15, ground := Ground.data }, { on := 14, ground := Ground.data }, { on := 14, ground := Ground.chain }, { on := 0, ground := Ground.phase }, { on := 1, ground := Ground.phase }, { on := 2, ground := Ground.phase }, { on := 3, ground := Ground.phase }, { on := 4, ground := Ground.phase }, { on := 5, ground := Ground.phase }, { on := 6, ground := Ground.phase }, { on := 7, ground := Ground.phase }, { on := 8, ground := Ground.phase }, { on := 9, ground := Ground.phase }, { on := 10, ground := Ground.phase }, { on := 11, ground := Ground.phase }, { on := 12, ground := Ground.phase }, { on := 13, ground := Ground.phase }, { on := 14, ground := Ground.phase }], guard := none } : Oper)) rfl (fun K hK => ?_) ?_
      go_simp
      refine hK.out _ _ ?_ (fun hHeld => ?_)
      · exact HC2.out _ _ hB3
      clear hK K
      try simp only [Act.put, List.setIfInBounds_toArray, List.set_cons_zero, List.set_cons_succ]
      refine wpAnyH_done (by kernel_rfl) ?_ _
      refine NoPanic.normal ?_
      rotate_left
      exact AllReadyH.nil
      exact AllReadyH.nil
      exact AllReadyH.nil
      exact AllReadyH.nil
      exact AllReadyH.nil
      refine AllReadyH.cons (o := ({ dst := some 142, op := Op.makeSlice 38 (Operand.tmp 141) (Operand.tmp 141), type := 38, pos := "law.go:105", after := #[{ on := 10, ground := Ground.data }, { on := 10, ground := Ground.data }], guard := none } : Oper)) rfl (fun K hK => ?_) ?_
      go_simp
      refine hK.out _ _ ?_ (fun hHeld => ?_)
      · exact (HC.out _ HBM.out).2
      clear hK K
      try simp only [Act.put, List.setIfInBounds_toArray, List.set_cons_zero, List.set_cons_succ]
      refine wpAnyH_ready (rs := [1, 12]) (by kernel_rfl) (by simp) ?_
      refine AllReadyH.cons (o := ({ dst := some 132, op := Op.load 24 (Operand.tmp 131), type := 24, pos := "law.go:105", after := #[{ on := 0, ground := Ground.data }], guard := none } : Oper)) rfl (fun K hK => ?_) ?_
      go_simp
      refine hK.out _ _ ?_ (fun hHeld => ?_)
      · exact (HC.out _ HBM.out).2
      clear hK K
      try simp only [Act.put, List.setIfInBounds_toArray, List.set_cons_zero, List.set_cons_succ]
      refine wpAnyH_take (i := 8) (oi := ({ dst := some 139, op := Op.slice 24 (Operand.tmp 132) none (some (Operand.tmp 135)) (some (Operand.tmp 138)), type := 24, pos := "law.go:105", after := #[{ on := 1, ground := Ground.data }, { on := 4, ground := Ground.data }, { on := 7, ground := Ground.data }], guard := none } : Oper)) (v := ?v12) rfl (by kernel_rfl) (by kernel_rfl) (by kernel_rfl) (fun _ _ _ h => h) (Or.inl ⟨by rfl, ?y12⟩) (by assumption) ?r12
      case y12 => intro w0 hSw; (try dsimp only at hSw); go_simp <;> (try with_reducible rfl)
      try simp only [Act.put, List.setIfInBounds_toArray, List.set_cons_zero, List.set_cons_succ]
      refine wpAnyH_ready (rs := [12]) (by kernel_rfl) (by simp) ?_
      refine AllReadyH.cons (o := ({ dst := some 143, op := Op.convert 38 9 (Operand.tmp 142), type := 9, pos := "law.go:105", after := #[{ on := 11, ground := Ground.data }], guard := none } : Oper)) rfl (fun K hK => ?_) ?_
      go_simp
      refine hK.out _ _ ?_ (fun hHeld => ?_)
      · exact (HC.out _ HBM.out).2
      clear hK K
      try simp only [Act.put, List.setIfInBounds_toArray, List.set_cons_zero, List.set_cons_succ]
      refine wpAnyH_ready (rs := [13]) (by kernel_rfl) (by simp) ?_
      refine AllReadyH.cons (o := ({ dst := some 144, op := Op.buildSlice 24 1 #[(0, Operand.tmp 143)], type := 24, pos := "law.go:105", after := #[{ on := 12, ground := Ground.data }], guard := none } : Oper)) rfl (fun K hK => ?_) ?_
      go_simp
      refine hK.out _ _ ?_ (fun hHeld => ?_)
      · exact (HC.out _ (bal HBM.out _)).2
      clear hK K
      try simp only [Act.put, List.setIfInBounds_toArray, List.set_cons_zero, List.set_cons_succ]
      refine wpAnyH_ready (rs := [14]) (by kernel_rfl) (by simp) ?_
      refine AllReadyH.cons (o := ({ dst := some 145, op := Op.call { callee := Callee.builtin Builtin.append, args := #[Operand.tmp 139, Operand.tmp 144], argTypes := #[24, 24] }, type := 24, pos := "law.go:105", after := #[{ on := 8, ground := Ground.data }, { on := 13, ground := Ground.data }], guard := none } : Oper)) rfl (fun K hK => ?_) ?_
      refine step_append_grows (P := Try.prog) (by rfl) _ _ _ (by rfl) 9 i0 (.string ByteArray.empty) 1 16 Try.underlying24 HI.out.1 HI.out.2.1 HI.out.2.2.1 HI.out.2.2.2 rfl (by decide) (some ⟨gd, 0, none⟩) P.D.length P.D.length (P.D.map Value.string) (by rfl) (fun h => by cases h) (by simp) HOld.out ⟨M.heap.size, 0, none⟩ 1 1 [.string (zB kn)] (by rfl) rfl HNew.out (by simp [Value.oneCell']) (by omega) (by have := HK.out; unfold maxLen; omega) (by have := HK.out; omega) ?_
      intro v' w3 o3 g3
      have hB3 : Below Z.heap.size Z w3 := bnext (bal HBM.out _) ((Below.refl _ _).grown g3 (Nat.le_refl _) (fun k hk => by cases hk))
      have f3 := (HF6.out _ hB3).fz 5
      have c3 := (HC.out _ hB3).1
      obtain ⟨va, vm, vc, rfl⟩ := Cv.own_slice o3
      refine hK.out _ _ ?_ (fun hHeld => ?_)
      · exact (HC.out _ hB3).2
      clear hK K
      try simp only [Act.put, List.setIfInBounds_toArray, List.set_cons_zero, List.set_cons_succ]
      refine wpAnyH_take (i := 15) (oi := ({ dst := some 146, op := Op.fieldAddr 26 (Operand.tmp 18) 5, type := 0, pos := "law.go:105", after := #[{ on := 0, ground := Ground.phase }, { on := 1, ground := Ground.phase }, { on := 2, ground := Ground.phase }, { on := 3, ground := Ground.phase }, { on := 4, ground := Ground.phase }, { on := 5, ground := Ground.phase }, { on := 6, ground := Ground.phase }, { on := 7, ground := Ground.phase }, { on := 8, ground := Ground.phase }, { on := 9, ground := Ground.phase }, { on := 10, ground := Ground.phase }, { on := 11, ground := Ground.phase }, { on := 12, ground := Ground.phase }, { on := 13, ground := Ground.phase }, { on := 14, ground := Ground.phase }], guard := none } : Oper)) (v := ?v13) rfl (by kernel_rfl) (by kernel_rfl) (by kernel_rfl) (fun _ _ _ h => h) (Or.inl ⟨by rfl, ?y13⟩) (by assumption) ?r13
      case y13 => intro w0 hSw; (try dsimp only at hSw); go_simp <;> (try with_reducible rfl)
      try simp only [Act.put, List.setIfInBounds_toArray, List.set_cons_zero, List.set_cons_succ]
      refine wpAnyH_ready (rs := [16]) (by kernel_rfl) (by simp) ?_
      refine AllReadyH.cons (o := ({ dst := none, op := Op.store 24 (Operand.tmp 146) (Operand.tmp 145), type := 0, pos := "law.go:105", after := #[{ on := 15, ground := Ground.data }, { on := 14, ground := Ground.data }, { on := 14, ground := Ground.chain }, { on := 0, ground := Ground.phase }, { on := 1, ground := Ground.phase }, { on := 2, ground := Ground.phase }, { on := 3, ground := Ground.phase }, { on := 4, ground := Ground.phase }, { on := 5, ground := Ground.phase }, { on := 6, ground := Ground.phase }, { on := 7, ground := Ground.phase }, { on := 8, ground := Ground.phase }, { on := 9, ground := Ground.phase }, { on := 10, ground := Ground.phase }, { on := 11, ground := Ground.phase }, { on := 12, ground := Ground.phase }, { on := 13, ground := Ground.phase }, { on := 14, ground := Ground.phase }], guard := none } : Oper)) rfl (fun K hK => ?_) ?_
      go_simp
      refine hK.out _ _ ?_ (fun hHeld => ?_)
      · exact HC2.out _ _ hB3
      clear hK K
      try simp only [Act.put, List.setIfInBounds_toArray, List.set_cons_zero, List.set_cons_succ]
      refine wpAnyH_done (by kernel_rfl) ?_ _
      refine NoPanic.normal ?_
      rotate_left
      exact AllReadyH.nil
      exact AllReadyH.nil
      exact AllReadyH.nil
      exact AllReadyH.nil
      refine AllReadyH.cons (o := ({ dst := some 143, op := Op.convert 38 9 (Operand.tmp 142), type := 9, pos := "law.go:105", after := #[{ on := 11, ground := Ground.data }], guard := none } : Oper)) rfl (fun K hK => ?_) ?_
      go_simp
      refine hK.out _ _ ?_ (fun hHeld => ?_)
      · exact (HC.out _ HBM.out).2
      clear hK K
      try simp only [Act.put, List.setIfInBounds_toArray, List.set_cons_zero, List.set_cons_succ]
      refine wpAnyH_ready (rs := [1, 13]) (by kernel_rfl) (by simp) ?_
      refine AllReadyH.cons (o := ({ dst := some 132, op := Op.load 24 (Operand.tmp 131), type := 24, pos := "law.go:105", after := #[{ on := 0, ground := Ground.data }], guard := none } : Oper)) rfl (fun K hK => ?_) ?_
      go_simp
      refine hK.out _ _ ?_ (fun hHeld => ?_)
      · exact (HC.out _ HBM.out).2
      clear hK K
      try simp only [Act.put, List.setIfInBounds_toArray, List.set_cons_zero, List.set_cons_succ]
      refine wpAnyH_take (i := 8) (oi := ({ dst := some 139, op := Op.slice 24 (Operand.tmp 132) none (some (Operand.tmp 135)) (some (Operand.tmp 138)), type := 24, pos := "law.go:105", after := #[{ on := 1, ground := Ground.data }, { on := 4, ground := Ground.data }, { on := 7, ground := Ground.data }], guard := none } : Oper)) (v := ?v14) rfl (by kernel_rfl) (by kernel_rfl) (by kernel_rfl) (fun _ _ _ h => h) (Or.inl ⟨by rfl, ?y14⟩) (by assumption) ?r14
      case y14 => intro w0 hSw; (try dsimp only at hSw); go_simp <;> (try with_reducible rfl)
      try simp only [Act.put, List.setIfInBounds_toArray, List.set_cons_zero, List.set_cons_succ]
      refine wpAnyH_ready (rs := [13]) (by kernel_rfl) (by simp) ?_
      refine AllReadyH.cons (o := ({ dst := some 144, op := Op.buildSlice 24 1 #[(0, Operand.tmp 143)], type := 24, pos := "law.go:105", after := #[{ on := 12, ground := Ground.data }], guard := none } : Oper)) rfl (fun K hK => ?_) ?_
      go_simp
      refine hK.out _ _ ?_ (fun hHeld => ?_)
      · exact (HC.out _ (bal HBM.out _)).2
      clear hK K
      try simp only [Act.put, List.setIfInBounds_toArray, List.set_cons_zero, List.set_cons_succ]
      refine wpAnyH_ready (rs := [14]) (by kernel_rfl) (by simp) ?_
      refine AllReadyH.cons (o := ({ dst := some 145, op := Op.call { callee := Callee.builtin Builtin.append, args := #[Operand.tmp 139, Operand.tmp 144], argTypes := #[24, 24] }, type := 24, pos := "law.go:105", after := #[{ on := 8, ground := Ground.data }, { on := 13, ground := Ground.data }], guard := none } : Oper)) rfl (fun K hK => ?_) ?_
      refine step_append_grows (P := Try.prog) (by rfl) _ _ _ (by rfl) 9 i0 (.string ByteArray.empty) 1 16 Try.underlying24 HI.out.1 HI.out.2.1 HI.out.2.2.1 HI.out.2.2.2 rfl (by decide) (some ⟨gd, 0, none⟩) P.D.length P.D.length (P.D.map Value.string) (by rfl) (fun h => by cases h) (by simp) HOld.out ⟨M.heap.size, 0, none⟩ 1 1 [.string (zB kn)] (by rfl) rfl HNew.out (by simp [Value.oneCell']) (by omega) (by have := HK.out; unfold maxLen; omega) (by have := HK.out; omega) ?_
      intro v' w3 o3 g3
      have hB3 : Below Z.heap.size Z w3 := bnext (bal HBM.out _) ((Below.refl _ _).grown g3 (Nat.le_refl _) (fun k hk => by cases hk))
      have f3 := (HF6.out _ hB3).fz 5
      have c3 := (HC.out _ hB3).1
      obtain ⟨va, vm, vc, rfl⟩ := Cv.own_slice o3
      refine hK.out _ _ ?_ (fun hHeld => ?_)
      · exact (HC.out _ hB3).2
      clear hK K
      try simp only [Act.put, List.setIfInBounds_toArray, List.set_cons_zero, List.set_cons_succ]
      refine wpAnyH_take (i := 15) (oi := ({ dst := some 146, op := Op.fieldAddr 26 (Operand.tmp 18) 5, type := 0, pos := "law.go:105", after := #[{ on := 0, ground := Ground.phase }, { on := 1, ground := Ground.phase }, { on := 2, ground := Ground.phase }, { on := 3, ground := Ground.phase }, { on := 4, ground := Ground.phase }, { on := 5, ground := Ground.phase }, { on := 6, ground := Ground.phase }, { on := 7, ground := Ground.phase }, { on := 8, ground := Ground.phase }, { on := 9, ground := Ground.phase }, { on := 10, ground := Ground.phase }, { on := 11, ground := Ground.phase }, { on := 12, ground := Ground.phase }, { on := 13, ground := Ground.phase }, { on := 14, ground := Ground.phase }], guard := none } : Oper)) (v := ?v15) rfl (by kernel_rfl) (by kernel_rfl) (by kernel_rfl) (fun _ _ _ h => h) (Or.inl ⟨by rfl, ?y15⟩) (by assumption) ?r15
      case y15 => intro w0 hSw; (try dsimp only at hSw); go_simp <;> (try with_reducible rfl)
      try simp only [Act.put, List.setIfInBounds_toArray, List.set_cons_zero, List.set_cons_succ]
      refine wpAnyH_ready (rs := [16]) (by kernel_rfl) (by simp) ?_
      refine AllReadyH.cons (o := ({ dst := none, op := Op.store 24 (Operand.tmp 146) (Operand.tmp 145), type := 0, pos := "law.go:105", after := #[{ on := 15, ground := Ground.data }, { on := 14, ground := Ground.data }, { on := 14, ground := Ground.chain }, { on := 0, ground := Ground.phase }, { on := 1, ground := Ground.phase }, { on := 2, ground := Ground.phase }, { on := 3, ground := Ground.phase }, { on := 4, ground := Ground.phase }, { on := 5, ground := Ground.phase }, { on := 6, ground := Ground.phase }, { on := 7, ground := Ground.phase }, { on := 8, ground := Ground.phase }, { on := 9, ground := Ground.phase }, { on := 10, ground := Ground.phase }, { on := 11, ground := Ground.phase }, { on := 12, ground := Ground.phase }, { on := 13, ground := Ground.phase }, { on := 14, ground := Ground.phase }], guard := none } : Oper)) rfl (fun K hK => ?_) ?_
      go_simp
      refine hK.out _ _ ?_ (fun hHeld => ?_)
      · exact HC2.out _ _ hB3
      clear hK K
      try simp only [Act.put, List.setIfInBounds_toArray, List.set_cons_zero, List.set_cons_succ]
      refine wpAnyH_done (by kernel_rfl) ?_ _
      refine NoPanic.normal ?_
      rotate_left
      exact AllReadyH.nil
      exact AllReadyH.nil
      exact AllReadyH.nil
      refine AllReadyH.cons (o := ({ dst := some 144, op := Op.buildSlice 24 1 #[(0, Operand.tmp 143)], type := 24, pos := "law.go:105", after := #[{ on := 12, ground := Ground.data }], guard := none } : Oper)) rfl (fun K hK => ?_) ?_
      go_simp
      refine hK.out _ _ ?_ (fun hHeld => ?_)
      · exact (HC.out _ (bal HBM.out _)).2
      clear hK K
      try simp only [Act.put, List.setIfInBounds_toArray, List.set_cons_zero, List.set_cons_succ]
      refine wpAnyH_ready (rs := [1]) (by kernel_rfl) (by simp) ?_
      refine AllReadyH.cons (o := ({ dst := some 132, op := Op.load 24 (Operand.tmp 131), type := 24, pos := "law.go:105", after := #[{ on := 0, ground := Ground.data }], guard := none } : Oper)) rfl (fun K hK => ?_) ?_
      go_simp
      refine hK.out _ _ ?_ (fun hHeld => ?_)
      · exact (HC.out _ (bal HBM.out _)).2
      clear hK K
      try simp only [Act.put, List.setIfInBounds_toArray, List.set_cons_zero, List.set_cons_succ]
      refine wpAnyH_take (i := 8) (oi := ({ dst := some 139, op := Op.slice 24 (Operand.tmp 132) none (some (Operand.tmp 135)) (some (Operand.tmp 138)), type := 24, pos := "law.go:105", after := #[{ on := 1, ground := Ground.data }, { on := 4, ground := Ground.data }, { on := 7, ground := Ground.data }], guard := none } : Oper)) (v := ?v16) rfl (by kernel_rfl) (by kernel_rfl) (by kernel_rfl) (fun _ _ _ h => h) (Or.inl ⟨by rfl, ?y16⟩) (by assumption) ?r16
      case y16 => intro w0 hSw; (try dsimp only at hSw); go_simp <;> (try with_reducible rfl)
      try simp only [Act.put, List.setIfInBounds_toArray, List.set_cons_zero, List.set_cons_succ]
      refine wpAnyH_ready (rs := [14]) (by kernel_rfl) (by simp) ?_
      refine AllReadyH.cons (o := ({ dst := some 145, op := Op.call { callee := Callee.builtin Builtin.append, args := #[Operand.tmp 139, Operand.tmp 144], argTypes := #[24, 24] }, type := 24, pos := "law.go:105", after := #[{ on := 8, ground := Ground.data }, { on := 13, ground := Ground.data }], guard := none } : Oper)) rfl (fun K hK => ?_) ?_
      refine step_append_grows (P := Try.prog) (by rfl) _ _ _ (by rfl) 9 i0 (.string ByteArray.empty) 1 16 Try.underlying24 HI.out.1 HI.out.2.1 HI.out.2.2.1 HI.out.2.2.2 rfl (by decide) (some ⟨gd, 0, none⟩) P.D.length P.D.length (P.D.map Value.string) (by rfl) (fun h => by cases h) (by simp) HOld.out ⟨M.heap.size, 0, none⟩ 1 1 [.string (zB kn)] (by rfl) rfl HNew.out (by simp [Value.oneCell']) (by omega) (by have := HK.out; unfold maxLen; omega) (by have := HK.out; omega) ?_
      intro v' w3 o3 g3
      have hB3 : Below Z.heap.size Z w3 := bnext (bal HBM.out _) ((Below.refl _ _).grown g3 (Nat.le_refl _) (fun k hk => by cases hk))
      have f3 := (HF6.out _ hB3).fz 5
      have c3 := (HC.out _ hB3).1
      obtain ⟨va, vm, vc, rfl⟩ := Cv.own_slice o3
      refine hK.out _ _ ?_ (fun hHeld => ?_)
      · exact (HC.out _ hB3).2
      clear hK K
      try simp only [Act.put, List.setIfInBounds_toArray, List.set_cons_zero, List.set_cons_succ]
      refine wpAnyH_take (i := 15) (oi := ({ dst := some 146, op := Op.fieldAddr 26 (Operand.tmp 18) 5, type := 0, pos := "law.go:105", after := #[{ on := 0, ground := Ground.phase }, { on := 1, ground := Ground.phase }, { on := 2, ground := Ground.phase }, { on := 3, ground := Ground.phase }, { on := 4, ground := Ground.phase }, { on := 5, ground := Ground.phase }, { on := 6, ground := Ground.phase }, { on := 7, ground := Ground.phase }, { on := 8, ground := Ground.phase }, { on := 9, ground := Ground.phase }, { on := 10, ground := Ground.phase }, { on := 11, ground := Ground.phase }, { on := 12, ground := Ground.phase }, { on := 13, ground := Ground.phase }, { on := 14, ground := Ground.phase }], guard := none } : Oper)) (v := ?v17) rfl (by kernel_rfl) (by kernel_rfl) (by kernel_rfl) (fun _ _ _ h => h) (Or.inl ⟨by rfl, ?y17⟩) (by assumption) ?r17
      case y17 => intro w0 hSw; (try dsimp only at hSw); go_simp <;> (try with_reducible rfl)
      try simp only [Act.put, List.setIfInBounds_toArray, List.set_cons_zero, List.set_cons_succ]
      refine wpAnyH_ready (rs := [16]) (by kernel_rfl) (by simp) ?_
      refine AllReadyH.cons (o := ({ dst := none, op := Op.store 24 (Operand.tmp 146) (Operand.tmp 145), type := 0, pos := "law.go:105", after := #[{ on := 15, ground := Ground.data }, { on := 14, ground := Ground.data }, { on := 14, ground := Ground.chain }, { on := 0, ground := Ground.phase }, { on := 1, ground := Ground.phase }, { on := 2, ground := Ground.phase }, { on := 3, ground := Ground.phase }, { on := 4, ground := Ground.phase }, { on := 5, ground := Ground.phase }, { on := 6, ground := Ground.phase }, { on := 7, ground := Ground.phase }, { on := 8, ground := Ground.phase }, { on := 9, ground := Ground.phase }, { on := 10, ground := Ground.phase }, { on := 11, ground := Ground.phase }, { on := 12, ground := Ground.phase }, { on := 13, ground := Ground.phase }, { on := 14, ground := Ground.phase }], guard := none } : Oper)) rfl (fun K hK => ?_) ?_
      go_simp
      refine hK.out _ _ ?_ (fun hHeld => ?_)
      · exact HC2.out _ _ hB3
      clear hK K
      try simp only [Act.put, List.setIfInBounds_toArray, List.set_cons_zero, List.set_cons_succ]
      refine wpAnyH_done (by kernel_rfl) ?_ _
      refine NoPanic.normal ?_
      rotate_left
      exact AllReadyH.nil
      exact AllReadyH.nil
      exact AllReadyH.nil
      exact AllReadyH.nil
      exact AllReadyH.nil
      exact AllReadyH.nil
      all_goals
        have h17 := (HF6.out _ hB3).set5 (.slice va vm vc)
        have hc17 := (ChT.refl (fun b => b = w15.heap.size) w3).set w15.heap.size 5 (.slice va vm vc) rfl
        obtain ⟨w17, hw17⟩ : ∃ w17, w3.setCell ⟨w15.heap.size, 5, none⟩ (.slice va vm vc) = w17 := ⟨_, rfl⟩
        rw [hw17] at h17 hc17
        rw [hw17]
        have hB17 : Below W.heap.size W w17 := (bnext HG.out.2.2.2.1 hB3).trans (hc17.below (by rintro b rfl; exact HG.out.2.1))
        have o17 : OwnS w17 (M.alloc (.cells #[.string (zB kn)] 9)).heap.size (.slice va vm vc) (P.D ++ [zB kn]) := by
          have o4 : OwnS w3 (M.alloc (.cells #[.string (zB kn)] 9)).heap.size (.slice va vm vc) (P.D ++ [zB kn]) := by
            rw [OwnS, List.length_append, List.map_append]; exact o3
          refine keep_row o4 fun g hg _ => hc17.block g ?_
          have h1 := (World.ownsRow.lt o3 g hg).1
          have h2 := (bal HBM.out (.cells #[.string (zB kn)] 9)).size
          have h3 := HG.out.2.2.1
          show ¬ _ = _
          omega
        obtain ⟨ao, b, cap, hv, r17, hcap, _⟩ := owns_rds o17 (fun d hd => by
          rcases List.mem_append.1 hd with hd | hd
          · exact HG.out.2.2.2.2 d hd
          · rw [List.mem_singleton.1 hd, zB_size]; have := HK.out; omega)
        injection hv with hv1 hv2 hv3
        subst hv1 hv3
        have u17 : RdU w17 (some ⟨gs, 0, none⟩) gs 0 P.S.length P.S := by
          have o5 := (HRd.out _ hB3).1
          have o6 : Cv.Own w17 G2.heap.size (.slice (some ⟨gs, 0, none⟩) (P.S.length + 2) cs) (P.S ++ [7000000, 7000001]) := by
            refine keep_row o5 fun g hg _ => hc17.block g ?_
            have h0 : gs = g := by injection hg
            have h1 := HG.out.1
            show ¬ g = w15.heap.size
            omega
          exact own_rdu (l' := [7000000, 7000001]) o6
        have x1 := (HX.out _ hB17).1
        have rdm : RdP w17 (some ⟨gs, 0, none⟩) gs 0 cs va b 0 vc ⟨P.kd, P.k, P.old, P.size, P.S, P.D ++ [zB kn]⟩ := ⟨u17, r17, x1.old64, x1.sz64, x1.mS, by have := HK.out; simp only [List.length_append, List.length_singleton]; omega, hcap⟩
        have HEm := encode_no w17 _ _ _ _ _ _ _ _ _ rdm (not_well HT.out.1 (by simp))
        simp only [pvP, pv6] at HEm
        rw [← hv2] at HEm
        clear hv2
        obtain ⟨m0, m1, m2, m3, m4, m5⟩ := h17.cells
        have HB17 := hide hB17
        clear q1 q2 q3 qm qa c3 f3 o3 g3 hB3 h17 hc17 hw17 hB17 o17 r17 hcap u17 x1 rdm hmk hcv HOld HNew HBM HRd HC HC2 HF6 hZd
        go_upto_region 23 with (go_at_call 11; with_reducible refine HEm.mono ?_; rintro x w18 ⟨rfl, hb18⟩)
        have hw18 := bnext HB17.out hb18
        obtain ⟨j1, j2, j3⟩ := HX.out _ hw18
        obtain ⟨e0, e1, e2, e3, e4, e5⟩ := j2.cells
        have HB := hide j3
        clear m0 m1 m2 m3 m4 m5 HEm hb18 HB17 j1 j2 j3
        by_cases hd0 : P.D.length = 0
        · have hd1 : ¬ (0 : Int) < (P.D.length : Int) := by omega
          clear hd0
          go_wp2
          go_ret
          exact ⟨rfl, HB.out⟩
        · have hd1 : (0 : Int) < (P.D.length : Int) := by omega
          go_upto_region 25 with (go_at_call 15; with_reducible refine (HL.out _ hw18).mono ?_; rintro x w19 ⟨ys, ks, yd, kd', rfl, o1, o2, hc1, hc2, hb19⟩)
          obtain ⟨Y, hY, h20, hb20, hz20⟩ := box6 w19 (.int .i64 P.kd) (.int .i64 P.k) (.int .u64 (P.old : Int)) (.int .u64 (P.size : Int)) (.slice (some ⟨ys, 0, none⟩) P.S.length ks) (.slice (some ⟨yd, 0, none⟩) P.D.length kd')
          try rw [hY]
          clear hY hz20 e0 e1 e2 e3 e4 e5
          obtain ⟨m0, m1, m2, m3, m4, m5⟩ := h20.cells
          have f5 := h20.fz 5
          have hk1 : (P.D.length : Int) ≤ (kd' : Int) := by omega
          have hk2 : (1 : Int) ≤ (P.D.length : Int) := by omega
          go_upto_region 26 with (fail)
          have h21 := h20.set5 (.slice (some ⟨yd, 1, none⟩) (P.D.length - 1) (kd' - 1))
          have hc21 := (ChT.refl (fun b => b = w19.heap.size) Y).set w19.heap.size 5 (.slice (some ⟨yd, 1, none⟩) (P.D.length - 1) (kd' - 1)) rfl
          obtain ⟨w21, hw21⟩ : ∃ w21, Y.setCell ⟨w19.heap.size, 5, none⟩ (.slice (some ⟨yd, 1, none⟩) (P.D.length - 1) (kd' - 1)) = w21 := ⟨_, rfl⟩
          rw [hw21] at h21 hc21
          rw [hw21]
          have hwY := bnext (bnext hw18 hb19) hb20
          have hB21 : Below W.heap.size W w21 := hwY.trans (hc21.below (by rintro b rfl; exact (bnext hw18 hb19).size))
          have hys : ys < w19.heap.size := (World.ownsRow.lt o1 ys rfl).2
          have hyd : yd < w19.heap.size := (World.ownsRow.lt o2 yd rfl).2
          have o1' : Cv.Own w21 w18.heap.size (.slice (some ⟨ys, 0, none⟩) (P.S.length + 2) ks) (P.S ++ [7000000, 7000001]) := by
            refine keep_row (Cv.ownB_next o1 hb20) fun g hg _ => hc21.block g ?_
            have h0 : ys = g := by injection hg
            show ¬ g = w19.heap.size
            omega
          have o2' : OwnS w21 w18.heap.size (.slice (some ⟨yd, 0, none⟩) (P.D.length + 2) kd') (P.D ++ [oneB, twoB]) := by
            refine keep_row (own_next o2 hb20 (Nat.le_refl _)) fun g hg _ => hc21.block g ?_
            have h0 : yd = g := by injection hg
            show ¬ g = w19.heap.size
            omega
          have x1 := (HX.out _ hB21).1
          have rdm : RdP w21 (some ⟨ys, 0, none⟩) ys 0 ks (some ⟨yd, 1, none⟩) yd 1 (kd' - 1) ⟨P.kd, P.k, P.old, P.size, P.S, P.D.drop 1⟩ := ⟨own_rdu o1', rds_drop1 (own_rds o2' HG.out.2.2.2.2), x1.old64, x1.sz64, x1.mS, by have := HK.out; simp only [List.length_drop]; omega, by simp only [List.length_drop]; omega⟩
          have HEl := encode_no w21 _ _ _ _ _ _ _ _ _ rdm (not_well HT.out.1 (by rw [List.length_drop]; omega))
          simp only [pvP, pv6, List.length_drop] at HEl
          have HBl := hide (HX.out _ hB21).2.2
          clear m0 m1 m2 m3 m4 m5 f5
          obtain ⟨m0, m1, m2, m3, m4, m5⟩ := h21.cells
          clear h20 h21 hc21 hw21 hwY hB21 hys hyd o1' o2' o1 o2 x1 rdm hb19 hb20 hw18 hd0 hk1 hk2 hc1 hc2
          go_wp2_with (go_at_call 11; with_reducible refine HEl.mono ?_; rintro x w22 ⟨rfl, hb22⟩)
          go_ret
          exact ⟨rfl, bnext HBl.out hb22⟩
    · have HE := encode_no w5 sa sb so sc da db dO dc P x1 hw
      simp only [pvP, pv6] at HE
      have HB := hide x3
      clear hw x1 x2 x3
      generalize P.S.length = ms at *
      generalize P.D.length = md at *
      go_wp2_with (go_at_call 11; with_reducible refine HE.mono ?_; rintro x w6' ⟨rfl, hb6⟩)
      go_ret
      exact ⟨rfl, bnext HB.out hb6⟩
  · have HQ := hide hd
    have HD := decode_some w1 s (by have := HS.out; omega) Q hd
    have hQ := (enc_dec hd).1
    have hE : (⟨(enc Q).toArray⟩ : ByteArray) = s := by rw [(enc_dec hd).2.1, ba_back]
    clear hd
    go_upto_region 4 with (go_at_call 10; (refine HD.mono ?_); rintro x w2 ⟨xa, xb, xc, ya, yb, yc, rfl, q1, hb2⟩)
    obtain ⟨F, hF, h7, hb3, _⟩ := box6 w2 (.int .i64 Q.kd) (.int .i64 Q.k) (.int .u64 (Q.old : Int)) (.int .u64 (Q.size : Int)) (.slice xa Q.S.length xc) (.slice ya Q.D.length yc)
    try rw [hF]
    clear hF HD
    have hbF : Below W.heap.size W F := bnext (bnext hb1 hb2) hb3
    obtain ⟨m0, m1, m2, m3, m4, m5⟩ := h7.cells
    have HN := encode_yes F xa xb 0 xc ya yb 0 yc Q (q1.next hb3) hQ
    rw [hE] at HN
    have HCt : Hid (∀ F', Below F.heap.size F F' → (Calls Try.prog 12 #[.agg #[.int .i64 Q.kd, .int .i64 Q.k, .int .u64 (Q.old : Int), .int .u64 (Q.size : Int), .slice xa Q.S.length xc, .slice ya Q.D.length yc]] F' fun e w' => e = .returned (.tuple #[.int .u64 (Q.D.length : Int), .int .i64 0]) ∧ Below F'.heap.size F' w') ∧ Six F' w2.heap.size (.int .i64 Q.kd) (.int .i64 Q.k) (.int .u64 (Q.old : Int)) (.int .u64 (Q.size : Int)) (.slice xa Q.S.length xc) (.slice ya Q.D.length yc)) := fun F' hF' => by
      have q2 := (q1.next hb3).next hF'
      have := count_any F' Q.kd Q.k Q.old Q.size xa xb 0 xc Q.S (.slice ya Q.D.length yc) q2.old64 q2.sz64 q2.rs (fun _ => q2.mS)
      rw [hQ.1] at this
      exact ⟨this, h7.next hF'⟩
    have hym : Q.D.length ≤ 8796093022208 := q1.mD
    have hym' : (Q.D.length : Int) ≤ 8796093022208 := by omega
    have eym : IntKind.u64.wrap (Q.D.length : Int) = (Q.D.length : Int) := by rw [IntKind.wrap_u64]; omega
    have hbe := bne_self_eq_false (Q.D.length : Int)
    simp only [pvP, pv6] at HN
    clear h7 hb1 hb2 hb3 q1 hQ hE hym
    generalize Q.S.length = xm at *
    generalize Q.D.length = ym at *
    go_upto_region 6 with (go_at_call 11; with_reducible refine HN.mono ?_; rintro x w5 ⟨rfl, hb5⟩)
    obtain ⟨c1, c2⟩ := HCt.out _ hb5
    clear m0 m1 m2 m3 m4 m5
    obtain ⟨m0, m1, m2, m3, m4, m5⟩ := c2.cells
    go_upto_region 7 with (go_at_call 12; with_reducible refine c1.mono ?_; rintro x w6 ⟨rfl, hb6⟩)
    obtain ⟨_, c2⟩ := HCt.out _ (bnext hb5 hb6)
    clear m0 m1 m2 m3 m4 m5 c1
    obtain ⟨m0, m1, m2, m3, m4, m5⟩ := c2.cells
    go_upto_region 11 with (fail)
    have hbG : Below W.heap.size W w6 := bnext hbF (bnext hb5 hb6)
    clear HN hbF hb5 m0 m1 m2 m3 m4 m5 hb6 c2 HCt
    obtain ⟨x1, x2, x3⟩ := HX.out _ hbG
    obtain ⟨e0, e1, e2, e3, e4, e5⟩ := x2.cells
    by_cases hw : Well P
    · have HE := encode_yes w6 sa sb so sc da db dO dc P x1 hw
      obtain ⟨t, ht⟩ : ∃ t, (⟨(enc P).toArray⟩ : ByteArray) = t := ⟨_, rfl⟩
      have ht1 : t.data.toList = enc P := by rw [← ht, ba_list]
      have hlen := enc_len hw
      have hpos := enc_pos P
      have htz : t.size = (enc P).length := by rw [← ht, ba_size]
      rw [ht] at HE
      simp only [pvP, pv6] at HE
      have HT : Hid (Well P ∧ t.data.toList = enc P ∧ t.size ≤ 70368744177664 ∧ 2 ≤ t.size) := ⟨hw, ht1, by omega, by omega⟩
      have hz1 : (t.size : Int) ≤ 70368744177664 := by omega
      have hz2 : (2 : Int) ≤ (t.size : Int) := by omega
      have hko := cnt_ok hw.1
      obtain ⟨kn, hkn⟩ : ∃ kn : Nat, P.k = (kn : Int) := ⟨P.k.toNat, by have := hko.k1; omega⟩
      have HK : Hid (1 ≤ kn ∧ kn ≤ 32 ∧ P.S.length ≤ 1099511627776 ∧ P.D.length ≤ 1099511627776 ∧ P.k = (kn : Int)) := by
        have i1 := hko.k1; have i2 := hko.k32; have i3 := hko.len; have i4 := hko.hsz; have i5 := hko.hc
        exact ⟨by omega, by omega, by omega, i5, hkn⟩
      have hSl : (P.S.length : Int) ≤ 1099511627776 := by have := HK.out; omega
      have hDl : (P.D.length : Int) ≤ 1099511627776 := by have := HK.out; omega
      have HWl : Hid (∀ F, Below W.heap.size W F → Calls Try.prog 14 #[.agg #[.int .i64 P.kd, .int .i64 P.k, .int .u64 (P.old : Int), .int .u64 (P.size : Int), .slice sa P.S.length sc, .slice da P.D.length dc]] F fun e w' => e = .returned (.bool true) ∧ Below F.heap.size F w') := fun F hF => by
        have := rwell_any F sa sb so sc da db dO dc P (HX.out F hF).1
        rw [decide_eq_true hw] at this
        exact this
      have HL : Hid (∀ F, Below W.heap.size W F → Calls Try.prog 15 #[.agg #[.int .i64 P.kd, .int .i64 P.k, .int .u64 (P.old : Int), .int .u64 (P.size : Int), .slice sa P.S.length sc, .slice da P.D.length dc]] F fun e w' => ∃ gs cs gd cd, e = .returned (.agg #[.int .i64 P.kd, .int .i64 P.k, .int .u64 (P.old : Int), .int .u64 (P.size : Int), .slice (some ⟨gs, 0, none⟩) P.S.length cs, .slice (some ⟨gd, 0, none⟩) P.D.length cd]) ∧ Cv.Own w' F.heap.size (.slice (some ⟨gs, 0, none⟩) (P.S.length + 2) cs) (P.S ++ [7000000, 7000001]) ∧ OwnS w' F.heap.size (.slice (some ⟨gd, 0, none⟩) (P.D.length + 2) cd) (P.D ++ [oneB, twoB]) ∧ P.S.length + 2 ≤ cs ∧ P.D.length + 2 ≤ cd ∧ Below F.heap.size F w') := fun F hF => by
        have r := (HX.out F hF).1
        have := HK.out
        exact lent_any F P.kd P.k P.old P.size sa sb so sc P.S r.rs HNN.out.1 (by omega) da db dO dc P.D r.rd HNN.out.2 (by omega)
      clear hw ht ht1 hlen hpos htz x1 x2 x3 hko hkn
      go_upto_region 14 with (go_at_call 11; with_reducible refine HE.mono ?_; rintro x w6' ⟨rfl, hb6⟩)
      have hw6 : Below W.heap.size W w6' := bnext hbG hb6
      have HD := decode_some w6' t (by have := HT.out; omega) P (by rw [HT.out.2.1]; exact dec_enc HT.out.1)
      clear HE e0 e1 e2 e3 e4 e5 hbG hb6
      go_upto_region 15 with (go_at_call 10; (refine HD.mono ?_); rintro x w7 ⟨za, zb, zc, ua, ub, uc, rfl, z1, hb7⟩)
      obtain ⟨G, hG, h9, hb8, _⟩ := box6 w7 (.int .i64 P.kd) (.int .i64 P.k) (.int .u64 (P.old : Int)) (.int .u64 (P.size : Int)) (.slice za P.S.length zc) (.slice ua P.D.length uc)
      try rw [hG]
      clear hG HD
      have hbG : Below W.heap.size W G := bnext (bnext hw6 hb7) hb8
      obtain ⟨x1, x2, x3⟩ := HX.out _ hbG
      have HSm := same_yes G _ _ _ _ _ _ _ _ _ _ _ _ _ _ _ _ P x1 (z1.next hb8)
      simp only [pvP, pv6] at HSm
      obtain ⟨e0, e1, e2, e3, e4, e5⟩ := x2.cells
      obtain ⟨m0, m1, m2, m3, m4, m5⟩ := h9.cells
      have htn : ((t.size : Int) == 0) = false := beq_eq_false_iff_ne.2 (by omega)
      clear x1 x2 x3 z1 hb7 hb8 hw6 h9
      go_upto_region 17 with (first
        | (go_at_call 13; with_reducible refine HSm.mono ?_; rintro x w10 ⟨rfl, hb10⟩; (have hw10 := bnext hbG hb10); (obtain ⟨j1, j2, j3⟩ := HX.out _ hw10); (obtain ⟨e0', e1', e2', e3', e4', e5'⟩ := j2.cells); clear j1 j2 j3)
        | (go_at_call 14; with_reducible refine (HWl.out _ hw10).mono ?_; rintro x w11 ⟨rfl, hb11⟩; (have hw11 := bnext hw10 hb11)))
      clear HSm HWl m0 m1 m2 m3 m4 m5 hb10 hw10 hb11 hbG e0 e1 e2 e3 e4 e5 e0' e1' e2' e3' e4' e5'
      obtain ⟨r, j, hr, hr1, hr2, hj1, hj2⟩ := cut_at a t.size (by have := HT.out; omega)
      have hj3 : (j : Int) ≤ (t.size : Int) := by omega
      have hj0 : (0 : Int) ≤ (j : Int) := Int.natCast_nonneg _
      have hn0 : ¬ (t.size : Int) = 0 := by omega
      have HD1 := fun F' => decode_none F' (t.extract 0 j) (by have := ext_size t j; have := HT.out; omega) (dec_less HT.out.1 HT.out.2.1 hj2)
      have HD2 := fun F' => decode_none F' (t ++ ⟨#[0]⟩) (by have := HT.out; rw [ByteArray.size_append]; show t.size + 1 ≤ _; omega) (dec_nul HT.out.1 HT.out.2.1)
      clear htn
      go_upto_region 18 with (fail)
      go_upto_region 19 with (go_at_call 10; (refine (HD1 _).mono ?_); rintro x w12 ⟨rfl, hb12⟩)
      clear HD1
      go_upto_region 20 with (go_at_call 10; (refine (HD2 _).mono ?_); rintro x w13 ⟨rfl, hb13⟩)
      obtain ⟨G2, hG2, _, hb14, _⟩ := box6 w13 (.int .i64 0) (.int .i64 0) (.int .u64 0) (.int .u64 0) (.slice none 0 0) (.slice none 0 0)
      try rw [hG2]
      clear hG2 HD2 hr hr1 hr2 hj1 hj2 hj3 hj0 hn0
      have hw14 : Below W.heap.size W G2 := bnext (bnext (bnext hw11 hb12) hb13) hb14
      clear hw11 hb12 hb13 hb14
      obtain ⟨j1, j2, j3⟩ := HX.out _ hw14
      obtain ⟨e0, e1, e2, e3, e4, e5⟩ := j2.cells
      clear j1 j2 j3
      go_upto_region 21 with (go_at_call 15; with_reducible refine (HL.out _ hw14).mono ?_; rintro x w15 ⟨gs, cs, gd, cd, rfl, o1, o2, hc1, hc2, hb15⟩)
      obtain ⟨Z, hZ, h16, hb16, hz16⟩ := box6 w15 (.int .i64 P.kd) (.int .i64 P.k) (.int .u64 (P.old : Int)) (.int .u64 (P.size : Int)) (.slice (some ⟨gs, 0, none⟩) P.S.length cs) (.slice (some ⟨gd, 0, none⟩) P.D.length cd)
      try rw [hZ]
      clear hZ e0 e1 e2 e3 e4 e5 hz16
      have hwZ : Below W.heap.size W Z := bnext (bnext hw14 hb15) hb16
      have HC : Hid (∀ F, Below Z.heap.size Z F → (F.cell? ⟨w15.heap.size, 5, none⟩ = some (.slice (some ⟨gd, 0, none⟩) P.D.length cd) ∧ F.cell? ⟨w.heap.size, 5, none⟩ = some (.slice da P.D.length dc) ∧ F.cell? ⟨w.heap.size, 1, none⟩ = some (.int .i64 (kn : Int)))) := fun F hF => by
        have k1 := (h16.next hF).cells
        have k2 := (HX.out F (bnext hwZ hF)).2.1.cells
        exact ⟨k1.2.2.2.2.2, k2.2.2.2.2.2, by rw [← HK.out.2.2.2.2]; exact k2.2.1⟩
      have HF6 : Hid (∀ F, Below Z.heap.size Z F → Six F w15.heap.size (.int .i64 P.kd) (.int .i64 P.k) (.int .u64 (P.old : Int)) (.int .u64 (P.size : Int)) (.slice (some ⟨gs, 0, none⟩) P.S.length cs) (.slice (some ⟨gd, 0, none⟩) P.D.length cd)) := fun F hF => h16.next hF
      have HRd : Hid (∀ F, Below Z.heap.size Z F → Cv.Own F G2.heap.size (.slice (some ⟨gs, 0, none⟩) (P.S.length + 2) cs) (P.S ++ [7000000, 7000001]) ∧ OwnS F G2.heap.size (.slice (some ⟨gd, 0, none⟩) (P.D.length + 2) cd) (P.D ++ [oneB, twoB])) := fun F hF => ⟨Cv.ownB_next (Cv.ownB_next o1 hb16) hF, own_next (own_next o2 hb16 (Nat.le_refl _)) hF (Nat.le_refl _)⟩
      have hgs : gs < w15.heap.size := (World.ownsRow.lt o1 gs rfl).2
      have hzW : W.heap.size ≤ w15.heap.size ∧ w15.heap.size < Z.heap.size := ⟨(bnext hw14 hb15).size, h16.lt⟩
      have HG : Hid (gs < w15.heap.size ∧ W.heap.size ≤ w15.heap.size ∧ w15.heap.size < Z.heap.size ∧ Below W.heap.size W Z ∧ (∀ d ∈ P.D, d.size ≤ 9223372036854775807)) := ⟨hgs, hzW.1, hzW.2, hwZ, fun d hd => by have := HT.out.1.2 d hd; have := HK.out; omega⟩
      have hcdI : (P.D.length : Int) ≤ (cd : Int) := by omega
      have hD0 : (0 : Int) ≤ (P.D.length : Int) := Int.natCast_nonneg _
      have hZd : Below Z.heap.size Z Z.drew := (Below.refl Z.heap.size Z).drew
      obtain ⟨q1, q2, q3⟩ := HC.out _ hZd
      have hmk := make_bytes kn HK.out.2.1 Z.drew
      have hcv := conv_zero Z.drew kn
      obtain ⟨M, hM⟩ : ∃ M, Z.drew.alloc (.cells (List.replicate kn (Value.int .u8 0)).toArray 5) = M := ⟨_, rfl⟩
      rw [hM] at hmk hcv
      have hcv : (convert 38 9 (.slice (some ⟨Z.heap.size, 0, none⟩) kn kn)).run Try.prog M = .ok (.string (zB kn)) M := hcv
      have hmk : (Instr.makeSlice 38 (.int .i64 (kn : Int)) (.int .i64 (kn : Int))).run Try.prog Z.drew = .ok (.slice (some ⟨Z.heap.size, 0, none⟩) kn kn) M := hmk
      have hBM : Below Z.heap.size Z M := by rw [← hM]; exact bal hZd _
      obtain ⟨i0, hi0, hi1, hi2, hi3⟩ := info_parts Try.infoS
      have HI : Hid (Try.prog.info? 9 = some i0 ∧ i0.zero = some (.string ByteArray.empty) ∧ i0.size = 1 ∧ i0.bytes = 16) := ⟨hi0, hi1, hi2, hi3⟩
      have HOld : Hid (∀ b, some (⟨gd, 0, none⟩ : Addr) = some b → ∀ j u, (P.D.map Value.string)[j]? = some u → (M.alloc (.cells #[.string (zB kn)] 9)).cell? (b.add j) = some u) := by
        rintro b hb j u hu
        cases hb
        rw [Addr.add_mid]
        exact (own_rds (HRd.out _ (bal hBM (.cells #[.string (zB kn)] 9))).2 HG.out.2.2.2.2).rng j u hu
      have HNew : Hid (∀ j u, [Value.string (zB kn)][j]? = some u → (M.alloc (.cells #[.string (zB kn)] 9)).cell? ((⟨M.heap.size, 0, none⟩ : Addr).add j) = some u) := fun j u hu => by
        rw [Addr.add_mid]; exact range_new M [.string (zB kn)] 9 j u hu
      have HBM := hide hBM
      have qm := (HC.out _ hBM).1
      have qa := (HC.out _ (bal hBM (.cells #[.string (zB kn)] 9))).1
      have HC2 : Hid (∀ F x, Below Z.heap.size Z F → ((F.setCell ⟨w15.heap.size, 5, none⟩ x).cell? ⟨w.heap.size, 5, none⟩ = some (.slice da P.D.length dc) ∧ (F.setCell ⟨w15.heap.size, 5, none⟩ x).cell? ⟨w.heap.size, 1, none⟩ = some (.int .i64 (kn : Int)))) := fun F x hF => by
        have h1 := HC.out F hF
        have hne : ∀ i, (⟨w15.heap.size, 5, none⟩ : Addr) ≠ ⟨w.heap.size, i, none⟩ := fun i e => by
          have h2 := congrArg Addr.block e
          have h3 := (HX.out W (Below.refl _ _)).2.1.lt
          have h4 := HG.out.2.1
          simp at h2
          omega
        rw [World.cell?_setCell_other _ _ _ _ (hne 5), World.cell?_setCell_other _ _ _ _ (hne 1)]
        exact h1.2
      clear hM hi0 hi1 hi2 hi3 hc1 hc2 o1 o2 hb15 hb16 h16 hwZ hw14 hgs hzW
      refine wp_region_noPanic ?_
      refine wp_region_held_drew (S := fun Y => Y.cell? ⟨w.heap.size, 5, none⟩ = some (.slice da P.D.length dc) ∧ Y.cell? ⟨w.heap.size, 1, none⟩ = some (.int .i64 (kn : Int))) (by kernel_rfl) ?_ (fun hHeld => ?_)
      · exact (HC.out _ hZd).2
      refine wpAnyH_take (i := 0) (oi := ({ dst := some 131, op := Op.fieldAddr 26 (Operand.tmp 18) 5, type := 0, pos := "law.go:105", after := #[], guard := none } : Oper)) (v := ?vb1) rfl (by kernel_rfl) (by kernel_rfl) (by kernel_rfl) (fun _ _ _ h => h) (Or.inl ⟨by rfl, ?yb1⟩) (by assumption) ?rb1
      case yb1 => intro w0 hSw; (try dsimp only at hSw); go_simp <;> (try with_reducible rfl)
      try simp only [Act.put, List.setIfInBounds_toArray, List.set_cons_zero, List.set_cons_succ]
      refine wpAnyH_take (i := 2) (oi := ({ dst := some 133, op := Op.fieldAddr 26 (Operand.tmp 3) 5, type := 0, pos := "law.go:105", after := #[], guard := none } : Oper)) (v := ?vb2) rfl (by kernel_rfl) (by kernel_rfl) (by kernel_rfl) (fun _ _ _ h => h) (Or.inl ⟨by rfl, ?yb2⟩) (by assumption) ?rb2
      case yb2 => intro w0 hSw; (try dsimp only at hSw); go_simp <;> (try with_reducible rfl)
      try simp only [Act.put, List.setIfInBounds_toArray, List.set_cons_zero, List.set_cons_succ]
      refine wpAnyH_take (i := 3) (oi := ({ dst := some 134, op := Op.load 24 (Operand.tmp 133), type := 24, pos := "law.go:105", after := #[{ on := 2, ground := Ground.data }], guard := none } : Oper)) (v := ?vb3) rfl (by kernel_rfl) (by kernel_rfl) (by kernel_rfl) (fun _ _ _ h => h) (Or.inl ⟨by rfl, ?yb3⟩) (by assumption) ?rb3
      case yb3 => intro w0 hSw; (try dsimp only at hSw); go_simp <;> (try with_reducible rfl)
      try simp only [Act.put, List.setIfInBounds_toArray, List.set_cons_zero, List.set_cons_succ]
      refine wpAnyH_take (i := 4) (oi := ({ dst := some 135, op := Op.call { callee := Callee.builtin Builtin.len, args := #[Operand.tmp 134], argTypes := #[24] }, type := 3, pos := "law.go:105", after := #[{ on := 3, ground := Ground.data }], guard := none } : Oper)) (v := ?vb4) rfl (by kernel_rfl) (by kernel_rfl) (by kernel_rfl) (fun _ _ _ h => h) (Or.inl ⟨by rfl, ?yb4⟩) (by assumption) ?rb4
      case yb4 => intro w0 hSw; (try dsimp only at hSw); go_simp <;> (try with_reducible rfl)
      try simp only [Act.put, List.setIfInBounds_toArray, List.set_cons_zero, List.set_cons_succ]
      refine wpAnyH_take (i := 5) (oi := ({ dst := some 136, op := Op.fieldAddr 26 (Operand.tmp 3) 5, type := 0, pos := "law.go:105", after := #[], guard := none } : Oper)) (v := ?vb5) rfl (by kernel_rfl) (by kernel_rfl) (by kernel_rfl) (fun _ _ _ h => h) (Or.inl ⟨by rfl, ?yb5⟩) (by assumption) ?rb5
      case yb5 => intro w0 hSw; (try dsimp only at hSw); go_simp <;> (try with_reducible rfl)
      try simp only [Act.put, List.setIfInBounds_toArray, List.set_cons_zero, List.set_cons_succ]
      refine wpAnyH_take (i := 6) (oi := ({ dst := some 137, op := Op.load 24 (Operand.tmp 136), type := 24, pos := "law.go:105", after := #[{ on := 5, ground := Ground.data }], guard := none } : Oper)) (v := ?vb6) rfl (by kernel_rfl) (by kernel_rfl) (by kernel_rfl) (fun _ _ _ h => h) (Or.inl ⟨by rfl, ?yb6⟩) (by assumption) ?rb6
      case yb6 => intro w0 hSw; (try dsimp only at hSw); go_simp <;> (try with_reducible rfl)
      try simp only [Act.put, List.setIfInBounds_toArray, List.set_cons_zero, List.set_cons_succ]
      refine wpAnyH_take (i := 7) (oi := ({ dst := some 138, op := Op.call { callee := Callee.builtin Builtin.len, args := #[Operand.tmp 137], argTypes := #[24] }, type := 3, pos := "law.go:105", after := #[{ on := 6, ground := Ground.data }], guard := none } : Oper)) (v := ?vb7) rfl (by kernel_rfl) (by kernel_rfl) (by kernel_rfl) (fun _ _ _ h => h) (Or.inl ⟨by rfl, ?yb7⟩) (by assumption) ?rb7
      case yb7 => intro w0 hSw; (try dsimp only at hSw); go_simp <;> (try with_reducible rfl)
      try simp only [Act.put, List.setIfInBounds_toArray, List.set_cons_zero, List.set_cons_succ]
      refine wpAnyH_take (i := 9) (oi := ({ dst := some 140, op := Op.fieldAddr 26 (Operand.tmp 3) 1, type := 0, pos := "law.go:105", after := #[], guard := none } : Oper)) (v := ?vb8) rfl (by kernel_rfl) (by kernel_rfl) (by kernel_rfl) (fun _ _ _ h => h) (Or.inl ⟨by rfl, ?yb8⟩) (by assumption) ?rb8
      case yb8 => intro w0 hSw; (try dsimp only at hSw); go_simp <;> (try with_reducible rfl)
      try simp only [Act.put, List.setIfInBounds_toArray, List.set_cons_zero, List.set_cons_succ]
      refine wpAnyH_take (i := 10) (oi := ({ dst := some 141, op := Op.load 3 (Operand.tmp 140), type := 3, pos := "law.go:105", after := #[{ on := 9, ground := Ground.data }], guard := none } : Oper)) (v := ?vb9) rfl (by kernel_rfl) (by kernel_rfl) (by kernel_rfl) (fun _ _ _ h => h) (Or.inl ⟨by rfl, ?yb9⟩) (by assumption) ?rb9
      case yb9 => intro w0 hSw; (try dsimp only at hSw); go_simp <;> (try with_reducible rfl)
      try simp only [Act.put, List.setIfInBounds_toArray, List.set_cons_zero, List.set_cons_succ]
      refine wpAnyH_ready (rs := [1, 11]) (by kernel_rfl) (by simp) ?_
      refine AllReadyH.cons (o := ({ dst := some 132, op := Op.load 24 (Operand.tmp 131), type := 24, pos := "law.go:105", after := #[{ on := 0, ground := Ground.data }], guard := none } : Oper)) rfl (fun K hK => ?_) ?_
      go_simp
      refine hK.out _ _ ?_ (fun hHeld => ?_)
      · exact (HC.out _ hZd).2
      clear hK K
      try simp only [Act.put, List.setIfInBounds_toArray, List.set_cons_zero, List.set_cons_succ]
      refine wpAnyH_take (i := 8) (oi := ({ dst := some 139, op := Op.slice 24 (Operand.tmp 132) none (some (Operand.tmp 135)) (some (Operand.tmp 138)), type := 24, pos := "law.go:105", after := #[{ on := 1, ground := Ground.data }, { on := 4, ground := Ground.data }, { on := 7, ground := Ground.data }], guard := none } : Oper)) (v := ?vb10) rfl (by kernel_rfl) (by kernel_rfl) (by kernel_rfl) (fun _ _ _ h => h) (Or.inl ⟨by rfl, ?yb10⟩) (by assumption) ?rb10
      case yb10 => intro w0 hSw; (try dsimp only at hSw); go_simp <;> (try with_reducible rfl)
      try simp only [Act.put, List.setIfInBounds_toArray, List.set_cons_zero, List.set_cons_succ]
      refine wpAnyH_ready (rs := [11]) (by kernel_rfl) (by simp) ?_
      refine AllReadyH.cons (o := ({ dst := some 142, op := Op.makeSlice 38 (Operand.tmp 141) (Operand.tmp 141), type := 38, pos := "law.go:105", after := #[{ on := 10, ground := Ground.data }, { on := 10, ground := Ground.data }], guard := none } : Oper)) rfl (fun K hK => ?_) ?_
      go_simp
      refine hK.out _ _ ?_ (fun hHeld => ?_)
      · exact (HC.out _ HBM.out).2
      clear hK K
      try simp only [Act.put, List.setIfInBounds_toArray, List.set_cons_zero, List.set_cons_succ]
      refine wpAnyH_ready (rs := [12]) (by kernel_rfl) (by simp) ?_
      refine AllReadyH.cons (o := ({ dst := some 143, op := Op.convert 38 9 (Operand.tmp 142), type := 9, pos := "law.go:105", after := #[{ on := 11, ground := Ground.data }], guard := none } : Oper)) rfl (fun K hK => ?_) ?_
      go_simp
      refine hK.out _ _ ?_ (fun hHeld => ?_)
      · exact (HC.out _ HBM.out).2
      clear hK K
      try simp only [Act.put, List.setIfInBounds_toArray, List.set_cons_zero, List.set_cons_succ]
      refine wpAnyH_ready (rs := [13]) (by kernel_rfl) (by simp) ?_
      refine AllReadyH.cons (o := ({ dst := some 144, op := Op.buildSlice 24 1 #[(0, Operand.tmp 143)], type := 24, pos := "law.go:105", after := #[{ on := 12, ground := Ground.data }], guard := none } : Oper)) rfl (fun K hK => ?_) ?_
      go_simp
      refine hK.out _ _ ?_ (fun hHeld => ?_)
      · exact (HC.out _ (bal HBM.out _)).2
      clear hK K
      try simp only [Act.put, List.setIfInBounds_toArray, List.set_cons_zero, List.set_cons_succ]
      refine wpAnyH_ready (rs := [14]) (by kernel_rfl) (by simp) ?_
      refine AllReadyH.cons (o := ({ dst := some 145, op := Op.call { callee := Callee.builtin Builtin.append, args := #[Operand.tmp 139, Operand.tmp 144], argTypes := #[24, 24] }, type := 24, pos := "law.go:105", after := #[{ on := 8, ground := Ground.data }, { on := 13, ground := Ground.data }], guard := none } : Oper)) rfl (fun K hK => ?_) ?_
      refine step_append_grows (P := Try.prog) (by rfl) _ _ _ (by rfl) 9 i0 (.string ByteArray.empty) 1 16 Try.underlying24 HI.out.1 HI.out.2.1 HI.out.2.2.1 HI.out.2.2.2 rfl (by decide) (some ⟨gd, 0, none⟩) P.D.length P.D.length (P.D.map Value.string) (by rfl) (fun h => by cases h) (by simp) HOld.out ⟨M.heap.size, 0, none⟩ 1 1 [.string (zB kn)] (by rfl) rfl HNew.out (by simp [Value.oneCell']) (by omega) (by have := HK.out; unfold maxLen; omega) (by have := HK.out; omega) ?_
      intro v' w3 o3 g3
      have hB3 : Below Z.heap.size Z w3 := bnext (bal HBM.out _) ((Below.refl _ _).grown g3 (Nat.le_refl _) (fun k hk => by cases hk))
      have f3 := (HF6.out _ hB3).fz 5
      have c3 := (HC.out _ hB3).1
      obtain ⟨va, vm, vc, rfl⟩ := Cv.own_slice o3
      refine hK.out _ _ ?_ (fun hHeld => ?_)
      · exact (HC.out _ hB3).2
      clear hK K
      try simp only [Act.put, List.setIfInBounds_toArray, List.set_cons_zero, List.set_cons_succ]
      refine wpAnyH_take (i := 15) (oi := ({ dst := some 146, op := Op.fieldAddr 26 (Operand.tmp 18) 5, type := 0, pos := "law.go:105", after := #[{ on := 0, ground := Ground.phase }, { on := 1, ground := Ground.phase }, { on := 2, ground := Ground.phase }, { on := 3, ground := Ground.phase }, { on := 4, ground := Ground.phase }, { on := 5, ground := Ground.phase }, { on := 6, ground := Ground.phase }, { on := 7, ground := Ground.phase }, { on := 8, ground := Ground.phase }, { on := 9, ground := Ground.phase }, { on := 10, ground := Ground.phase }, { on := 11, ground := Ground.phase }, { on := 12, ground := Ground.phase }, { on := 13, ground := Ground.phase }, { on := 14, ground := Ground.phase }], guard := none } : Oper)) (v := ?vb11) rfl (by kernel_rfl) (by kernel_rfl) (by kernel_rfl) (fun _ _ _ h => h) (Or.inl ⟨by rfl, ?yb11⟩) (by assumption) ?rb11
      case yb11 => intro w0 hSw; (try dsimp only at hSw); go_simp <;> (try with_reducible rfl)
      try simp only [Act.put, List.setIfInBounds_toArray, List.set_cons_zero, List.set_cons_succ]
      refine wpAnyH_ready (rs := [16]) (by kernel_rfl) (by simp) ?_
      refine AllReadyH.cons (o := ({ dst := none, op := Op.store 24 (Operand.tmp 146) (Operand.tmp 145), type := 0, pos := "law.go:105", after := #[{ on := 15, ground := Ground.data }, { on := 14, ground := Ground.data }, { on := 14, ground := Ground.chain }, { on := 0, ground := Ground.phase }, { on := 1, ground := Ground.phase }, { on := 2, ground := Ground.phase }, { on := 3, ground := Ground.phase }, { on := 4, ground := Ground.phase }, { on := 5, ground := Ground.phase }, { on := 6, ground := Ground.phase }, { on := 7, ground := Ground.phase }, { on := 8, ground := Ground.phase }, { on := 9, ground := Ground.phase }, { on := 10, ground := Ground.phase }, { on := 11, ground := Ground.phase }, { on := 12, ground := Ground.phase }, { on := 13, ground := Ground.phase }, { on := 14, ground := Ground.phase }], guard := none } : Oper)) rfl (fun K hK => ?_) ?_
      go_simp
      refine hK.out _ _ ?_ (fun hHeld => ?_)
      · exact HC2.out _ _ hB3
      clear hK K
      try simp only [Act.put, List.setIfInBounds_toArray, List.set_cons_zero, List.set_cons_succ]
      refine wpAnyH_done (by kernel_rfl) ?_ _
      refine NoPanic.normal ?_
      rotate_left
      exact AllReadyH.nil
      exact AllReadyH.nil
      exact AllReadyH.nil
      exact AllReadyH.nil
      exact AllReadyH.nil
      refine AllReadyH.cons (o := ({ dst := some 142, op := Op.makeSlice 38 (Operand.tmp 141) (Operand.tmp 141), type := 38, pos := "law.go:105", after := #[{ on := 10, ground := Ground.data }, { on := 10, ground := Ground.data }], guard := none } : Oper)) rfl (fun K hK => ?_) ?_
      go_simp
      refine hK.out _ _ ?_ (fun hHeld => ?_)
      · exact (HC.out _ HBM.out).2
      clear hK K
      try simp only [Act.put, List.setIfInBounds_toArray, List.set_cons_zero, List.set_cons_succ]
      refine wpAnyH_ready (rs := [1, 12]) (by kernel_rfl) (by simp) ?_
      refine AllReadyH.cons (o := ({ dst := some 132, op := Op.load 24 (Operand.tmp 131), type := 24, pos := "law.go:105", after := #[{ on := 0, ground := Ground.data }], guard := none } : Oper)) rfl (fun K hK => ?_) ?_
      go_simp
      refine hK.out _ _ ?_ (fun hHeld => ?_)
      · exact (HC.out _ HBM.out).2
      clear hK K
      try simp only [Act.put, List.setIfInBounds_toArray, List.set_cons_zero, List.set_cons_succ]
      refine wpAnyH_take (i := 8) (oi := ({ dst := some 139, op := Op.slice 24 (Operand.tmp 132) none (some (Operand.tmp 135)) (some (Operand.tmp 138)), type := 24, pos := "law.go:105", after := #[{ on := 1, ground := Ground.data }, { on := 4, ground := Ground.data }, { on := 7, ground := Ground.data }], guard := none } : Oper)) (v := ?vb12) rfl (by kernel_rfl) (by kernel_rfl) (by kernel_rfl) (fun _ _ _ h => h) (Or.inl ⟨by rfl, ?yb12⟩) (by assumption) ?rb12
      case yb12 => intro w0 hSw; (try dsimp only at hSw); go_simp <;> (try with_reducible rfl)
      try simp only [Act.put, List.setIfInBounds_toArray, List.set_cons_zero, List.set_cons_succ]
      refine wpAnyH_ready (rs := [12]) (by kernel_rfl) (by simp) ?_
      refine AllReadyH.cons (o := ({ dst := some 143, op := Op.convert 38 9 (Operand.tmp 142), type := 9, pos := "law.go:105", after := #[{ on := 11, ground := Ground.data }], guard := none } : Oper)) rfl (fun K hK => ?_) ?_
      go_simp
      refine hK.out _ _ ?_ (fun hHeld => ?_)
      · exact (HC.out _ HBM.out).2
      clear hK K
      try simp only [Act.put, List.setIfInBounds_toArray, List.set_cons_zero, List.set_cons_succ]
      refine wpAnyH_ready (rs := [13]) (by kernel_rfl) (by simp) ?_
      refine AllReadyH.cons (o := ({ dst := some 144, op := Op.buildSlice 24 1 #[(0, Operand.tmp 143)], type := 24, pos := "law.go:105", after := #[{ on := 12, ground := Ground.data }], guard := none } : Oper)) rfl (fun K hK => ?_) ?_
      go_simp
      refine hK.out _ _ ?_ (fun hHeld => ?_)
      · exact (HC.out _ (bal HBM.out _)).2
      clear hK K
      try simp only [Act.put, List.setIfInBounds_toArray, List.set_cons_zero, List.set_cons_succ]
      refine wpAnyH_ready (rs := [14]) (by kernel_rfl) (by simp) ?_
      refine AllReadyH.cons (o := ({ dst := some 145, op := Op.call { callee := Callee.builtin Builtin.append, args := #[Operand.tmp 139, Operand.tmp 144], argTypes := #[24, 24] }, type := 24, pos := "law.go:105", after := #[{ on := 8, ground := Ground.data }, { on := 13, ground := Ground.data }], guard := none } : Oper)) rfl (fun K hK => ?_) ?_
      refine step_append_grows (P := Try.prog) (by rfl) _ _ _ (by rfl) 9 i0 (.string ByteArray.empty) 1 16 Try.underlying24 HI.out.1 HI.out.2.1 HI.out.2.2.1 HI.out.2.2.2 rfl (by decide) (some ⟨gd, 0, none⟩) P.D.length P.D.length (P.D.map Value.string) (by rfl) (fun h => by cases h) (by simp) HOld.out ⟨M.heap.size, 0, none⟩ 1 1 [.string (zB kn)] (by rfl) rfl HNew.out (by simp [Value.oneCell']) (by omega) (by have := HK.out; unfold maxLen; omega) (by have := HK.out; omega) ?_
      intro v' w3 o3 g3
      have hB3 : Below Z.heap.size Z w3 := bnext (bal HBM.out _) ((Below.refl _ _).grown g3 (Nat.le_refl _) (fun k hk => by cases hk))
      have f3 := (HF6.out _ hB3).fz 5
      have c3 := (HC.out _ hB3).1
      obtain ⟨va, vm, vc, rfl⟩ := Cv.own_slice o3
      refine hK.out _ _ ?_ (fun hHeld => ?_)
      · exact (HC.out _ hB3).2
      clear hK K
      try simp only [Act.put, List.setIfInBounds_toArray, List.set_cons_zero, List.set_cons_succ]
      refine wpAnyH_take (i := 15) (oi := ({ dst := some 146, op := Op.fieldAddr 26 (Operand.tmp 18) 5, type := 0, pos := "law.go:105", after := #[{ on := 0, ground := Ground.phase }, { on := 1, ground := Ground.phase }, { on := 2, ground := Ground.phase }, { on := 3, ground := Ground.phase }, { on := 4, ground := Ground.phase }, { on := 5, ground := Ground.phase }, { on := 6, ground := Ground.phase }, { on := 7, ground := Ground.phase }, { on := 8, ground := Ground.phase }, { on := 9, ground := Ground.phase }, { on := 10, ground := Ground.phase }, { on := 11, ground := Ground.phase }, { on := 12, ground := Ground.phase }, { on := 13, ground := Ground.phase }, { on := 14, ground := Ground.phase }], guard := none } : Oper)) (v := ?vb13) rfl (by kernel_rfl) (by kernel_rfl) (by kernel_rfl) (fun _ _ _ h => h) (Or.inl ⟨by rfl, ?yb13⟩) (by assumption) ?rb13
      case yb13 => intro w0 hSw; (try dsimp only at hSw); go_simp <;> (try with_reducible rfl)
      try simp only [Act.put, List.setIfInBounds_toArray, List.set_cons_zero, List.set_cons_succ]
      refine wpAnyH_ready (rs := [16]) (by kernel_rfl) (by simp) ?_
      refine AllReadyH.cons (o := ({ dst := none, op := Op.store 24 (Operand.tmp 146) (Operand.tmp 145), type := 0, pos := "law.go:105", after := #[{ on := 15, ground := Ground.data }, { on := 14, ground := Ground.data }, { on := 14, ground := Ground.chain }, { on := 0, ground := Ground.phase }, { on := 1, ground := Ground.phase }, { on := 2, ground := Ground.phase }, { on := 3, ground := Ground.phase }, { on := 4, ground := Ground.phase }, { on := 5, ground := Ground.phase }, { on := 6, ground := Ground.phase }, { on := 7, ground := Ground.phase }, { on := 8, ground := Ground.phase }, { on := 9, ground := Ground.phase }, { on := 10, ground := Ground.phase }, { on := 11, ground := Ground.phase }, { on := 12, ground := Ground.phase }, { on := 13, ground := Ground.phase }, { on := 14, ground := Ground.phase }], guard := none } : Oper)) rfl (fun K hK => ?_) ?_
      go_simp
      refine hK.out _ _ ?_ (fun hHeld => ?_)
      · exact HC2.out _ _ hB3
      clear hK K
      try simp only [Act.put, List.setIfInBounds_toArray, List.set_cons_zero, List.set_cons_succ]
      refine wpAnyH_done (by kernel_rfl) ?_ _
      refine NoPanic.normal ?_
      rotate_left
      exact AllReadyH.nil
      exact AllReadyH.nil
      exact AllReadyH.nil
      exact AllReadyH.nil
      refine AllReadyH.cons (o := ({ dst := some 143, op := Op.convert 38 9 (Operand.tmp 142), type := 9, pos := "law.go:105", after := #[{ on := 11, ground := Ground.data }], guard := none } : Oper)) rfl (fun K hK => ?_) ?_
      go_simp
      refine hK.out _ _ ?_ (fun hHeld => ?_)
      · exact (HC.out _ HBM.out).2
      clear hK K
      try simp only [Act.put, List.setIfInBounds_toArray, List.set_cons_zero, List.set_cons_succ]
      refine wpAnyH_ready (rs := [1, 13]) (by kernel_rfl) (by simp) ?_
      refine AllReadyH.cons (o := ({ dst := some 132, op := Op.load 24 (Operand.tmp 131), type := 24, pos := "law.go:105", after := #[{ on := 0, ground := Ground.data }], guard := none } : Oper)) rfl (fun K hK => ?_) ?_
      go_simp
      refine hK.out _ _ ?_ (fun hHeld => ?_)
      · exact (HC.out _ HBM.out).2
      clear hK K
      try simp only [Act.put, List.setIfInBounds_toArray, List.set_cons_zero, List.set_cons_succ]
      refine wpAnyH_take (i := 8) (oi := ({ dst := some 139, op := Op.slice 24 (Operand.tmp 132) none (some (Operand.tmp 135)) (some (Operand.tmp 138)), type := 24, pos := "law.go:105", after := #[{ on := 1, ground := Ground.data }, { on := 4, ground := Ground.data }, { on := 7, ground := Ground.data }], guard := none } : Oper)) (v := ?vb14) rfl (by kernel_rfl) (by kernel_rfl) (by kernel_rfl) (fun _ _ _ h => h) (Or.inl ⟨by rfl, ?yb14⟩) (by assumption) ?rb14
      case yb14 => intro w0 hSw; (try dsimp only at hSw); go_simp <;> (try with_reducible rfl)
      try simp only [Act.put, List.setIfInBounds_toArray, List.set_cons_zero, List.set_cons_succ]
      refine wpAnyH_ready (rs := [13]) (by kernel_rfl) (by simp) ?_
      refine AllReadyH.cons (o := ({ dst := some 144, op := Op.buildSlice 24 1 #[(0, Operand.tmp 143)], type := 24, pos := "law.go:105", after := #[{ on := 12, ground := Ground.data }], guard := none } : Oper)) rfl (fun K hK => ?_) ?_
      go_simp
      refine hK.out _ _ ?_ (fun hHeld => ?_)
      · exact (HC.out _ (bal HBM.out _)).2
      clear hK K
      try simp only [Act.put, List.setIfInBounds_toArray, List.set_cons_zero, List.set_cons_succ]
      refine wpAnyH_ready (rs := [14]) (by kernel_rfl) (by simp) ?_
      refine AllReadyH.cons (o := ({ dst := some 145, op := Op.call { callee := Callee.builtin Builtin.append, args := #[Operand.tmp 139, Operand.tmp 144], argTypes := #[24, 24] }, type := 24, pos := "law.go:105", after := #[{ on := 8, ground := Ground.data }, { on := 13, ground := Ground.data }], guard := none } : Oper)) rfl (fun K hK => ?_) ?_
      refine step_append_grows (P := Try.prog) (by rfl) _ _ _ (by rfl) 9 i0 (.string ByteArray.empty) 1 16 Try.underlying24 HI.out.1 HI.out.2.1 HI.out.2.2.1 HI.out.2.2.2 rfl (by decide) (some ⟨gd, 0, none⟩) P.D.length P.D.length (P.D.map Value.string) (by rfl) (fun h => by cases h) (by simp) HOld.out ⟨M.heap.size, 0, none⟩ 1 1 [.string (zB kn)] (by rfl) rfl HNew.out (by simp [Value.oneCell']) (by omega) (by have := HK.out; unfold maxLen; omega) (by have := HK.out; omega) ?_
      intro v' w3 o3 g3
      have hB3 : Below Z.heap.size Z w3 := bnext (bal HBM.out _) ((Below.refl _ _).grown g3 (Nat.le_refl _) (fun k hk => by cases hk))
      have f3 := (HF6.out _ hB3).fz 5
      have c3 := (HC.out _ hB3).1
      obtain ⟨va, vm, vc, rfl⟩ := Cv.own_slice o3
      refine hK.out _ _ ?_ (fun hHeld => ?_)
      · exact (HC.out _ hB3).2
      clear hK K
      try simp only [Act.put, List.setIfInBounds_toArray, List.set_cons_zero, List.set_cons_succ]
      refine wpAnyH_take (i := 15) (oi := ({ dst := some 146, op := Op.fieldAddr 26 (Operand.tmp 18) 5, type := 0, pos := "law.go:105", after := #[{ on := 0, ground := Ground.phase }, { on := 1, ground := Ground.phase }, { on := 2, ground := Ground.phase }, { on := 3, ground := Ground.phase }, { on := 4, ground := Ground.phase }, { on := 5, ground := Ground.phase }, { on := 6, ground := Ground.phase }, { on := 7, ground := Ground.phase }, { on := 8, ground := Ground.phase }, { on := 9, ground := Ground.phase }, { on := 10, ground := Ground.phase }, { on := 11, ground := Ground.phase }, { on := 12, ground := Ground.phase }, { on := 13, ground := Ground.phase }, { on := 14, ground := Ground.phase }], guard := none } : Oper)) (v := ?vb15) rfl (by kernel_rfl) (by kernel_rfl) (by kernel_rfl) (fun _ _ _ h => h) (Or.inl ⟨by rfl, ?yb15⟩) (by assumption) ?rb15
      case yb15 => intro w0 hSw; (try dsimp only at hSw); go_simp <;> (try with_reducible rfl)
      try simp only [Act.put, List.setIfInBounds_toArray, List.set_cons_zero, List.set_cons_succ]
      refine wpAnyH_ready (rs := [16]) (by kernel_rfl) (by simp) ?_
      refine AllReadyH.cons (o := ({ dst := none, op := Op.store 24 (Operand.tmp 146) (Operand.tmp 145), type := 0, pos := "law.go:105", after := #[{ on := 15, ground := Ground.data }, { on := 14, ground := Ground.data }, { on := 14, ground := Ground.chain }, { on := 0, ground := Ground.phase }, { on := 1, ground := Ground.phase }, { on := 2, ground := Ground.phase }, { on := 3, ground := Ground.phase }, { on := 4, ground := Ground.phase }, { on := 5, ground := Ground.phase }, { on := 6, ground := Ground.phase }, { on := 7, ground := Ground.phase }, { on := 8, ground := Ground.phase }, { on := 9, ground := Ground.phase }, { on := 10, ground := Ground.phase }, { on := 11, ground := Ground.phase }, { on := 12, ground := Ground.phase }, { on := 13, ground := Ground.phase }, { on := 14, ground := Ground.phase }], guard := none } : Oper)) rfl (fun K hK => ?_) ?_
      go_simp
      refine hK.out _ _ ?_ (fun hHeld => ?_)
      · exact HC2.out _ _ hB3
      clear hK K
      try simp only [Act.put, List.setIfInBounds_toArray, List.set_cons_zero, List.set_cons_succ]
      refine wpAnyH_done (by kernel_rfl) ?_ _
      refine NoPanic.normal ?_
      rotate_left
      exact AllReadyH.nil
      exact AllReadyH.nil
      exact AllReadyH.nil
      refine AllReadyH.cons (o := ({ dst := some 144, op := Op.buildSlice 24 1 #[(0, Operand.tmp 143)], type := 24, pos := "law.go:105", after := #[{ on := 12, ground := Ground.data }], guard := none } : Oper)) rfl (fun K hK => ?_) ?_
      go_simp
      refine hK.out _ _ ?_ (fun hHeld => ?_)
      · exact (HC.out _ (bal HBM.out _)).2
      clear hK K
      try simp only [Act.put, List.setIfInBounds_toArray, List.set_cons_zero, List.set_cons_succ]
      refine wpAnyH_ready (rs := [1]) (by kernel_rfl) (by simp) ?_
      refine AllReadyH.cons (o := ({ dst := some 132, op := Op.load 24 (Operand.tmp 131), type := 24, pos := "law.go:105", after := #[{ on := 0, ground := Ground.data }], guard := none } : Oper)) rfl (fun K hK => ?_) ?_
      go_simp
      refine hK.out _ _ ?_ (fun hHeld => ?_)
      · exact (HC.out _ (bal HBM.out _)).2
      clear hK K
      try simp only [Act.put, List.setIfInBounds_toArray, List.set_cons_zero, List.set_cons_succ]
      refine wpAnyH_take (i := 8) (oi := ({ dst := some 139, op := Op.slice 24 (Operand.tmp 132) none (some (Operand.tmp 135)) (some (Operand.tmp 138)), type := 24, pos := "law.go:105", after := #[{ on := 1, ground := Ground.data }, { on := 4, ground := Ground.data }, { on := 7, ground := Ground.data }], guard := none } : Oper)) (v := ?vb16) rfl (by kernel_rfl) (by kernel_rfl) (by kernel_rfl) (fun _ _ _ h => h) (Or.inl ⟨by rfl, ?yb16⟩) (by assumption) ?rb16
      case yb16 => intro w0 hSw; (try dsimp only at hSw); go_simp <;> (try with_reducible rfl)
      try simp only [Act.put, List.setIfInBounds_toArray, List.set_cons_zero, List.set_cons_succ]
      refine wpAnyH_ready (rs := [14]) (by kernel_rfl) (by simp) ?_
      refine AllReadyH.cons (o := ({ dst := some 145, op := Op.call { callee := Callee.builtin Builtin.append, args := #[Operand.tmp 139, Operand.tmp 144], argTypes := #[24, 24] }, type := 24, pos := "law.go:105", after := #[{ on := 8, ground := Ground.data }, { on := 13, ground := Ground.data }], guard := none } : Oper)) rfl (fun K hK => ?_) ?_
      refine step_append_grows (P := Try.prog) (by rfl) _ _ _ (by rfl) 9 i0 (.string ByteArray.empty) 1 16 Try.underlying24 HI.out.1 HI.out.2.1 HI.out.2.2.1 HI.out.2.2.2 rfl (by decide) (some ⟨gd, 0, none⟩) P.D.length P.D.length (P.D.map Value.string) (by rfl) (fun h => by cases h) (by simp) HOld.out ⟨M.heap.size, 0, none⟩ 1 1 [.string (zB kn)] (by rfl) rfl HNew.out (by simp [Value.oneCell']) (by omega) (by have := HK.out; unfold maxLen; omega) (by have := HK.out; omega) ?_
      intro v' w3 o3 g3
      have hB3 : Below Z.heap.size Z w3 := bnext (bal HBM.out _) ((Below.refl _ _).grown g3 (Nat.le_refl _) (fun k hk => by cases hk))
      have f3 := (HF6.out _ hB3).fz 5
      have c3 := (HC.out _ hB3).1
      obtain ⟨va, vm, vc, rfl⟩ := Cv.own_slice o3
      refine hK.out _ _ ?_ (fun hHeld => ?_)
      · exact (HC.out _ hB3).2
      clear hK K
      try simp only [Act.put, List.setIfInBounds_toArray, List.set_cons_zero, List.set_cons_succ]
      refine wpAnyH_take (i := 15) (oi := ({ dst := some 146, op := Op.fieldAddr 26 (Operand.tmp 18) 5, type := 0, pos := "law.go:105", after := #[{ on := 0, ground := Ground.phase }, { on := 1, ground := Ground.phase }, { on := 2, ground := Ground.phase }, { on := 3, ground := Ground.phase }, { on := 4, ground := Ground.phase }, { on := 5, ground := Ground.phase }, { on := 6, ground := Ground.phase }, { on := 7, ground := Ground.phase }, { on := 8, ground := Ground.phase }, { on := 9, ground := Ground.phase }, { on := 10, ground := Ground.phase }, { on := 11, ground := Ground.phase }, { on := 12, ground := Ground.phase }, { on := 13, ground := Ground.phase }, { on := 14, ground := Ground.phase }], guard := none } : Oper)) (v := ?vb17) rfl (by kernel_rfl) (by kernel_rfl) (by kernel_rfl) (fun _ _ _ h => h) (Or.inl ⟨by rfl, ?yb17⟩) (by assumption) ?rb17
      case yb17 => intro w0 hSw; (try dsimp only at hSw); go_simp <;> (try with_reducible rfl)
      try simp only [Act.put, List.setIfInBounds_toArray, List.set_cons_zero, List.set_cons_succ]
      refine wpAnyH_ready (rs := [16]) (by kernel_rfl) (by simp) ?_
      refine AllReadyH.cons (o := ({ dst := none, op := Op.store 24 (Operand.tmp 146) (Operand.tmp 145), type := 0, pos := "law.go:105", after := #[{ on := 15, ground := Ground.data }, { on := 14, ground := Ground.data }, { on := 14, ground := Ground.chain }, { on := 0, ground := Ground.phase }, { on := 1, ground := Ground.phase }, { on := 2, ground := Ground.phase }, { on := 3, ground := Ground.phase }, { on := 4, ground := Ground.phase }, { on := 5, ground := Ground.phase }, { on := 6, ground := Ground.phase }, { on := 7, ground := Ground.phase }, { on := 8, ground := Ground.phase }, { on := 9, ground := Ground.phase }, { on := 10, ground := Ground.phase }, { on := 11, ground := Ground.phase }, { on := 12, ground := Ground.phase }, { on := 13, ground := Ground.phase }, { on := 14, ground := Ground.phase }], guard := none } : Oper)) rfl (fun K hK => ?_) ?_
      go_simp
      refine hK.out _ _ ?_ (fun hHeld => ?_)
      · exact HC2.out _ _ hB3
      clear hK K
      try simp only [Act.put, List.setIfInBounds_toArray, List.set_cons_zero, List.set_cons_succ]
      refine wpAnyH_done (by kernel_rfl) ?_ _
      refine NoPanic.normal ?_
      rotate_left
      exact AllReadyH.nil
      exact AllReadyH.nil
      exact AllReadyH.nil
      exact AllReadyH.nil
      exact AllReadyH.nil
      exact AllReadyH.nil
      all_goals
        have h17 := (HF6.out _ hB3).set5 (.slice va vm vc)
        have hc17 := (ChT.refl (fun b => b = w15.heap.size) w3).set w15.heap.size 5 (.slice va vm vc) rfl
        obtain ⟨w17, hw17⟩ : ∃ w17, w3.setCell ⟨w15.heap.size, 5, none⟩ (.slice va vm vc) = w17 := ⟨_, rfl⟩
        rw [hw17] at h17 hc17
        rw [hw17]
        have hB17 : Below W.heap.size W w17 := (bnext HG.out.2.2.2.1 hB3).trans (hc17.below (by rintro b rfl; exact HG.out.2.1))
        have o17 : OwnS w17 (M.alloc (.cells #[.string (zB kn)] 9)).heap.size (.slice va vm vc) (P.D ++ [zB kn]) := by
          have o4 : OwnS w3 (M.alloc (.cells #[.string (zB kn)] 9)).heap.size (.slice va vm vc) (P.D ++ [zB kn]) := by
            rw [OwnS, List.length_append, List.map_append]; exact o3
          refine keep_row o4 fun g hg _ => hc17.block g ?_
          have h1 := (World.ownsRow.lt o3 g hg).1
          have h2 := (bal HBM.out (.cells #[.string (zB kn)] 9)).size
          have h3 := HG.out.2.2.1
          show ¬ _ = _
          omega
        obtain ⟨ao, b, cap, hv, r17, hcap, _⟩ := owns_rds o17 (fun d hd => by
          rcases List.mem_append.1 hd with hd | hd
          · exact HG.out.2.2.2.2 d hd
          · rw [List.mem_singleton.1 hd, zB_size]; have := HK.out; omega)
        injection hv with hv1 hv2 hv3
        subst hv1 hv3
        have u17 : RdU w17 (some ⟨gs, 0, none⟩) gs 0 P.S.length P.S := by
          have o5 := (HRd.out _ hB3).1
          have o6 : Cv.Own w17 G2.heap.size (.slice (some ⟨gs, 0, none⟩) (P.S.length + 2) cs) (P.S ++ [7000000, 7000001]) := by
            refine keep_row o5 fun g hg _ => hc17.block g ?_
            have h0 : gs = g := by injection hg
            have h1 := HG.out.1
            show ¬ g = w15.heap.size
            omega
          exact own_rdu (l' := [7000000, 7000001]) o6
        have x1 := (HX.out _ hB17).1
        have rdm : RdP w17 (some ⟨gs, 0, none⟩) gs 0 cs va b 0 vc ⟨P.kd, P.k, P.old, P.size, P.S, P.D ++ [zB kn]⟩ := ⟨u17, r17, x1.old64, x1.sz64, x1.mS, by have := HK.out; simp only [List.length_append, List.length_singleton]; omega, hcap⟩
        have HEm := encode_no w17 _ _ _ _ _ _ _ _ _ rdm (not_well HT.out.1 (by simp))
        simp only [pvP, pv6] at HEm
        rw [← hv2] at HEm
        clear hv2
        obtain ⟨m0, m1, m2, m3, m4, m5⟩ := h17.cells
        have HB17 := hide hB17
        clear q1 q2 q3 qm qa c3 f3 o3 g3 hB3 h17 hc17 hw17 hB17 o17 r17 hcap u17 x1 rdm hmk hcv HOld HNew HBM HRd HC HC2 HF6 hZd
        go_upto_region 23 with (go_at_call 11; with_reducible refine HEm.mono ?_; rintro x w18 ⟨rfl, hb18⟩)
        have hw18 := bnext HB17.out hb18
        obtain ⟨j1, j2, j3⟩ := HX.out _ hw18
        obtain ⟨e0, e1, e2, e3, e4, e5⟩ := j2.cells
        have HB := hide j3
        clear m0 m1 m2 m3 m4 m5 HEm hb18 HB17 j1 j2 j3
        by_cases hd0 : P.D.length = 0
        · have hd1 : ¬ (0 : Int) < (P.D.length : Int) := by omega
          clear hd0
          go_wp2
          go_ret
          exact ⟨rfl, HB.out⟩
        · have hd1 : (0 : Int) < (P.D.length : Int) := by omega
          go_upto_region 25 with (go_at_call 15; with_reducible refine (HL.out _ hw18).mono ?_; rintro x w19 ⟨ys, ks, yd, kd', rfl, o1, o2, hc1, hc2, hb19⟩)
          obtain ⟨Y, hY, h20, hb20, hz20⟩ := box6 w19 (.int .i64 P.kd) (.int .i64 P.k) (.int .u64 (P.old : Int)) (.int .u64 (P.size : Int)) (.slice (some ⟨ys, 0, none⟩) P.S.length ks) (.slice (some ⟨yd, 0, none⟩) P.D.length kd')
          try rw [hY]
          clear hY hz20 e0 e1 e2 e3 e4 e5
          obtain ⟨m0, m1, m2, m3, m4, m5⟩ := h20.cells
          have f5 := h20.fz 5
          have hk1 : (P.D.length : Int) ≤ (kd' : Int) := by omega
          have hk2 : (1 : Int) ≤ (P.D.length : Int) := by omega
          go_upto_region 26 with (fail)
          have h21 := h20.set5 (.slice (some ⟨yd, 1, none⟩) (P.D.length - 1) (kd' - 1))
          have hc21 := (ChT.refl (fun b => b = w19.heap.size) Y).set w19.heap.size 5 (.slice (some ⟨yd, 1, none⟩) (P.D.length - 1) (kd' - 1)) rfl
          obtain ⟨w21, hw21⟩ : ∃ w21, Y.setCell ⟨w19.heap.size, 5, none⟩ (.slice (some ⟨yd, 1, none⟩) (P.D.length - 1) (kd' - 1)) = w21 := ⟨_, rfl⟩
          rw [hw21] at h21 hc21
          rw [hw21]
          have hwY := bnext (bnext hw18 hb19) hb20
          have hB21 : Below W.heap.size W w21 := hwY.trans (hc21.below (by rintro b rfl; exact (bnext hw18 hb19).size))
          have hys : ys < w19.heap.size := (World.ownsRow.lt o1 ys rfl).2
          have hyd : yd < w19.heap.size := (World.ownsRow.lt o2 yd rfl).2
          have o1' : Cv.Own w21 w18.heap.size (.slice (some ⟨ys, 0, none⟩) (P.S.length + 2) ks) (P.S ++ [7000000, 7000001]) := by
            refine keep_row (Cv.ownB_next o1 hb20) fun g hg _ => hc21.block g ?_
            have h0 : ys = g := by injection hg
            show ¬ g = w19.heap.size
            omega
          have o2' : OwnS w21 w18.heap.size (.slice (some ⟨yd, 0, none⟩) (P.D.length + 2) kd') (P.D ++ [oneB, twoB]) := by
            refine keep_row (own_next o2 hb20 (Nat.le_refl _)) fun g hg _ => hc21.block g ?_
            have h0 : yd = g := by injection hg
            show ¬ g = w19.heap.size
            omega
          have x1 := (HX.out _ hB21).1
          have rdm : RdP w21 (some ⟨ys, 0, none⟩) ys 0 ks (some ⟨yd, 1, none⟩) yd 1 (kd' - 1) ⟨P.kd, P.k, P.old, P.size, P.S, P.D.drop 1⟩ := ⟨own_rdu o1', rds_drop1 (own_rds o2' HG.out.2.2.2.2), x1.old64, x1.sz64, x1.mS, by have := HK.out; simp only [List.length_drop]; omega, by simp only [List.length_drop]; omega⟩
          have HEl := encode_no w21 _ _ _ _ _ _ _ _ _ rdm (not_well HT.out.1 (by rw [List.length_drop]; omega))
          simp only [pvP, pv6, List.length_drop] at HEl
          have HBl := hide (HX.out _ hB21).2.2
          clear m0 m1 m2 m3 m4 m5 f5
          obtain ⟨m0, m1, m2, m3, m4, m5⟩ := h21.cells
          clear h20 h21 hc21 hw21 hwY hB21 hys hyd o1' o2' o1 o2 x1 rdm hb19 hb20 hw18 hd0 hk1 hk2 hc1 hc2
          go_wp2_with (go_at_call 11; with_reducible refine HEl.mono ?_; rintro x w22 ⟨rfl, hb22⟩)
          go_ret
          exact ⟨rfl, bnext HBl.out hb22⟩
    · have HE := encode_no w6 sa sb so sc da db dO dc P x1 hw
      simp only [pvP, pv6] at HE
      have HB := hide x3
      clear hw x1 x2 x3
      generalize P.S.length = ms at *
      generalize P.D.length = md at *
      go_wp2_with (go_at_call 11; with_reducible refine HE.mono ?_; rintro x w6' ⟨rfl, hb6⟩)
      go_ret
      exact ⟨rfl, bnext HB.out hb6⟩
end Go.Proofs.Ytelglfmppmdmoaa
