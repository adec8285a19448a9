/-
  WholeForm. Own work. (written by mkForm.py)
-/
import Derived.Test.YtelglfmppmdmoaaGWalkA
namespace Go.Proofs.Ytelglfmppmdmoaa
open Go.RowKit
attribute [local go_sem ↓] Go.wp_at_zero Go.wp_at_succ
theorem enc_pos (P : PV) : 2 ≤ (enc P).length := by simp [enc]
theorem ba_list (l : List UInt8) : (⟨l.toArray⟩ : ByteArray).data.toList = l := by simp
theorem ba_size (l : List UInt8) : (⟨l.toArray⟩ : ByteArray).size = l.length := by simp [ByteArray.size]
theorem ba_back (s : ByteArray) : (⟨s.data.toList.toArray⟩ : ByteArray) = s := ba_ext (ba_list _)
theorem dec_nul {P : PV} (h : Well P) {t : ByteArray} (ht : t.data.toList = enc P) : dec (t ++ (⟨#[0]⟩ : ByteArray)).data.toList = none := by
  have e : (t ++ (⟨#[0]⟩ : ByteArray)).data.toList = enc P ++ [0] := by rw [ByteArray.data_append, Array.toList_append, ht]
  rw [e]
  exact dec_more (dec_enc h) (by simp)
theorem dec_less {P : PV} (h : Well P) {t : ByteArray} (ht : t.data.toList = enc P) {j : Nat} (hj : j < t.size) : dec (t.extract 0 j).data.toList = none := by
  rw [ext_take, ht]
  exact dec_cut h (by rw [← ht, size_list]; exact hj)
theorem ext_size (t : ByteArray) (j : Nat) : (t.extract 0 j).size ≤ t.size := by
  have := congrArg List.length (ext_take t j)
  rw [size_list, List.length_take, size_list] at this
  omega
set_option maxRecDepth 100000 in
set_option maxHeartbeats 4000000 in
theorem form_walk (w : World) (sa : Option Addr) (sb so sc : Nat) (da : Option Addr) (db dO dc : Nat) (P : PV) (hp : RdP w sa sb so sc da db dO dc P) (s : ByteArray) (hs : s.size ≤ 140737488355328) :
    Calls Try.prog 7 #[pvP P sa sc da dc, .string s] w fun e w' => e = .returned (.bool true) ∧ Below w.heap.size w w' := by
  obtain ⟨W, hW, h6, hb, _⟩ := box6 w (.int .i64 P.kd) (.int .i64 P.k) (.int .u64 (P.old : Int)) (.int .u64 (P.size : Int)) (.slice sa P.S.length sc) (.slice da P.D.length dc)
  have HX : Hid (∀ F, Below W.heap.size W F → RdP F sa sb so sc da db dO dc P ∧ Six F w.heap.size (.int .i64 P.kd) (.int .i64 P.k) (.int .u64 (P.old : Int)) (.int .u64 (P.size : Int)) (.slice sa P.S.length sc) (.slice da P.D.length dc) ∧ Below w.heap.size w F) := fun F hF => ⟨hp.next (bnext hb hF), h6.next hF, bnext hb hF⟩
  have HS : Hid (s.size ≤ 140737488355328) := hs
  clear hp h6 hb hs
  simp only [pvP, pv6]
  go_enter Try.func7, Try.ntmps7
  go_upto_region 3 with (go_at_call 20; (try rw [hW]); with_reducible refine (formed_any _).mono ?_; rintro x w1 ⟨rfl, hb1⟩)
  clear hW
  rcases hd : dec s.data.toList with _ | Q
  · have HD := decode_none w1 s (by have := HS.out; omega) hd
    clear hd
    go_upto_region 4 with (go_at_call 10; with_reducible refine HD.mono ?_; rintro x w2 ⟨rfl, hb2⟩)
    obtain ⟨F, hF, h7, hb3, _⟩ := box6 w2 (.int .i64 0) (.int .i64 0) (.int .u64 0) (.int .u64 0) (.slice none 0 0) (.slice none 0 0)
    try rw [hF]
    clear hF HD
    have hbF : Below W.heap.size W F := bnext (bnext hb1 hb2) hb3
    obtain ⟨m0, m1, m2, m3, m4, m5⟩ := h7.cells
    have HN : Calls Try.prog 21 #[.agg #[.int .i64 0, .int .i64 0, .int .u64 0, .int .u64 0, .slice none 0 0, .slice none 0 0], .agg #[.int .i64 0, .int .i64 0, .int .u64 0, .int .u64 0, .slice none 0 0, .slice none 0 0]] F fun e w' => e = .returned (.bool true) ∧ Below F.heap.size F w' :=
      sameproof_yes F none 0 0 0 none 0 0 0 none 0 0 0 none 0 0 0 noV (rdp_no F) (rdp_no F)
    clear h7 hb1 hb2 hb3
    go_upto_region 10 with (go_at_call 21; with_reducible refine HN.mono ?_; rintro x w5 ⟨rfl, hb5⟩)
    have hbG : Below W.heap.size W w5 := bnext hbF hb5
    clear HN hbF hb5 m0 m1 m2 m3 m4 m5
    obtain ⟨x1, x2, x3⟩ := HX.out _ hbG
    obtain ⟨e0, e1, e2, e3, e4, e5⟩ := x2.cells
    by_cases hw : Well P
    · have HE := encode_yes w5 sa sb so sc da db dO dc P x1 hw
      obtain ⟨t, ht⟩ : ∃ t, (⟨(enc P).toArray⟩ : ByteArray) = t := ⟨_, rfl⟩
      have ht1 : t.data.toList = enc P := by rw [← ht, ba_list]
      have hlen := enc_len hw
      have hpos := enc_pos P
      have htz : t.size = (enc P).length := by rw [← ht, ba_size]
      rw [ht] at HE
      simp only [pvP, pv6] at HE
      have HT : Hid (Well P ∧ t.data.toList = enc P ∧ t.size ≤ 70368744177664 ∧ 2 ≤ t.size) := ⟨hw, ht1, by omega, by omega⟩
      have hz1 : (t.size : Int) ≤ 70368744177664 := by omega
      have hz2 : (2 : Int) ≤ (t.size : Int) := by omega
      clear hw ht ht1 hlen hpos htz x1 x2 x3
      go_upto_region 13 with (go_at_call 11; with_reducible refine HE.mono ?_; rintro x w6 ⟨rfl, hb6⟩)
      have hw6 : Below W.heap.size W w6 := bnext hbG hb6
      have HD := decode_some w6 t (by have := HT.out; omega) P (by rw [HT.out.2.1]; exact dec_enc HT.out.1)
      clear HE e0 e1 e2 e3 e4 e5 hbG hb6
      go_upto_region 14 with (go_at_call 10; (refine HD.mono ?_); rintro x w7 ⟨za, zb, zc, ua, ub, uc, rfl, z1, hb7⟩)
      obtain ⟨G, hG, h9, hb8, _⟩ := box6 w7 (.int .i64 P.kd) (.int .i64 P.k) (.int .u64 (P.old : Int)) (.int .u64 (P.size : Int)) (.slice za P.S.length zc) (.slice ua P.D.length uc)
      try rw [hG]
      clear hG HD
      have HG : Hid (∀ F', Below G.heap.size G F' → RdP F' za zb 0 zc ua ub 0 uc P ∧ Six F' w7.heap.size (.int .i64 P.kd) (.int .i64 P.k) (.int .u64 (P.old : Int)) (.int .u64 (P.size : Int)) (.slice za P.S.length zc) (.slice ua P.D.length uc) ∧ Below W.heap.size W F') := fun F' hF' => ⟨(z1.next hb8).next hF', h9.next hF', bnext (bnext (bnext hw6 hb7) hb8) hF'⟩
      have ht0 : (t.size : Int) - 1 = ((t.size - 1 : Nat) : Int) := by omega
      have hc1 : ((t.size - 1 : Nat) : Int) ≤ (t.size : Int) := by omega
      have hc0 : (0 : Int) ≤ ((t.size - 1 : Nat) : Int) := Int.natCast_nonneg _
      have hc2 : ((t.size - 1 : Nat) : Int) ≤ 70368744177664 := by omega
      have HD1 := fun F' => decode_none F' (t.extract 0 (t.size - 1)) (by have := ext_size t (t.size - 1); have := HT.out; omega) (dec_less HT.out.1 HT.out.2.1 (by have := HT.out; omega))
      have HD2 := fun F' => decode_none F' (t ++ ⟨#[0]⟩) (by have := HT.out; rw [ByteArray.size_append]; show t.size + 1 ≤ _; omega) (dec_nul HT.out.1 HT.out.2.1)
      clear z1 h9 hb7 hb8 hw6
      generalize hq : t.size - 1 = n1 at *
      go_upto_region 15 with (go_at_call 10; (refine (HD1 _).mono ?_); rintro x w8 ⟨rfl, hb8⟩)
      obtain ⟨G1, hG1, _, hb9, _⟩ := box6 w8 (.int .i64 0) (.int .i64 0) (.int .u64 0) (.int .u64 0) (.slice none 0 0) (.slice none 0 0)
      try rw [hG1]
      clear hG1
      have hbg1 : Below G.heap.size G G1 := bnext hb8 hb9
      clear hb8 hb9 HD1
      go_upto_region 16 with (go_at_call 10; (refine (HD2 _).mono ?_); rintro x w9 ⟨rfl, hb10⟩)
      obtain ⟨G2, hG2, _, hb11, _⟩ := box6 w9 (.int .i64 0) (.int .i64 0) (.int .u64 0) (.int .u64 0) (.slice none 0 0) (.slice none 0 0)
      try rw [hG2]
      clear hG2
      obtain ⟨y1, y2, y3⟩ := HG.out _ (bnext (bnext hbg1 hb10) hb11)
      obtain ⟨x1, x2, x3⟩ := HX.out _ y3
      have HSm := sameproof_yes G2 _ _ _ _ _ _ _ _ _ _ _ _ _ _ _ _ P y1 x1
      simp only [pvP, pv6] at HSm
      obtain ⟨e0, e1, e2, e3, e4, e5⟩ := x2.cells
      obtain ⟨m0, m1, m2, m3, m4, m5⟩ := y2.cells
      have HB := hide x3
      clear x1 x2 x3 y1 y2 y3 hbg1 hb10 hb11 HD2 HG HX
      generalize P.S.length = ms at *
      generalize P.D.length = md at *
      go_wp2_with (go_at_call 21; with_reducible refine HSm.mono ?_; rintro x w10 ⟨rfl, hb12⟩)
      go_ret
      exact ⟨rfl, bnext HB.out hb12⟩
    · have HE := encode_no w5 sa sb so sc da db dO dc P x1 hw
      simp only [pvP, pv6] at HE
      have HB := hide x3
      clear hw x1 x2 x3
      generalize P.S.length = ms at *
      generalize P.D.length = md at *
      go_wp2_with (go_at_call 11; with_reducible refine HE.mono ?_; rintro x w6 ⟨rfl, hb6⟩)
      go_ret
      exact ⟨rfl, bnext HB.out hb6⟩
  · have HQ := hide hd
    have HD := decode_some w1 s (by have := HS.out; omega) Q hd
    have hQ := (enc_dec hd).1
    have hE : (⟨(enc Q).toArray⟩ : ByteArray) = s := by rw [(enc_dec hd).2.1, ba_back]
    clear hd
    go_upto_region 4 with (go_at_call 10; (refine HD.mono ?_); rintro x w2 ⟨xa, xb, xc, ya, yb, yc, rfl, q1, hb2⟩)
    obtain ⟨F, hF, h7, hb3, _⟩ := box6 w2 (.int .i64 Q.kd) (.int .i64 Q.k) (.int .u64 (Q.old : Int)) (.int .u64 (Q.size : Int)) (.slice xa Q.S.length xc) (.slice ya Q.D.length yc)
    try rw [hF]
    clear hF HD
    have hbF : Below W.heap.size W F := bnext (bnext hb1 hb2) hb3
    obtain ⟨m0, m1, m2, m3, m4, m5⟩ := h7.cells
    have HN := encode_yes F xa xb 0 xc ya yb 0 yc Q (q1.next hb3) hQ
    rw [hE] at HN
    simp only [pvP, pv6] at HN
    clear h7 hb1 hb2 hb3 q1 hQ hE
    generalize Q.S.length = xm at *
    generalize Q.D.length = ym at *
    go_upto_region 10 with (go_at_call 11; with_reducible refine HN.mono ?_; rintro x w5 ⟨rfl, hb5⟩)
    have hbG : Below W.heap.size W w5 := bnext hbF hb5
    clear HN hbF hb5 m0 m1 m2 m3 m4 m5
    obtain ⟨x1, x2, x3⟩ := HX.out _ hbG
    obtain ⟨e0, e1, e2, e3, e4, e5⟩ := x2.cells
    by_cases hw : Well P
    · have HE := encode_yes w5 sa sb so sc da db dO dc P x1 hw
      obtain ⟨t, ht⟩ : ∃ t, (⟨(enc P).toArray⟩ : ByteArray) = t := ⟨_, rfl⟩
      have ht1 : t.data.toList = enc P := by rw [← ht, ba_list]
      have hlen := enc_len hw
      have hpos := enc_pos P
      have htz : t.size = (enc P).length := by rw [← ht, ba_size]
      rw [ht] at HE
      simp only [pvP, pv6] at HE
      have HT : Hid (Well P ∧ t.data.toList = enc P ∧ t.size ≤ 70368744177664 ∧ 2 ≤ t.size) := ⟨hw, ht1, by omega, by omega⟩
      have hz1 : (t.size : Int) ≤ 70368744177664 := by omega
      have hz2 : (2 : Int) ≤ (t.size : Int) := by omega
      clear hw ht ht1 hlen hpos htz x1 x2 x3
      go_upto_region 13 with (go_at_call 11; with_reducible refine HE.mono ?_; rintro x w6 ⟨rfl, hb6⟩)
      have hw6 : Below W.heap.size W w6 := bnext hbG hb6
      have HD := decode_some w6 t (by have := HT.out; omega) P (by rw [HT.out.2.1]; exact dec_enc HT.out.1)
      clear HE e0 e1 e2 e3 e4 e5 hbG hb6
      go_upto_region 14 with (go_at_call 10; (refine HD.mono ?_); rintro x w7 ⟨za, zb, zc, ua, ub, uc, rfl, z1, hb7⟩)
      obtain ⟨G, hG, h9, hb8, _⟩ := box6 w7 (.int .i64 P.kd) (.int .i64 P.k) (.int .u64 (P.old : Int)) (.int .u64 (P.size : Int)) (.slice za P.S.length zc) (.slice ua P.D.length uc)
      try rw [hG]
      clear hG HD
      have HG : Hid (∀ F', Below G.heap.size G F' → RdP F' za zb 0 zc ua ub 0 uc P ∧ Six F' w7.heap.size (.int .i64 P.kd) (.int .i64 P.k) (.int .u64 (P.old : Int)) (.int .u64 (P.size : Int)) (.slice za P.S.length zc) (.slice ua P.D.length uc) ∧ Below W.heap.size W F') := fun F' hF' => ⟨(z1.next hb8).next hF', h9.next hF', bnext (bnext (bnext hw6 hb7) hb8) hF'⟩
      have ht0 : (t.size : Int) - 1 = ((t.size - 1 : Nat) : Int) := by omega
      have hc1 : ((t.size - 1 : Nat) : Int) ≤ (t.size : Int) := by omega
      have hc0 : (0 : Int) ≤ ((t.size - 1 : Nat) : Int) := Int.natCast_nonneg _
      have hc2 : ((t.size - 1 : Nat) : Int) ≤ 70368744177664 := by omega
      have HD1 := fun F' => decode_none F' (t.extract 0 (t.size - 1)) (by have := ext_size t (t.size - 1); have := HT.out; omega) (dec_less HT.out.1 HT.out.2.1 (by have := HT.out; omega))
      have HD2 := fun F' => decode_none F' (t ++ ⟨#[0]⟩) (by have := HT.out; rw [ByteArray.size_append]; show t.size + 1 ≤ _; omega) (dec_nul HT.out.1 HT.out.2.1)
      clear z1 h9 hb7 hb8 hw6
      generalize hq : t.size - 1 = n1 at *
      go_upto_region 15 with (go_at_call 10; (refine (HD1 _).mono ?_); rintro x w8 ⟨rfl, hb8⟩)
      obtain ⟨G1, hG1, _, hb9, _⟩ := box6 w8 (.int .i64 0) (.int .i64 0) (.int .u64 0) (.int .u64 0) (.slice none 0 0) (.slice none 0 0)
      try rw [hG1]
      clear hG1
      have hbg1 : Below G.heap.size G G1 := bnext hb8 hb9
      clear hb8 hb9 HD1
      go_upto_region 16 with (go_at_call 10; (refine (HD2 _).mono ?_); rintro x w9 ⟨rfl, hb10⟩)
      obtain ⟨G2, hG2, _, hb11, _⟩ := box6 w9 (.int .i64 0) (.int .i64 0) (.int .u64 0) (.int .u64 0) (.slice none 0 0) (.slice none 0 0)
      try rw [hG2]
      clear hG2
      obtain ⟨y1, y2, y3⟩ := HG.out _ (bnext (bnext hbg1 hb10) hb11)
      obtain ⟨x1, x2, x3⟩ := HX.out _ y3
      have HSm := sameproof_yes G2 _ _ _ _ _ _ _ _ _ _ _ _ _ _ _ _ P y1 x1
      simp only [pvP, pv6] at HSm
      obtain ⟨e0, e1, e2, e3, e4, e5⟩ := x2.cells
      obtain ⟨m0, m1, m2, m3, m4, m5⟩ := y2.cells
      have HB := hide x3
      clear x1 x2 x3 y1 y2 y3 hbg1 hb10 hb11 HD2 HG HX
      generalize P.S.length = ms at *
      generalize P.D.length = md at *
      go_wp2_with (go_at_call 21; with_reducible refine HSm.mono ?_; rintro x w10 ⟨rfl, hb12⟩)
      go_ret
      exact ⟨rfl, bnext HB.out hb12⟩
    · have HE := encode_no w5 sa sb so sc da db dO dc P x1 hw
      simp only [pvP, pv6] at HE
      have HB := hide x3
      clear hw x1 x2 x3
      generalize P.S.length = ms at *
      generalize P.D.length = md at *
      go_wp2_with (go_at_call 11; with_reducible refine HE.mono ?_; rintro x w6 ⟨rfl, hb6⟩)
      go_ret
      exact ⟨rfl, bnext HB.out hb6⟩
end Go.Proofs.Ytelglfmppmdmoaa
