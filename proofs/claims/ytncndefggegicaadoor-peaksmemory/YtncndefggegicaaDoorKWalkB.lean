/-
  Walks of package peaks: lay. Own work.
-/
import Derived.Test.YtncndefggegicaaDoorKWalkA
namespace Go.Proofs.YtncndefggegicaaDoor
open Go.RowKit
open Pl (ones)
attribute [local go_sem ↓] Go.wp_at_zero Go.wp_at_succ
theorem jump_mono {l : Nat} {J J' : Act → World → Prop} {Q : Exit → Act → World → Prop} (h : ∀ a w, J a w → J' a w) : ∀ e a w, Exit.jump l J Q e a w → Exit.jump l J' Q e a w := by
  intro e a w hq
  cases e with
  | goto l' => exact ⟨hq.1, h _ _ hq.2⟩
  | _ => exact hq
theorem wp_scope_one {P : Program} {a : Act} {w : World} {Q : Exit → Act → World → Prop} {c X : Code} (l : Nat) (J : Act → World → Prop) (μ : Act → World → Nat) (hf : findLabel c l = some (Code.skip.seq X))
    (pass : ∀ a w, J a w → X.wp P (Exit.jump l (fun a' w' => J a' w' ∧ μ a' w' < μ a w) Q) a w)
    (first : (∀ a w, J a w → X.wp P (Exit.jump l J Q) a w) → c.wp P (Exit.jump l J Q) a w) : (Code.scope c).wp P Q a w :=
  wp_scope_jumps l J μ hf (first fun a w h => wp_mono (pass a w h) (jump_mono fun _ _ h => h.1)) fun a w h => wp_seq (wp_skip (pass a w h))
def slen : Value → Nat
  | .slice _ n _ => n
  | _ => 0
/-- Two lists have no array in common. -/
def Apart (v u : Value) : Prop := ∀ g, v.ownBlock = some g → u.ownBlock = some g → False
/-- What a digest that came has done: vm the digests of the new nodes. -/
structure Did (w w' : World) (p : Nat) (v : Value) (k : Int) (n' : Nat) (P' : List ByteArray) (vm : Value) (M : List ByteArray) (v' : Value) : Prop where
  rg : Rg w' p v' k n' P'
  own : OwnS w' w.heap.size vm M
  ch : Ch p w w'
  new : v' = v ∨ ∀ g, v'.ownBlock = some g → w.heap.size ≤ g
  apart : Apart vm v'
theorem own_setp {w : World} {B p i : Nat} {v x : Value} {l : List ByteArray} (h : OwnS w B v l) (hp : p < B) : OwnS (w.setCell ⟨p, i, none⟩ x) B v l := by
  obtain ⟨h1, h2⟩ := h
  refine ⟨h1, ?_⟩
  rcases h2 with h2 | ⟨g, cap, cur, rfl, hg, hh, r⟩
  · exact .inl h2
  · exact .inr ⟨g, cap, cur, rfl, hg, by rw [← hh]; exact Below.heap_setCell _ _ _ _ (by show g ≠ p; omega), r⟩
/-- What holds at the label. -/
structure At (w wr : World) (c h t f left : Nat) (d : ByteArray) (A0 P' M Q : List ByteArray) (vm : Value) (ao : Option Addr) (b len cap : Nat) : Prop where
  hlen : P'.length = len
  hleft : left = 2 ^ h * t
  ht : t < 2 ^ f
  hf : h + f = 40
  hd : d.size = c
  hP : ∀ s ∈ P', s.size = c
  hl : P'.length = (ol (fun h _ => h) 41 left).length
  hA : A0.length ≤ h
  hM : A0 ++ (carry c f t P' d).1 = M
  hQ : (carry c f t P' d).2 = Q
  own : OwnS wr w.heap.size vm (A0 ++ [d])
  rd : RdS w ao b 0 len P'
  cap : len ≤ cap
  below : Below w.heap.size w wr
theorem At.next {w wr W : World} {c h t f left : Nat} {d : ByteArray} {A0 P' M Q : List ByteArray} {vm : Value} {ao : Option Addr} {b len cap : Nat} (s : At w wr c h t f left d A0 P' M Q vm ao b len cap) (hb : Below wr.heap.size wr W) : At w W c h t f left d A0 P' M Q vm ao b len cap :=
  ⟨s.hlen, s.hleft, s.ht, s.hf, s.hd, s.hP, s.hl, s.hA, s.hM, s.hQ, own_next s.own hb (Nat.le_refl _), s.rd, s.cap, bnext s.below hb⟩
theorem At.lt {w wr : World} {c h t f left : Nat} {d : ByteArray} {A0 P' M Q : List ByteArray} {vm : Value} {ao : Option Addr} {b len cap : Nat} (s : At w wr c h t f left d A0 P' M Q vm ao b len cap) : left < 1099511627776 := by
  rw [s.hleft, show 1099511627776 = 2 ^ (h + f) by rw [s.hf], Nat.pow_add]
  exact Nat.mul_lt_mul_of_pos_left s.ht (Nat.two_pow_pos h)
/-- One mountain goes into the next. -/
theorem At.pop {w wr W : World} {c h t f left : Nat} {d d' : ByteArray} {A0 P' M Q : List ByteArray} {vm vm' : Value} {ao : Option Addr} {b m cap : Nat} (hc : c ≤ 32) (s : At w wr c h t f left d A0 P' M Q vm ao b (m + 1) cap) (ho : t % 2 = 1) (hd : dg c (nodeT (P'.getD m ByteArray.empty) d) = d') (hb : Below w.heap.size w W) (ho' : OwnS W w.heap.size vm' ((A0 ++ [d]) ++ [d'])) :
    ∃ f', At w W c (h + 1) (t / 2) f' (left - 2 ^ h) d' (A0 ++ [d]) (P'.take m) M Q vm' ao b m cap := by
  have hf := s.hf
  have hlt := s.ht
  have hl := s.hl
  have hlen := s.hlen
  have hcap := s.cap
  have hA := s.hA
  have hrd := s.rd
  cases f with
  | zero => simp at hlt; omega
  | succ f =>
    have hM := s.hM
    have hQ := s.hQ
    have e : P'.length - 1 = m := by omega
    rw [carry_odd ho (d' := d') (by rw [e]; exact hd), e] at hM hQ
    rw [s.hleft] at hl ⊢
    rw [ol_odd _ (by omega) ho, List.length_append, List.length_singleton] at hl
    rw [Nat.pow_succ] at hlt
    refine ⟨f, ⟨by rw [List.length_take]; omega, (step_num ho).1, by omega, by omega, by rw [← hd]; exact dg_size hc _, fun s' hs => s.hP s' (List.mem_of_mem_take hs), by rw [(step_num ho).1, List.length_take]; omega, by simp; omega, by rw [← hM]; simp, hQ, ho', ?_, by omega, hb⟩⟩
    refine ⟨by rw [List.length_take]; omega, fun h0 => hrd.ptr (by omega), fun j v hv => ?_, fun s hs => hrd.sz s (List.mem_of_mem_take hs)⟩
    rw [List.map_take, List.getElem?_take] at hv
    split at hv
    · exact hrd.rng j v hv
    · cases hv
def LayJ (w : World) (p gr c : Nat) (M Q : List ByteArray) (a' : Act) (w' : World) : Prop := ∃ (h t f left : Nat) (d : ByteArray) (A0 P' : List ByteArray) (vm : Value) (ao : Option Addr) (b len cap : Nat) (u11 u12 u13 u14 u15 u16 u17 u18 u19 u20 u21 u22 u23 u24 u25 u26 u27 u28 u29 u30 u31 u32 u33 u34 u35 u36 u37 u38 u39 u40 u41 u42 u43 u44 u45 u46 u47 u48 u49 u50 u51 u52 u53 u54 u55 u56 u57 u58 : Value),
    a' = { tmps := #[.pointer (some ⟨p, 0, none⟩), .int .i64 (h : Int), .string d, undef, undef, undef, .slice none 0 0, vm, .int .u64 (gr : Int), .slice ao len cap, .int .u64 (left : Int), u11, u12, u13, u14, u15, u16, u17, u18, u19, u20, u21, u22, u23, u24, u25, u26, u27, u28, u29, u30, u31, u32, u33, u34, u35, u36, u37, u38, u39, u40, u41, u42, u43, u44, u45, u46, u47, u48, u49, u50, u51, u52, u53, u54, u55, u56, u57, u58, undef, undef, undef, undef, undef, undef, undef, undef, undef, undef, undef, undef, undef], defers := [] } ∧
    At w w' c h t f left d A0 P' M Q vm ao b len cap
def muL (a' : Act) (_ : World) : Nat := slen (a'.tmps.getD 9 undef)
set_option maxRecDepth 100000 in
set_option maxHeartbeats 1000000 in
theorem lay_any (w : World) (ht : Tb w) (p : Nat) (v : Value) (k : Int) (n : Nat) (P : List ByteArray) (hr : Rg w p v k n P) (h : Nat) (hh : h ≤ 40) (d : ByteArray) (hd : d.size = clk k) (h0 : n % 2 ^ h = 0) (gr : Nat) (hgr0 : n + 2 ^ h = gr) (h1 : gr ≤ 1099511627776) (M Q : List ByteArray) (hM : Hid (mk (clk k) n P h d = (M, Q))) :
    Calls Tryd.prog 37 #[.pointer (some ⟨p, 0, none⟩), .int .i64 (h : Int), .string d] w fun e w' => ∃ vm v', e = .returned vm ∧ Did w w' p v k gr Q vm M v' := by
  obtain ⟨ao, b, cap, hv, hrd, hcap, hno⟩ := hr.rd
  obtain ⟨q, hq⟩ : ∃ q, 2 ^ h = q := ⟨_, rfl⟩
  have hgr : n + q = gr := by rw [← hq]; exact hgr0
  have HI : Hid (∀ W, Calls Tryd.prog 41 #[.int .i64 (h : Int)] W fun e w' => e = .returned (.int .u64 (q : Int)) ∧ w' = W) := fun W => items_any h W hh q hq
  have hg1 : IntKind.u64.wrap ((n : Int) + (q : Int)) = (gr : Int) := by rw [u64_id _ (by omega) (by omega)]; omega
  have HRg : Hid (∀ W, Below w.heap.size w W → Rg W p v k n P) := fun W hb => hr.next hb (Nat.le_refl _)
  have HTb : Hid (∀ W, Below w.heap.size w W → Tb W) := fun W hb => ht.next hb
  have c1 := fun o => (HRg.out _ (bal (Below.refl _ _) o)).c1
  have c2 := fun o => (HRg.out _ (bal (Below.refl _ _) o)).c2
  rw [hv] at c2
  have HS : Hid (At w (w.alloc (.cells #[.string d] 9)) (clk k) h (n / 2 ^ h) (40 - h) n d [] P M Q (.slice (some ⟨w.heap.size, 0, none⟩) 1 1) ao b P.length cap) := by
    have hn := hr.hn
    have hdm := Nat.div_add_mod n (2 ^ h)
    refine ⟨rfl, by omega, ?_, by omega, hd, hr.hs, hr.hl, Nat.zero_le _, by rw [List.nil_append]; exact congrArg Prod.fst hM.out, congrArg Prod.snd hM.out, own_one w d, hrd, hcap, bal (Below.refl _ _) _⟩
    rw [Nat.div_lt_iff_lt_mul (Nat.two_pow_pos h), ← Nat.pow_add, show 40 - h + h = 40 by omega]
    have := Nat.two_pow_pos h
    omega
  have HN : Hid (n ≤ 1099511627776 ∧ gr ≤ 1099511627776 ∧ Q.length = (hts gr).length ∧ (∀ s ∈ Q, s.size = clk k) ∧ 1 ≤ k ∧ k ≤ 32) := by
    have eQ : (carry (clk k) (40 - h) (n / 2 ^ h) P d).2 = Q := congrArg Prod.snd hM.out
    refine ⟨hr.hn, h1, ?_, ?_, hr.k1, hr.k2⟩
    · rw [← eQ, carry_len (clk k) 41 (40 - h) h (n / 2 ^ h) P d (by omega) HS.out.ht (by rw [← HS.out.hleft]; exact hr.hl), ← HS.out.hleft, hgr0]; rfl
    · rw [← eQ]; exact (carry_size (clk_le k) _ _ _ _ hr.hs hd).2
  have HP0 : Hid (p < w.heap.size) := hr.lt
  have HV := hide hv
  clear hM hgr hgr0 hq h1 h0 hh ht hr hrd hcap hno hd
  go_enter Tryd.func37, Tryd.ntmps37
  go_wp2
  refine wp_scope_one 0 (LayJ w p gr (clk k) M Q) muL rfl ?pass ?first
  case first =>
    intro HP
    have HP2 := hide HP
    clear HP
    go_wp2
    go_quiet ((go_at_call 41; refine Calls.quiet_of_same (HI.out _)))
    go_wp2
    go_quiet (fail)
    go_wp2
    go_step3
    rename_i K0 hK0
    refine hK0 _ _ (HP2.out _ _ ⟨h, n / 2 ^ h, 40 - h, n, d, [], P, _, ao, b, P.length, cap, _, _, _, _, _, _, _, _, _, _, _, _, _, _, _, _, _, _, _, _, _, _, _, _, _, _, _, _, _, _, _, _, _, _, _, _, _, _, _, _, _, _, _, _, _, _, _, _, rfl, HS.out.next ?_⟩)
    exact below_drewN (below_drewN (Below.refl _ _) _) _
  case pass =>
    clear HS HI hg1 c1 c2 h d
    rintro a' w' ⟨h, t, f, left, d, A0, P', vm, ao', b', len, cap', u11, u12, u13, u14, u15, u16, u17, u18, u19, u20, u21, u22, u23, u24, u25, u26, u27, u28, u29, u30, u31, u32, u33, u34, u35, u36, u37, u38, u39, u40, u41, u42, u43, u44, u45, u46, u47, u48, u49, u50, u51, u52, u53, u54, u55, u56, u57, u58, rfl, HA0⟩
    have HA := hide HA0
    have hlt := HA0.lt
    have HLt := hide hlt
    clear HA0 hlt
    by_cases ho : t % 2 = 1
    · have hh : h ≤ 39 := by
        have h1 := HA.out.hf
        have h2 := HA.out.ht
        apply Nat.le_of_not_lt
        intro h3
        obtain rfl : f = 0 := by omega
        simp at h2
        omega
      have hT : tr 64 left = h := by
        rw [tr_eq 64 h left (by omega), HA.out.hleft, (pow_num h t).2]
        exact ⟨(pow_num h t).1, ho⟩
      have HT : Hid (∀ W, Calls Tryd.prog 40 #[.int .u64 (left : Int)] W fun e w' => e = .returned (.int .i64 (h : Int)) ∧ W = w') := fun W => (trail_any left W (by have := HLt.out; omega) h hT).mono fun _ _ h => ⟨h.1, h.2.symm⟩
      obtain ⟨m, rfl⟩ : ∃ m, len = m + 1 := by
        have h1 := HA.out.hl
        rw [HA.out.hleft, ol_odd _ (by omega) ho, List.length_append, List.length_singleton, HA.out.hlen] at h1
        exact ⟨len - 1, by omega⟩
      obtain ⟨q, hq⟩ : ∃ q, 2 ^ h = q := ⟨_, rfl⟩
      obtain ⟨l2, hl2⟩ : ∃ l2, left - 2 ^ h = l2 := ⟨_, rfl⟩
      obtain ⟨h2, hh2⟩ : ∃ h2, h + 1 = h2 := ⟨_, rfl⟩
      have hql : q ≤ left := by
        rw [HA.out.hleft, ← hq]
        exact Nat.le_mul_of_pos_right _ (by omega)
      have HI : Hid (∀ W, Calls Tryd.prog 41 #[.int .i64 (h : Int)] W fun e w' => e = .returned (.int .u64 (q : Int)) ∧ w' = W) := fun W => items_any h W (by omega) q hq
      have e1 : IntKind.i64.wrap (m : Int) = (m : Int) := by
        have := HA.out.hl
        have := ol_len_le (fun h _ => h) 41 left
        have := HA.out.hlen
        rw [IntKind.wrap_i64]; omega
      have e2 : IntKind.u64.wrap ((left : Int) - (q : Int)) = (l2 : Int) := by
        have := HLt.out
        rw [u64_id _ (by omega) (by omega)]; omega
      have e3 : IntKind.i64.wrap ((h : Int) + 1) = (h2 : Int) := by rw [IntKind.wrap_i64]; omega
      have i1 : (m : Int) < (m : Int) + 1 := by omega
      have i2 : (0 : Int) ≤ (m : Int) := Int.natCast_nonneg _
      have i3 : (m : Int) ≤ (cap' : Int) := by have := HA.out.cap; omega
      obtain rfl := HA.out.rd.ptr (by omega)
      obtain ⟨x, hx⟩ : ∃ x, P'.getD m ByteArray.empty = x := ⟨_, rfl⟩
      obtain ⟨d', hd'⟩ : ∃ d', dg (clk k) (nodeT x d) = d' := ⟨_, rfl⟩
      have HNd : Hid (∀ W, Below w.heap.size w W → Calls Tryd.prog 32 #[.int .i64 k, .string x, .string d] W fun e w' => e = .returned (.string d') ∧ Below W.heap.size W w') := fun W hb => by
        have hc := clk_le k
        have z1 : x.size = clk k := by rw [← hx]; exact HA.out.hP _ (getD_mem (by rw [HA.out.hlen]; omega))
        have z2 := HA.out.hd
        exact node_any W (HTb.out W hb) k x d (by omega) (by omega) d' hd'
      have HK : Hid (∀ W, Below w'.heap.size w' W → W.cell? ⟨p, 0, none⟩ = some (.int .i64 k) ∧ W.cell? ⟨b', m, none⟩ = some (.string x)) := fun W hb => by
        have c3 := (HA.out.rd.next (bnext HA.out.below hb) (Nat.le_refl _)).at (k := m) (by omega)
        rw [Nat.zero_add, hx] at c3
        exact ⟨(HRg.out W (bnext HA.out.below hb)).c0, c3⟩
      have HE : Hid (x = P'.getD m ByteArray.empty ∧ d' = dg (clk k) (nodeT x d) ∧ l2 = left - 2 ^ h ∧ h2 = h + 1 ∧ d'.size ≤ 9223372036854775807 ∧ A0.length ≤ 40) := ⟨hx.symm, hd'.symm, hl2.symm, hh2.symm, by rw [← hd', dg_size (clk_le k)]; have := clk_le k; omega, by have := HA.out.hA; omega⟩
      clear hT hl2 hh2 hql hx hd' hq hh hv
      go_upto_region 6 with (go_at_call 40; with_reducible refine (HT.out _).mono ?_; rintro e w1 ⟨rfl, rfl⟩)
      obtain ⟨y1, y2⟩ := HK.out w'.drew (Below.refl w'.heap.size w').drew
      have hd : Below w'.heap.size w' w'.drew := (Below.refl w'.heap.size w').drew
      go_region_held3 (fun w' => w'.cell? ⟨p, 0, none⟩ = some (.int .i64 k) ∧ w'.cell? ⟨b', m, none⟩ = some (.string x)) (first | assumption | (exact HK.out _ (bnext hd hb2)) | (exact HK.out _ hd)) ((go_at_call 32; with_reducible refine (HNd.out _ (bnext HA.out.below hd)).mono ?_; rintro e w2 ⟨rfl, hb2⟩))
      have HB2 : Hid (Below w'.heap.size w' w2) := bnext hd hb2
      clear hb2 hd y1 y2
      go_wp2_with (at_builtin; refine wpList_append_S _ rfl _ _ rfl w.heap.size _ (A0 ++ [d]) rfl (own_al (own_next HA.out.own HB2.out (Nat.le_refl _)) _) (some ⟨w2.heap.size, 0, none⟩) w2.heap.size 0 1 [d'] rfl (rds_one w2 d' HE.out.2.2.2.2.1) (fun h => by cases h) ?c1 ?c2 ?_)
      case c1 => have := HE.out.2.2.2.2.2; simp; omega
      case c2 => have := (bnext HA.out.below HB2.out).size; simp; omega
      intro v3 w3 h3 hb3
      have HX : Hid (OwnS w3 w.heap.size v3 ((A0 ++ [d]) ++ [d']) ∧ Below w.heap.size w w3) := ⟨by simpa using h3, (bal (bnext HA.out.below HB2.out) _).trans hb3⟩
      clear h3 hb3
      go_wp2
      go_quiet ((go_at_call 41; refine Calls.quiet_of_same (HI.out _)))
      go_wp2
      go_step3
      obtain ⟨x1, x2, x3, x4, x5, x6⟩ := HE.out
      obtain ⟨f', hP⟩ := HA.out.pop (clk_le k) ho (by rw [← x1]; exact x2.symm) HX.out.2 HX.out.1
      rw [← x3, ← x4] at hP
      refine ⟨rfl, ⟨h2, t / 2, f', l2, d', A0 ++ [d], P'.take m, _, _, b', m, cap', _, _, _, _, _, _, _, _, _, _, _, _, _, _, _, _, _, _, _, _, _, _, _, _, _, _, _, _, _, _, _, _, _, _, _, _, _, _, _, _, _, _, _, _, _, _, _, _, rfl, hP.next (below_drewN (Below.refl _ _) _)⟩, ?_⟩
      show m < m + 1
      omega
    · have hne : tr 64 left ≠ h := by
        rw [Ne, tr_eq 64 h left (by have := HA.out.hf; omega), HA.out.hleft, (pow_num h t).2]
        exact fun h => ho h.2
      obtain ⟨T, hT⟩ : ∃ T, tr 64 left = T := ⟨_, rfl⟩
      have HT : Hid (∀ W, Calls Tryd.prog 40 #[.int .u64 (left : Int)] W fun e w' => e = .returned (.int .i64 (T : Int)) ∧ W = w') := fun W => (trail_any left W (by have := HLt.out; omega) T hT).mono fun _ _ h => ⟨h.1, h.2.symm⟩
      have hne' : ¬ ((T : Int) = (h : Int)) := by rw [hT] at hne; omega
      obtain rfl := HA.out.hlen
      have HC : Hid (∀ W, Calls Tryd.prog 56 #[.slice ao' P'.length cap'] W fun e w' => e = .returned (.slice ao' P'.length P'.length) ∧ W = w') := fun W => (clip_any W ao' _ cap' HA.out.cap).mono fun _ _ h => ⟨h.1, h.2.symm⟩
      have HL : Hid (P'.length ≤ 1000) := by show _ ≤ _; rw [HA.out.hl]; have := ol_len_le (fun h _ => h) 41 left; omega
      clear hne hT hv
      go_wp2_with (first
        | (go_at_call 40; with_reducible refine (HT.out _).mono ?_; rintro e w1 ⟨rfl, rfl⟩)
        | (go_at_call 56; with_reducible refine (HC.out _).mono ?_; rintro e w1 ⟨rfl, rfl⟩)
        | (at_builtin; refine wpList_append_clip _ rfl _ _ rfl ao' b' P' rfl (HA.out.rd.next (bal HA.out.below _) (Nat.le_refl _)) ⟨w'.heap.size, 0, none⟩ d rfl (by simp) HL.out ?_))
      intro v2 w3 h3 hb3
      obtain ⟨g2, cap2, hv2, _⟩ := own_form h3 (by simp)
      obtain ⟨n2, hn2⟩ : ∃ n2, (P' ++ [d]).length = n2 := ⟨_, rfl⟩
      rw [hn2] at hv2
      subst hv2
      clear hn2
      have HB3 : Hid (Below w.heap.size w w3 ∧ Below w'.heap.size w' w3 ∧ OwnS w3 w'.heap.size (.slice (some ⟨g2, 0, none⟩) n2 cap2) (P' ++ [d])) := ⟨bnext HA.out.below ((bal (Below.refl w'.heap.size w') _).trans (hb3.mono (Nat.le_succ _))), (bal (Below.refl w'.heap.size w') _).trans (hb3.mono (Nat.le_succ _)), own_mono h3 (Nat.le_succ _)⟩
      clear h3 hb3
      have R3 := HRg.out w3 HB3.out.1
      have y1 := R3.c1
      have y2 := R3.c2
      have z1 := R3.fz 1
      have z2 := R3.fz 2
      have HR3 := hide R3
      clear R3
      go_wp2
      try simp only [Exit.jump]
      go_ret
      have hlt := HP0.out
      have hsz := HA.out.below.size
      refine ⟨vm, .slice (some ⟨g2, 0, none⟩) n2 cap2, rfl, ⟨?_, ?_, ?_, ?_, ?_⟩⟩
      · obtain ⟨q1, q2, q3, q4, q5, q6⟩ := HN.out
        have hQ : P' ++ [d] = Q := by have := HA.out.hQ; rw [carry_even ho] at this; exact this
        refine ⟨?_, own_mono (own_setp (own_setp (by rw [← hQ]; exact HB3.out.2.2) (by omega)) (by omega)) (Nat.zero_le _), q5, q6, q2, q3, q4⟩
        have e1 := heap_setCell_same w3 p 2 _ 82 (.slice (some ⟨g2, 0, none⟩) n2 cap2) HR3.out.blk
        have e2 := heap_setCell_same _ p 1 _ 82 (.int .u64 (gr : Int)) e1
        exact e2
      · have hM : A0 ++ [d] = M := by have := HA.out.hM; rw [carry_even ho] at this; exact this
        rw [← hM]
        exact own_setp (own_setp (own_next HA.out.own HB3.out.2.1 (Nat.le_refl _)) hlt) hlt
      · exact ((Ch.of HB3.out.1 hlt).set 2 _).set 1 _
      · right
        intro g hg
        have := (World.ownsRow.lt HB3.out.2.2 g hg).1
        omega
      · intro g hg1 hg2
        have a1 := (World.ownsRow.lt HB3.out.2.2 g hg2).1
        have a2 := (World.ownsRow.lt HA.out.own g hg1).2
        omega
end Go.Proofs.YtncndefggegicaaDoor
