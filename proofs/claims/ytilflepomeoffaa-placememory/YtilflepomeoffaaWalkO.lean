/-
  The walk of PlaceMemory. Own work.
-/
import Derived.Test.YtilflepomeoffaaWalkN
namespace Go.Proofs.Ytilflepomeoffaa
open Go.RowKit
attribute [local go_sem ↓] Go.wp_at_zero Go.wp_at_succ
/-- Four lists of one's own. -/
structure Mq (w wr : World) (va vb vc vw : Value) (A L C W : List Nat) : Prop where
  a : Own wr w.heap.size va A
  b : Own wr w.heap.size vb L
  c : Own wr w.heap.size vc C
  d : Own wr w.heap.size vw W
  below : Below w.heap.size w wr
structure Ap (va vb vc vw : Value) : Prop where
  ab : Apart va vb
  ac : Apart va vc
  ad : Apart va vw
  bc : Apart vb vc
  bd : Apart vb vw
  cd : Apart vc vw
theorem Mq.next {w wr w' : World} {va vb vc vw : Value} {A L C W : List Nat} (h : Mq w wr va vb vc vw A L C W) (hb : Below wr.heap.size wr w') : Mq w w' va vb vc vw A L C W :=
  ⟨own_next h.a hb, own_next h.b hb, own_next h.c hb, own_next h.d hb, bnext h.below hb⟩
theorem Mq.seta {w wr : World} {g n cap j : Nat} {vb vc vw : Value} {A L C W : List Nat} (h : Mq w wr (.slice (some ⟨g, 0, none⟩) n cap) vb vc vw A L C W) (ap : Ap (.slice (some ⟨g, 0, none⟩) n cap) vb vc vw) (x : Nat) :
    Mq w (wr.setCell ⟨g, j, none⟩ (.int .u64 (x : Int))) (.slice (some ⟨g, 0, none⟩) n cap) vb vc vw (A.set j x) L C W :=
  ⟨own_set h.a x, own_unset h.b (fun e => ap.ab g rfl e) _, own_unset h.c (fun e => ap.ac g rfl e) _, own_unset h.d (fun e => ap.ad g rfl e) _, h.below.setCell (p := ⟨g, j, none⟩) (h.a.lt g rfl).1 _⟩
theorem Mq.setb {w wr : World} {g n cap j : Nat} {va vc vw : Value} {A L C W : List Nat} (h : Mq w wr va (.slice (some ⟨g, 0, none⟩) n cap) vc vw A L C W) (ap : Ap va (.slice (some ⟨g, 0, none⟩) n cap) vc vw) (x : Nat) :
    Mq w (wr.setCell ⟨g, j, none⟩ (.int .u64 (x : Int))) va (.slice (some ⟨g, 0, none⟩) n cap) vc vw A (L.set j x) C W :=
  ⟨own_unset h.a (fun e => ap.ab g e rfl) _, own_set h.b x, own_unset h.c (fun e => ap.bc g rfl e) _, own_unset h.d (fun e => ap.bd g rfl e) _, h.below.setCell (p := ⟨g, j, none⟩) (h.b.lt g rfl).1 _⟩
theorem Mq.setc {w wr : World} {g n cap j : Nat} {va vb vw : Value} {A L C W : List Nat} (h : Mq w wr va vb (.slice (some ⟨g, 0, none⟩) n cap) vw A L C W) (ap : Ap va vb (.slice (some ⟨g, 0, none⟩) n cap) vw) (x : Nat) :
    Mq w (wr.setCell ⟨g, j, none⟩ (.int .u64 (x : Int))) va vb (.slice (some ⟨g, 0, none⟩) n cap) vw A L (C.set j x) W :=
  ⟨own_unset h.a (fun e => ap.ac g e rfl) _, own_unset h.b (fun e => ap.bc g e rfl) _, own_set h.c x, own_unset h.d (fun e => ap.cd g rfl e) _, h.below.setCell (p := ⟨g, j, none⟩) (h.c.lt g rfl).1 _⟩
/-- The first k numbers have been written to. -/
def upto (k c : Nat) (A : List Nat) : List Nat := List.replicate (min k A.length) c ++ A.drop k
theorem upto_zero (c : Nat) (A : List Nat) : upto 0 c A = A := by simp [upto]
theorem upto_len (k c : Nat) (A : List Nat) : (upto k c A).length = A.length := by simp [upto]; omega
theorem upto_set (k c : Nat) (A : List Nat) (hk : k < A.length) : (upto k c A).set k c = upto (k + 1) c A := by
  unfold upto
  rw [show min k A.length = k by omega, show min (k + 1) A.length = k + 1 by omega, List.set_append_right _ _ (by simp), List.length_replicate, Nat.sub_self, List.drop_eq_getElem_cons hk, List.set_cons_zero, List.replicate_succ']
  simp
theorem upto_all (c : Nat) (A : List Nat) : upto A.length c A = List.replicate A.length c := by simp [upto]
/-- The three lists that grow, and the four. -/
structure Jq (w wr : World) (va vb vc vw x y z : Value) (la lb lc k : Nat) (W : List Nat) : Prop where
  q : Mq w wr va vb vc vw (List.replicate la 1) (List.replicate lb 2) (List.replicate lc 3) W
  ox : Own wr w.heap.size x (List.replicate (la + k) 1)
  oy : Own wr w.heap.size y (List.replicate (lb + k) 2)
  oz : Own wr w.heap.size z (List.replicate (lc + k) 3)
  xy : Apart x y
  xz : Apart x z
  yz : Apart y z
  xb : Apart x vb
  xc : Apart x vc
  xd : Apart x vw
  ya : Apart y va
  yc : Apart y vc
  yd : Apart y vw
  za : Apart z va
  zb : Apart z vb
  zd : Apart z vw
  size : w.heap.size ≤ wr.heap.size
theorem rep_snoc (n k c : Nat) : List.replicate (n + k) c ++ [c] = List.replicate (n + (k + 1)) c := by
  rw [← Nat.add_assoc, List.replicate_succ']
theorem rep_head (n k c : Nat) : ∃ r, List.replicate (n + k) c = List.replicate n c ++ r := ⟨List.replicate k c, by rw [List.replicate_append_replicate]⟩
theorem rd_rep {w : World} {ao : Option Addr} {b n : Nat} {c : Nat} {N : Nat} (r : Rd w ao b 0 n (List.replicate N c)) (k : Nat) (hk : k < n) : ao = some ⟨b, 0, none⟩ ∧ w.cell? ⟨b, k, none⟩ = some (.int .u64 (c : Int)) := by
  refine ⟨r.addr (by omega), ?_⟩
  have h := r.cell k hk
  have hl := r.len
  rw [List.length_replicate] at hl
  rw [Nat.zero_add, List.getD_eq_getElem?_getD, List.getElem?_replicate, if_pos (by omega)] at h
  exact h
theorem Jq.stepx {w wr w' : World} {va vb vc vw x x' y z : Value} {la lb lc k : Nat} {W : List Nat} {o : Obj} (h : Jq w wr va vb vc vw x y z la lb lc k W)
    (t : Kt (wr.alloc o) w' w.heap.size x x' (List.replicate (la + k) 1) 1) : Own w' w.heap.size x' (List.replicate (la + (k + 1)) 1) ∧ Mq w w' va vb vc vw (List.replicate la 1) (List.replicate lb 2) (List.replicate lc 3) W ∧
      Own w' w.heap.size y (List.replicate (lb + k) 2) ∧ Own w' w.heap.size z (List.replicate (lc + k) 3) ∧ Apart x' y ∧ Apart x' z ∧ Apart x' vb ∧ Apart x' vc ∧ Apart x' vw := by
  have b := ball wr o
  obtain ⟨a1, a2⟩ := t.rest y _ _ (own_next h.oy b) h.xy
  obtain ⟨b1, b2⟩ := t.rest z _ _ (own_next h.oz b) h.xz
  obtain ⟨c1, c2⟩ := t.rest vb _ _ (own_next h.q.b b) h.xb
  obtain ⟨d1, d2⟩ := t.rest vc _ _ (own_next h.q.c b) h.xc
  obtain ⟨e1, e2⟩ := t.rest vw _ _ (own_next h.q.d b) h.xd
  exact ⟨by rw [← rep_snoc]; exact t.own, ⟨t.head va _ _ (own_next h.q.a b) (rep_head la k 1), c1, d1, e1, t.below w (bnext h.q.below b)⟩, a1, b1, a2, b2, c2, d2, e2⟩
theorem jq_x {w wr w' : World} {va vb vc vw x x' y z : Value} {la lb lc k : Nat} {W : List Nat} {o : Obj} (h : Jq w wr va vb vc vw x y z la lb lc k W)
    (t : Kt (wr.alloc o) w' w.heap.size x x' (List.replicate (la + k) 1) 1) :
    (∀ w'' y', ∀ o', Kt (w'.alloc o') w'' w.heap.size y y' (List.replicate (lb + k) 2) 2 → ∀ w3 z', ∀ o'', Kt (w''.alloc o'') w3 w.heap.size z z' (List.replicate (lc + k) 3) 3 → Jq w w3 va vb vc vw x' y' z' la lb lc (k + 1) W) ∧
    (∀ o', Own (w'.alloc o') w.heap.size y (List.replicate (lb + k) 2)) ∧ w.heap.size ≤ w'.heap.size ∧
    (∀ w'' y', ∀ o', Kt (w'.alloc o') w'' w.heap.size y y' (List.replicate (lb + k) 2) 2 → (∀ o'', Own (w''.alloc o'') w.heap.size z (List.replicate (lc + k) 3)) ∧ w.heap.size ≤ w''.heap.size) := by
  obtain ⟨i1, i2, i3, i4, i5, i6, i7, i8, i9⟩ := h.stepx t
  have hs1 := t.size
  rw [World.size_alloc] at hs1
  have hs0 := h.size
  refine ⟨fun w'' y' o' t' w3 z' o'' t'' => ?_, fun o' => own_next i3 (ball _ _), by omega, fun w'' y' o' t' => ?_⟩
  · have b := ball w' o'
    obtain ⟨j1, j2⟩ := t'.rest x' _ _ (own_next i1 b) i5.symm
    obtain ⟨k1, k2⟩ := t'.rest z _ _ (own_next i4 b) h.yz
    obtain ⟨l1, l2⟩ := t'.rest va _ _ (own_next i2.a b) h.ya
    obtain ⟨m1, m2⟩ := t'.rest vc _ _ (own_next i2.c b) h.yc
    obtain ⟨n1, n2⟩ := t'.rest vw _ _ (own_next i2.d b) h.yd
    have ob := t'.head vb _ _ (own_next i2.b b) (rep_head lb k 2)
    have c := ball w'' o''
    obtain ⟨q1, q2⟩ := t''.rest x' _ _ (own_next j1 c) i6.symm
    obtain ⟨r1, r2⟩ := t''.rest y' _ _ (own_next t'.own c) k2.symm
    obtain ⟨s1, s2⟩ := t''.rest va _ _ (own_next l1 c) h.za
    obtain ⟨u1, u2⟩ := t''.rest vb _ _ (own_next ob c) h.zb
    obtain ⟨v1, v2⟩ := t''.rest vw _ _ (own_next n1 c) h.zd
    have hs2 := t'.size
    have hs3 := t''.size
    rw [World.size_alloc] at hs2 hs3
    exact ⟨⟨s1, u1, t''.head vc _ _ (own_next m1 c) (rep_head lc k 3), v1, t''.below w (bnext (t'.below w (bnext i2.below b)) c)⟩, q1, by rw [← rep_snoc]; exact r1, by rw [← rep_snoc]; exact t''.own,
      j2.symm, q2.symm, r2.symm, i7, i8, i9, l2, m2, n2, s2, u2, v2, by omega⟩
  · have hs2 := t'.size
    rw [World.size_alloc] at hs2
    exact ⟨fun o'' => own_next (t'.rest z _ _ (own_next i4 (ball _ _)) h.yz).1 (ball _ _), by omega⟩
set_option maxHeartbeats 8000000 in
set_option maxRecDepth 100000 in
theorem mem_walk (n0 n m : Nat) (w : World) (hn0 : (n0 : Int) % 1099511627777 = (n : Int)) (hn : n ≤ 2 ^ 40) :
    Calls Try.prog 8 #[.int .u64 (n0 : Int), .int .u64 (m : Int)] w fun e w' => e = .returned (.bool true) ∧ Below w.heap.size w w' := by
  have HA := fun w' => alive_any w'
  have HPn := fun w' => peaks_yes n w' hn
  have HPm := fun w' => peaks_any m w'
  obtain ⟨P, hP⟩ : ∃ P, pk 41 n = P := ⟨_, rfl⟩
  obtain ⟨R, hR⟩ : ∃ R, pks m = R := ⟨_, rfl⟩
  have hPl : P.length ≤ 41 := by rw [← hP]; exact pk_len 41 n
  have hRl : R.length ≤ 41 := by rw [← hR, pks]; split
                                 · exact pk_len 41 m
                                 · exact Nat.zero_le _
  rw [hP] at HPn
  simp only [hR] at HPm
  have HLn : Hid (P.length ≤ 41 ∧ R.length ≤ 41) := ⟨hPl, hRl⟩
  clear hP hR hn hPl hRl
  go_enter Try.func8, Try.ntmps8
  go_upto_region 5 with (first
    | (go_at_call 9; with_reducible refine (HA _).mono ?_; rintro e w1 ⟨rfl, hb1⟩)
    | (go_at_call 10; with_reducible refine (HPn _).mono ?_; rintro e w2 ⟨va, rfl, oa, hb2⟩))
  clear HA hn0
  go_upto_region 6 with (at_builtin; (refine wpList_append_copy _ rfl _ _ rfl w2.heap.size w2.heap.size rfl ?c1 w1.heap.size va P rfl ?c2 ?c3 ?c4 ?_))
  case c1 => exact ⟨rfl, .inr ⟨w2.heap.size, 0, #[], rfl, Nat.le_refl _, heap_alloc_new w2 _, Nat.le_refl _, Nat.zero_le _, rfl, rfl⟩⟩
  case c2 => exact own_next oa (ball _ _)
  case c3 => simp
  case c4 => have := HLn.out.1; omega
  intro vw w3 od hb3
  have hb3' : Below w2.heap.size w2 w3 := ((Below.refl _ _).alloc (Nat.le_refl _) _).trans hb3
  clear hb3
  go_upto_region 8 with (first
    | (go_at_call 10; with_reducible refine (HPn _).mono ?_; rintro e w4 ⟨vb, rfl, ob, hb4⟩)
    | (go_at_call 10; with_reducible refine (HPm _).mono ?_; rintro e w5 ⟨vc, rfl, oc, hb5⟩))
  have hs1 := hb1.size
  have hs2 := hb2.size
  have hs3 := hb3'.size
  have hs4 := hb4.size
  have AP : Ap va vb vc vw := ⟨apart_of oa ob hs3, apart_of oa oc (by omega), apart_of oa od (Nat.le_refl _), apart_of ob oc (Nat.le_refl _), (apart_of od ob (Nat.le_refl _)).symm, (apart_of od oc hs4).symm⟩
  have MQ : Mq w w5 va vb vc vw P P R P := ⟨own_mono (own_next (own_next (own_next oa hb3') hb4) hb5) (by omega), own_mono (own_next ob hb5) (by omega), own_mono oc (by omega), own_mono (own_next (own_next od hb4) hb5) (by omega), bnext (bnext (bnext (bnext hb1 hb2) hb3') hb4) hb5⟩
  clear hs1 hs2 hs3 hs4 oa ob oc od hb1 hb2 hb3' hb4 hb5 HPm
  obtain ⟨aa, ga, na, ca, rfl, ra, ma, _⟩ := own_rd MQ.a
  obtain ⟨ab, gb, nb, cb, rfl, rb, mb, _⟩ := own_rd MQ.b
  obtain ⟨ac, gc, nc, cc, rfl, rc, mc, _⟩ := own_rd MQ.c
  have HA : Hid ((0 < na → aa = some ⟨ga, 0, none⟩) ∧ (0 < nb → ab = some ⟨gb, 0, none⟩) ∧ (0 < nc → ac = some ⟨gc, 0, none⟩) ∧ P.length = na ∧ P.length = nb ∧ R.length = nc) := ⟨ra.addr, rb.addr, rc.addr, ra.len, rb.len, rc.len⟩
  clear ra rb rc ma mb mc
  go_upto_region 10 with (first
    | (go_at_call 21; with_reducible refine (same_own _ _ _ _ _ _ _ MQ.b MQ.d).mono ?_; rintro e w6 ⟨rfl, hb6⟩; replace MQ := MQ.next hb6; clear hb6)
    | (go_at_call 21; with_reducible refine (same_own _ _ _ _ _ _ _ MQ.a MQ.d).mono ?_; rintro e w7 ⟨rfl, hb7⟩; replace MQ := MQ.next hb7; clear hb7))
  go_wp2
  go_loopg [9] na (fun g i wr => ∃ k : Nat, k ≤ na ∧ g = na - k ∧ i = .int .i64 (k : Int) ∧ Mq w wr (.slice aa na ca) (.slice ab nb cb) (.slice ac nc cc) vw (upto k 1 P) P R P)
  case atStart =>
    go_light
    exact ⟨0, Nat.zero_le _, rfl, rfl, by rw [upto_zero]; exact MQ⟩
  case round =>
    clear MQ
    obtain ⟨k, hk, rfl, rfl, MQ⟩ := hrel
    obtain ⟨h1, h2, h3, h4, h5, h6⟩ := HA.out
    obtain ⟨h7, h8⟩ := HLn.out
    by_cases hlt : k < na
    · obtain rfl := h1 (by omega)
      obtain ⟨c1, f1⟩ := own_cells MQ.a (j := k) (by rw [upto_len]; omega)
      have d1 : (k : Int) < (na : Int) := by omega
      have d2 : (0 : Int) ≤ (k : Int) := Int.natCast_nonneg _
      have d3 : (k : Int) < 64 := by omega
      have HN : Hid (Mq w (wr.setCell ⟨ga, k, none⟩ (.int .u64 1)) (.slice (some ⟨ga, 0, none⟩) na ca) (.slice ab nb cb) (.slice ac nc cc) vw (upto (k + 1) 1 P) P R P) := by
        have := MQ.seta AP (j := k) 1
        rw [upto_set k 1 P (by omega)] at this
        exact this
      clear h1 h2 h3 h4 h5 h6 h7 h8 MQ hk
      go_wp2
      go_roundg (na - (k + 1))
      case rel =>
        go_light
        exact ⟨k + 1, by omega, rfl, by go_num, HN.out⟩
      case measure => go_light; omega
    · obtain rfl : na = k := by omega
      have d1 : ¬ (na : Int) < (na : Int) := by omega
      have MQ2 : Mq w wr (.slice aa na ca) (.slice ab nb cb) (.slice ac nc cc) vw (List.replicate na 1) P R P := by
        have e : upto na 1 P = List.replicate na 1 := by rw [← h4, upto_all]
        rw [← e]; exact MQ
      clear h1 h2 h3 h4 h5 h6 h7 h8 hk hlt MQ
      have MQ := MQ2
      clear MQ2
      go_wp2
      go_loopg [10] nb (fun g i wr => ∃ k : Nat, k ≤ nb ∧ g = nb - k ∧ i = .int .i64 (k : Int) ∧ Mq w wr (.slice aa na ca) (.slice ab nb cb) (.slice ac nc cc) vw (List.replicate na 1) (upto k 2 P) R P)
      case atStart =>
        go_light
        exact ⟨0, Nat.zero_le _, rfl, rfl, by rw [upto_zero]; exact MQ⟩
      case round =>
        clear MQ
        obtain ⟨k, hk, rfl, rfl, MQ⟩ := hrel
        obtain ⟨h1, h2, h3, h4, h5, h6⟩ := HA.out
        obtain ⟨h7, h8⟩ := HLn.out
        by_cases hlt : k < nb
        · obtain rfl := h2 (by omega)
          obtain ⟨c1, f1⟩ := own_cells MQ.b (j := k) (by rw [upto_len]; omega)
          have d1 : (k : Int) < (nb : Int) := by omega
          have d2 : (0 : Int) ≤ (k : Int) := Int.natCast_nonneg _
          have d3 : (k : Int) < 64 := by omega
          have HN : Hid (Mq w (wr.setCell ⟨gb, k, none⟩ (.int .u64 2)) (.slice aa na ca) (.slice (some ⟨gb, 0, none⟩) nb cb) (.slice ac nc cc) vw (List.replicate na 1) (upto (k + 1) 2 P) R P) := by
            have := MQ.setb AP (j := k) 2
            rw [upto_set k 2 P (by omega)] at this
            exact this
          clear h1 h2 h3 h4 h5 h6 h7 h8 MQ hk
          go_wp2
          go_roundg (nb - (k + 1))
          case rel =>
            go_light
            exact ⟨k + 1, by omega, rfl, by go_num, HN.out⟩
          case measure => go_light; omega
        · obtain rfl : nb = k := by omega
          have d1 : ¬ (nb : Int) < (nb : Int) := by omega
          have MQ2 : Mq w wr (.slice aa na ca) (.slice ab nb cb) (.slice ac nc cc) vw (List.replicate na 1) (List.replicate nb 2) R P := by
            have e : upto nb 2 P = List.replicate nb 2 := by rw [← h5, upto_all]
            rw [← e]; exact MQ
          clear h1 h2 h3 h4 h5 h6 h7 h8 hk hlt MQ
          have MQ := MQ2
          clear MQ2
          go_wp2
          go_loopg [11] nc (fun g i wr => ∃ k : Nat, k ≤ nc ∧ g = nc - k ∧ i = .int .i64 (k : Int) ∧ Mq w wr (.slice aa na ca) (.slice ab nb cb) (.slice ac nc cc) vw (List.replicate na 1) (List.replicate nb 2) (upto k 3 R) P)
          case atStart =>
            go_light
            exact ⟨0, Nat.zero_le _, rfl, rfl, by rw [upto_zero]; exact MQ⟩
          case round =>
            clear MQ
            obtain ⟨k, hk, rfl, rfl, MQ⟩ := hrel
            obtain ⟨h1, h2, h3, h4, h5, h6⟩ := HA.out
            obtain ⟨h7, h8⟩ := HLn.out
            by_cases hlt : k < nc
            · obtain rfl := h3 (by omega)
              obtain ⟨c1, f1⟩ := own_cells MQ.c (j := k) (by rw [upto_len]; omega)
              have d1 : (k : Int) < (nc : Int) := by omega
              have d2 : (0 : Int) ≤ (k : Int) := Int.natCast_nonneg _
              have d3 : (k : Int) < 64 := by omega
              have HN : Hid (Mq w (wr.setCell ⟨gc, k, none⟩ (.int .u64 3)) (.slice aa na ca) (.slice ab nb cb) (.slice (some ⟨gc, 0, none⟩) nc cc) vw (List.replicate na 1) (List.replicate nb 2) (upto (k + 1) 3 R) P) := by
                have := MQ.setc AP (j := k) 3
                rw [upto_set k 3 R (by omega)] at this
                exact this
              clear h1 h2 h3 h4 h5 h6 h7 h8 MQ hk
              go_wp2
              go_roundg (nc - (k + 1))
              case rel =>
                go_light
                exact ⟨k + 1, by omega, rfl, by go_num, HN.out⟩
              case measure => go_light; omega
            · obtain rfl : nc = k := by omega
              have d1 : ¬ (nc : Int) < (nc : Int) := by omega
              have MQ2 : Mq w wr (.slice aa na ca) (.slice ab nb cb) (.slice ac nc cc) vw (List.replicate na 1) (List.replicate nb 2) (List.replicate nc 3) P := by
                have e : upto nc 3 R = List.replicate nc 3 := by rw [← h6, upto_all]
                rw [← e]; exact MQ
              clear h1 h2 h3 h4 h5 h6 h7 h8 hk hlt MQ
              have MQ := MQ2
              clear MQ2
              go_wp2
              go_loopg [12, 13, 14, 15] 70 (fun g x y z i wr => ∃ k : Nat, k ≤ 70 ∧ g = 70 - k ∧ i = .int .i64 (k : Int) ∧ Jq w wr (.slice aa na ca) (.slice ab nb cb) (.slice ac nc cc) vw x y z na nb nc k P)
              case atStart =>
                go_light
                exact ⟨0, Nat.zero_le _, rfl, rfl, ⟨MQ, MQ.a, MQ.b, MQ.c, AP.ab, AP.ac, AP.bc, AP.ab, AP.ac, AP.ad, AP.ab.symm, AP.bc, AP.bd, AP.ac.symm, AP.bc.symm, AP.cd, MQ.below.size⟩⟩
              case round =>
                clear MQ
                obtain ⟨k, hk, rfl, rfl, JQ⟩ := hrel
                by_cases hlt : k < 70
                · have d1 : (k : Int) < 70 := by omega
                  have d2 : (0 : Int) ≤ (k : Int) := Int.natCast_nonneg _
                  have HL3 : Hid ((List.replicate (na + k) 1).length + 1 ≤ 1000 ∧ (List.replicate (nb + k) 2).length + 1 ≤ 1000 ∧ (List.replicate (nc + k) 3).length + 1 ≤ 1000 ∧ w.heap.size ≤ wr.heap.size ∧ k + 1 ≤ 70) := by
                    obtain ⟨h1, h2, h3, h4, h5, h6⟩ := HA.out
                    obtain ⟨h7, h8⟩ := HLn.out
                    refine ⟨by rw [List.length_replicate]; omega, by rw [List.length_replicate]; omega, by rw [List.length_replicate]; omega, JQ.size, by omega⟩
                  clear hk hlt
                  go_upto_region 27 with (at_builtin; refine wpList_append_kt _ rfl _ _ rfl w.heap.size u12 (List.replicate (na + k) 1) rfl (own_next JQ.ox (ball _ _)) ⟨wr.heap.size, 0, none⟩ 1 1 rfl ?c1 ?c2 ?c3 ?_)
                  case c1 => simp
                  case c2 => have := HL3.out.2.2.2.1; simp; omega
                  case c3 => exact HL3.out.1
                  intro x' w8 t8
                  obtain ⟨J1, J2, J3, J4⟩ := jq_x JQ t8
                  clear JQ t8
                  go_upto_region 28 with (at_builtin; refine wpList_append_kt _ rfl _ _ rfl w.heap.size u13 (List.replicate (nb + k) 2) rfl (J2 _) ⟨w8.heap.size, 0, none⟩ 2 1 rfl ?c1 ?c2 ?c3 ?_)
                  case c1 => simp
                  case c2 => simp; omega
                  case c3 => exact HL3.out.2.1
                  intro y' w9 t9
                  have J5 := J1 w9 y' _ t9
                  obtain ⟨J6, J7⟩ := J4 w9 y' _ t9
                  clear J1 J2 J3 J4 t9
                  go_upto_region 25 with (at_builtin; refine wpList_append_kt _ rfl _ _ rfl w.heap.size u14 (List.replicate (nc + k) 3) rfl (J6 _) ⟨w9.heap.size, 0, none⟩ 3 1 rfl ?c1 ?c2 ?c3 ?_)
                  case c1 => simp
                  case c2 => simp; omega
                  case c3 => exact HL3.out.2.2.1
                  intro z' w10 t10
                  have J8 := J5 w10 z' _ t10
                  clear J5 J6 J7 t10
                  go_wp2
                  go_roundg (70 - (k + 1))
                  case rel =>
                    go_light
                    exact ⟨k + 1, HL3.out.2.2.2.2, rfl, by go_num, J8⟩
                  case measure => go_light; have := HL3.out.2.2.2.2; omega
                · obtain rfl : k = 70 := by omega
                  clear hk hlt AP
                  obtain ⟨ax, gx, nx, cx, rfl, rx, mx, _⟩ := own_rd JQ.ox
                  obtain ⟨ay, gy, ny, cy, rfl, ry, my, _⟩ := own_rd JQ.oy
                  obtain ⟨az, gz, nz, cz, rfl, rz, mz, _⟩ := own_rd JQ.oz
                  obtain ⟨_, ga2, _, _, hva, qa, _, _⟩ := own_rd JQ.q.a
                  obtain ⟨_, gb2, _, _, hvb, qb, _, _⟩ := own_rd JQ.q.b
                  obtain ⟨_, gc2, _, _, hvc, qc, _, _⟩ := own_rd JQ.q.c
                  cases hva; cases hvb; cases hvc
                  obtain ⟨h1, h2, h3, h4, h5, h6⟩ := HA.out
                  obtain ⟨h7, h8⟩ := HLn.out
                  have lx := rx.len
                  have ly := ry.len
                  have lz := rz.len
                  rw [List.length_replicate] at lx ly lz
                  have HQ : Hid (Mq w wr (.slice aa na ca) (.slice ab nb cb) (.slice ac nc cc) vw (List.replicate na 1) (List.replicate nb 2) (List.replicate nc 3) P) := JQ.q
                  have HRX : Hid (Rd wr ax gx 0 nx (List.replicate (na + 70) 1) ∧ Rd wr aa ga2 0 na (List.replicate na 1)) := ⟨rx, qa⟩
                  have HRY : Hid (Rd wr ay gy 0 ny (List.replicate (nb + 70) 2) ∧ Rd wr ab gb2 0 nb (List.replicate nb 2)) := ⟨ry, qb⟩
                  have HRZ : Hid (Rd wr az gz 0 nz (List.replicate (nc + 70) 3) ∧ Rd wr ac gc2 0 nc (List.replicate nc 3)) := ⟨rz, qc⟩
                  have HNN : Hid (nx ≤ 200 ∧ ny ≤ 200 ∧ nz ≤ 200) := ⟨by omega, by omega, by omega⟩
                  clear JQ rx ry rz qa qb qc lx ly lz h1 h2 h3 h4 h5 h6 h7 h8 mx my mz HA HLn
                  go_wp2
                  go_loopg [16] nx (fun g i wq => ∃ k : Nat, k ≤ nx ∧ g = nx - k ∧ i = .int .i64 (k : Int) ∧ wr = wq)
                  case atStart =>
                    go_light
                    exact ⟨0, Nat.zero_le _, rfl, rfl, rfl⟩
                  case round =>
                    obtain ⟨k, hk, rfl, rfl, rfl⟩ := hrel
                    have d2 : (0 : Int) ≤ (k : Int) := Int.natCast_nonneg _
                    have hnn := HNN.out.1
                    by_cases hlt : k < nx
                    · obtain ⟨rfl, c1⟩ := rd_rep HRX.out.1 k hlt
                      have c1' : wr.cell? ⟨gx, k, none⟩ = some (.int .u64 1) := c1
                      have d1 : (k : Int) < (nx : Int) := by omega
                      have d3 : (k : Int) < 1000 := by omega
                      clear c1
                      by_cases hla : k < na
                      · obtain ⟨rfl, c2⟩ := rd_rep HRX.out.2 k hla
                        have c2' : wr.cell? ⟨ga2, k, none⟩ = some (.int .u64 1) := c2
                        have d4 : (k : Int) < (na : Int) := by omega
                        clear c2 hnn hk
                        go_wp2
                        go_roundg (nx - (k + 1))
                        case rel =>
                          go_light
                          exact ⟨k + 1, by omega, rfl, by go_num, rfl⟩
                        case measure => go_light; omega
                      · have d4 : ¬ (k : Int) < (na : Int) := by omega
                        clear hnn hk
                        go_wp2
                        go_roundg (nx - (k + 1))
                        case rel =>
                          go_light
                          exact ⟨k + 1, by omega, rfl, by go_num, rfl⟩
                        case measure => go_light; omega
                    · obtain rfl : nx = k := by omega
                      have d1 : ¬ (nx : Int) < (nx : Int) := by omega
                      clear hk hlt hnn d2
                      go_wp2
                      go_loopg [17] ny (fun g i wq => ∃ k : Nat, k ≤ ny ∧ g = ny - k ∧ i = .int .i64 (k : Int) ∧ wr = wq)
                      case atStart =>
                        go_light
                        exact ⟨0, Nat.zero_le _, rfl, rfl, rfl⟩
                      case round =>
                        obtain ⟨k, hk, rfl, rfl, rfl⟩ := hrel
                        have d2 : (0 : Int) ≤ (k : Int) := Int.natCast_nonneg _
                        have hnn := HNN.out.2.1
                        by_cases hlt : k < ny
                        · obtain ⟨rfl, c1⟩ := rd_rep HRY.out.1 k hlt
                          have c1' : wr.cell? ⟨gy, k, none⟩ = some (.int .u64 2) := c1
                          have d1 : (k : Int) < (ny : Int) := by omega
                          have d3 : (k : Int) < 1000 := by omega
                          clear c1
                          by_cases hla : k < nb
                          · obtain ⟨rfl, c2⟩ := rd_rep HRY.out.2 k hla
                            have c2' : wr.cell? ⟨gb2, k, none⟩ = some (.int .u64 2) := c2
                            have d4 : (k : Int) < (nb : Int) := by omega
                            clear c2 hnn hk
                            go_wp2
                            go_roundg (ny - (k + 1))
                            case rel =>
                              go_light
                              exact ⟨k + 1, by omega, rfl, by go_num, rfl⟩
                            case measure => go_light; omega
                          · have d4 : ¬ (k : Int) < (nb : Int) := by omega
                            clear hnn hk
                            go_wp2
                            go_roundg (ny - (k + 1))
                            case rel =>
                              go_light
                              exact ⟨k + 1, by omega, rfl, by go_num, rfl⟩
                            case measure => go_light; omega
                        · obtain rfl : ny = k := by omega
                          have d1 : ¬ (ny : Int) < (ny : Int) := by omega
                          clear hk hlt hnn d2
                          go_wp2
                          go_loopg [18] nz (fun g i wq => ∃ k : Nat, k ≤ nz ∧ g = nz - k ∧ i = .int .i64 (k : Int) ∧ wr = wq)
                          case atStart =>
                            go_light
                            exact ⟨0, Nat.zero_le _, rfl, rfl, rfl⟩
                          case round =>
                            obtain ⟨k, hk, rfl, rfl, rfl⟩ := hrel
                            have d2 : (0 : Int) ≤ (k : Int) := Int.natCast_nonneg _
                            have hnn := HNN.out.2.2
                            by_cases hlt : k < nz
                            · obtain ⟨rfl, c1⟩ := rd_rep HRZ.out.1 k hlt
                              have c1' : wr.cell? ⟨gz, k, none⟩ = some (.int .u64 3) := c1
                              have d1 : (k : Int) < (nz : Int) := by omega
                              have d3 : (k : Int) < 1000 := by omega
                              clear c1
                              by_cases hla : k < nc
                              · obtain ⟨rfl, c2⟩ := rd_rep HRZ.out.2 k hla
                                have c2' : wr.cell? ⟨gc2, k, none⟩ = some (.int .u64 3) := c2
                                have d4 : (k : Int) < (nc : Int) := by omega
                                clear c2 hnn hk
                                go_wp2
                                go_roundg (nz - (k + 1))
                                case rel =>
                                  go_light
                                  exact ⟨k + 1, by omega, rfl, by go_num, rfl⟩
                                case measure => go_light; omega
                              · have d4 : ¬ (k : Int) < (nc : Int) := by omega
                                clear hnn hk
                                go_wp2
                                go_roundg (nz - (k + 1))
                                case rel =>
                                  go_light
                                  exact ⟨k + 1, by omega, rfl, by go_num, rfl⟩
                                case measure => go_light; omega
                            · obtain rfl : nz = k := by omega
                              have d1 : ¬ (nz : Int) < (nz : Int) := by omega
                              clear hk hlt hnn d2
                              go_wp2_with (first
                                | (go_at_call 10; with_reducible refine (HPn _).mono ?_; rintro e w11 ⟨v11, rfl, o11, hb11⟩)
                                | (go_at_call 21; refine (same_own _ _ _ _ _ _ _ o11 (own_next HQ.out.d hb11)).mono ?_; rintro e w12 ⟨rfl, hb12⟩))
                              go_ret
                              exact ⟨by simp, bnext (bnext HQ.out.below hb11) hb12⟩

theorem mem_row (a b : Int) (w0 : (Lit.int .u64 a).wf = true) (w1 : (Lit.int .u64 b).wf = true) (w : World) :
    Calls Try.prog 8 #[.int .u64 a, .int .u64 b] w fun e w' => e = .returned (.bool true) ∧ Below w.heap.size w w' := by
  obtain ⟨n, rfl, _⟩ := u64_nat w0
  obtain ⟨m, rfl, _⟩ := u64_nat w1
  exact mem_walk n (n % 1099511627777) m w (by omega) (by omega)
end Go.Proofs.Ytilflepomeoffaa
