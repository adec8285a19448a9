/-
  The walk of the laws' rising. Own work.
-/
import Derived.Test.YtghmodbgfbgclaaCWalkK
namespace Go.Proofs.Ytghmodbgfbgclaa
open Go.RowKit
attribute [local go_sem ↓] Go.wp_at_zero Go.wp_at_succ
theorem own_lenV {w : World} {B : Nat} {v : Value} {l : List Nat} (h : Own w B v l) : (v = .slice none 0 0 ∧ l = []) ∨ ∃ g cap, v = .slice (some ⟨g, 0, none⟩) l.length cap := by
  obtain ⟨h1, h2⟩ := h
  rcases h2 with ⟨h2, h3⟩ | ⟨g, cap, cur, hv, _⟩
  · exact .inl ⟨h2, List.length_eq_zero_iff.1 h3⟩
  · exact .inr ⟨g, cap, hv⟩
theorem rdc_empty (w : World) (ad : Addr) (c : Nat) : RdC w (.slice (some ad) 0 c) ([] : List Nat).length (cU []) := ⟨some ad, c, rfl, (fun h => by cases h), fun _ _ _ _ h => by cases h⟩
theorem own_take_rdc {w : World} {B g n cap j : Nat} {S : List Nat} (h : Own w B (.slice (some ⟨g, 0, none⟩) n cap) S) (hj : j ≤ S.length) (c : Nat) : RdC w (.slice (some ⟨g, 0, none⟩) j c) (S.take j).length (cU (S.take j)) := by
  refine ⟨some ⟨g, 0, none⟩, c, by rw [List.length_take, Nat.min_eq_left hj], (fun h => by cases h), fun ad ha i u hi => ?_⟩
  cases ha
  refine h.cells rfl i u ?_
  rw [← hi]
  have hil : i < j := by have := (List.getElem?_eq_some_iff.1 hi).1; simp [cU] at this; omega
  simp [cU, hil]
theorem own_drop_rdc {w : World} {B g n cap j : Nat} {S : List Nat} (h : Own w B (.slice (some ⟨g, 0, none⟩) n cap) S) (q c : Nat) (hq : S.length = j + q) : RdC w (.slice (some ⟨g, j, none⟩) q c) (S.drop j).length (cU (S.drop j)) := by
  refine ⟨some ⟨g, j, none⟩, c, by rw [List.length_drop, show S.length - j = q by omega], (fun h => by cases h), fun ad ha i u hi => ?_⟩
  cases ha
  have := h.cells (g := g) rfl (j + i) u (by rw [← hi]; simp [cU])
  rw [Addr.add_mid] at this ⊢
  rw [Nat.zero_add] at this
  exact this
set_option maxHeartbeats 4000000 in
theorem rising_any (n : Nat) (w : World) (ao : Option Addr) (b off m cap : Nat) (l : List Nat) (r : Rd w ao b off m l) (hm : m ≤ 5000) (hn0 : 0 < n) (hn : n ≤ 2 ^ 40) :
    Calls Try.prog 10 #[.int .u64 (n : Int), .slice ao m cap] w fun e w' => ∃ v S, e = .returned v ∧ Own w' w.heap.size v S ∧ Chain 0 S n ∧ S.length ≤ 60 ∧ (0 < m → S ≠ []) ∧ Below w.heap.size w w' := by
  have hm' : (m : Int) ≤ 5000 := by omega
  have hnz : ¬ (n : Int) = 0 := by omega
  have HR : Hid (Rd w ao b off m l ∧ 0 < n ∧ n ≤ 2 ^ 40) := ⟨r, hn0, hn⟩
  clear r hm hn0 hn
  go_enter Try.func10, Try.ntmps10
  go_wp2
  go_loopg [5, 6, 7, 8, 9] 60 (fun gg v i x at' nx wr => ∃ (k : Nat) (S : List Nat), k ≤ 60 ∧ k ≤ m ∧ gg = 60 - k ∧ i = .int .i64 (k : Int) ∧ Own wr w.heap.size v S ∧ Chain 0 S n ∧ S.length ≤ k ∧ (0 < k → S ≠ []) ∧ Below w.heap.size w wr)
  case atStart =>
    go_light
    exact ⟨0, [], Nat.zero_le _, Nat.zero_le _, rfl, rfl, World.ownsRow_nil _ _ _ _, Nat.zero_le _, Nat.le_refl _, fun h => absurd h (Nat.lt_irrefl 0), Below.refl _ _⟩
  case round =>
    obtain ⟨k, S, hk6, hkm, rfl, rfl, hown, hch, hlen, hne, hb⟩ := hrel
    have hk0 : (0 : Int) ≤ (k : Int) := Int.natCast_nonneg _
    have hk60 : (k : Int) ≤ 60 := by omega
    obtain ⟨r, hn0, hn⟩ := HR.out
    by_cases hlt : k < m
    · have hlt' : (k : Int) < (m : Int) := by omega
      by_cases h6 : k < 60
      · have h6' : (k : Int) < 60 := by omega
        have r' := r.below hb
        obtain rfl := r'.addr (by omega)
        have c1 := r'.cell k hlt
        obtain ⟨y, hy⟩ : ∃ y, l.getD k 0 = y := ⟨_, rfl⟩
        rw [hy] at c1
        obtain ⟨x, hx⟩ : ∃ x, y % n = x := ⟨_, rfl⟩
        have hxn : x < n := by rw [← hx]; exact Nat.mod_lt _ hn0
        have ex : (y : Int).tmod (n : Int) = (x : Int) := by rw [← hx]; rfl
        have ex2 : IntKind.u64.wrap (x : Int) = (x : Int) := by rw [IntKind.wrap_u64]; omega
        have HS : Hid (Chain 0 S n ∧ S.length ≤ k ∧ x < n ∧ k + 1 ≤ m ∧ k + 1 ≤ 60 ∧ Below w.heap.size w wr) := ⟨hch, hlen, hxn, hlt, h6, hb⟩
        rcases own_lenV hown with ⟨rfl, rfl⟩ | ⟨g, cp, rfl⟩
        · have HSZ : Hid (w.heap.size ≤ wr.heap.size) := hb.size
          clear hch hlen hne hb r' r hn0 hn hy hx hxn hkm hk6 hlt h6
          go_wp2
          go_loopg [8] 0 (fun gg j wr2 => j = .int .i64 0 ∧ wr = wr2)
          case atStart =>
            go_light
            exact ⟨rfl, rfl⟩
          case round =>
            obtain ⟨rfl, rfl⟩ := hrel
            go_wp2_with (at_builtin; refine wpList_append_U _ rfl _ _ rfl w.heap.size (.slice none 0 0) [] rfl (World.ownsRow_nil _ _ _ _) _ [] rfl (rdc_own (World.ownsRow_nil wr w.heap.size 22 1)) ?c1 ?c2 ?_)
            case c1 => decide
            case c2 => exact HSZ.out
            intro v1 w1 r1 r2 _
            have hb1 : Below wr.heap.size wr w1 := (Below.refl _ _).grown r2 (Nat.le_refl _) (fun j hj => by cases hj)
            have HB1 : Hid (Below w.heap.size w w1 ∧ w.heap.size ≤ w1.heap.size) := ⟨bnext HS.out.2.2.2.2.2 hb1, (bnext HS.out.2.2.2.2.2 hb1).size⟩
            clear r2 hb1
            go_wp2_with (at_builtin; refine wpList_append_U _ rfl _ _ rfl w.heap.size v1 [] rfl (World.ownsRow.alloc r1 _) _ [x] rfl (rdc_num w1 x 22) ?c1 ?c2 ?_)
            case c1 => simp
            case c2 => have := HB1.out.2; simp; omega
            intro v2 w2 q1 q2 _
            have RR := ownB_step HB1.out.1 HB1.out.2 r1 q2
            clear q2 r1
            go_wp2_with (at_builtin; refine wpList_append_U _ rfl _ _ rfl w.heap.size v2 [x] rfl q1 _ [] rfl (rdc_own (World.ownsRow_nil w2 w.heap.size 22 1)) ?c1 ?c2 ?_)
            case c1 => simp
            case c2 => exact RR.2
            intro v3 w3 t1 t2 _
            have R3 := ownB_step0 RR.1 RR.2 q1 t2
            clear t2 q1
            go_wp2
            go_roundg (60 - (k + 1))
            case rel =>
              go_light
              obtain ⟨x1, x2, x3, x4, x5, x6⟩ := HS.out
              exact ⟨k + 1, [x], x5, x4, rfl, by go_num, t1, ⟨Nat.zero_le _, x3⟩, by simp, fun _ => by simp, R3.1⟩
            case measure => go_light; omega
        · obtain ⟨p, hp⟩ : ∃ p, S.length = p := ⟨_, rfl⟩
          rw [hp] at hown ⊢
          have hcp := (own_n hown).2.1
          have hp60 : (p : Int) ≤ 60 := by omega
          have HP : Hid (S.length = p ∧ p ≤ cp) := ⟨hp, by omega⟩
          have HNE : Hid (0 < p → S ≠ []) := fun h e => by rw [e] at hp; simp at hp; omega
          clear hch hlen hne hb r' r hn0 hn hy hx hxn hkm hk6 hlt h6 hp hcp
          go_wp2
          go_loopg [8] p (fun gg j8 wr2 => ∃ j : Nat, j ≤ p ∧ gg = p - j ∧ j8 = .int .i64 (j : Int) ∧ (∀ t, t < j → S.getD t 0 < x) ∧ wr = wr2)
          case atStart =>
            go_light
            exact ⟨0, Nat.zero_le _, rfl, rfl, fun t ht => absurd ht (Nat.not_lt_zero t), rfl⟩
          case round =>
            obtain ⟨j, hjp, rfl, rfl, hlow, rfl⟩ := hrel
            have hj0 : (0 : Int) ≤ (j : Int) := Int.natCast_nonneg _
            have hj60 : (j : Int) ≤ 60 := by omega
            obtain ⟨hp, hpc⟩ := HP.out
            by_cases hjl : j < p
            · have hjl' : (j : Int) < (p : Int) := by omega
              have cj := (own_cellU (j := j) hown (by omega)).1
              obtain ⟨s, hs⟩ : ∃ s, S.getD j 0 = s := ⟨_, rfl⟩
              rw [hs] at cj
              by_cases hsx : s < x
              · have hsx' : (s : Int) < (x : Int) := by omega
                have HX : Hid ((∀ t, t < j + 1 → S.getD t 0 < x) ∧ j + 1 ≤ p) := ⟨fun t ht => by
                  by_cases e : t = j
                  · rw [e, hs]; exact hsx
                  · exact hlow t (by omega), hjl⟩
                clear hlow hs hp hpc
                go_wp2
                go_roundg (p - (j + 1))
                case rel =>
                  go_light
                  exact ⟨j + 1, HX.out.2, rfl, by go_num, HX.out.1, rfl⟩
                case measure => go_light; omega
              · have hsx' : ¬ (s : Int) < (x : Int) := by omega
                by_cases hse : s = x
                · subst hse
                  clear hlow hs hp hpc
                  go_wp2
                  go_roundg (60 - (k + 1))
                  case rel =>
                    go_light
                    obtain ⟨x1, x2, x3, x4, x5, x6⟩ := HS.out
                    refine ⟨k + 1, S, x5, x4, rfl, by go_num, ?_, x1, by omega, fun _ => HNE.out (by omega), x6⟩
                    exact hown
                  case measure => go_light; omega
                · have hse' : ¬ (s : Int) = (x : Int) := by omega
                  have HJ : Hid (j ≤ S.length ∧ Chain 0 (S.take j ++ x :: S.drop j) n ∧ S.length = j + (p - j)) := ⟨by omega, chain_insert j S 0 x n HS.out.1 (Nat.zero_le _) HS.out.2.2.1 (fun t ht _ => hlow t ht) (fun _ => by rw [hs]; omega), by omega⟩
                  clear hlow hs hp
                  go_wp2_with (at_builtin; refine wpList_append_U _ rfl _ _ rfl w.heap.size (.slice none 0 0) [] rfl (World.ownsRow_nil _ _ _ _) _ (S.take j) rfl (own_take_rdc hown HJ.out.1 cp) ?c1 ?c2 ?_)
                  case c1 => have h1 := HJ.out.1; have h2 := HS.out.2.1; have h3 := HS.out.2.2.2.2.1; simp; omega
                  case c2 => exact HS.out.2.2.2.2.2.size
                  intro v1 w1 r1 r2 r3
                  have hne1 : (Value.slice (some ⟨g, 0, none⟩) p cp).ownBlock ≠ v1.ownBlock := fun e => by
                    rcases r3 with h | h
                    · rw [h] at e; cases e
                    · have h1 := h g e.symm
                      have h2 := (hown.lt g rfl).2
                      omega
                  have hb1 : Below wr.heap.size wr w1 := (Below.refl _ _).grown r2 (Nat.le_refl _) (fun j hj => by cases hj)
                  have ow1 := ownB_next hown hb1
                  have HB1 : Hid (Below w.heap.size w w1 ∧ w.heap.size ≤ w1.heap.size) := ⟨bnext HS.out.2.2.2.2.2 hb1, (bnext HS.out.2.2.2.2.2 hb1).size⟩
                  clear r2 r3 hb1 hown
                  go_wp2_with (at_builtin; refine wpList_append_U _ rfl _ _ rfl w.heap.size v1 (S.take j) rfl (World.ownsRow.alloc r1 _) _ [x] rfl (rdc_num w1 x 22) ?c1 ?c2 ?_)
                  case c1 => have h1 := HJ.out.1; have h2 := HS.out.2.1; have h3 := HS.out.2.2.2.2.1; simp; omega
                  case c2 => have := HB1.out.2; simp; omega
                  intro v2 w2 q1 q2 _
                  have RR := ownB_step HB1.out.1 HB1.out.2 r1 q2
                  have ow2 := (World.ownsRow.alloc ow1 _).kept q2 (.inr hne1)
                  clear q2 r1 ow1 hne1
                  go_wp2_with (at_builtin; refine wpList_append_U _ rfl _ _ rfl w.heap.size v2 (S.take j ++ [x]) rfl q1 _ (S.drop j) rfl (own_drop_rdc ow2 _ _ HJ.out.2.2) ?c1 ?c2 ?_)
                  case c1 => have h1 := HJ.out.1; have h2 := HS.out.2.1; have h3 := HS.out.2.2.2.2.1; simp; omega
                  case c2 => exact RR.2
                  intro v3 w3 t1 t2 _
                  have R3 := ownB_step0 RR.1 RR.2 q1 t2
                  clear t2 q1 ow2
                  go_wp2
                  go_roundg (60 - (k + 1))
                  case rel =>
                    go_light
                    obtain ⟨x1, x2, x3, x4, x5, x6⟩ := HS.out
                    refine ⟨k + 1, S.take j ++ x :: S.drop j, x5, x4, rfl, by go_num, ?_, HJ.out.2.1, ?_, fun _ => by simp, R3.1⟩
                    · exact t1
                    · have h1 := HJ.out.1; simp; omega
                  case measure => go_light; omega
            · obtain rfl : j = p := by omega
              have hjl' : ¬ (j : Int) < (j : Int) := by omega
              have HJ : Hid (j ≤ S.length ∧ Chain 0 (S.take j ++ x :: S.drop j) n ∧ S.length = j + 0) := ⟨by omega, chain_insert j S 0 x n HS.out.1 (Nat.zero_le _) HS.out.2.2.1 (fun t ht _ => hlow t ht) (fun h => by omega), by omega⟩
              clear hlow hp
              go_wp2_with (at_builtin; refine wpList_append_U _ rfl _ _ rfl w.heap.size (.slice none 0 0) [] rfl (World.ownsRow_nil _ _ _ _) _ (S.take j) rfl (own_take_rdc hown HJ.out.1 cp) ?c1 ?c2 ?_)
              case c1 => have h1 := HJ.out.1; have h2 := HS.out.2.1; have h3 := HS.out.2.2.2.2.1; simp; omega
              case c2 => exact HS.out.2.2.2.2.2.size
              intro v1 w1 r1 r2 r3
              have hne1 : (Value.slice (some ⟨g, 0, none⟩) j cp).ownBlock ≠ v1.ownBlock := fun e => by
                rcases r3 with h | h
                · rw [h] at e; cases e
                · have h1 := h g e.symm
                  have h2 := (hown.lt g rfl).2
                  omega
              have hb1 : Below wr.heap.size wr w1 := (Below.refl _ _).grown r2 (Nat.le_refl _) (fun j hj => by cases hj)
              have ow1 := ownB_next hown hb1
              have HB1 : Hid (Below w.heap.size w w1 ∧ w.heap.size ≤ w1.heap.size) := ⟨bnext HS.out.2.2.2.2.2 hb1, (bnext HS.out.2.2.2.2.2 hb1).size⟩
              clear r2 r3 hb1 hown
              go_wp2_with (at_builtin; refine wpList_append_U _ rfl _ _ rfl w.heap.size v1 (S.take j) rfl (World.ownsRow.alloc r1 _) _ [x] rfl (rdc_num w1 x 22) ?c1 ?c2 ?_)
              case c1 => have h1 := HJ.out.1; have h2 := HS.out.2.1; have h3 := HS.out.2.2.2.2.1; simp; omega
              case c2 => have := HB1.out.2; simp; omega
              intro v2 w2 q1 q2 _
              have RR := ownB_step HB1.out.1 HB1.out.2 r1 q2
              have ow2 := (World.ownsRow.alloc ow1 _).kept q2 (.inr hne1)
              clear q2 r1 ow1 hne1
              by_cases hcj : j = cp
              · subst hcj
                clear ow2
                go_wp2_with (at_builtin; refine wpList_append_U _ rfl _ _ rfl w.heap.size v2 (S.take j ++ [x]) rfl q1 _ [] rfl (rdc_empty _ _ _) ?c1 ?c2 ?_)
                case c1 => have h1 := HJ.out.1; have h2 := HS.out.2.1; have h3 := HS.out.2.2.2.2.1; simp; omega
                case c2 => exact RR.2
                intro v3 w3 t1 t2 _
                have R3 := ownB_step0 RR.1 RR.2 q1 t2
                clear t2 q1
                go_wp2
                go_roundg (60 - (k + 1))
                case rel =>
                  go_light
                  obtain ⟨x1, x2, x3, x4, x5, x6⟩ := HS.out
                  have hdr : S.drop j = [] := List.drop_eq_nil_iff.2 (by have := HJ.out.2.2; omega)
                  refine ⟨k + 1, S.take j ++ x :: S.drop j, x5, x4, rfl, by go_num, ?_, HJ.out.2.1, ?_, fun _ => by simp, R3.1⟩
                  · rw [hdr]; simpa using t1
                  · have h1 := HJ.out.1; simp; omega
                case measure => go_light; omega
              · have hcj2 : (j : Int) < (cp : Int) := by omega
                have hcj3 : ¬ cp - j = 0 := by omega
                have hcj4 : j < cp := by omega
                clear ow2
                go_wp2_with (at_builtin; refine wpList_append_U _ rfl _ _ rfl w.heap.size v2 (S.take j ++ [x]) rfl q1 _ [] rfl (rdc_empty _ _ _) ?c1 ?c2 ?_)
                case c1 => have h1 := HJ.out.1; have h2 := HS.out.2.1; have h3 := HS.out.2.2.2.2.1; simp; omega
                case c2 => exact RR.2
                intro v3 w3 t1 t2 _
                have R3 := ownB_step0 RR.1 RR.2 q1 t2
                clear t2 q1
                go_wp2
                go_roundg (60 - (k + 1))
                case rel =>
                  go_light
                  obtain ⟨x1, x2, x3, x4, x5, x6⟩ := HS.out
                  have hdr : S.drop j = [] := List.drop_eq_nil_iff.2 (by have := HJ.out.2.2; omega)
                  refine ⟨k + 1, S.take j ++ x :: S.drop j, x5, x4, rfl, by go_num, ?_, HJ.out.2.1, ?_, fun _ => by simp, R3.1⟩
                  · rw [hdr]; simpa using t1
                  · have h1 := HJ.out.1; simp; omega
                case measure => go_light; omega
      · have h6' : ¬ (k : Int) < 60 := by omega
        obtain ⟨ao5, m5, c5, rfl⟩ := own_slice hown
        have HF : Hid (Own wr w.heap.size (.slice ao5 m5 c5) S ∧ Chain 0 S n ∧ S.length ≤ 60 ∧ (0 < m → S ≠ []) ∧ Below w.heap.size w wr) := ⟨hown, hch, by omega, fun _ => hne (by omega), hb⟩
        clear hown hch hlen hne hb r hn0 hn hkm hk6 hlt
        go_wp2
        go_ret
        exact ⟨_, rfl, S, HF.out⟩
    · have hlt' : ¬ (k : Int) < (m : Int) := by omega
      obtain ⟨ao5, m5, c5, rfl⟩ := own_slice hown
      have HF : Hid (Own wr w.heap.size (.slice ao5 m5 c5) S ∧ Chain 0 S n ∧ S.length ≤ 60 ∧ (0 < m → S ≠ []) ∧ Below w.heap.size w wr) := ⟨hown, hch, by omega, fun _ => hne (by omega), hb⟩
      clear hown hch hlen hne hb r hn0 hn hkm hk6
      go_wp2
      go_ret
      exact ⟨_, rfl, S, HF.out⟩
end Go.Proofs.Ytghmodbgfbgclaa
