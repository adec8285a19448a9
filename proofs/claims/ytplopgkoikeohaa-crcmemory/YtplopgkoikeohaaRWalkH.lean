/-
  The walk of CrcMemory. Own work.
-/
import Derived.Test.YtplopgkoikeohaaRWalkF
import Derived.Deep.CutRange
namespace Go.Proofs.Ytplopgkoikeohaa
open Go.RowKit
attribute [local go_sem ↓] Go.wp_at_zero Go.wp_at_succ
def roomB : ByteArray := ⟨#[114, 111, 111, 109]⟩
/-- k rooms behind L. -/
def wideL (L : List ByteArray) (k : Nat) : List ByteArray := L ++ List.replicate k roomB
/-- The first k written over. -/
def overL (L : List ByteArray) (s : ByteArray) (k : Nat) : List ByteArray := List.replicate k s ++ (wideL L 30).drop k
theorem own_al {w : World} {B : Nat} {v : Value} {l : List ByteArray} (h : OwnS w B v l) (o : Obj) : OwnS (w.alloc o) B v l := by
  obtain ⟨h1, h2⟩ := h
  refine ⟨h1, ?_⟩
  rcases h2 with h2 | ⟨g, cap, cur, rfl, hg, hh, r⟩
  · exact .inl h2
  · exact .inr ⟨g, cap, cur, rfl, hg, by rw [Below.heap_alloc _ _ _ (Array.getElem?_eq_some_iff.1 hh).1]; exact hh, r⟩
theorem own_next {w W : World} {B B' : Nat} {v : Value} {l : List ByteArray} (h : OwnS w B v l) (hb : Below B' w W) (hB : w.heap.size ≤ B') : OwnS W B v l := by
  obtain ⟨h1, h2⟩ := h
  refine ⟨h1, ?_⟩
  rcases h2 with h2 | ⟨g, cap, cur, rfl, hg, hh, r⟩
  · exact .inl h2
  · exact .inr ⟨g, cap, cur, rfl, hg, by rw [hb.block g (Nat.lt_of_lt_of_le (Array.getElem?_eq_some_iff.1 hh).1 hB)]; exact hh, r⟩
theorem own_form {w : World} {B : Nat} {v : Value} {l : List ByteArray} (h : OwnS w B v l) (h0 : 0 < l.length) : ∃ g cap, v = .slice (some ⟨g, 0, none⟩) l.length cap ∧ B ≤ g ∧ l.length ≤ cap ∧ cap ≤ maxLen := by
  obtain ⟨h1, h2⟩ := h
  rcases h2 with ⟨_, h2⟩ | ⟨g, cap, cur, hv, hg, _, hc, hm, _⟩
  · omega
  · exact ⟨g, cap, hv, hg, hc, hm⟩
theorem own_cell {w : World} {B g n cap : Nat} {l : List ByteArray} (h : OwnS w B (.slice (some ⟨g, 0, none⟩) n cap) l) {j : Nat} (hj : j < l.length) : w.cell? ⟨g, j, none⟩ = some (.string (l.getD j ByteArray.empty)) ∧ w.frozen? ⟨g, j, none⟩ = false := by
  obtain ⟨h1, h2⟩ := h
  rcases h2 with ⟨h2, _⟩ | ⟨g', cap', cur, hv, hg, hh, hc, hm, hz, ht⟩
  · cases h2
  · obtain ⟨e1, e2, e3⟩ := Value.slice.inj hv
    cases e1
    refine ⟨?_, frozen_of_row w g j cur 9 hh⟩
    rw [cell_of_row w g j cur 9 (0, 0) hh]
    have : (cur.toList.take (l.length * 1))[j]? = some (.string (l.getD j ByteArray.empty)) := by
      rw [ht]; simp [List.getElem?_eq_getElem hj, List.getD_eq_getElem?_getD]
    rw [List.getElem?_take_of_lt (by omega)] at this
    simpa using this
theorem own_set {w : World} {B g n cap : Nat} {l : List ByteArray} (h : OwnS w B (.slice (some ⟨g, 0, none⟩) n cap) l) (j : Nat) (s : ByteArray) : OwnS (w.setCell ⟨g, j, none⟩ (.string s)) B (.slice (some ⟨g, 0, none⟩) n cap) (l.set j s) := by
  obtain ⟨h1, h2⟩ := h
  refine ⟨by simp, .inr ?_⟩
  rcases h2 with ⟨h2, h3⟩ | ⟨g', cap', cur, hv, hg, hh, h3, h4, h5, h6⟩
  · cases h2
  · obtain ⟨e1, e2, e3⟩ := Value.slice.inj hv
    cases e1
    refine ⟨g, cap, cur.setIfInBounds j (.string s), by rw [e2]; simp, hg, heap_setCell_same w g j cur _ _ hh, by simpa [e3] using h3, by omega, by simpa [e3] using h5, ?_⟩
    have h7 : (l.set j s).map Value.string = (l.map Value.string).set j (.string s) := by simp
    rw [h7, ← h6, List.length_set, Array.toList_setIfInBounds, List.take_set]
theorem over_set (L : List ByteArray) (s : ByteArray) (k : Nat) (hk : k < L.length) : (overL L s k).set k s = overL L s (k + 1) := by
  unfold overL
  rw [List.set_append_right _ _ (by simp), List.length_replicate, Nat.sub_self, List.drop_eq_getElem_cons (by simp [wideL]; omega), List.set_cons_zero, List.replicate_succ']
  simp
theorem over_len (L : List ByteArray) (s : ByteArray) (k : Nat) (hk : k ≤ L.length) : (overL L s k).length = L.length + 30 := by
  simp [overL, wideL]; omega
theorem wide_at (L : List ByteArray) (j : Nat) (hj : j < L.length) : (wideL L 30).getD j ByteArray.empty = L.getD j ByteArray.empty := by
  simp only [wideL, List.getD_eq_getElem?_getD]
  rw [List.getElem?_append_left hj]
theorem wide_room (L : List ByteArray) (j : Nat) (hj : L.length ≤ j) (h2 : j < L.length + 30) : (wideL L 30).getD j ByteArray.empty = roomB := by
  simp only [wideL, List.getD_eq_getElem?_getD]
  rw [List.getElem?_append_right hj, List.getElem?_replicate, if_pos (by omega)]; rfl
theorem of_own (W : World) (B g N cp n : Nat) (l : List ByteArray) (h : OwnS W B (.slice (some ⟨g, 0, none⟩) N cp) l) (hs : ∀ s ∈ l, s.size ≤ 9223372036854775807) (hn : n ≤ l.length) (hl : l.length ≤ 1000) (x : Int) (hx : ((sumL (l.take n)).toNat : Int) = x) :
    Calls Try.prog 10 #[.slice (some ⟨g, 0, none⟩) n cp] W fun e w' => e = .returned (.int .u32 x) ∧ Below W.heap.size W w' := by
  subst hx
  refine of_any W _ g 0 n cp (l.take n) ⟨by rw [List.length_take]; omega, fun _ => rfl, fun j v hv => ?_, fun s h => hs s (List.mem_of_mem_take h)⟩ (by omega)
  have hj : j < n := by have := (List.getElem?_eq_some_iff.1 hv).1; rw [List.length_map, List.length_take] at this; omega
  rw [Nat.zero_add, (own_cell h (j := j) (by omega)).1, ← hv]
  simp [hj, List.getElem?_eq_getElem (show j < l.length by omega), List.getD_eq_getElem?_getD]
theorem flat_le (l : List ByteArray) (h : ∀ s ∈ l, s.size ≤ 140737488351232) : (flat l).length ≤ l.length * 140737488351232 := by
  induction l with
  | nil => simp [flat]
  | cons x r ih =>
    have h1 := h x (by simp)
    have h2 := ih (fun s hs => h s (by simp [hs]))
    have e : (flat (x :: r)).length = x.size + (flat r).length := by
      simp only [flat, List.flatMap_cons, List.length_append, Array.length_toList]
      rfl
    rw [e, List.length_cons]; omega
theorem over_all (L : List ByteArray) (s : ByteArray) (h0 : 0 < L.length) : (overL L s L.length).take 1 = [s] := by
  unfold overL
  obtain ⟨m, hm⟩ : ∃ m, L.length = m + 1 := ⟨L.length - 1, by omega⟩
  rw [hm, List.replicate_succ]
  rfl
theorem over_sz (L : List ByteArray) (s : ByteArray) (k : Nat) (hL : ∀ s ∈ L, s.size ≤ 140737488351232) (hs : s.size ≤ 140737488351232) : ∀ x ∈ overL L s k, x.size ≤ 9223372036854775807 := fun x hx => by
  simp only [overL, List.mem_append, List.mem_replicate] at hx
  rcases hx with ⟨_, rfl⟩ | hx
  · omega
  · have := List.mem_of_mem_drop hx
    simp only [wideL, List.mem_append, List.mem_replicate] at this
    rcases this with h | ⟨_, rfl⟩
    · have := hL x h; omega
    · decide
set_option maxRecDepth 100000 in
set_option maxHeartbeats 4000000 in
theorem memory_walk (w : World) (ao : Option Addr) (b off len cap : Nat) (ss : List ByteArray) (hr : RdS w ao b off len ss) (hsz : ∀ s ∈ ss, s.size ≤ 140737488351232) (hl : len ≤ cap) (hm : len ≤ 9223372036854775807) (hn : ao = none → cap = 0) (s : ByteArray) (hs : s.size ≤ 140737488351232) :
    Calls Try.prog 7 #[.slice ao len cap, .string s] w fun e w' => e = .returned (.bool true) ∧ Below w.heap.size w w' := by
  have hr1 := hr.take 40
  obtain ⟨L, hL⟩ : ∃ L, L = ss.take 40 := ⟨_, rfl⟩
  have hLl : min len 40 = L.length := by rw [hL]; exact hr1.hl.symm
  rw [← hL, hLl] at hr1
  have hL40 : L.length ≤ 40 := by omega
  have HSZ : Hid (∀ s ∈ L, s.size ≤ 140737488351232) := fun s hs => hsz s (List.mem_of_mem_take (by rw [← hL]; exact hs))
  have hB := Below.refl w.heap.size w
  clear hr hL hsz
  go_enter Try.func7, Try.ntmps7
  go_upto_region 3 with (go_at_call 9; with_reducible refine (alive_any _).mono ?_; rintro e w1 ⟨rfl, hb⟩; replace hB := bnext hB hb; clear hb)
  go_upto_if 16 with (fail)
  go_cut [0] from 17 to 18 (fun y wx => y = .slice ao L.length cap ∧ w1 = wx)
  case first =>
    by_cases h : 40 < len
    · have hz : (40 : Int) < (len : Int) := by omega
      have hmin : L.length = 40 := by omega
      have hcap : (40 : Int) ≤ (cap : Int) := by omega
      have HM : Hid (L.length = 40) := hmin
      clear hmin hLl hL40
      cases ao with
      | none => exact absurd (hn rfl) (by omega)
      | some ad =>
        go_wp2
        go_meet
        case rel =>
          go_light
          exact ⟨by rw [HM.out], rfl⟩
    · have hz : ¬ (40 : Int) < (len : Int) := by omega
      have HM : Hid (L.length = len) := by show _ = _; omega
      clear hLl hL40
      go_wp2
      go_meet
      case rel =>
        go_light
        exact ⟨by rw [HM.out], rfl⟩
  case rest =>
    obtain ⟨rfl, rfl⟩ := hcut
    clear hLl hl hm
    generalize hnn : L.length = n at *
    have hO0 := owns_new w1
    have hRn : RdS (w1.alloc (.cells #[] 9)) ao b off L.length L := by rw [hnn]; exact hr1.next (bal hB _) (Nat.le_refl _)
    have hB1 := bal hB (.cells #[] 9)
    have HB1 : Hid (∀ W, Below w1.heap.size (w1.alloc (.cells #[] 9)) W → Below w.heap.size w W) := fun W h => hB1.trans (h.mono hB.size)
    have hsz1 : w1.heap.size ≤ (w1.alloc (.cells #[] 9)).heap.size := by simp
    have hlen40 : ([] : List ByteArray).length + L.length ≤ 1000 := by simp; omega
    have hbs : Hid (w.heap.size ≤ w1.heap.size) := hB.size
    have HX : Hid (∀ {W : World} {v : Value} {l : List ByteArray}, OwnS W w1.heap.size v l → OwnS W w.heap.size v l) := fun {W v l} h => by
      obtain ⟨h1, h2⟩ := h
      refine ⟨h1, ?_⟩
      rcases h2 with h2 | ⟨g, cap, cur, rfl, hg, r⟩
      · exact .inl h2
      · exact .inr ⟨g, cap, cur, rfl, Nat.le_trans hbs.out hg, r⟩
    clear hB
    subst hnn
    go_upto_region 6 with (at_builtin; (refine wpList_append_S _ rfl _ _ rfl w1.heap.size _ [] rfl hO0 ao b off cap L rfl hRn hn hlen40 hsz1 ?_); intro v w2 hown hb2; rw [List.nil_append] at hown)
    have HO : Hid (OwnS w2 w.heap.size v (wideL L 0)) := by
      have := HX.out hown
      rw [show wideL L 0 = L by simp [wideL]]; exact this
    have hB := HB1.out _ hb2
    clear hown hb2 HB1 hB1 hRn hO0 hsz1 HX hbs hlen40
    go_wp2
    go_loopg [5, 6] 30 (fun G x i wr => ∃ (k : Nat) (u : Value), k ≤ 30 ∧ G = 30 - k ∧ x = u ∧ i = .int .i64 k ∧ Hid (OwnS wr w.heap.size u (wideL L k)) ∧ Below w.heap.size w wr)
    case atStart =>
      go_light
      exact ⟨0, v, Nat.zero_le _, rfl, rfl, rfl, HO, hB⟩
    case round =>
      clear HO hB
      obtain ⟨k, v, hk, rfl, rfl, rfl, HO, hB⟩ := hrel
      by_cases hlt : k < 30
      · have hz : (k : Int) < 30 := by omega
        have hown := own_al HO.out (.cells #[.string ⟨#[114, 111, 111, 109]⟩] 9)
        have hrr := rds_new wr 1 [roomB] rfl (by intro s hs; simp at hs; subst hs; decide)
        have hlw : (wideL L k).length + [roomB].length ≤ 1000 := by simp [wideL]; omega
        have hszz : w.heap.size ≤ (wr.alloc (.cells #[.string ⟨#[114, 111, 111, 109]⟩] 9)).heap.size := by have := hB.size; simp; omega
        have HB2 : Hid (∀ W, Below w.heap.size (wr.alloc (.cells #[.string ⟨#[114, 111, 111, 109]⟩] 9)) W → Below w.heap.size w W) := fun W h => (bal hB _).trans h
        have HW : Hid (∀ W u, OwnS W w.heap.size u (wideL L k ++ [roomB]) → OwnS W w.heap.size u (wideL L (k + 1))) := fun W u h => by
          have : wideL L k ++ [roomB] = wideL L (k + 1) := by simp [wideL, List.replicate_succ']
          rwa [this] at h
        clear HO hB
        go_wp2_with (at_builtin; (refine wpList_append_S _ rfl _ _ rfl w.heap.size _ (wideL L k) rfl hown (some ⟨wr.heap.size, 0, none⟩) wr.heap.size 0 1 [roomB] rfl hrr (fun h => by cases h) hlw hszz ?_); intro v' w2 hown2 hb2)
        go_roundg (30 - (k + 1))
        case rel =>
          go_light
          exact ⟨k + 1, v', by omega, rfl, rfl, by go_num, HW.out _ _ hown2, HB2.out _ hb2⟩
        case measure => go_light; omega
      · obtain rfl : k = 30 := by omega
        have hz : ¬ ((30 : Nat) : Int) < 30 := by omega
        have hwl : (wideL L 30).length = L.length + 30 := by simp [wideL]
        obtain ⟨g, cp, rfl, hg, hcp, hcm⟩ := own_form HO.out (by omega)
        rw [hwl] at hcp
        have HO' : Hid (OwnS wr w.heap.size (.slice (some ⟨g, 0, none⟩) (L.length + 30) cp) (wideL L 30)) := by
          have := HO.out
          rwa [hwl] at this
        rw [hwl]
        obtain ⟨X, hX⟩ : ∃ X, X = (sumL L).toNat := ⟨_, rfl⟩
        have hwo : wideL L 30 = overL L s 0 := by simp [overL]
        have OF : Hid (∀ W, OwnS W w.heap.size (.slice (some ⟨g, 0, none⟩) (L.length + 30) cp) (wideL L 30) → Calls Try.prog 10 #[.slice (some ⟨g, 0, none⟩) L.length cp] W fun e w' => e = .returned (.int .u32 (X : Int)) ∧ Below W.heap.size W w') := fun W h =>
          of_own W _ g _ cp L.length _ h (by rw [hwo]; exact over_sz L s 0 HSZ.out hs) (by omega) (by omega) _ (by rw [hX]; simp [wideL])
        have hO1 := HO'.out
        have HX : Hid (X = (sumL L).toNat) := hX
        clear hX
        have ncp : (L.length : Int) ≤ (cp : Int) := by omega
        have n0 : (0 : Int) ≤ (L.length : Int) := Int.natCast_nonneg _
        clear HO
        go_upto_region 11 with (go_at_call 10; with_reducible refine (OF.out _ hO1).mono ?_; rintro e w3 ⟨rfl, hb3⟩)
        have HO3 : Hid (OwnS w3 w.heap.size (.slice (some ⟨g, 0, none⟩) (L.length + 30) cp) (wideL L 30)) := own_next hO1 hb3 (Nat.le_refl _)
        replace hB := bnext hB hb3
        clear hO1 hb3 HO'
        go_wp2
        go_loopg [8] (L.length + 30) (fun G i wx => ∃ k : Nat, k ≤ L.length + 30 ∧ G = L.length + 30 - k ∧ i = .int .i64 k ∧ Hid (OwnS wx w.heap.size (.slice (some ⟨g, 0, none⟩) (L.length + 30) cp) (wideL L 30)) ∧ Below w.heap.size w wx)
        case atStart =>
          go_light
          exact ⟨0, Nat.zero_le _, rfl, rfl, HO3, hB⟩
        case round =>
          clear HO3 hB
          obtain ⟨k, hk, rfl, rfl, HO, hB⟩ := hrel
          have k0 : (0 : Int) ≤ (k : Int) := Int.natCast_nonneg _
          by_cases hlt : k < L.length + 30
          · have hz : (k : Int) < (L.length : Int) + 30 := by omega
            have hck := (own_cell HO.out (j := k) (by omega)).1
            by_cases hkn : k < L.length
            · have hz2 : (k : Int) < (L.length : Int) := by omega
              have hz3 : decide (L.length ≤ k) = false := decide_eq_false (by omega)
              obtain rfl := hr1.ptr (by omega)
              have hcp2 := (hr1.next hB (Nat.le_refl _)).at hkn
              rw [wide_at L k hkn] at hck
              generalize L.getD k ByteArray.empty = x at *
              go_wp2
              go_quiet (fail)
              go_wp2
              go_roundg (L.length + 30 - (k + 1))
              case rel =>
                go_light
                exact ⟨k + 1, by omega, rfl, by go_num, HO, below_drewN hB _⟩
              case measure => go_light; omega
            · have hz2 : decide ((k : Int) < (L.length : Int)) = false := decide_eq_false (by omega)
              have hz3 : decide (L.length ≤ k) = true := decide_eq_true (by omega)
              rw [wide_room L k (by omega) hlt, roomB] at hck
              go_wp2
              go_quiet (fail)
              go_wp2
              go_roundg (L.length + 30 - (k + 1))
              case rel =>
                go_light
                exact ⟨k + 1, by omega, rfl, by go_num, HO, below_drewN hB _⟩
              case measure => go_light; omega
          · obtain rfl : k = L.length + 30 := by omega
            have hz : ¬ ((L.length + 30 : Nat) : Int) < (L.length : Int) + 30 := by omega
            have hz' : ¬ (L.length : Int) + 30 < (L.length : Int) + 30 := by omega
            have hO1 := HO.out
            go_upto_region 17 with (go_at_call 10; with_reducible refine (OF.out _ hO1).mono ?_; rintro e w4 ⟨rfl, hb4⟩)
            have HO4 : Hid (OwnS w4 w.heap.size (.slice (some ⟨g, 0, none⟩) (L.length + 30) cp) (overL L s 0)) := by
              rw [← hwo]; exact own_next hO1 hb4 (Nat.le_refl _)
            replace hB := bnext hB hb4
            clear hO1 hb4 HO OF
            go_wp2
            go_loopg [10, 11] L.length (fun G x i wx => ∃ (k : Nat) (all : ByteArray), k ≤ L.length ∧ G = L.length - k ∧ x = .string all ∧ i = .int .i64 k ∧ Hid (all.data.toList = flat (L.take k)) ∧ Hid (OwnS wx w.heap.size (.slice (some ⟨g, 0, none⟩) (L.length + 30) cp) (overL L s k)) ∧ Below w.heap.size w wx)
            case atStart =>
              go_light
              exact ⟨0, ⟨#[]⟩, Nat.zero_le _, rfl, rfl, rfl, rfl, HO4, hB⟩
            case round =>
              clear HO4 hB
              obtain ⟨k, all, hk, rfl, rfl, rfl, HA, HO, hB⟩ := hrel
              have k0 : (0 : Int) ≤ (k : Int) := Int.natCast_nonneg _
              have hall : all.size ≤ 40 * 140737488351232 := by
                have h1 : all.size = (flat (L.take k)).length := by rw [← HA.out, Array.length_toList]; rfl
                have h2 := flat_le (L.take k) (fun s h => HSZ.out s (List.mem_of_mem_take h))
                have h3 : (L.take k).length ≤ 40 := by rw [List.length_take]; omega
                rw [h1]
                exact Nat.le_trans h2 (Nat.mul_le_mul_right _ h3)
              by_cases hlt : k < L.length
              · have hz : (k : Int) < (L.length : Int) := by omega
                have hz30 : (k : Int) < (L.length : Int) + 30 := by omega
                obtain rfl := hr1.ptr (by omega)
                have hck := (hr1.next hB (Nat.le_refl _)).at hlt
                obtain ⟨hcg, hfg⟩ := own_cell HO.out (j := k) (by rw [over_len L s k hk]; omega)
                have hps : (L.getD k ByteArray.empty).size ≤ 140737488351232 := by
                  rw [List.getD_eq_getElem?_getD, List.getElem?_eq_getElem hlt]; exact HSZ.out _ (List.getElem_mem _)
                have hns : ¬ (9223372036854775807 < all.size + (L.getD k ByteArray.empty).size) := by omega
                have HA' : Hid ((all ++ L.getD k ByteArray.empty).data.toList = flat (L.take (k + 1))) := by
                  show _ = _
                  rw [flat_snoc L k hlt, ← HA.out]; simp
                have HO' : Hid (OwnS (wr.setCell ⟨g, k, none⟩ (.string s)) w.heap.size (.slice (some ⟨g, 0, none⟩) (L.length + 30) cp) (overL L s (k + 1))) := by
                  have := own_set HO.out k s
                  rw [over_set L s k hlt] at this
                  exact this
                have HB' : Hid (Below w.heap.size w (wr.setCell ⟨g, k, none⟩ (.string s))) := hB.setCell hg _
                generalize L.getD k ByteArray.empty = part at *
                generalize (overL L s k).getD k ByteArray.empty = old at *
                clear HA HO hB hall hps
                go_wp2
                go_roundg (L.length - (k + 1))
                case rel =>
                  go_light
                  exact ⟨k + 1, _, by omega, rfl, rfl, by go_num, HA', HO', HB'.out⟩
                case measure => go_light; omega
              · obtain rfl : k = L.length := by omega
                have hz : ¬ (L.length : Int) < (L.length : Int) := by omega
                have hA := HA.out
                rw [List.take_of_length_le (Nat.le_refl _)] at hA
                obtain ⟨Y, hY⟩ : ∃ Y, Y = (mor 0#32 s.data.toList).toNat := ⟨_, rfl⟩
                have H1 := fun W => of_row W 1 [all] (X : Int) (by rw [HX.out, sumL, flat_one, hA, sumL]) rfl (by decide) (by intro s hs; simp at hs; subst hs; omega)
                have H2 := fun W => of_row W 1 [s] (Y : Int) (by rw [hY, sumL, flat_one]) rfl (by decide) (by intro s hs; simp at hs; subst hs; omega)
                simp only [List.map_cons, List.map_nil] at H1 H2
                have c1 : (1 : Int) ≤ (cp : Int) := by omega
                have HOW : Hid (0 < L.length → ∀ W, Below wr.heap.size wr W → Calls Try.prog 10 #[.slice (some ⟨g, 0, none⟩) 1 cp] W fun e w' => e = .returned (.int .u32 (Y : Int)) ∧ Below W.heap.size W w') := fun h0 W hW => by
                  have h1 : (sumL ((overL L s L.length).take 1)).toNat = Y := by rw [over_all L s h0, sumL, flat_one, hY]
                  exact of_own W _ g _ cp 1 _ (own_next HO.out hW (Nat.le_refl _)) (over_sz L s _ HSZ.out hs) (by rw [over_len L s _ (Nat.le_refl _)]; omega) (by rw [over_len L s _ (Nat.le_refl _)]; omega) _ (by rw [h1])
                have hB2 := Below.refl wr.heap.size wr
                clear hA HA HO hY HX hall
                by_cases h0 : L.length = 0
                · have hz0 : ((L.length : Int) == 0) = true := by simp [h0]
                  clear h0 HOW H2
                  go_wp2_with (go_at_call 10; with_reducible refine (H1 _).mono ?_; rintro e w5 ⟨rfl, hb⟩; replace hB := bnext hB hb; clear hb)
                  go_ret
                  exact ⟨rfl, hB⟩
                · have hz0 : ((L.length : Int) == 0) = false := beq_eq_false_iff_ne.2 (by omega)
                  have OW := HOW.out (by omega)
                  clear h0 HOW
                  go_wp2_with (go_at_call 10; (first | (with_reducible refine (H1 _).mono ?_) | (with_reducible refine (H2 _).mono ?_) | (with_reducible refine (OW _ hB2).mono ?_)); rintro e w5 ⟨rfl, hb⟩; replace hB := bnext hB hb; replace hB2 := bnext hB2 hb; clear hb)
                  go_ret
                  exact ⟨rfl, hB⟩
end Go.Proofs.Ytplopgkoikeohaa
