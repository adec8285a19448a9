/-
  Own work: DTold, DAfter, DLaid.
-/
import Derived.Deep.RegionHeld3
import Derived.Test.YthfnpagangjpbabGreatV09
import Derived.Test.YthfnpagangjpbabGreatV11
namespace Go.Proofs.YthfnpagangjpbabGreat
open Go.RowKit
def cF (l : List (List UInt8 × List UInt8)) : List Value := l.flatMap fun p => [Value.string ⟨p.1.toArray⟩, Value.string ⟨p.2.toArray⟩]
theorem cF_app (l k : List (List UInt8 × List UInt8)) : cF (l ++ k) = cF l ++ cF k := by simp [cF]
def OwnF (w : World) (B : Nat) (v : Value) (l : List (List UInt8 × List UInt8)) : Prop := w.ownsRow B 25 2 v l.length (cF l)
theorem Tryz.infoF : (Tryz.prog.info? 25).map (fun i => (i.zero, i.size, i.bytes)) = some (some (.agg #[.string ⟨#[]⟩, .string ⟨#[]⟩]), 2, 32) := by kernel_rfl
def pick : List (List UInt8) → List (List UInt8) → List (List UInt8 × List UInt8)
  | s :: N, x :: X => if x = [] then pick N X else (s, x) :: pick N X
  | _, _ => []
theorem pick_snoc : ∀ (N X : List (List UInt8)) (s x : List UInt8), N.length = X.length → pick (N ++ [s]) (X ++ [x]) = pick N X ++ (if x = [] then [] else [(s, x)])
  | [], [], s, x, _ => by
    simp only [List.nil_append, pick]
  | s' :: N, x' :: X, s, x, h => by
    have ih := pick_snoc N X s x (by simpa using h)
    simp only [List.cons_append, pick]
    split
    · exact ih
    · rw [ih]; rfl
  | [], _ :: _, _, _, h => by simp at h
  | _ :: _, [], _, _, h => by simp at h
theorem pick_len : ∀ (N X : List (List UInt8)), (pick N X).length ≤ N.length
  | s :: N, x :: X => by
    have := pick_len N X
    simp only [pick]
    split
    · simp; omega
    · simp; omega
  | [], _ => by simp [pick]
  | _ :: _, [] => by simp [pick]
theorem take_snoc {α : Type} (l : List α) (d : α) (j : Nat) (h : j < l.length) : l.take (j + 1) = l.take j ++ [l.getD j d] := by
  rw [List.take_add_one, List.getElem?_eq_getElem h, List.getD_eq_getElem?_getD, List.getElem?_eq_getElem h]; rfl
theorem keys_len (L : List (List UInt8 × FV)) : (keys L).length = L.length := by simp [keys]
theorem keys_at (L : List (List UInt8 × FV)) (j : Nat) (h : j < L.length) : (keys L).getD j [] ∈ keys L := by
  have : j < (keys L).length := by rw [keys_len]; exact h
  rw [List.getD_eq_getElem?_getD, List.getElem?_eq_getElem this]
  exact List.getElem_mem this
structure Tl (w : World) (p m : Nat) (R : List UInt8 → FR) (kb : Nat) (D : DV) (S : Nat → Prop) (fn : Nat) (caps : Array Value) (X : List (List UInt8)) (J : Nat → World → Prop) : Prop where
  len : X.length = D.L.length
  old : ∀ x, S x → x < w.heap.size ∧ ¬ Foot p m R kb D x
  call : ∀ (W : World) j, j < D.L.length → J j W → Upo S w W → Calls Tryz.prog fn (#[fval (fget D.L ((keys D.L).getD j [])) (R ((keys D.L).getD j []))] ++ caps) W fun e w' => ∃ ao g cap, e = .returned (.slice ao (X.getD j []).length cap) ∧ Rw w' ao g cap (X.getD j []) ∧ J (j + 1) w' ∧ Upo S W w'
  keep : ∀ (W W' : World) j, J j W → Below W.heap.size W W' ∨ (Upo (fun x => w.heap.size ≤ x) W W') → J j W'
  zero : ∀ W, Below w.heap.size w W → J 0 W
structure Tj (w : World) (N X : List (List UInt8)) (nb : Nat) (na : Option Addr) (S : Nat → Prop) (J : Nat → World → Prop) (j : Nat) (v : Value) (wr : World) : Prop where
  own : OwnF wr w.heap.size v (pick (N.take j) (X.take j))
  nms : RdN wr na nb N
  nty : 0 < N.length → w.heap.size ≤ nb ∧ Ty wr nb 9
  st : J j wr
  up : Upo S w wr
theorem own_slice {w : World} {B T s n : Nat} {v : Value} {xs : List Value} (h : w.ownsRow B T s v n xs) : ∃ ao cap, v = .slice ao n cap := by
  rcases h.2 with ⟨rfl, rfl⟩ | ⟨g, cap, cur, rfl, _⟩
  · exact ⟨none, 0, rfl⟩
  · exact ⟨_, cap, rfl⟩
theorem row_keep {w w' : World} {B T s n : Nat} {v : Value} {xs : List Value} (h : w.ownsRow B T s v n xs) (hk : ∀ g, v.ownBlock = some g → w'.heap[g]? = w.heap[g]?) : w'.ownsRow B T s v n xs := by
  obtain ⟨h1, h2⟩ := h
  refine ⟨h1, ?_⟩
  rcases h2 with h2 | ⟨g, cap, cur, hv, hg, hh, h3⟩
  · exact .inl h2
  · exact .inr ⟨g, cap, cur, hv, hg, (hk g (by rw [hv]; rfl)).trans hh, h3⟩
theorem two_new (w : World) (a b : Value) (T : TypeId) : ∀ j u, [a, b][j]? = some u → (w.alloc (.cells #[a, b] T)).cell? ((⟨w.heap.size, 0, none⟩ : Addr).add j) = some u := fun j u hu => by
  rw [Addr.add_mid, World.cell?_alloc_new, Nat.zero_add]
  simpa using hu
set_option maxRecDepth 100000 in
set_option maxHeartbeats 1000000 in
theorem told_any (w : World) {p m : Nat} {R : List UInt8 → FR} {ka : Option Addr} {kb ko kc : Nat} {D : DV} (h : Dk w p m R ka kb ko kc D none) (S : Nat → Prop) (fn : Nat) (caps : Array Value) (X : List (List UInt8)) (J : Nat → World → Prop) (hT : Tl w p m R kb D S fn caps X J) (hfn : fn = 93 ∨ fn = 94) :
    Calls Tryz.prog 92 #[.pointer (some ⟨p, 0, none⟩), .func (.func fn) #[] caps] w fun e w' => ∃ v, e = .returned v ∧ OwnF w' w.heap.size v (pick (keys D.L) X) ∧ J D.L.length w' ∧ Upo S w w' := by
  have HN := names_any w h
  have HH : Hid (Dk w p m R ka kb ko kc D none ∧ Tl w p m R kb D S fn caps X J) := ⟨h, hT⟩
  obtain ⟨n, hn⟩ : ∃ n, (keys D.L).length = n := ⟨_, rfl⟩
  have HL : Hid ((keys D.L).length = n ∧ D.L.length = n ∧ n ≤ 1099511627776) := ⟨hn, by rw [← hn, keys_len], by rw [← hn, keys_len]; exact h.cnt⟩
  rw [hn] at HN
  clear h hT hn
  go_enter Tryz.func92, Tryz.ntmps92
  go_wp2_with (go_at_call 129; with_reducible refine HN.mono ?_; rintro e w1 ⟨na, nb, ncap, rfl, hrn, hnt, hb1⟩)
  have HS : Hid (Tj w (keys D.L) X nb na S J 0 (.slice none 0 0) w1) := ⟨⟨rfl, .inl ⟨rfl, rfl⟩⟩, hrn, by rw [HL.out.1]; exact hnt, HH.out.2.zero w1 hb1, Upo.of hb1⟩
  clear hrn hnt hb1
  go_loopg [5, 12] n (fun g x i wr => ∃ j : Nat, j ≤ n ∧ g = n - j ∧ i = .int .i64 (j : Int) ∧ Tj w (keys D.L) X nb na S J j x wr)
  case atStart => exact ⟨0, Nat.zero_le _, rfl, rfl, HS.out⟩
  case round =>
    obtain ⟨j, hj, rfl, rfl, hR⟩ := hrel
    by_cases hlt : j < n
    · obtain ⟨nm, hnm⟩ : ∃ nm : ByteArray, (⟨((keys D.L).getD j []).toArray⟩ : ByteArray) = nm := ⟨_, rfl⟩
      have hjl : j < D.L.length := by rw [HL.out.2.1]; exact hlt
      have hk := keys_at D.L j hjl
      have hnl : nm.data.toList = (keys D.L).getD j [] := by rw [← hnm]
      have cn := hR.nms.cell j (by rw [HL.out.1]; exact hlt)
      rw [hnm] at cn
      have ea := hR.nms.ptr (by rw [HL.out.1]; omega)
      have hD : Dk wr p m R ka kb ko kc D none := HH.out.1.same fun x hx => hR.up.block x (HH.out.1.lt hx) (fun hS => (HH.out.2.old x hS).2 hx)
      obtain ⟨c0, c1, c2, c3, c4, c5, c6⟩ := hD.cells
      obtain ⟨r, hl, hr⟩ := hD.look nm (by have := hD.nm _ hk; rw [← hnl, size_list] at this; exact this)
      rw [hnl] at hl hr
      obtain rfl : r = R ((keys D.L).getD j []) := hr.elim (fun q => q.2) (fun q => absurd hk q.1)
      obtain ⟨V, hV⟩ : ∃ V, fval (fget D.L ((keys D.L).getD j [])) (R ((keys D.L).getD j [])) = V := ⟨_, rfl⟩
      have hl1 := hl wr rfl
      have HC := HH.out.2.call wr j hjl hR.st hR.up
      rw [hV] at hl1 HC
      obtain ⟨xs, hxs⟩ : ∃ xs, X.getD j [] = xs := ⟨_, rfl⟩
      rw [hxs] at HC
      have hi1 : (0 : Int) ≤ (j : Int) := by omega
      have hi2 : (j : Int) < (n : Int) := by omega
      have hw : IntKind.i64.wrap ((j : Int) + 1) = (j : Int) + 1 := by have := HL.out.2.2; rw [IntKind.wrap_i64]; omega
      subst ea
      have HR : Hid (Tj w (keys D.L) X nb (some ⟨nb, 0, none⟩) S J j u5 wr ∧ nm.data.toList = (keys D.L).getD j [] ∧ X.getD j [] = xs ∧ j < n) := ⟨hR, hnl, hxs, hlt⟩
      have HC2 : Hid (Calls Tryz.prog fn (#[V] ++ caps) wr fun e w' => ∃ ao g cap, e = .returned (.slice ao xs.length cap) ∧ Rw w' ao g cap xs ∧ J (j + 1) w' ∧ Upo S wr w') := HC
      clear c0 c2 c3 c4 c5 c6 hR hD hl hr hV hxs HC hnl hnm hk hjl hlt hj
      go_upto_region 5 with (fail)
      go_cut [8] from 13 to 34 (fun x wx => ∃ ao g cap, x = .slice ao xs.length cap ∧ Rw wx ao g cap xs ∧ J (j + 1) wx ∧ Upo S wr wx)
      case first =>
        rcases hfn with rfl | rfl
        · go_wp2_with (go_at_call 93; with_reducible refine HC2.out.mono ?_; rintro e w2 ⟨ao, g, cap, rfl, rw2, st2, up2⟩)
          go_meet
          case rel => exact ⟨ao, g, cap, rfl, rw2, st2, up2⟩
        · go_wp2_with (go_at_call 94; with_reducible refine HC2.out.mono ?_; rintro e w2 ⟨ao, g, cap, rfl, rw2, st2, up2⟩)
          go_meet
          case rel => exact ⟨ao, g, cap, rfl, rw2, st2, up2⟩
      case rest =>
        obtain ⟨ao, g, cap, rfl, rw2, st2, up2⟩ := hcut
        obtain ⟨w2, hw2⟩ : ∃ W, W = wc := ⟨_, rfl⟩
        subst hw2
        have hnb : w.heap.size ≤ nb := (HR.out.1.nty (by rw [HL.out.1]; have := HR.out.2.2.2; omega)).1
        have hso : ∀ x, w.heap.size ≤ x → x < wr.heap.size → w2.heap[x]? = wr.heap[x]? := fun x hx hx2 => up2.block x hx2 (fun hS => by have := (HH.out.2.old x hS).1; omega)
        have own2 : OwnF w2 w.heap.size u5 (pick ((keys D.L).take j) (X.take j)) := row_keep HR.out.1.own fun g hg => by
          have := HR.out.1.own.lt g hg
          exact hso g this.1 this.2
        have nms2 : RdN w2 (some ⟨nb, 0, none⟩) nb (keys D.L) := HR.out.1.nms.same fun h0 => hso nb hnb (HR.out.1.nms.lt h0)
        have nty2 : 0 < (keys D.L).length → w.heap.size ≤ nb ∧ Ty w2 nb 9 := fun h0 => ⟨hnb, (HR.out.1.nty h0).2.same (hso nb hnb (HR.out.1.nty h0).2.lt)⟩
        have hup : Upo S w w2 := HR.out.1.up.trans up2 (fun _ _ q => q)
        have hNj : (keys D.L).take (j + 1) = (keys D.L).take j ++ [nm.data.toList] := by rw [HR.out.2.1]; exact take_snoc _ _ _ (by rw [HL.out.1]; exact HR.out.2.2.2)
        have hXj : X.take (j + 1) = X.take j ++ [xs] := by rw [← HR.out.2.2.1]; exact take_snoc _ _ _ (by rw [HH.out.2.len, HL.out.2.1]; exact HR.out.2.2.2)
        have hpk : pick ((keys D.L).take (j + 1)) (X.take (j + 1)) = pick ((keys D.L).take j) (X.take j) ++ (if xs = [] then [] else [(nm.data.toList, xs)]) := by
          rw [hNj, hXj]
          exact pick_snoc _ _ _ _ (by rw [List.length_take, List.length_take, HL.out.1, HH.out.2.len, HL.out.2.1])
        have hpl : (pick ((keys D.L).take j) (X.take j)).length ≤ j := by
          have := pick_len ((keys D.L).take j) (X.take j)
          rw [List.length_take] at this
          omega
        by_cases hx0 : xs = []
        · subst hx0
          rw [if_pos rfl, List.append_nil] at hpk
          have HF : Hid (Tj w (keys D.L) X nb (some ⟨nb, 0, none⟩) S J (j + 1) u5 w2) := ⟨by rw [hpk]; exact own2, nms2, nty2, st2, hup⟩
          clear own2 nms2 nty2 hup hNj hXj hpk hpl rw2 st2 up2 hso
          have hz : ¬ ((([] : List UInt8).length : Int) > 0) := by simp
          go_wp2
          go_roundg (n - (j + 1))
          case rel =>
            go_light
            exact ⟨j + 1, by have := HR.out.2.2.2; omega, rfl, by go_num, HF.out⟩
          case measure => go_light; have := HR.out.2.2.2; omega
        · rw [if_neg hx0] at hpk
          have hcv : (convert 111 9 (.slice ao xs.length cap)).run Tryz.prog w2 = .ok (.string ⟨xs.toArray⟩) w2 := by
            have := rw2.conv (k := 0) (n := xs.length) (by omega) (ax := ao) (.inl rfl) (fun _ => .inl rfl) cap
            rwa [List.drop_zero, List.take_length] at this
          obtain ⟨sx, hsx⟩ : ∃ sx : ByteArray, (⟨xs.toArray⟩ : ByteArray) = sx := ⟨_, rfl⟩
          rw [hsx] at hcv
          have hsl : sx.data.toList = xs := by rw [← hsx]
          have hpos : (0 : Int) < (xs.length : Int) := by have : xs.length ≠ 0 := fun e => hx0 (List.length_eq_zero_iff.1 e); omega
          obtain ⟨i0, hi, hz0, hz1, hz2⟩ := info_parts Tryz.infoF
          obtain ⟨xl, hxl⟩ : ∃ xl, xs.length = xl := ⟨_, rfl⟩
          have HX : Hid (nm.data.toList = nm.data.toList ∧ sx.data.toList = xs ∧ Tj w (keys D.L) X nb (some ⟨nb, 0, none⟩) S J j u5 wr) := ⟨rfl, hsl, HR.out.1⟩
          have HP : Hid (OwnF w2 w.heap.size u5 (pick ((keys D.L).take j) (X.take j)) ∧ RdN w2 (some ⟨nb, 0, none⟩) nb (keys D.L) ∧ (0 < (keys D.L).length → w.heap.size ≤ nb ∧ Ty w2 nb 9) ∧ J (j + 1) w2 ∧ Upo S w w2 ∧ pick ((keys D.L).take (j + 1)) (X.take (j + 1)) = pick ((keys D.L).take j) (X.take j) ++ [(nm.data.toList, xs)] ∧ (pick ((keys D.L).take j) (X.take j)).length ≤ j) := ⟨own2, nms2, nty2, st2, hup, hpk, hpl⟩
          rw [hxl] at hcv hpos ⊢
          clear own2 nms2 nty2 hup hNj hXj hpk hpl rw2 st2 up2 hso hx0 hsl hsx cn hxl
          have q1 : (pick ((keys D.L).take j) (X.take j)).length + 1 ≤ maxLen := by have := HP.out.2.2.2.2.2.2; have := HR.out.2.2.2; have := HL.out.2.2; unfold maxLen; omega
          have q2 : ((pick ((keys D.L).take j) (X.take j)).length + 1) * 32 ≤ 140737488355328 := by have := HP.out.2.2.2.2.2.2; have := HR.out.2.2.2; have := HL.out.2.2; omega
          have q3 : w.heap.size ≤ (w2.alloc (.cells #[.string nm, .string sx] 25)).heap.size := by have := HP.out.2.2.2.2.1.size; simp; omega
          have Q := hide (And.intro q1 (And.intro q2 q3))
          clear q1 q2 q3
          go_wp2_with (first
            | (at_builtin; refine wpList_append_own _ rfl _ _ 22 rfl w.heap.size 25 i0 (.agg #[.string ⟨#[]⟩, .string ⟨#[]⟩]) 2 32 Tryz.underlying22 hi hz0 hz1 hz2 rfl (by decide) _ _ _ rfl (HP.out.1.alloc _) ⟨w2.heap.size, 0, none⟩ 1 1 [.string nm, .string sx] rfl rfl (two_new _ _ _ _) (by simp [Value.oneCell']) Q.out.1 Q.out.2.1 Q.out.2.2 ?_; intro v' w3 own3 g3 nil3; go_frame)
            | go_in)
          obtain ⟨own2, nms2, nty2, st2, hup, hpk, hpl⟩ := HP.out
          obtain ⟨va, vc, rfl⟩ := own_slice own3
          have hal : Below w2.heap.size w2 (w2.alloc (.cells #[.string nm, .string sx] 25)) := bal (Below.refl _ _) _
          have hup3 : Upo (fun x => w.heap.size ≤ x) w2 w3 := by
            refine (Upo.of hal).trans (Upo.grown (S := fun x => w.heap.size ≤ x) g3 (fun b hb => (own2.lt b hb).1)) (fun _ _ q => q)
          have hne : ∀ x, x < w2.heap.size → some x ≠ u5.ownBlock → w3.heap[x]? = w2.heap[x]? := fun x hx hn => (g3.block x (by have := hal.size; omega) hn).trans (hal.block x hx)
          have hnn : some nb ≠ u5.ownBlock := fun e => by
            have h0 : 0 < (keys D.L).length := by rw [HL.out.1]; have := HR.out.2.2.2; omega
            rcases own2.2 with ⟨q, _⟩ | ⟨g', cap', cur', q, _, hb', _⟩
            · rw [q] at e; cases e
            · rw [q] at e
              simp only [Value.ownBlock, Option.some.injEq] at e
              exact (nty2 h0).2.ne ⟨_, _, hb'⟩ (by decide) e
          have HF : Hid (Tj w (keys D.L) X nb (some ⟨nb, 0, none⟩) S J (j + 1) (.slice va ((pick ((keys D.L).take j) (X.take j)).length + 1) vc) w3) := by
            refine ⟨?_, nms2.same fun h0 => hne nb (nms2.lt h0) hnn, fun h0 => ⟨(nty2 h0).1, (nty2 h0).2.same (hne nb (nty2 h0).2.lt hnn)⟩, HH.out.2.keep w2 w3 (j + 1) st2 (.inr hup3), hup.trans hup3 (fun b hb q => by omega)⟩
            unfold OwnF
            rw [hpk, cF_app, List.length_append]
            have e2 : cF [(nm.data.toList, xs)] = [.string nm, .string sx] := by
              rw [← HX.out.2.1]
              rfl
            rw [e2]
            exact own3
          clear own2 nms2 nty2 st2 hup hpk hpl own3 hal hup3 hne hnn HP HX g3 nil3
          go_wp2
          go_roundg (n - (j + 1))
          case rel =>
            go_light
            exact ⟨j + 1, by have := HR.out.2.2.2; omega, rfl, by go_num, HF.out⟩
          case measure => go_light; have := HR.out.2.2.2; omega
    · obtain rfl : j = n := by omega
      have hc : ¬ ((j : Int) < (j : Int)) := by omega
      have HR : Hid (Tj w (keys D.L) X nb na S J j u5 wr) := hR
      clear hR hlt hj
      go_wp2
      go_ret
      refine ⟨u5, rfl, ?_, by rw [HL.out.2.1]; exact HR.out.st, HR.out.up⟩
      have := HR.out.own
      rwa [List.take_of_length_le (by rw [HL.out.1]; exact Nat.le_refl _), List.take_of_length_le (by rw [HH.out.2.len, HL.out.2.1]; exact Nat.le_refl _)] at this
end Go.Proofs.YthfnpagangjpbabGreat
namespace Go.Proofs.YthfnpagangjpbabGreat
open Go.RowKit
def outs (ks : List Bool) : List FV → Nat → List (List UInt8)
  | [], _ => []
  | f :: r, i => (stay ks f i).1 :: outs ks r (stay ks f i).2
def ixa (ks : List Bool) : List FV → Nat → Nat → Nat
  | _, i, 0 => i
  | [], i, _ + 1 => i
  | f :: r, i, j + 1 => ixa ks r (stay ks f i).2 j
theorem ixa_zero (ks : List Bool) (fs : List FV) (i : Nat) : ixa ks fs i 0 = i := by cases fs <;> rfl
theorem outs_len (ks : List Bool) : ∀ (fs : List FV) (i : Nat), (outs ks fs i).length = fs.length
  | [], _ => rfl
  | f :: r, i => by simp [outs, outs_len ks r]
theorem outs_at (ks : List Bool) : ∀ (fs : List FV) (i j : Nat), j < fs.length → (outs ks fs i).getD j [] = (stay ks (fs.getD j fz) (ixa ks fs i j)).1 ∧ ixa ks fs i (j + 1) = (stay ks (fs.getD j fz) (ixa ks fs i j)).2
  | [], _, _, h => by simp at h
  | f :: r, i, 0, _ => ⟨rfl, by cases r <;> rfl⟩
  | f :: r, i, j + 1, h => by
    have := outs_at ks r (stay ks f i).2 j (by simpa using h)
    exact ⟨this.1, this.2⟩
theorem pick_outs (ks : List Bool) : ∀ (L : List (List UInt8 × FV)) (i : Nat), pick (keys L) (outs ks (L.map (·.2)) i) = aft ks L i
  | [], _ => rfl
  | (s, f) :: r, i => by
    have := pick_outs ks r (stay ks f i).2
    simp only [keys, List.map_cons, outs, pick, aft] at *
    rw [this]
theorem pick_tell : ∀ (L : List (List UInt8 × FV)), pick (keys L) (L.map (·.2.now)) = tell L
  | [] => rfl
  | (s, f) :: r => by
    have := pick_tell r
    simp only [keys, List.map_cons, pick, tell] at *
    rw [this]
theorem fget_at {L : List (List UInt8 × FV)} (h : Ord L) {j : Nat} (hj : j < L.length) : fget L ((keys L).getD j []) = (L.map (·.2)).getD j fz := by
  have e1 : (keys L).getD j [] = (L[j]).1 := by simp [keys, List.getD_eq_getElem?_getD, List.getElem?_eq_getElem hj]
  have e2 : (L.map (·.2)).getD j fz = (L[j]).2 := by simp [List.getD_eq_getElem?_getD, List.getElem?_eq_getElem hj]
  rw [e1, e2]
  exact fget_mem h (List.getElem_mem hj)
section
variable {p m : Nat} {R : List UInt8 → FR} {ka : Option Addr} {kb ko kc : Nat} {D : DV}
theorem files1_any (w : World) (f : FV) (r : FR) : Calls Tryz.prog 93 #[fval f r] w fun e w' => e = .returned (.slice r.a f.now.length r.c) ∧ Below w.heap.size w w' := by
  obtain ⟨ra, rg, rc, rb, rh, rd, rs⟩ := r
  simp only [fval, fv]
  go_enter Tryz.func93, Tryz.ntmps93
  go_wp2
  go_ret
  exact ⟨rfl, bal (Below.refl _ _) _⟩
theorem files_any (w : World) (h : Dk w p m R ka kb ko kc D none) : Calls Tryz.prog 47 #[.pointer (some ⟨p, 0, none⟩)] w fun e w' => ∃ v, e = .returned v ∧ OwnF w' w.heap.size v (tell D.L) ∧ Below w.heap.size w w' := by
  have HT : Tl w p m R kb D (fun _ => False) 93 #[] (D.L.map (·.2.now)) (fun _ _ => True) := by
    refine ⟨by simp, fun x hx => hx.elim, fun W j hj _ hu => ?_, fun _ _ _ _ _ => trivial, fun _ _ => trivial⟩
    have hD : Dk W p m R ka kb ko kc D none := h.same fun x hx => hu.block x (h.lt hx) (fun q => q)
    have hk := keys_at D.L j hj
    have hF := hD.fil _ hk (by simp)
    have e : (D.L.map (·.2.now)).getD j [] = (fget D.L ((keys D.L).getD j [])).now := by
      rw [fget_at h.ord hj]
      simp [List.getD_eq_getElem?_getD, List.getElem?_eq_getElem hj]
    rw [e]
    have hc := files1_any W (fget D.L ((keys D.L).getD j [])) (R ((keys D.L).getD j []))
    refine hc.mono ?_
    rintro e w' ⟨rfl, hb⟩
    exact ⟨_, _, _, rfl, hF.now.next hb (Nat.le_refl _), trivial, Upo.of hb⟩
  have HC := told_any w h _ _ _ _ _ HT (.inl rfl)
  rw [pick_tell] at HC
  have HC2 := hide HC
  clear h HT HC
  go_enter Tryz.func47, Tryz.ntmps47
  go_wp2_with (go_at_call 92; with_reducible refine HC2.out.mono ?_; rintro e w' ⟨v, rfl, ho, _, hu⟩)
  go_ret
  exact ⟨v, rfl, ho, hu.below (Nat.le_refl _) (fun b hb => hb.elim)⟩
theorem after1_any (w : World) (f : FV) (r : FR) (q qc : Nat) (ao : Option Addr) (b o c : Nat) (ks : List Bool) (i : Nat) (hF : Fil w f r) (hc : Chs w q ao c ks i) (hk : RdL w ao b o ks) (hkl : ks.length ≤ 9223372036854775807) (hq : w.heap[qc]? = some (.cells #[.pointer (some ⟨q, 0, none⟩)] 132 (0, 0))) :
    Calls Tryz.prog 94 #[fval f r, .pointer (some ⟨qc, 0, none⟩)] w fun e w' => ∃ gr, e = .returned (.slice (some ⟨gr, 0, none⟩) (stay ks f i).1.length (stay ks f i).1.length) ∧ w.heap.size ≤ gr ∧ Rw w' (some ⟨gr, 0, none⟩) gr (stay ks f i).1.length (stay ks f i).1 ∧ Chs w' q ao c ks (stay ks f i).2 ∧ Upo (fun x => x = q) w w' := by
  obtain ⟨n, hn⟩ : ∃ n, f.now.length = n := ⟨_, rfl⟩
  obtain ⟨k, hk2⟩ : ∃ k, f.syn.length = k := ⟨_, rfl⟩
  obtain ⟨P, hP⟩ : ∃ P, stay ks f i = P := ⟨_, rfl⟩
  rw [hP]
  simp only [fval, fv, hn, hk2]
  obtain ⟨ra, rg, rc, rb, rh, rd, rs⟩ := r
  simp only
  obtain ⟨w1, hw1⟩ : ∃ W, w.alloc (.cells #[.slice ra n rc, .slice rb k rd, .int .i64 (rs : Int)] 113) = W := ⟨_, rfl⟩
  have hb1 : Below w.heap.size w w1 := by rw [← hw1]; exact bal (Below.refl _ _) _
  have HS := stays_any w1 ra rg n rc f.now rb rh k rd rs f.syn q ao b o c ks i (hF.now.next hb1 (Nat.le_refl _)) (hF.syn.next hb1 (Nat.le_refl _)) hn hk2 (hc.same (hb1.block q hc.lt)) (hk.next hb1) hkl (by have := hF.b1; omega) (by have := hF.b2; omega) P hP
  have k1 : w1.heap[w.heap.size]? = some (.cells #[.slice ra n rc, .slice rb k rd, .int .i64 (rs : Int)] 113 (0, 0)) := by rw [← hw1]; exact new1 _ _
  obtain ⟨b0, b1, b2⟩ := three_at k1
  have q1 : w1.cell? ⟨qc, 0, none⟩ = some (.pointer (some ⟨q, 0, none⟩)) := by
    have e := (hb1.block qc (Array.getElem?_eq_some_iff.1 hq).1).trans hq
    rw [cell_of_row w1 qc 0 _ _ (0, 0) e]; rfl
  have HB := hide (And.intro hb1 hc.lt)
  have HW : Hid (w.alloc (.cells #[.slice ra n rc, .slice rb k rd, .int .i64 (rs : Int)] 113) = w1) := hw1
  clear hF hc hk hkl hq hb1 hw1 k1 hn hk2 hP
  go_enter Tryz.func94, Tryz.ntmps94
  go_upto_region 1 with (fail)
  rw [HW.out]
  go_wp2_with (go_at_call 95; with_reducible refine HS.mono ?_; rintro e w' ⟨gr, rfl, hg, hr, hc, hu⟩)
  go_ret
  exact ⟨gr, rfl, Nat.le_trans HB.out.1.size hg, hr, hc, (Upo.of HB.out.1).trans hu (fun _ _ e => e)⟩
set_option maxHeartbeats 1000000 in
theorem after_any (w : World) (h : Dk w p m R ka kb ko kc D none) (ao : Option Addr) (b o c : Nat) (ks : List Bool) (hk : RdL w ao b o ks) (hkl : ks.length ≤ 9223372036854775807) :
    Calls Tryz.prog 49 #[.pointer (some ⟨p, 0, none⟩), .slice ao ks.length c] w fun e w' => ∃ v, e = .returned v ∧ OwnF w' w.heap.size v (aft ks D.L 0) ∧ Below w.heap.size w w' := by
  obtain ⟨w1, hw1⟩ : ∃ W, (w.alloc (.cells #[.slice ao ks.length c, .int .i64 0] 134)).alloc (.cells #[.pointer (some ⟨w.heap.size, 0, none⟩)] 132) = W := ⟨_, rfl⟩
  have hb1 : Below w.heap.size w w1 := by rw [← hw1]; exact bal (bal (Below.refl _ _) _) _
  have hz1 : w1.heap.size = w.heap.size + 2 := by rw [← hw1]; simp
  have hc1 : Chs w1 w.heap.size ao c ks 0 := by
    have e : cat ks 0 = 0 := by unfold cat; split <;> simp
    unfold Chs
    rw [e, ← hw1]
    exact new0 _ _ _
  have hq1 : w1.heap[w.heap.size + 1]? = some (.cells #[.pointer (some ⟨w.heap.size, 0, none⟩)] 132 (0, 0)) := by rw [← hw1]; exact new2 _ _ _
  have h1 := h.next hb1
  have hk1 := hk.next hb1
  have HT : Tl w1 p m R kb D (fun x => x = w.heap.size) 94 #[.pointer (some ⟨w.heap.size + 1, 0, none⟩)] (outs ks (D.L.map (·.2)) 0)
      (fun j W => Chs W w.heap.size ao c ks (ixa ks (D.L.map (·.2)) 0 j) ∧ W.heap[w.heap.size + 1]? = some (.cells #[.pointer (some ⟨w.heap.size, 0, none⟩)] 132 (0, 0)) ∧ RdL W ao b o ks) := by
    refine ⟨by rw [outs_len]; simp, fun x hx => ⟨by omega, fun hf => ?_⟩, fun W j hj hJ hu => ?_, fun W W' j hJ hW => ?_, fun W hW => ?_⟩
    · have := h.lt hf; omega
    · have hD : Dk W p m R ka kb ko kc D none := h1.same fun x hx => hu.block x (h1.lt hx) (fun e => by have := h.lt hx; omega)
      have hF := hD.fil _ (keys_at D.L j hj) (by simp)
      obtain ⟨o1, o2⟩ := outs_at ks (D.L.map (·.2)) 0 j (by simpa using hj)
      rw [← fget_at h.ord hj] at o1 o2
      have hc := after1_any W _ _ w.heap.size (w.heap.size + 1) ao b o c ks _ hF hJ.1 hJ.2.2 hkl hJ.2.1
      refine hc.mono ?_
      rintro e w' ⟨gr, rfl, hg, hr, hch, hup⟩
      rw [o1, o2]
      refine ⟨_, _, _, rfl, hr, ⟨hch, (hup.block _ (Array.getElem?_eq_some_iff.1 hJ.2.1).1 (fun e => by omega)).trans hJ.2.1, hJ.2.2.same fun h0 => hup.block b (hJ.2.2.lt h0) (chs_ne hJ.1 hJ.2.2 h0)⟩, hup⟩
    · have kp : ∀ x, x < w1.heap.size → x < W.heap.size → W'.heap[x]? = W.heap[x]? := fun x h1 h2 => by
        rcases hW with q | q
        · exact q.block x h2
        · exact q.block x h2 (by omega)
      refine ⟨hJ.1.same (kp _ (by omega) hJ.1.lt), (kp _ (by omega) (Array.getElem?_eq_some_iff.1 hJ.2.1).1).trans hJ.2.1, hJ.2.2.same fun h0 => kp b (hk1.lt h0) (hJ.2.2.lt h0)⟩
    · exact ⟨by rw [ixa_zero]; exact hc1.same (hW.block _ (by omega)), (hW.block _ (by omega)).trans hq1, hk1.next hW⟩
  have HC := told_any w1 h1 _ _ _ _ _ HT (.inr rfl)
  rw [pick_outs] at HC
  have HC2 := hide HC
  have HB := hide (And.intro hb1 hz1)
  have HW : Hid ((w.alloc (.cells #[.slice ao ks.length c, .int .i64 0] 134)).alloc (.cells #[.pointer (some ⟨w.heap.size, 0, none⟩)] 132) = w1) := hw1
  clear h HT HC h1 hk1 hq1 hc1 hb1 hz1 hw1 hk hkl
  go_enter Tryz.func49, Tryz.ntmps49
  go_upto_region 2 with (fail)
  rw [HW.out]
  go_wp2_with (go_at_call 92; with_reducible refine HC2.out.mono ?_; rintro e w' ⟨v, rfl, ho, _, hu⟩)
  go_ret
  have hb : Below w.heap.size w w' := by
    refine ⟨hu.os.trans HB.out.1.os, hu.tape.trans HB.out.1.tape, hu.output.trans HB.out.1.output, Nat.le_trans HB.out.1.size hu.size, fun x hx => (hu.block x (by have := HB.out.2; omega) (fun e => by omega)).trans (HB.out.1.block x hx)⟩
  refine ⟨v, rfl, ?_, hb⟩
  obtain ⟨q1, q2⟩ := ho
  refine ⟨q1, ?_⟩
  rcases q2 with q2 | ⟨g, cap, cur, e1, e2, e3⟩
  · exact .inl q2
  · exact .inr ⟨g, cap, cur, e1, by have := HB.out.2; omega, e3⟩
end
end Go.Proofs.YthfnpagangjpbabGreat
namespace Go.Proofs.YthfnpagangjpbabGreat
open Go.RowKit
structure RdF (w : World) (ao : Option Addr) (b off : Nat) (l : List (List UInt8 × List UInt8)) : Prop where
  ptr : 0 < l.length → ao = some ⟨b, off, none⟩
  c0 : ∀ j, j < l.length → w.cell? ⟨b, off + j * 2, none⟩ = some (.string ⟨(l.getD j ([], [])).1.toArray⟩)
  c1 : ∀ j, j < l.length → w.cell? ⟨b, off + j * 2 + 1, none⟩ = some (.string ⟨(l.getD j ([], [])).2.toArray⟩)
section
variable {w W : World} {ao : Option Addr} {b off : Nat} {l : List (List UInt8 × List UInt8)}
theorem RdF.lt (h : RdF w ao b off l) (h0 : 0 < l.length) : b < w.heap.size := World.block_lt_of_cell? w _ (h.c0 0 h0)
theorem RdF.same (h : RdF w ao b off l) (hb : 0 < l.length → W.heap[b]? = w.heap[b]?) : RdF W ao b off l :=
  ⟨h.ptr, fun j hj => (World.cell?_of_block (a := ⟨b, off + j * 2, none⟩) (hb (by omega))).trans (h.c0 j hj), fun j hj => (World.cell?_of_block (a := ⟨b, off + j * 2 + 1, none⟩) (hb (by omega))).trans (h.c1 j hj)⟩
theorem RdF.next (h : RdF w ao b off l) (hb : Below w.heap.size w W) : RdF W ao b off l := h.same fun h0 => hb.block b (h.lt h0)
end
theorem cF_at : ∀ (l : List (List UInt8 × List UInt8)) (j : Nat), j < l.length → (cF l)[j * 2]? = some (.string ⟨(l.getD j ([], [])).1.toArray⟩) ∧ (cF l)[j * 2 + 1]? = some (.string ⟨(l.getD j ([], [])).2.toArray⟩)
  | [], j, h => by simp at h
  | x :: r, 0, _ => ⟨rfl, rfl⟩
  | x :: r, j + 1, h => by
    have := cF_at r j (by simpa using h)
    rw [show (j + 1) * 2 = j * 2 + 2 by omega]
    exact this
theorem ownF_rd {w : World} {B : Nat} {v : Value} {l : List (List UInt8 × List UInt8)} (h : OwnF w B v l) : ∃ ao b cap, v = .slice ao l.length cap ∧ RdF w ao b 0 l ∧ l.length ≤ cap ∧ (0 < l.length → B ≤ b) := by
  rcases h.2 with ⟨e1, e2⟩ | ⟨g, cap, cur, e1, e2, hb, h1, h2, h3, h4⟩
  · refine ⟨none, 0, 0, by rw [e1, e2], ⟨fun h0 => ?_, fun j hj => ?_, fun j hj => ?_⟩, by omega, fun h0 => ?_⟩ <;> omega
  · have at' : ∀ i, i < l.length * 2 → w.cell? ⟨g, i, none⟩ = (cF l)[i]? := fun i hi => by
      rw [cell_of_row w g i cur _ (0, 0) hb]
      have := congrArg (fun x => x[i]?) h4
      simp only [List.getElem?_take, if_pos hi] at this
      rw [Array.getElem?_toList] at this
      exact this
    refine ⟨some ⟨g, 0, none⟩, g, cap, e1, ⟨fun _ => rfl, fun j hj => ?_, fun j hj => ?_⟩, h1, fun _ => e2⟩
    · rw [Nat.zero_add, at' _ (by omega)]; exact (cF_at l j hj).1
    · rw [Nat.zero_add, at' _ (by omega)]; exact (cF_at l j hj).2
structure Fm (w : World) (m : Nat) (R : List UInt8 → FR) (L : List (List UInt8 × FV)) : Prop where
  mp : Mv w m (mapF L R)
  ord : Ord L
  fil : ∀ s ∈ keys L, Fil w (fget L s) (R s)
  apart : ∀ s ∈ keys L, ∀ t ∈ keys L, s ≠ t → ∀ x, Blk (R s) x → Blk (R t) x → False
  nm : ∀ s ∈ keys L, s.length ≤ maxLen
  cnt : L.length ≤ 1099511627776
theorem Fm.put {w W : World} {m : Nat} {R : List UInt8 → FR} {L : List (List UInt8 × FV)} {s : List UInt8} {f : FV} {r : FR} (h : Fm w m R L) (hf : Fil w f r) (hs : s.length ≤ maxLen)
    (hap : ∀ t ∈ keys L, t ≠ s → ∀ x, Blk (R t) x → Blk r x → False) (hc : L.length < 1099511627776)
    (hmp : Mv W m (updF (mapF L R) s (if f.gone then none else some (fval f r)))) (hu : Upo (fun x => x = m) w W) : Fm W m (updR R s r) (fput L s f) := by
  have kt : ∀ x, Ty w x 5 → W.heap[x]? = w.heap[x]? := fun x hx => hu.block x hx.lt (hx.mv h.mp)
  have inl : ∀ t, t ∈ keys (fput L s f) → t ≠ s → t ∈ keys L := fun t ht hne => by
    have := (keys_put h.ord s f t).1 ht
    rwa [if_neg hne] at this
  refine ⟨by rw [mapF_put h.ord]; exact hmp, ord_fput h.ord s f, fun t ht => ?_, fun t ht u hu' hne x hx hy => ?_, fun t ht => ?_, ?_⟩
  · rw [fget_fput h.ord, updR]
    by_cases e : t = s
    · rw [if_pos e, if_pos e]; exact hf.same fun x hx => kt x (hf.blk hx)
    · rw [if_neg e, if_neg e]
      have := h.fil t (inl t ht e)
      exact this.same fun x hx => kt x (this.blk hx)
  · simp only [updR] at hx hy
    by_cases e : t = s
    · rw [if_pos e] at hx
      have e2 : u ≠ s := fun q => hne (e.trans q.symm)
      rw [if_neg e2] at hy
      exact hap u (inl u hu' e2) e2 x hy hx
    · rw [if_neg e] at hx
      by_cases e2 : u = s
      · rw [if_pos e2] at hy
        exact hap t (inl t ht e) e x hx hy
      · rw [if_neg e2] at hy
        exact h.apart t (inl t ht e) u (inl u hu' e2) hne x hx hy
  · by_cases e : t = s
    · rw [e]; exact hs
    · exact h.nm t (inl t ht e)
  · have := len_put (L := L) s f
    omega
theorem Fm.same {w W : World} {m : Nat} {R : List UInt8 → FR} {L : List (List UInt8 × FV)} (h : Fm w m R L) (hm : W.heap[m]? = w.heap[m]?) (hb : ∀ x, Ty w x 5 → W.heap[x]? = w.heap[x]?) : Fm W m R L :=
  ⟨h.mp.same hm, h.ord, fun s hs => (h.fil s hs).same fun x hx => hb x ((h.fil s hs).blk hx), h.apart, h.nm, h.cnt⟩
def layL (l : List (List UInt8 × List UInt8)) : List (List UInt8 × FV) := l.foldl (fun acc x => if x.2 = [] then acc else fput acc x.1 ⟨x.2, x.2⟩) []
theorem layL_snoc (l : List (List UInt8 × List UInt8)) (x : List UInt8 × List UInt8) : layL (l ++ [x]) = if x.2 = [] then layL l else fput (layL l) x.1 ⟨x.2, x.2⟩ := by simp [layL]
theorem layL_len (l : List (List UInt8 × List UInt8)) : (layL l).length ≤ l.length := by
  suffices h : ∀ (l : List (List UInt8 × List UInt8)) (acc : List (List UInt8 × FV)), (l.foldl (fun acc x => if x.2 = [] then acc else fput acc x.1 ⟨x.2, x.2⟩) acc).length ≤ acc.length + l.length from by simpa [layL] using h l []
  intro l
  induction l with
  | nil => intro acc; simp
  | cons x r ih =>
    intro acc
    rw [List.foldl_cons]
    have := ih (if x.2 = [] then acc else fput acc x.1 ⟨x.2, x.2⟩)
    split at this
    · rw [if_pos (by assumption)]; simp; omega
    · rw [if_neg (by assumption)]
      have q := len_put (L := acc) x.1 ⟨x.2, x.2⟩
      simp
      omega
theorem rw_bytes (w : World) (s : ByteArray) (cap : Nat) (hc : s.size ≤ cap) : Rw (w.alloc (.cells (bytesRow s cap) 5 ((bytesRow s cap).size, (bytesRow s cap).size + 1))) (some ⟨w.heap.size, 0, none⟩) w.heap.size cap s.data.toList := by
  have hd : s.data.size = s.size := rfl
  have hsz : (bytesRow s cap).size = cap := by simp only [bytesRow, Array.size_append, Array.size_map, Array.size_replicate, hd]; omega
  refine ⟨.inr rfl, fun e => (by cases e), fun _ => ⟨_, _, new1 _ _⟩, by rw [size_list]; exact hc, fun _ j v hv => ?_, fun _ j hj => ⟨?_, ?_⟩⟩
  · have hj : j < s.data.size := by have := (List.getElem?_eq_some_iff.1 hv).1; rw [cY_len, Array.length_toList] at this; exact this
    rw [Nat.zero_add, World.cell?_alloc_mark, bytesRow_at s cap j hj, ← hv]
    simp [cY, Array.getElem?_eq_getElem hj]
  · rw [Nat.zero_add, World.cell?_alloc_mark, Array.getElem?_eq_getElem (by omega)]; rfl
  · rw [Nat.zero_add, World.frozen?_alloc_mark, hsz]
    simp
    omega
theorem bytes_any (W : World) (t : ByteArray) : ∃ c W', (convert 9 111 (.string t)).run Tryz.prog W = .ok (.slice (some ⟨W.heap.size, 0, none⟩) t.size c) W' ∧ Rw W' (some ⟨W.heap.size, 0, none⟩) W.heap.size c t.data.toList ∧ Below W.heap.size W W' ∧ W.heap.size < W'.heap.size := by
  have h := run_bytes_of_string (P := Tryz.prog) W 9 111 5 t Tryz.underlying9 Tryz.underlying111 Tryz.underlying5
  exact ⟨_, _, h, rw_bytes W.drew t _ (grownCap_ge W t.size 0 5), (below_drewN (Below.refl _ W) 1).alloc (Nat.le_refl _) _, by show W.drew.heap.size < (W.drew.alloc _).heap.size; simp⟩
set_option maxRecDepth 100000 in
set_option maxHeartbeats 2000000 in
theorem laid_any (w : World) (ao : Option Addr) (b off c : Nat) (l : List (List UInt8 × List UInt8)) (hr : RdF w ao b off l) (hs : ∀ x ∈ l, x.1.length ≤ maxLen ∧ x.2.length ≤ 268435456) (hl : l.length ≤ 1099511627776) :
    Calls Tryz.prog 25 #[.slice ao l.length c] w fun e w' => ∃ R, e = .returned (.map (some w.heap.size)) ∧ Fm w' w.heap.size R (layL l) ∧ (∀ s ∈ keys (layL l), ∀ x, Blk (R s) x → w.heap.size ≤ x) ∧ Below w.heap.size w w' := by
  have hmm := @run_makeMap Tryz.prog
  obtain ⟨n, hn⟩ : ∃ n, l.length = n := ⟨_, rfl⟩
  have HH : Hid (RdF w ao b off l ∧ (∀ x ∈ l, x.1.length ≤ maxLen ∧ x.2.length ≤ 268435456) ∧ l.length = n ∧ n ≤ 1099511627776) := ⟨hr, hs, hn, by omega⟩
  rw [hn]
  clear hr hs hl hn
  go_enter Tryz.func25, Tryz.ntmps25
  go_wp2
  go_loopg [9] n (fun g i wr => ∃ (j : Nat) (R : List UInt8 → FR), j ≤ n ∧ g = n - j ∧ i = .int .i64 (j : Int) ∧ Fm wr w.heap.size R (layL (l.take j)) ∧ (∀ s ∈ keys (layL (l.take j)), ∀ x, Blk (R s) x → w.heap.size ≤ x) ∧ Below w.heap.size w wr)
  case atStart =>
    refine ⟨0, fun _ => fr0, Nat.zero_le _, rfl, rfl, ⟨?_, ord_nil, fun s h => (by cases h), fun s h => (by cases h), fun s h => (by cases h), Nat.zero_le _⟩, fun s h => (by cases h), bal (Below.refl _ _) _⟩
    have := mv_new w
    exact this
  case round =>
    obtain ⟨j, R, hj, rfl, rfl, hF, hlow, hb⟩ := hrel
    by_cases hlt : j < n
    · obtain ⟨x, hx⟩ : ∃ x, l.getD j ([], []) = x := ⟨_, rfl⟩
      have hxm : x ∈ l := by
        rw [← hx, List.getD_eq_getElem?_getD, List.getElem?_eq_getElem (by rw [HH.out.2.2.1]; exact hlt)]
        exact List.getElem_mem _
      obtain ⟨hx1, hx2⟩ := HH.out.2.1 x hxm
      have rr := HH.out.1.next hb
      have c0 := rr.c0 j (by rw [HH.out.2.2.1]; exact hlt)
      have c1 := rr.c1 j (by rw [HH.out.2.2.1]; exact hlt)
      rw [hx] at c0 c1
      have ea := rr.ptr (by rw [HH.out.2.2.1]; omega)
      obtain ⟨nm, hnm⟩ : ∃ nm : ByteArray, (⟨x.1.toArray⟩ : ByteArray) = nm := ⟨_, rfl⟩
      obtain ⟨dt, hdt⟩ : ∃ dt : ByteArray, (⟨x.2.toArray⟩ : ByteArray) = dt := ⟨_, rfl⟩
      rw [hnm] at c0
      rw [hdt] at c1
      have hnl : nm.data.toList = x.1 := by rw [← hnm]
      have hdl : dt.data.toList = x.2 := by rw [← hdt]
      have hi1 : (0 : Int) ≤ (j : Int) := by omega
      have hi2 : (j : Int) < (n : Int) := by omega
      have hw : IntKind.i64.wrap ((j : Int) + 1) = (j : Int) + 1 := by have := HH.out.2.2.2; rw [IntKind.wrap_i64]; omega
      have htk : l.take (j + 1) = l.take j ++ [x] := by rw [← hx]; exact take_snoc _ _ _ (by rw [HH.out.2.2.1]; exact hlt)
      have hst := layL_snoc (l.take j) x
      rw [← htk] at hst
      have HG : Hid (Fm wr w.heap.size R (layL (l.take j)) ∧ (∀ s ∈ keys (layL (l.take j)), ∀ x, Blk (R s) x → w.heap.size ≤ x) ∧ Below w.heap.size w wr ∧ j < n ∧ nm.data.toList = x.1 ∧ dt.data.toList = x.2 ∧ x.1.length ≤ maxLen ∧ x.2.length ≤ 268435456 ∧ layL (l.take (j + 1)) = if x.2 = [] then layL (l.take j) else fput (layL (l.take j)) x.1 ⟨x.2, x.2⟩) := ⟨hF, hlow, hb, hlt, hnl, hdl, hx1, hx2, hst⟩
      subst ea
      obtain ⟨w1, hw1⟩ : ∃ W, wr.alloc (.cells #[.string nm, .string dt] 25) = W := ⟨_, rfl⟩
      have HW : Hid (wr.alloc (.cells #[.string nm, .string dt] 25) = w1) := hw1
      have hb1 : Below wr.heap.size wr w1 := by rw [← hw1]; exact bal (Below.refl _ _) _
      have k1 : w1.heap[wr.heap.size]? = some (.cells #[.string nm, .string dt] 25 (0, 0)) := by rw [← hw1]; exact new1 _ _
      have d0 : w1.cell? ⟨wr.heap.size, 0, none⟩ = some (.string nm) := by rw [cell_of_row w1 wr.heap.size 0 _ _ (0, 0) k1]; rfl
      have d1 : w1.cell? ⟨wr.heap.size, 1, none⟩ = some (.string dt) := by rw [cell_of_row w1 wr.heap.size 1 _ _ (0, 0) k1]; rfl
      have HB1 : Hid (Below wr.heap.size wr w1 ∧ w1.heap[wr.heap.size]? = some (.cells #[.string nm, .string dt] 25 (0, 0))) := ⟨hb1, k1⟩
      clear hF hlow hb hx hxm hx1 hx2 rr hnm hdt hnl hdl htk hst hw1 hb1 k1 hlt hj
      go_upto_region 5 with (fail)
      rw [HW.out]
      by_cases hd0 : dt.size = 0
      · have hz : ¬ ((dt.size : Int) > 0) := by omega
        have HF : Hid (Fm w1 w.heap.size R (layL (l.take (j + 1))) ∧ (∀ s ∈ keys (layL (l.take (j + 1))), ∀ x, Blk (R s) x → w.heap.size ≤ x) ∧ Below w.heap.size w w1) := by
          obtain ⟨hF, hlow, hb, hlt, hnl, hdl, hx1, hx2, hst⟩ := HG.out
          have : x.2 = [] := by rw [← hdl]; exact List.length_eq_zero_iff.1 (by rw [size_list]; exact hd0)
          rw [if_pos this] at hst
          rw [hst]
          exact ⟨hF.same (HB1.out.1.block _ hF.mp.lt) (fun x hx => HB1.out.1.block x hx.lt), hlow, bnext hb HB1.out.1⟩
        clear hd0
        go_wp2
        go_roundg (n - (j + 1))
        case rel =>
          go_light
          exact ⟨j + 1, R, by have := HG.out.2.2.2.1; omega, rfl, by go_num, HF.out⟩
        case measure => go_light; have := HG.out.2.2.2.1; omega
      · have hz : (0 : Int) < (dt.size : Int) := by omega
        obtain ⟨cp, w2, hcv, rw2, hb2, hz2⟩ := bytes_any w1.drew dt
        have hb2' : Below w1.heap.size w1 w2 := ⟨hb2.os, hb2.tape, hb2.output, hb2.size, hb2.block⟩
        have HS := fsync_any w2 (some ⟨w1.heap.size, 0, none⟩) w1.heap.size dt.size cp dt.data.toList none 0 0 0 0 [] rw2 (rw_nil w2 0) (size_list dt) rfl (Nat.zero_le _) (Nat.le_refl _) rfl (by have := HG.out.2.2.2.2.2; rw [← this.1, size_list] at this; omega)
        have HCl : Hid (∀ W, Below w1.heap.size w1 W → W.cell? ⟨wr.heap.size, 0, none⟩ = some (.string nm) ∧ W.cell? ⟨wr.heap.size, 1, none⟩ = some (.string dt)) := fun W hW => by
          have e := (hW.block wr.heap.size (Array.getElem?_eq_some_iff.1 HB1.out.2).1).trans HB1.out.2
          exact ⟨by rw [cell_of_row W wr.heap.size 0 _ _ (0, 0) e]; rfl, by rw [cell_of_row W wr.heap.size 1 _ _ (0, 0) e]; rfl⟩
        have HFin : Hid (∀ (w3 : World) b' h' d', Rw w3 b' h' d' dt.data.toList → Upo (fun x => (none : Option Addr) = some ⟨0, 0, none⟩ ∧ x = 0) w2 w3 → ((b' = none ∧ h' = 0) ∨ (w2.heap.size ≤ h' ∧ h' < w3.heap.size)) →
            ∃ w4, (Instr.mapUpdate 66 (.map (some w.heap.size)) (.string nm) (fv (some ⟨w1.heap.size, 0, none⟩) dt.size cp b' dt.size d' dt.size)).run Tryz.prog w3 = .ok () w4 ∧ ∃ R', Fm w4 w.heap.size R' (layL (l.take (j + 1))) ∧ (∀ s ∈ keys (layL (l.take (j + 1))), ∀ x, Blk (R' s) x → w.heap.size ≤ x) ∧ Below w.heap.size w w4 ∧ w4.cell? ⟨wr.heap.size, 0, none⟩ = some (.string nm) ∧ w4.cell? ⟨wr.heap.size, 1, none⟩ = some (.string dt)) := fun w3 b' h' d' r3 u3 loc => by
          obtain ⟨hF, hlow, hb, hlt, hnl, hdl, hx1, hx2, hst⟩ := HG.out
          have hb3 : Below w2.heap.size w2 w3 := ⟨u3.os, u3.tape, u3.output, u3.size, fun x hx => u3.block x hx (fun q => by cases q.1)⟩
          have hbw : Below wr.heap.size wr w3 := bnext HB1.out.1 (bnext hb2' hb3)
          have hF3 : Fm w3 w.heap.size R (layL (l.take j)) := hF.same (hbw.block _ hF.mp.lt) (fun x hx => hbw.block x hx.lt)
          have hfil : Fil w3 ⟨x.2, x.2⟩ ⟨some ⟨w1.heap.size, 0, none⟩, w1.heap.size, cp, b', h', d', dt.size⟩ := by
            rw [← hdl]
            refine ⟨rw2.same fun _ => hb3.block _ hz2, r3, by rw [size_list]; exact Nat.le_refl _, by rw [size_list]; exact Nat.le_refl _, rfl, fun _ e => ?_, by rw [hdl]; exact hx2, by rw [hdl]; exact hx2⟩
            rcases loc with ⟨q, _⟩ | q
            · rw [q] at e; cases e
            · show w1.heap.size ≠ h'
              have : w1.heap.size < w2.heap.size := hz2
              omega
          have hg : (⟨x.2, x.2⟩ : FV).gone = false := by
            cases e : (⟨x.2, x.2⟩ : FV).gone
            · rfl
            · have := (gone_len.1 e).1
              rw [← hdl, size_list] at this
              exact absurd this hd0
          have hne : ¬ x.2 = [] := fun e => hd0 (by rw [← size_list, hdl, e]; rfl)
          rw [if_neg hne] at hst
          have hlen := layL_len (l.take j)
          have hcl : (layL (l.take j)).length < 1099511627776 := by
            rw [List.length_take] at hlen
            have := HH.out.2.2.2
            omega
          obtain ⟨w4, h1, h2, h3⟩ := hF3.mp.write Tryz.underlying66 (keys_nodup hF.ord) (keys_map _ R) (by rw [keys_len]; unfold maxLen; omega) (s := nm) (by rw [← size_list, hnl]; exact hx1) (fv (some ⟨w1.heap.size, 0, none⟩) dt.size cp b' dt.size d' dt.size)
          refine ⟨w4, h1, updR R x.1 ⟨some ⟨w1.heap.size, 0, none⟩, w1.heap.size, cp, b', h', d', dt.size⟩, ?_⟩
          have hold : ∀ t ∈ keys (layL (l.take j)), ∀ y, Blk (R t) y → y < wr.heap.size := fun t ht y hy => ((hF.fil t ht).blk hy).lt
          have hnew : ∀ y, Blk (⟨some ⟨w1.heap.size, 0, none⟩, w1.heap.size, cp, b', h', d', dt.size⟩ : FR) y → wr.heap.size ≤ y := fun y hy => by
            have := HB1.out.1.size
            rcases hy with ⟨_, e⟩ | ⟨e, e2⟩
            · simp only at e; omega
            · rcases loc with ⟨q, _⟩ | q
              · simp only at e; rw [q] at e; cases e
              · simp only at e2; have : w1.heap.size < w2.heap.size := hz2; omega
          have hu4 : Upo (fun x => x = w.heap.size) w3 w4 := Upo.grown h3 (fun b e => by injection e with e; exact e.symm)
          rw [hst]
          refine ⟨hF3.put hfil hx1 (fun t ht _ y h1 h2 => by have := hold t ht y h1; have := hnew y h2; omega) hcl ?_ hu4, fun t ht y hy => ?_, ?_, ?_⟩
          · rw [hg, ← hnl]
            have e : fval ⟨x.2, x.2⟩ ⟨some ⟨w1.heap.size, 0, none⟩, w1.heap.size, cp, b', h', d', dt.size⟩ = fv (some ⟨w1.heap.size, 0, none⟩) dt.size cp b' dt.size d' dt.size := by
              simp only [fval, ← hdl, size_list]
            rw [e]
            exact h2
          · simp only [updR] at hy
            have hws := hb.size
            by_cases e : t = x.1
            · rw [if_pos e] at hy
              have := hnew y hy
              omega
            · rw [if_neg e] at hy
              refine hlow t ?_ y hy
              have := (keys_put hF.ord x.1 ⟨x.2, x.2⟩ t).1 ht
              rwa [if_neg e] at this
          · have := bnext hb hbw
            exact ⟨hu4.os.trans this.os, hu4.tape.trans this.tape, hu4.output.trans this.output, Nat.le_trans this.size hu4.size, fun y hy => (hu4.block y (by have := this.size; omega) (fun e => by omega)).trans (this.block y hy)⟩
          · have q := HCl.out w3 (bnext hb2' hb3)
            have hm := hF.mp.lt
            have hbl : w4.heap[wr.heap.size]? = w3.heap[wr.heap.size]? := hu4.block _ (World.block_lt_of_cell? _ _ q.1) (fun e => by omega)
            exact ⟨(World.cell?_of_block (a := ⟨wr.heap.size, 0, none⟩) hbl).trans q.1, (World.cell?_of_block (a := ⟨wr.heap.size, 1, none⟩) hbl).trans q.2⟩
        have HB2 := hide hb2'
        clear rw2 hb2 hb2' hz2 hd0
        go_upto_region 6 with (fail)
        obtain ⟨e20, e21⟩ := HCl.out _ HB2.out
        have HS' : Calls Tryz.prog 70 #[.agg #[.slice (some ⟨w1.heap.size, 0, none⟩) dt.size cp, .slice none 0 0, .int .i64 0]] w2 fun e w' => ∃ b' h' d', e = .returned (fv (some ⟨w1.heap.size, 0, none⟩) dt.size cp b' dt.size d' dt.size) ∧ Rw w' b' h' d' dt.data.toList ∧ Upo (fun x => (none : Option Addr) = some ⟨0, 0, none⟩ ∧ x = 0) w2 w' ∧ ((b' = none ∧ h' = 0) ∨ (w2.heap.size ≤ h' ∧ h' < w'.heap.size)) := HS.mono fun e w' q => by obtain ⟨b', h', d', q1, q2, q3, q4, _⟩ := q; exact ⟨b', h', d', q1, q2, q3, q4⟩
        clear HS
        go_region_with (go_at_call 70; with_reducible refine HS'.mono ?_; rintro e w3 ⟨b', h', d', rfl, r3, u3, loc⟩; obtain ⟨e30, e31⟩ := HCl.out w3 (bnext HB2.out ⟨u3.os, u3.tape, u3.output, u3.size, fun x hx => u3.block x hx (fun q => by cases q.1)⟩); obtain ⟨w4, hmu, R', HF'⟩ := HFin.out w3 b' h' d' r3 u3 loc)
        all_goals
          have HFh := hide HF'
          clear HF' hmu hcv e20 e21 e30 e31 d0 d1 r3 u3 loc HS' c0 c1
          go_wp2
          go_roundg (n - (j + 1))
          case rel =>
            go_light
            obtain ⟨q1, q2, q3, _⟩ := HFh.out
            exact ⟨j + 1, R', by have := HG.out.2.2.2.1; omega, rfl, by go_num, q1, q2, q3⟩
          case measure => go_light; have := HG.out.2.2.2.1; omega
    · obtain rfl : j = n := by omega
      have hc : ¬ ((j : Int) < (j : Int)) := by omega
      have HR : Hid (Fm wr w.heap.size R (layL l) ∧ (∀ s ∈ keys (layL l), ∀ x, Blk (R s) x → w.heap.size ≤ x) ∧ Below w.heap.size w wr) := by
        rw [List.take_of_length_le (by rw [HH.out.2.2.1]; exact Nat.le_refl _)] at hF hlow
        exact ⟨hF, hlow, hb⟩
      clear hF hlow hb hlt hj
      go_wp2
      go_ret
      exact ⟨rfl, R, HR.out⟩
end Go.Proofs.YthfnpagangjpbabGreat
