/-
  Own work: EClaims, ESize, ETwinA, ETwin.
-/
import Derived.KernelRfl
import Derived.Deep.AppendSrc
import Derived.Lib.AppendStr
import Derived.Deep.Upon
import Derived.Test.YtdocjikpcbmcgaaGreatDoorQs40
namespace Go.Proofs.YtdocjikpcbmcgaaGreatDoor
open Go.RowKit
theorem sides_proved {w : World} (ht : Tb w) {k : Int} {la : Option Addr} {lb lo lc : Nat} {L : List ByteArray} (hr : RdS w la lb lo L.length L) (hsz : ∀ s ∈ L, s.size ≤ 140737488351232) (hm : L.length ≤ 1099511627776) {n : Nat} {Bs : List (Nat × Nat)} {D : List ByteArray} {K : List He} {R : List ByteArray} {V : Nat → ByteArray} {Q : Nat → Prop} (T : Tre (clk k) n Bs D V Q K R) (hD : D.length ≤ 8796093022208) {da : Option Addr} {db dc : Nat} (hd : RdS w da db 0 D.length D)
    {ca : Option Addr} {cb co cc : Nat} {l : List (Nat × ByteArray)} (hc : RdK w ca cb co l.length l) (hl : l.length ≤ 8796093022208) (hp : Asc (ixs l)) (hv : ∀ x ∈ vls l, x.size < 2305843009213693952) (hQ : ∀ i, Q i → ∃ p, p < l.length ∧ l.getD p noC = (i, V i)) {mb : Nat} (hM : Mi w mb (fun h i => if 0 ≤ h then ixM Bs h.toNat i else none)) :
    SdP w k L (ixM Bs) D V Q (lsV k la L.length lc (some mb)) (prV' da D.length dc ca l.length cc (some mb)) := by
  have hCm : Cm w (some mb) (ixM Bs) := .inl ⟨mb, rfl, hM⟩
  refine ⟨ht, fun W h i hb hh hi => ?_, fun W h i hb hh hi hq => ?_, hsz, fun i hq => ?_, T.lt, T.dsz, hm⟩
  · exact lend_any W (ht.next hb) k la lb lo lc L (hr.next hb (Nat.le_refl _)) hsz hm (some mb) (ixM Bs) (hCm.next hb) h i hh hi _ rfl
  · exact pend_any W da db 0 dc D (hd.next hb (Nat.le_refl _)) hD ca cb co cc l (hc.next hb) hl hp hv V (some mb) (ixM Bs) (hCm.next hb) h i hh (by have := idx_lt hi; omega) (T.lt h i) (fun h0 e => hQ i (hq h0 e)) _ rfl
  · obtain ⟨p, h1, h2⟩ := hQ i hq
    refine hv _ (List.mem_map.2 ⟨(i, V i), ?_, rfl⟩)
    rw [← h2, List.getD_eq_getElem?_getD, List.getElem?_eq_getElem h1]
    exact List.getElem_mem _
theorem claims_found {k : Int} {L : List ByteArray} (hm : L.length ≤ 5000) (hsz : ∀ s ∈ L, s.size ≤ 140737488351232) {l : List (Nat × ByteArray)} {s : ByteArray} {P : PV} {Bs : List (Nat × Nat)} {K : List He} {R : List ByteArray} {c1 : ByteArray} (A : Acc k L.length c1 l s P) (T : AccT k L.length c1 l P Bs K R) (hl : l.length ≤ 8796093021952) {W : World} (ht : Tb W) {sa : Option Addr} {sb sc : Nat} {da : Option Addr} {db dc : Nat} (hF : RdF W sa sb sc da db dc P) {la : Option Addr} {lb lo lc : Nat} (hr : RdS W la lb lo L.length L) {ca : Option Addr} {cb co cc : Nat} (hc : RdK W ca cb co l.length l) :
    Calls Tryz.prog 26 #[vP P.kd P.k P.old P.size (.slice sa P.S.length sc) (.slice da P.D.length dc), .slice la L.length lc, .slice ca l.length cc] W fun e w' => e = .returned (pv (wk (clk k) L.length L (ixM Bs) P.D (vlC l) (Cv.dnL 41 0 L.length))) ∧ Below W.heap.size W w' := by
  have hlen := T.len
  rw [A.hk, A.size]
  refine ofproof_any W P.kd k P.old L.length _ da P.D.length dc la L.length lc ca l.length cc Bs T.tre.fit (by omega) T.tre.nodup (fun W' hb => ?_) _ (fun W' mb hb hM => ?_)
  · have := T.call W' sa sb sc da db dc hm (hF.next hb)
    rwa [A.size] at this
  · have S := sides_proved (k := k) (la := la) (lc := lc) (dc := dc) (cc := cc) (ht.next hb) (hr.next hb (Nat.le_refl _)) hsz (by omega) T.tre (by rw [T.tre.len]; omega) (hF.next hb).p.rd (hc.next hb) (by omega) T.asc (fun x hx => by have := A.hv x hx; omega) (fun i hi => ⟨_, vlC_at hi⟩) hM
    exact walk_anyP S L.length (Nat.le_refl _) _ rfl T.tre.vis _ rfl
structure ClmX (k : Int) (L : List ByteArray) (l : List (Nat × ByteArray)) (s : ByteArray) (o : Nat) (c : ByteArray) (r : Int) (T : Pq) : Prop where
  ext : ∀ W la lb lo lc ca cb co cc, Tb W → RdS W la lb lo L.length L → L.length ≤ lc → RdK W ca cb co l.length l → Calls Tryz.prog 10 #[.int .i64 k, .slice la L.length lc, .slice ca l.length cc, .string s] W fun e w' => e = .returned (tri T) ∧ Below W.heap.size W w'
  light : ∀ W ca cb co cc, Tb W → RdK W ca cb co l.length l → Calls Tryz.prog 11 #[.int .i64 k, .agg #[.int .u64 (o : Int), .string c], .slice ca l.length cc, .string s] W fun e w' => e = .returned (.int .i64 r) ∧ Below W.heap.size W w'
  good : 1 ≤ k → k ≤ 32 → o = L.length ∧ c = rtD (clk k) L L.length
  no : r ≠ 0 → T = none
  bad : ¬ (1 ≤ k ∧ k ≤ 32) → r ≠ 0
  yes : r = 0 → (1 ≤ k ∧ k ≤ 32) ∧ ∃ P Bs K R, Acc k L.length (rtD (clk k) L L.length) l s P ∧ AccT k L.length (rtD (clk k) L L.length) l P Bs K R ∧ (soC L l → T = none) ∧ (¬ soC L l → T = wk (clk k) L.length L (ixM Bs) P.D (vlC l) (Cv.dnL 41 0 L.length))
theorem ext_core (k : Int) (hk : 1 ≤ k ∧ k ≤ 32) (L : List ByteArray) (hm : L.length ≤ 5000) (hsz : ∀ s ∈ L, s.size ≤ 140737488351232) (l : List (Nat × ByteArray)) (hl : l.length ≤ 8796093021952) (s : ByteArray) (hs : s.size ≤ 281474976710656) (c : ByteArray) (hc : rtD (clk k) L L.length = c) (r : Int)
    (h1 : ∀ W ca cb co cc, Tb W → RdK W ca cb co l.length l → Calls Tryz.prog 11 #[.int .i64 k, .agg #[.int .u64 (L.length : Int), .string c], .slice ca l.length cc, .string s] W fun e w' => e = .returned (.int .i64 r) ∧ Below W.heap.size W w')
    (h2 : r = 0 → ∃ P, Acc k L.length c l s P) : ∃ T, ClmX k L l s L.length c r T := by
  have hcm : ∀ {W la lb lo lc}, Tb W → RdS W la lb lo L.length L → L.length ≤ lc → Hid (∀ V, Below W.heap.size W V → Calls Tryz.prog 23 #[.int .i64 k, .slice la L.length lc] V fun e w' => e = .returned (.agg #[.int .u64 (L.length : Int), .string c]) ∧ Below V.heap.size V w') := fun {W la lb lo lc} ht hr hlc V hb => comm_ok V (ht.next hb) k hk.1 hk.2 la lb lo lc L (hr.next hb (Nat.le_refl _)) hsz (by omega) hlc c hc
  by_cases h0 : r = 0
  · subst h0
    obtain ⟨P, A⟩ := h2 rfl
    obtain ⟨Bs, K, R, T⟩ := acc_tree A
    have hin : ∀ x ∈ l, x.1 < L.length := fun x hx => (T.free x.1 (List.mem_map.2 ⟨x, hx, rfl⟩)).1
    have hl' : l.length ≤ 1099511627776 := by
      have h5 : (ixs l).length ≤ L.length := by
        have hb : ∀ i ∈ ixs l, i < L.length := fun i hi => (T.free i hi).1
        have := asc_below T.asc hb
        exact this
      rw [List.length_map] at h5; omega
    by_cases hso : soC L l
    · refine ⟨none, fun W la lb lo lc ca cb co cc ht hr hlc hK => ?_, fun W ca cb co cc ht hK => h1 W ca cb co cc ht hK, fun _ _ => ⟨rfl, hc.symm⟩, fun _ => rfl, fun h => absurd hk h, fun _ => ⟨hk, P, Bs, K, R, by rw [hc]; exact A, by rw [hc]; exact T, fun _ => rfl, fun h => absurd hso h⟩⟩
      refine ecl_so W k la L.length lc ca l.length cc s L.length c (hcm ht hr hlc) (fun V hb => h1 V ca cb co cc (ht.next hb) (hK.next hb)) (fun V hb => ?_)
      exact areso_any V ca cb co cc l (hK.next hb) hl' la lb lo lc L (hr.next hb (Nat.le_refl _)) (by omega) hin true (decide_eq_true hso)
    · refine ⟨wk (clk k) L.length L (ixM Bs) P.D (vlC l) (Cv.dnL 41 0 L.length), fun W la lb lo lc ca cb co cc ht hr hlc hK => ?_, fun W ca cb co cc ht hK => h1 W ca cb co cc ht hK, fun _ _ => ⟨rfl, hc.symm⟩, fun h => absurd rfl h, fun h => absurd hk h, fun _ => ⟨hk, P, Bs, K, R, by rw [hc]; exact A, by rw [hc]; exact T, fun h => absurd h hso, fun _ => rfl⟩⟩
      refine ecl_not W k la L.length lc ca l.length cc s L.length c (hcm ht hr hlc) P _ (fun V hb => h1 V ca cb co cc (ht.next hb) (hK.next hb)) (fun V hb => ?_) (fun V => (decode_full V s hs P A.hd).mono fun e w' ⟨sa, sb, sc, da, db, dc, h1, h2, _, h3⟩ => ⟨sa, sb, sc, da, db, dc, h1, h2, h3⟩) (fun V sa sb sc da db dc hb hF => ?_)
      · exact areso_any V ca cb co cc l (hK.next hb) hl' la lb lo lc L (hr.next hb (Nat.le_refl _)) (by omega) hin false (decide_eq_false hso)
      · exact claims_found hm hsz A T hl (ht.next hb) hF (hr.next hb (Nat.le_refl _)) (hK.next hb)
  · refine ⟨none, fun W la lb lo lc ca cb co cc ht hr hlc hK => ?_, fun W ca cb co cc ht hK => h1 W ca cb co cc ht hK, fun _ _ => ⟨rfl, hc.symm⟩, fun _ => rfl, fun h => absurd hk h, fun h => absurd h h0⟩
    exact ecl_no W k la L.length lc ca l.length cc s L.length c (hcm ht hr hlc) r h0 (fun V hb => h1 V ca cb co cc (ht.next hb) (hK.next hb))
theorem ext_claims (k : Int) (L : List ByteArray) (hm : L.length ≤ 5000) (hsz : ∀ s ∈ L, s.size ≤ 140737488351232) (l : List (Nat × ByteArray)) (hl : l.length ≤ 8796093021952) (hv : ∀ x ∈ vls l, x.size ≤ 9223372036854775807) (s : ByteArray) (hs : s.size ≤ 281474976710656) : ∃ o c r T, ClmX k L l s o c r T := by
  by_cases hk : 1 ≤ k ∧ k ≤ 32
  · obtain ⟨c, hc⟩ : ∃ c, rtD (clk k) L L.length = c := ⟨_, rfl⟩
    obtain ⟨r, h1, h2⟩ := claims_acc k L.length c l hl hv s hs
    obtain ⟨T, hT⟩ := ext_core k hk L hm hsz l hl s hs c hc r h1 h2
    exact ⟨_, _, r, T, hT⟩
  · have hk' : k < 1 ∨ 32 < k := by omega
    obtain ⟨r, h1, h2⟩ := claims_acc k 0 ⟨#[]⟩ l hl hv s hs
    have h0 : r ≠ 0 := fun h => by
      obtain ⟨P, A⟩ := h2 h
      exact hk ⟨A.k1, A.k2⟩
    refine ⟨0, ⟨#[]⟩, r, none, fun W la lb lo lc ca cb co cc ht hr hlc hK => ?_, fun W ca cb co cc ht hK => h1 W ca cb co cc ht hK, fun a b => absurd ⟨a, b⟩ hk, fun _ => rfl, fun _ => h0, fun h => absurd h h0⟩
    exact ecl_no W k la L.length lc ca l.length cc s 0 ⟨#[]⟩ (fun V hb => comm_bad V k hk' la L.length lc (by omega)) r h0 (fun V hb => h1 V ca cb co cc (ht.next hb) (hK.next hb))
theorem clm_sound {k : Int} {L : List ByteArray} {l : List (Nat × ByteArray)} {s : ByteArray} {o : Nat} {c : ByteArray} {T : Pq} (X : ClmX k L l s o c 0 T) : (∀ x ∈ l, x.1 < L.length) ∧ (soC L l → T = none) ∧ (¬ soC L l → ∃ q, T = some q ∧ Clx (clk k) q) := by
  obtain ⟨_, P, Bs, K, R, A, Tr, h1, h2⟩ := X.yes rfl
  refine ⟨fun x hx => (Tr.free x.1 (List.mem_map.2 ⟨x, hx, rfl⟩)).1, h1, fun hso => ?_⟩
  rcases claims_sound A Tr with ⟨q, hq, hc⟩ | h
  · exact ⟨q, by rw [h2 hso, hq], hc⟩
  · exact absurd h hso
end Go.Proofs.YtdocjikpcbmcgaaGreatDoor
namespace Go.Proofs.YtdocjikpcbmcgaaGreatDoor
def Sz (N : Nat) (q : ByteArray × ByteArray) : Prop := q.1.size ≤ N ∧ q.2.size ≤ N
theorem un_sz {N : Nat} {a b : ByteArray} {q : ByteArray × ByteArray} (h : un a b = some q) (ha : a.size ≤ N) (hb : b.size ≤ N) : Sz N q := by
  obtain ⟨_, rfl⟩ := un_some h
  exact ⟨ha, hb⟩
theorem fp_sz {N c : Nat} {L : List ByteArray} {M : Nat → Nat → Option Nat} {D : List ByteArray} {V : Nat → ByteArray} (hN : 100 ≤ N) (hc : c ≤ 32) (hM : ∀ h k j, M h k = some j → j < D.length) (hD : ∀ s ∈ D, s.size = c) (hL : ∀ i, (L.getD i ByteArray.empty).size + 1 ≤ N) (hV : ∀ i, (V i).size + 1 ≤ N) : ∀ (h k : Nat) (q : ByteArray × ByteArray), fp c L M D V h k = some q → Sz N q := by
  intro h
  induction h with
  | zero =>
    intro k q hf
    cases e : M 0 k with
    | some j => rw [fp_in e] at hf; cases hf
    | none =>
      rw [fp_leaf e] at hf
      exact un_sz hf (by rw [leafT_size]; have := hL k; omega) (by rw [leafT_size]; have := hV k; omega)
  | succ h ih =>
    intro k q hf
    cases e : M (h + 1) k with
    | some j => rw [fp_in e] at hf; cases hf
    | none =>
      rw [fp_node e] at hf
      rcases or_some hf with hf | ⟨_, hf⟩
      · exact un_sz hf (by rw [nodeT_size, nd_size hc, nd_size hc]; omega) (by rw [nodeT_size, xd_size hc hM hD, xd_size hc hM hD]; omega)
      · rcases or_some hf with hf | ⟨_, hf⟩
        · exact ih _ _ hf
        · exact ih _ _ hf
theorem bg_sz {N c : Nat} (hN : 100 ≤ N) (hc : c ≤ 32) : ∀ (P Q : List ByteArray), (∀ s ∈ P, s.size ≤ 32) → (∀ s ∈ Q, s.size ≤ 32) → ∀ q, bg c P Q = some q → Sz N q
  | [], _, _, _, q, h => by rw [bg] at h; cases h; all_goals (intros; contradiction)
  | [_], _, _, _, q, h => by rw [bg] at h; cases h; all_goals (intros; contradiction)
  | p :: p2 :: P, [], _, _, q, h => by rw [bg] at h; cases h; all_goals (intros; contradiction)
  | p :: p2 :: P, [_], _, _, q, h => by rw [bg] at h; cases h; all_goals (intros; contradiction)
  | p :: p2 :: P, q :: q2 :: Q, hP, hQ, r, h => by
    have hP' : ∀ s ∈ p2 :: P, s.size ≤ 32 := fun s hs => hP s (List.mem_cons_of_mem _ hs)
    have hQ' : ∀ s ∈ q2 :: Q, s.size ≤ 32 := fun s hs => hQ s (List.mem_cons_of_mem _ hs)
    rw [bg] at h
    rcases or_some h with h | ⟨_, h⟩
    · refine un_sz h ?_ ?_
      · rw [bagT_size]
        have h1 := hP p (by simp)
        have h2 := bagL_size hc (Nat.le_refl 32) _ hP'
        omega
      · rw [bagT_size]
        have h1 := hQ q (by simp)
        have h2 := bagL_size hc (Nat.le_refl 32) _ hQ'
        omega
    · exact bg_sz hN hc _ _ hP' hQ' r h
theorem tp_sz {N c n : Nat} (hN : 100 ≤ N) (hc : c ≤ 32) {P Q : List ByteArray} (hP : ∀ s ∈ P, s.size ≤ 32) (hQ : ∀ s ∈ Q, s.size ≤ 32) {q : ByteArray × ByteArray} (h : tp c n P Q = some q) : Sz N q := by
  rw [tp] at h
  rcases or_some h with h | ⟨_, h⟩
  · refine un_sz h ?_ ?_
    · rw [rootT_size]; have := bagL_size hc (Nat.le_refl 32) _ hP; omega
    · rw [rootT_size]; have := bagL_size hc (Nat.le_refl 32) _ hQ; omega
  · exact bg_sz hN hc P Q hP hQ q h
theorem wk_sz {N c n : Nat} {L : List ByteArray} {M : Nat → Nat → Option Nat} {D : List ByteArray} {V : Nat → ByteArray} {B : List (Nat × Nat)} (hN : 100 ≤ N) (hc : c ≤ 32) (hM : ∀ h k j, M h k = some j → j < D.length) (hD : ∀ s ∈ D, s.size = c) (hL : ∀ i, (L.getD i ByteArray.empty).size + 1 ≤ N) (hV : ∀ i, (V i).size + 1 ≤ N) {q : ByteArray × ByteArray} (h : wk c n L M D V B = some q) : Sz N q := by
  unfold wk at h
  rcases or_some h with h | ⟨_, h⟩
  · exact tp_sz hN hc (fun s hs => by obtain ⟨b, _, rfl⟩ := List.mem_map.1 hs; rw [nd_size hc]; exact hc) (fun s hs => by obtain ⟨b, _, rfl⟩ := List.mem_map.1 hs; rw [xd_size hc hM hD]; exact hc) h
  · obtain ⟨b, _, hq⟩ := fm_some h
    exact fp_sz hN hc hM hD hL hV _ _ q hq
theorem getD_sz {L : List ByteArray} {N : Nat} (h : ∀ s ∈ L, s.size ≤ N) (i : Nat) : (L.getD i ByteArray.empty).size ≤ N := by
  by_cases hi : i < L.length
  · exact h _ (getD_mem hi)
  · rw [List.getD_eq_getElem?_getD, List.getElem?_eq_none (by omega)]; exact Nat.zero_le _
theorem vlC_sz {l : List (Nat × ByteArray)} {N : Nat} (h : ∀ x ∈ vls l, x.size ≤ N) (i : Nat) : (vlC l i).size ≤ N := by
  unfold vlC
  by_cases hi : (ixs l).idxOf i < l.length
  · refine h _ (List.mem_map.2 ⟨_, ?_, rfl⟩)
    rw [List.getD_eq_getElem?_getD, List.getElem?_eq_getElem hi]; exact List.getElem_mem _
  · rw [List.getD_eq_getElem?_getD, List.getElem?_eq_none (by omega)]; exact Nat.zero_le _
theorem clm_soundZ {k : Int} {L : List ByteArray} (hsz : ∀ s ∈ L, s.size ≤ 140737488351232) {l : List (Nat × ByteArray)} {s : ByteArray} {o : Nat} {c : ByteArray} {T : Pq} (X : ClmX k L l s o c 0 T) : (∀ x ∈ l, x.1 < L.length) ∧ (soC L l → T = none) ∧ (¬ soC L l → ∃ q, T = some q ∧ Clx (clk k) q ∧ Sz 1152921504606846000 q) := by
  obtain ⟨h1, h2, h3⟩ := clm_sound X
  refine ⟨h1, h2, fun hso => ?_⟩
  obtain ⟨q, hq, hc⟩ := h3 hso
  refine ⟨q, hq, hc, ?_⟩
  obtain ⟨_, P, Bs, K, R, A, Tr, _, h5⟩ := X.yes rfl
  rw [h5 hso] at hq
  exact wk_sz (by decide) (clk_le k) Tr.tre.lt Tr.tre.dsz (fun i => by have := getD_sz hsz i; omega) (fun i => by have := vlC_sz A.hv i; omega) hq
end Go.Proofs.YtdocjikpcbmcgaaGreatDoor
namespace Go.Proofs.YtdocjikpcbmcgaaGreatDoor
open Go.RowKit
attribute [local go_sem ↓] Go.wp_at_zero Go.wp_at_succ
def itm (j : Nat) : ByteArray := ⟨#[0, UInt8.ofNat j, 120]⟩
def twT : List Nat := [60, 97, 171, 134, 88, 22, 17, 54, 184, 101, 139, 97]
theorem ev_t0 : shaE RS [0, 0, 0, 120] = [60, 115, 51, 89, 170, 121, 94, 68, 26, 117, 65, 74, 121, 5, 229, 159, 180, 97, 156, 229, 95, 57, 133, 109, 216, 143, 125, 140, 40, 63, 22, 143] := by kernel_rfl
theorem ev_t1 : shaE RS [0, 0, 1, 120] = [97, 111, 209, 249, 112, 229, 104, 253, 142, 89, 247, 175, 177, 203, 231, 229, 179, 47, 215, 18, 47, 2, 11, 44, 194, 13, 204, 220, 147, 99, 98, 153] := by kernel_rfl
theorem ev_t2 : shaE RS [0, 0, 2, 120] = [171, 15, 227, 212, 170, 136, 104, 38, 208, 193, 179, 66, 48, 220, 236, 187, 163, 199, 23, 142, 116, 57, 40, 159, 121, 243, 154, 140, 174, 108, 196, 230] := by kernel_rfl
theorem ev_t3 : shaE RS [0, 0, 3, 120] = [134, 40, 167, 133, 147, 101, 146, 21, 120, 134, 195, 6, 81, 34, 198, 177, 189, 127, 159, 50, 138, 70, 34, 15, 245, 211, 66, 37, 182, 138, 24, 121] := by kernel_rfl
theorem ev_t4 : shaE RS [0, 0, 4, 120] = [88, 128, 152, 147, 177, 183, 140, 206, 90, 9, 31, 118, 69, 75, 27, 173, 38, 124, 150, 91, 75, 46, 45, 186, 238, 197, 152, 28, 241, 48, 92, 74] := by kernel_rfl
theorem ev_t5 : shaE RS [0, 0, 5, 120] = [22, 65, 3, 192, 184, 250, 151, 203, 27, 253, 199, 4, 105, 198, 210, 176, 108, 243, 184, 81, 164, 46, 161, 231, 67, 34, 97, 67, 28, 123, 124, 94] := by kernel_rfl
theorem ev_t6 : shaE RS [0, 0, 6, 120] = [17, 109, 222, 42, 20, 150, 144, 158, 205, 7, 132, 205, 234, 200, 25, 43, 66, 104, 39, 60, 237, 120, 143, 142, 57, 53, 59, 205, 233, 229, 124, 165] := by kernel_rfl
theorem ev_t7 : shaE RS [0, 0, 7, 120] = [54, 224, 149, 243, 247, 62, 243, 138, 148, 93, 185, 205, 96, 26, 36, 164, 139, 180, 140, 161, 102, 144, 104, 114, 213, 41, 23, 89, 75, 72, 28, 107] := by kernel_rfl
theorem ev_t8 : shaE RS [0, 0, 8, 120] = [184, 76, 106, 39, 223, 38, 136, 60, 186, 236, 103, 192, 177, 255, 24, 29, 207, 225, 186, 7, 155, 114, 52, 71, 179, 147, 216, 240, 99, 97, 14, 15] := by kernel_rfl
theorem ev_t9 : shaE RS [0, 0, 9, 120] = [101, 83, 181, 139, 142, 94, 11, 58, 116, 254, 160, 129, 104, 73, 251, 206, 36, 118, 106, 26, 22, 88, 198, 137, 73, 147, 100, 32, 5, 220, 139, 241] := by kernel_rfl
theorem ev_t10 : shaE RS [0, 0, 10, 120] = [139, 90, 170, 69, 74, 86, 59, 223, 246, 207, 166, 9, 101, 203, 57, 184, 136, 69, 93, 136, 224, 131, 236, 247, 127, 44, 191, 120, 39, 254, 192, 58] := by kernel_rfl
theorem ev_t11 : shaE RS [0, 0, 11, 120] = [97, 136, 105, 244, 76, 5, 210, 178, 39, 23, 81, 140, 105, 139, 200, 120, 43, 2, 241, 63, 78, 221, 196, 56, 7, 235, 170, 43, 19, 171, 199, 41] := by kernel_rfl
theorem tw_of (j : Nat) (l r : List Int) (d : Int) (h : shaE RS l = d :: r) (hl : l.length < 64) (hj : tB (leafT (itm j)) = l) : (shaT RS (tB (leafT (itm j)))).getD 0 0 = d := by
  rw [hj, ← shaE_eq _ _ hl, h]; rfl
theorem tw_byte : ∀ j, j < 12 → (shaT RS (tB (leafT (itm j)))).getD 0 0 = ((twT.getD j 0 : Nat) : Int)
  | 0, _ => (tw_of 0 _ _ _ ev_t0 (by decide) (by kernel_rfl)).trans (by rfl)
  | 1, _ => (tw_of 1 _ _ _ ev_t1 (by decide) (by kernel_rfl)).trans (by rfl)
  | 2, _ => (tw_of 2 _ _ _ ev_t2 (by decide) (by kernel_rfl)).trans (by rfl)
  | 3, _ => (tw_of 3 _ _ _ ev_t3 (by decide) (by kernel_rfl)).trans (by rfl)
  | 4, _ => (tw_of 4 _ _ _ ev_t4 (by decide) (by kernel_rfl)).trans (by rfl)
  | 5, _ => (tw_of 5 _ _ _ ev_t5 (by decide) (by kernel_rfl)).trans (by rfl)
  | 6, _ => (tw_of 6 _ _ _ ev_t6 (by decide) (by kernel_rfl)).trans (by rfl)
  | 7, _ => (tw_of 7 _ _ _ ev_t7 (by decide) (by kernel_rfl)).trans (by rfl)
  | 8, _ => (tw_of 8 _ _ _ ev_t8 (by decide) (by kernel_rfl)).trans (by rfl)
  | 9, _ => (tw_of 9 _ _ _ ev_t9 (by decide) (by kernel_rfl)).trans (by rfl)
  | 10, _ => (tw_of 10 _ _ _ ev_t10 (by decide) (by kernel_rfl)).trans (by rfl)
  | 11, _ => (tw_of 11 _ _ _ ev_t11 (by decide) (by kernel_rfl)).trans (by rfl)
theorem tw_small : ∀ j, j < 12 → twT.getD j 0 < 256 := by decide
def hadC (Z : Array Value) : Nat → Array Value
  | 0 => Z
  | j + 1 => (hadC Z j).setIfInBounds (twT.getD j 0) (.string (itm j))
theorem had_none : ∀ j, j < 11 → (hadC Tryz.zeroCells94 j)[twT.getD j 0]? = some (.string ⟨#[]⟩)
  | 0, _ => by kernel_rfl
  | 1, _ => by kernel_rfl
  | 2, _ => by kernel_rfl
  | 3, _ => by kernel_rfl
  | 4, _ => by kernel_rfl
  | 5, _ => by kernel_rfl
  | 6, _ => by kernel_rfl
  | 7, _ => by kernel_rfl
  | 8, _ => by kernel_rfl
  | 9, _ => by kernel_rfl
  | 10, _ => by kernel_rfl
theorem had_one : (hadC Tryz.zeroCells94 11)[97]? = some (.string (itm 1)) := by kernel_rfl
theorem idx_first (b : ByteArray) (x : Int) (hm : 0 < b.size) (hx : (tB b).getD 0 0 = x) (w : World) : (Instr.index 9 (.string b) (.int .i64 0)).run Tryz.prog w = .ok (.int .u8 x) w := by
  subst hx
  have e : (tB b).getD 0 0 = (b[0].toNat : Int) := by
    have : b.data.toList[0]? = some b[0] := by
      rw [Array.getElem?_toList, Array.getElem?_eq_getElem (by simpa using hm)]; rfl
    simp [tB, List.getD_eq_getElem?_getD, this]
  have h2 : b[0]? = some b[0] := getElem?_pos b 0 hm
  rw [e]
  simp [Instr.index, asIntOf, run_underlying Tryz.underlying9, h2]
theorem three_bytes (w : World) (a b c : Nat) (ha : a < 256) (hb : b < 256) (hc : c < 256) : (convert 95 9 (.slice (some ⟨w.heap.size, 0, none⟩) 3 3)).run Tryz.prog (w.alloc (.cells #[.int .u8 (a : Int), .int .u8 (b : Int), .int .u8 (c : Int)] 5)) = .ok (.string ⟨#[UInt8.ofNat a, UInt8.ofNat b, UInt8.ofNat c]⟩) (w.alloc (.cells #[.int .u8 (a : Int), .int .u8 (b : Int), .int .u8 (c : Int)] 5)) := by
  refine run_convert_bytes_back _ 95 9 5 ⟨w.heap.size, 0, none⟩ 3 [UInt8.ofNat a, UInt8.ofNat b, UInt8.ofNat c] Tryz.underlying95 Tryz.underlying5 Tryz.underlying9 fun j hj => ?_
  rw [Addr.add_mid]
  have h1 := ofNat_toNat ha
  have h2 := ofNat_toNat hb
  have h3 := ofNat_toNat hc
  refine range_new w [.int .u8 (a : Int), .int .u8 (b : Int), .int .u8 (c : Int)] 5 j _ ?_
  match j, hj with
  | 0, _ => simp [h1]
  | 1, _ => simp [h2]
  | 2, _ => simp [h3]
end Go.Proofs.YtdocjikpcbmcgaaGreatDoor
namespace Go.Proofs.YtdocjikpcbmcgaaGreatDoor
open Go.RowKit
attribute [local go_sem ↓] Go.wp_at_zero Go.wp_at_succ
theorem first_byte (l : List Int) (d : Nat) (hd : d < 256) (h : l.getD 0 0 = (d : Int)) : (tB (strB l)).getD 0 0 = (d : Int) := by
  rw [tB, strB_list, List.map_map]
  cases l with
  | nil => exact h
  | cons a t =>
    have h : a = (d : Int) := h
    subst h
    simp only [List.map_cons, List.getD_cons_zero, Function.comp, Int.toNat_natCast]
    have := ofNat_toNat hd
    omega
def Hd (w : World) (g j : Nat) : Prop := w.heap[g]? = some (.cells (hadC Tryz.zeroCells94 j) 94 (0, 0))
theorem Hd.lt {w : World} {g j : Nat} (h : Hd w g j) : g < w.heap.size := (Array.getElem?_eq_some_iff.1 h).1
theorem Hd.next {w W : World} {g j : Nat} (h : Hd w g j) (hb : Below w.heap.size w W) : Hd W g j := (hb.block g h.lt).trans h
set_option maxRecDepth 100000 in
set_option maxHeartbeats 1000000 in
theorem twins_any (w : World) (hr : Tr w) : Calls Tryz.prog 19 #[] w fun e w' => e = .returned (.tuple #[.string (itm 1), .string (itm 11)]) ∧ Below w.heap.size w w' := by
  have hd0 : Hd (w.alloc (.cells Tryz.zeroCells94 94)) w.heap.size 0 := heap_alloc_new w _
  have hb0 := bal (Below.refl w.heap.size w) (.cells Tryz.zeroCells94 94)
  have HR := hide hr
  have HD0 := hide hd0
  have HB0 := hide hb0
  clear hr hd0 hb0
  go_enter Tryz.func19, Tryz.ntmps19
  go_wp2
  go_loopg [3] 12 (fun g i wr => ∃ j : Nat, g = 12 - j ∧ j < 12 ∧ i = .int .i64 (j : Int) ∧ Hid (Hd wr w.heap.size j ∧ Below w.heap.size w wr))
  case atStart =>
    go_light
    exact ⟨0, rfl, by decide, rfl, ⟨HD0.out, HB0.out⟩⟩
  case round =>
    clear HD0 HB0
    obtain ⟨j, rfl, hj, rfl, HI⟩ := hrel
    have z1 : (j : Int) < 300 := by omega
    have z2 : (j : Int) / 20 = 0 := by omega
    have z3 : (j : Int) % 20 = (j : Int) := by omega
    have z4 : (j : Int) < 12 := by omega
    have z5 : (0 : Int) ≤ (j : Int) := Int.natCast_nonneg _
    have HT := three_bytes wr 0 j 120 (by decide) (by omega) (by decide)
    rw [show ((0 : Nat) : Int) = 0 from rfl, show ((120 : Nat) : Int) = 120 from rfl] at HT
    have hit : (⟨#[UInt8.ofNat 0, UInt8.ofNat j, UInt8.ofNat 120]⟩ : ByteArray) = itm j := rfl
    rw [hit] at HT
    clear hit
    obtain ⟨x, hx⟩ : ∃ x, itm j = x := ⟨_, rfl⟩
    rw [hx] at HT
    have hxs : x.size = 3 := by rw [← hx]; rfl
    obtain ⟨r, hr⟩ : ∃ r, shaS RS (tB (leafT x)) = r := ⟨_, rfl⟩
    obtain ⟨d, hd⟩ : ∃ d, twT.getD j 0 = d := ⟨_, rfl⟩
    have hd256 : d < 256 := by rw [← hd]; exact tw_small j hj
    have hrb : (tB r).getD 0 0 = (d : Int) := by
      have := tw_byte j hj
      rw [hx, hd] at this
      rw [← hr]
      exact first_byte _ _ hd256 this
    have hrs : 0 < r.size := by rw [← hr, shaS_size]; decide
    have hix := idx_first r (d : Int) hrs hrb
    have HX := hide (And.intro hx hd)
    obtain ⟨W1, hW1⟩ : ∃ W1, wr.alloc (.cells #[.int .u8 0, .int .u8 (j : Int), .int .u8 120] 5) = W1 := ⟨_, rfl⟩
    have hb1 : Below wr.heap.size wr W1 := by rw [← hW1]; exact bal (Below.refl _ _) _
    rw [hW1] at HT
    obtain ⟨t, ht⟩ : ∃ t, (⟨#[0]⟩ : ByteArray) ++ x = t := ⟨_, rfl⟩
    have HO : Hid (∀ V, Below w.heap.size w V → Calls Tryz.prog 31 #[.slice (some ⟨V.heap.size, 0, none⟩) 1 1] (V.alloc (.cells #[.string t] 9)) fun e w' => e = .returned (.string r) ∧ Below V.heap.size V w') := fun V hb => by
      have hlt : leafT x = t := ht
      have := ref_one V (HR.out.next hb) (leafT x) (by rw [leafT_size]; omega) r hr
      rwa [hlt] at this
    have hbW := bnext HI.out.2 hb1
    clear hx hd hr hrb hrs hd256
    go_upto_region 7 with (go_at_call 31; with_reducible refine (HO.out _ hbW).mono ?_; rintro e w2 ⟨rfl, hb2⟩)
    have hH := HI.out.1.next (bnext hb1 hb2)
    have hb := bnext hbW hb2
    have q0 : (0 : Int) ≤ (d : Int) := Int.natCast_nonneg _
    have q1 : (d : Int) < 256 := by have := HX.out.2; have := tw_small j hj; omega
    have HH := hide (And.intro hH hb)
    clear hbW hb1 hb2 HT hix hW1 HO ht hxs
    by_cases hl : j < 11
    · have c0 : w2.cell? ⟨w.heap.size, d, none⟩ = some (.string ⟨#[]⟩) := by
        rw [cell_of_row w2 w.heap.size d _ _ (0, 0) hH, ← HX.out.2]
        exact had_none j hl
      have fz : w2.frozen? ⟨w.heap.size, d, none⟩ = false := frozen_of_row w2 w.heap.size d _ _ hH
      clear hH hb
      have HN : Hid (Hd (w2.setCell ⟨w.heap.size, d, none⟩ (.string x)) w.heap.size (j + 1) ∧ Below w.heap.size w (w2.setCell ⟨w.heap.size, d, none⟩ (.string x))) := by
        refine ⟨?_, HH.out.2.trans ((((ChT.refl (fun b => b = w.heap.size) w2).set w.heap.size d (.string x) rfl)).below (by rintro b rfl; exact Nat.le_refl _))⟩
        have := heap_setCell_same w2 w.heap.size d _ _ (.string x) HH.out.1
        rw [← HX.out.2, ← HX.out.1] at this ⊢
        exact this
      go_wp2
      go_roundg (12 - (j + 1))
      case rel =>
        go_light
        exact ⟨j + 1, rfl, by omega, by go_num, HN⟩
      case measure => go_light; omega
    · obtain rfl : j = 11 := by omega
      have c0 : w2.cell? ⟨w.heap.size, d, none⟩ = some (.string (itm 1)) := by
        rw [cell_of_row w2 w.heap.size d _ _ (0, 0) hH, ← HX.out.2]
        exact had_one
      obtain ⟨y, hy⟩ : ∃ y, itm 1 = y := ⟨_, rfl⟩
      rw [hy] at c0
      have hne : y ≠ ⟨#[]⟩ := fun e => by
        have := congrArg ByteArray.size (hy.trans e)
        exact absurd this (by decide)
      have hz := list_ne hne
      have hze : y.toList.isEmpty = false := by
        cases h : y.toList with
        | nil => exact absurd (h.trans (by rw [list_eq])) hz
        | cons a t => rfl
      have HY := hide hy
      clear hH hb hne hy hz
      go_wp2
      exact bodyPost_ret (v := .tuple #[.string y, .string x]) (by simp [results, Tryz.results19, go_sem]) rfl ⟨by rw [HY.out, HX.out.1], HH.out.2⟩
end Go.Proofs.YtdocjikpcbmcgaaGreatDoor
