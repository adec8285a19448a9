/-
  Qb08, ExtractBegins in one text. Own work.
-/
import Derived.Test.YtdocjikpcbmcgaaGreatDoorQs44
import Derived.BigQuiet
import Derived.KernelRfl
import Derived.Deep.Onto
import Derived.ArgAppend
import Derived.Laws.AppendOwnNone
import Derived.Laws.IdiomStrings
import Derived.Deep.RegionWith
import Derived.Handy
import Derived.WalkKit
import Derived.WalkSpells
import Derived.Outline
import Derived.Deep.LoopGhost
import Derived.Deep.RegionHeld3
import Derived.Deep.MidRow
import Derived.Deep.DrawnRows
import Derived.Deep.Light
import Derived.Deep.Cut
import Derived.Deep.CutRange
import Derived.Lib.SliceRun
import Derived.Test.YtdocjikpcbmcgaaGreatDoorProg
import Derived.Below
import Derived.Lib.LazyBuf
import Derived.Deep.RegionLaw
import Derived.Lib.BufferOwn
import Derived.Deep.AppendSrc
import Derived.Lib.AppendStr
import Derived.Deep.Upon
import Derived.Laws.Bits64b
import Derived.Deep.DeepMakePanics
import Derived.OwnWalk
import Derived.Test.YtdocjikpcbmcgaaGreatDoorRows
import Derived.WalkLawsBesides
import Derived.WalkMore
import Derived.Deep.OwnRows
import Derived.Maps.Keyed
import Derived.DeepKeys4
import Derived.Lib.AppendZeros
import Derived.Laws.BitsAllLaws
import Derived.Deep.AppendLies
import Derived.Test.YtdocjikpcbmcgaaGreatDoorQb07
import Derived.Test.YtdocjikpcbmcgaaGreatDoorCards
import Derived.Test.YtdocjikpcbmcgaaGreatDoorTie
import Derived.Deep.DeepHandedRow
import Derived.Lib.LaidTab
import Derived.Stop.LaidErr
import Derived.Laws.IdiomArrays
import Derived.ProofKit
import Derived.OpenShut
import Derived.ChangeSame
import Derived.SizedLaws
import Derived.ChangeMaps5
import Derived.SliceStrings
import Derived.Carry
/-
  Own work: EKinX, ELawB.
-/
namespace Go.Proofs.YtdocjikpcbmcgaaGreatDoor
open Go.RowKit
open Cv (cov)
theorem sides_listed {w : World} (ht : Tb w) {k : Int} {pa : Option Addr} {pb po pc : Nat} {old : List ByteArray} (hp : RdS w pa pb po old.length old) (hps : ∀ s ∈ old, s.size ≤ 140737488351232) {qa : Option Addr} {qb qo qc : Nat} {now : List ByteArray} (hq : RdS w qa qb qo now.length now) (hqs : ∀ s ∈ now, s.size ≤ 140737488351232) (hm : old.length ≤ now.length) (hn : now.length ≤ 1099511627776) :
    SdL w k old (fun _ _ => none) [] (fun i => now.getD i ByteArray.empty) (fun i => i < old.length) (lsV k pa old.length pc none) (lsV k qa now.length qc none) := by
  refine ⟨ht, fun W h i hb hh hi => ?_, fun W h i hb hh hi hq' => ?_, hps, fun i _ => ?_, fun h i j e => (by cases e), fun d hd => (by cases hd), by omega⟩
  · exact lend_any W (ht.next hb) k pa pb po pc old (hp.next hb (Nat.le_refl _)) hps (by omega) none (fun _ _ => none) (.inr ⟨rfl, fun _ _ => rfl⟩) h i hh hi _ rfl
  · exact lend_any W (ht.next hb) k qa qb qo qc now (hq.next hb (Nat.le_refl _)) hqs (by omega) none (fun _ _ => none) (.inr ⟨rfl, fun _ _ => rfl⟩) h i hh (by omega) _ rfl
  · have := getD_sz hqs i
    show (now.getD i ByteArray.empty).size < _
    omega
structure KinX (k : Int) (old now : List ByteArray) (s : ByteArray) (o1 : Nat) (c1 : ByteArray) (o2 : Nat) (c2 : ByteArray) (r : Int) (T : Pq) : Prop where
  ext : ∀ W pa pb po pc qa qb qo qc, Tb W → RdS W pa pb po old.length old → old.length ≤ pc → RdS W qa qb qo now.length now → now.length ≤ qc → Calls Tryz.prog 13 #[.int .i64 k, .slice pa old.length pc, .slice qa now.length qc, .string s] W fun e w' => e = .returned (tri T) ∧ Below W.heap.size W w'
  light : ∀ W, Tb W → Calls Tryz.prog 14 #[.int .i64 k, .agg #[.int .u64 (o1 : Int), .string c1], .agg #[.int .u64 (o2 : Int), .string c2], .string s] W fun e w' => e = .returned (.int .i64 r) ∧ Below W.heap.size W w'
  good : 1 ≤ k → k ≤ 32 → (o1 = old.length ∧ c1 = rtD (clk k) old old.length) ∧ (o2 = now.length ∧ c2 = rtD (clk k) now now.length)
  no : r ≠ 0 → T = none
  bad : ¬ (1 ≤ k ∧ k ≤ 32) → r ≠ 0
  yes : r = 0 → (1 ≤ k ∧ k ≤ 32) ∧ ∃ P, AccK k old.length (rtD (clk k) old old.length) now.length (rtD (clk k) now now.length) s P ∧ (old = now.take old.length → T = none) ∧ (¬ old = now.take old.length → T = kinT (clk k) old.length now.length old now P.D (vlC []))
theorem kin_core (k : Int) (hk : 1 ≤ k ∧ k ≤ 32) (old now : List ByteArray) (ho : old.length ≤ 1099511627776) (hn : now.length ≤ 1099511627776) (hos : ∀ s ∈ old, s.size ≤ 140737488351232) (hns : ∀ s ∈ now, s.size ≤ 140737488351232) (s : ByteArray) (hs : s.size ≤ 281474976710656) (c1 : ByteArray) (hc1 : rtD (clk k) old old.length = c1) (c2 : ByteArray) (hc2 : rtD (clk k) now now.length = c2) (r : Int)
    (h1 : ∀ W, Tb W → Calls Tryz.prog 14 #[.int .i64 k, .agg #[.int .u64 (old.length : Int), .string c1], .agg #[.int .u64 (now.length : Int), .string c2], .string s] W fun e w' => e = .returned (.int .i64 r) ∧ Below W.heap.size W w')
    (h2 : r = 0 → ∃ P, AccK k old.length c1 now.length c2 s P) : ∃ T, KinX k old now s old.length c1 now.length c2 r T := by
  have hcm : ∀ {L : List ByteArray} (c : ByteArray), L.length ≤ 1099511627776 → (∀ s ∈ L, s.size ≤ 140737488351232) → rtD (clk k) L L.length = c → ∀ {W la lb lo lc}, Tb W → RdS W la lb lo L.length L → L.length ≤ lc → Hid (∀ V, Below W.heap.size W V → Calls Tryz.prog 23 #[.int .i64 k, .slice la L.length lc] V fun e w' => e = .returned (.agg #[.int .u64 (L.length : Int), .string c]) ∧ Below V.heap.size V w') := fun {L} c hm hsz hc {W la lb lo lc} ht hr hlc V hb => comm_ok V (ht.next hb) k hk.1 hk.2 la lb lo lc L (hr.next hb (Nat.le_refl _)) hsz hm hlc c hc
  by_cases h0 : r = 0
  · subst h0
    obtain ⟨P, A⟩ := h2 rfl
    obtain ⟨⟨⟨_, hk'⟩, hn40, hmn, _⟩, hf⟩ := A.ok
    by_cases hso : old = now.take old.length
    · refine ⟨none, fun W pa pb po pc qa qb qo qc ht hp hpc hq hqc => ?_, h1, fun _ _ => ⟨⟨rfl, hc1.symm⟩, rfl, hc2.symm⟩, fun _ => rfl, fun h => absurd hk h, fun _ => ⟨hk, P, by rw [hc1, hc2]; exact A, fun _ => rfl, fun h => absurd hso h⟩⟩
      refine ekn_so W k pa old.length pc qa now.length qc s old.length c1 now.length c2 (hcm c1 ho hos hc1 ht hp hpc) (hcm c2 hn hns hc2 ht hq hqc) (fun V hb => h1 V (ht.next hb)) (fun V hb => ?_)
      exact begins_any V pa pb po pc old (hp.next hb (Nat.le_refl _)) qa qb qo qc now (hq.next hb (Nat.le_refl _)) hqc hmn hn true (decide_eq_true hso)
    · refine ⟨_, fun W pa pb po pc qa qb qo qc ht hp hpc hq hqc => ?_, h1, fun _ _ => ⟨⟨rfl, hc1.symm⟩, rfl, hc2.symm⟩, fun h => absurd rfl h, fun h => absurd hk h, fun _ => ⟨hk, P, by rw [hc1, hc2]; exact A, fun h => absurd h hso, fun _ => rfl⟩⟩
      have hc := clk_le k
      have hck : (clk k : Int) = k := clk_of hk.1 hk.2
      have hm40 : old.length ≤ 2 ^ 40 := Nat.le_trans hmn hn40
      have hcov : cov 0 old.length = Cv.dnL 41 0 old.length := Cv.cov_zero _ hm40
      have hD : P.D.length = (kb old.length now.length).length := hf.1
      have hkbl := kb_len hmn hn40
      have hkl : (Cv.dnL 41 0 old.length).length ≤ P.D.length := by rw [hD, kb, List.length_append, hcov]; omega
      have hdsz : ∀ d ∈ P.D, d.size = clk k := fun d hd => by have := hf.2 d hd; omega
      have hpk : pks (clk k) old 41 = (Cv.dnL 41 0 old.length).map fun b => nd (clk k) old b.1 b.2 := by
        have := (cov_peaks (clk k) old old.length (Nat.le_refl _) hm40).1
        rw [List.take_length, hcov] at this
        exact this.symm
      have hRl : ((Cv.dnL 41 0 old.length).map fun b => nd (clk k) old b.1 b.2).length = (Cv.dnL 41 0 old.length).length := List.length_map ..
      have hl41 := Cv.dn_len 41 0 old.length
      have hRs : ∀ x ∈ (Cv.dnL 41 0 old.length).map fun b => nd (clk k) old b.1 b.2, x.size ≤ 32 := fun x hx => by obtain ⟨b, _, rfl⟩ := List.mem_map.1 hx; rw [nd_size hc]; exact hc
      refine ekn_not W k pa old.length pc qa now.length qc s old.length c1 now.length c2 (hcm c1 ho hos hc1 ht hp hpc) (hcm c2 hn hns hc2 ht hq hqc) P ((Cv.dnL 41 0 old.length).map fun b => nd (clk k) old b.1 b.2) (by omega) (fun x hx => by have := hRs x hx; omega) (by omega) _ _ _ _ rfl (fun V hb => h1 V (ht.next hb)) (fun V hb => ?_) (fun V => (decode_full V s hs P A.hd).mono fun e w' ⟨sa, sb, sc, da, db, dc, h1, h2, _, h3⟩ => ⟨sa, sb, sc, da, db, dc, h1, h2, h3⟩) (fun V hb => ?_) (fun V ra rb rc da db dc hb hR hrc hrn hDr hdc hdn => ?_) (fun V sa sb sc da db dc hb hF => ?_) (fun V hb => ?_)
      · exact begins_any V pa pb po pc old (hp.next hb (Nat.le_refl _)) qa qb qo qc now (hq.next hb (Nat.le_refl _)) hqc hmn hn false (decide_eq_false hso)
      · exact peaks_any V (ht.next hb) k pa pb po old.length pc old (hp.next hb (Nat.le_refl _)) hos (by omega) _ hpk
      · rw [A.old]
        have hdt := rds_take hDr (H := (Cv.dnL 41 0 old.length).length) hkl
        rw [List.length_take, Nat.min_eq_left hkl, ← hRl] at hdt
        exact aboveall_any V (ht.next hb) k old.length ra rb 0 rc _ hR hrc hrn da db 0 dc (P.D.take (Cv.dnL 41 0 old.length).length) (by rw [hRl] at hdt ⊢; exact hdt) (by omega) hdn (by omega) hRs (fun x hx => by rw [hdsz x (List.mem_of_mem_take hx)]; exact hc) _ rfl
      · have T := tre_kin A.ok (vlC [])
        rw [A.kd, A.hk, A.old, A.size]
        refine ofproof_any V 3 k old.length now.length _ da P.D.length dc qa now.length qc none 0 0 (kb old.length now.length) T.fit (by omega) T.nodup (fun V' hb' => bo_kin V' k old.length now.length hmn hn40 _ _) _ (fun V' mb hb' hM => ?_)
        have S := sides_proved (k := k) (la := qa) (lc := qc) (dc := dc) (ca := none) (cb := 0) (co := 0) (cc := 0) (l := []) ((ht.next hb).next hb') ((hq.next hb (Nat.le_refl _)).next hb' (Nat.le_refl _)) hns hn T (by omega) (hF.next hb').p.rd (rdk_nil V' none) (by simp) (by simp [ixs, Asc]) (fun x hx => by cases hx) (fun i hi => hi.elim) hM
        exact walk_anyP S now.length (Nat.le_refl _) _ rfl T.vis _ rfl
      · rw [A.old]
        have S := sides_listed (k := k) (pc := pc) (qc := qc) (ht.next hb) (hp.next hb (Nat.le_refl _)) hos (hq.next hb (Nat.le_refl _)) hns hmn hn
        refine walk_anyL S old.length (Nat.le_refl _) _ rfl (fun b hbm => vis_none _ _ _ ?_) _ rfl
        have := (cov_peaks (clk k) old old.length (Nat.le_refl _) hm40).2
        rw [hcov] at this
        exact this b hbm
  · refine ⟨none, fun W pa pb po pc qa qb qo qc ht hp hpc hq hqc => ?_, h1, fun _ _ => ⟨⟨rfl, hc1.symm⟩, rfl, hc2.symm⟩, fun _ => rfl, fun h => absurd hk h, fun h => absurd h h0⟩
    exact ekn_no W k pa old.length pc qa now.length qc s old.length c1 now.length c2 (hcm c1 ho hos hc1 ht hp hpc) (hcm c2 hn hns hc2 ht hq hqc) r h0 (fun V hb => h1 V (ht.next hb))
theorem ext_kin (k : Int) (old now : List ByteArray) (ho : old.length ≤ 1099511627776) (hn : now.length ≤ 1099511627776) (hos : ∀ s ∈ old, s.size ≤ 140737488351232) (hns : ∀ s ∈ now, s.size ≤ 140737488351232) (s : ByteArray) (hs : s.size ≤ 281474976710656) : ∃ o1 c1 o2 c2 r T, KinX k old now s o1 c1 o2 c2 r T := by
  by_cases hk : 1 ≤ k ∧ k ≤ 32
  · obtain ⟨c1, hc1⟩ : ∃ c, rtD (clk k) old old.length = c := ⟨_, rfl⟩
    obtain ⟨c2, hc2⟩ : ∃ c, rtD (clk k) now now.length = c := ⟨_, rfl⟩
    obtain ⟨r, h1, h2⟩ := kin_acc k old.length c1 now.length c2 s hs
    obtain ⟨T, hT⟩ := kin_core k hk old now ho hn hos hns s hs c1 hc1 c2 hc2 r h1 h2
    exact ⟨_, _, _, _, r, T, hT⟩
  · have hk' : k < 1 ∨ 32 < k := by omega
    obtain ⟨r, h1, h2⟩ := kin_acc k 0 ⟨#[]⟩ 0 ⟨#[]⟩ s hs
    have h0 : r ≠ 0 := fun h => by
      obtain ⟨P, A⟩ := h2 h
      exact hk ⟨A.k1, A.k2⟩
    refine ⟨0, ⟨#[]⟩, 0, ⟨#[]⟩, r, none, fun W pa pb po pc qa qb qo qc ht hp hpc hq hqc => ?_, h1, fun a b => absurd ⟨a, b⟩ hk, fun _ => rfl, fun _ => h0, fun h => absurd h h0⟩
    exact ekn_no W k pa old.length pc qa now.length qc s 0 ⟨#[]⟩ 0 ⟨#[]⟩ (fun V hb => comm_bad V k hk' pa old.length pc ho) (fun V hb => comm_bad V k hk' qa now.length qc hn) r h0 (fun V hb => h1 V (ht.next hb))
theorem kinx_sound {k : Int} {old now : List ByteArray} {s : ByteArray} {o1 : Nat} {c1 : ByteArray} {o2 : Nat} {c2 : ByteArray} {T : Pq} (X : KinX k old now s o1 c1 o2 c2 0 T) : old.length ≤ now.length ∧ (old = now.take old.length → T = none) ∧ (¬ old = now.take old.length → ∃ q, T = some q ∧ Clx (clk k) q) := by
  obtain ⟨_, P, A, h1, h2⟩ := X.yes rfl
  refine ⟨A.ok.1.2.2.1, h1, fun hso => ?_⟩
  rcases kin_sound (vlC []) A with ⟨q, hq, hc⟩ | h
  · exact ⟨q, by rw [h2 hso, hq], hc⟩
  · exact absurd h hso
end Go.Proofs.YtdocjikpcbmcgaaGreatDoor
namespace Go.Proofs.YtdocjikpcbmcgaaGreatDoor
open Go.RowKit
attribute [local go_sem ↓] Go.wp_at_zero Go.wp_at_succ
theorem kinx_soundZ {k : Int} {old now : List ByteArray} (hos : ∀ s ∈ old, s.size ≤ 140737488351232) (hns : ∀ s ∈ now, s.size ≤ 140737488351232) {s : ByteArray} {o1 : Nat} {c1 : ByteArray} {o2 : Nat} {c2 : ByteArray} {T : Pq} (X : KinX k old now s o1 c1 o2 c2 0 T) : old.length ≤ now.length ∧ (old = now.take old.length → T = none) ∧ (¬ old = now.take old.length → ∃ q, T = some q ∧ Clx (clk k) q ∧ Sz 1152921504606846000 q) := by
  obtain ⟨h1, h2, h3⟩ := kinx_sound X
  refine ⟨h1, h2, fun hso => ?_⟩
  obtain ⟨q, hq, hc⟩ := h3 hso
  refine ⟨q, hq, hc, ?_⟩
  obtain ⟨_, P, A, _, h5⟩ := X.yes rfl
  rw [h5 hso] at hq
  have Tr := tre_kin A.ok (vlC [])
  exact kin_sz (by decide) (clk_le k) Tr.lt Tr.dsz (fun i => by have := getD_sz hos i; omega) (fun i => by have := getD_sz hns i; omega) (fun i => by simp [vlC, noC]) hq
def Ls2 (w : World) (g : Nat) (pa : Option Addr) (pn pc : Nat) (qa : Option Addr) (qn qc : Nat) : Prop := w.heap[g]? = some (.cells #[.slice pa pn pc, .slice qa qn qc] 41 (0, 0))
section
variable {w W : World} {g pn pc qn qc : Nat} {pa qa : Option Addr}
theorem Ls2.cells (h : Ls2 w g pa pn pc qa qn qc) : w.cell? ⟨g, 0, none⟩ = some (.slice pa pn pc) ∧ w.cell? ⟨g, 1, none⟩ = some (.slice qa qn qc) := by
  refine ⟨?_, ?_⟩
  · rw [cell_of_row w g 0 _ _ (0, 0) h]; rfl
  · rw [cell_of_row w g 1 _ _ (0, 0) h]; rfl
theorem Ls2.lt (h : Ls2 w g pa pn pc qa qn qc) : g < w.heap.size := (Array.getElem?_eq_some_iff.1 h).1
theorem Ls2.next (h : Ls2 w g pa pn pc qa qn qc) (hb : Below w.heap.size w W) : Ls2 W g pa pn pc qa qn qc := (hb.block g h.lt).trans h
theorem ls2_box (w : World) (pa : Option Addr) (pn pc : Nat) (qa : Option Addr) (qn qc : Nat) : ∃ W, w.alloc (.cells #[.slice pa pn pc, .slice qa qn qc] 41) = W ∧ Ls2 W w.heap.size pa pn pc qa qn qc ∧ Below w.heap.size w W := ⟨_, rfl, heap_alloc_new w _, bal (Below.refl _ _) _⟩
end
theorem rds_few {w : World} {la : Option Addr} {lb lo ln : Nat} {Li : List ByteArray} (hL : RdS w la lb lo ln Li) : RdS w la lb lo (Li.take 150).length (Li.take 150) ∧ min ln 150 = (Li.take 150).length ∧ (Li.take 150).length ≤ 150 ∧ (Li.take 150).length ≤ ln := by
  have hlen : min ln 150 = (Li.take 150).length := by rw [List.length_take, hL.hl]; omega
  refine ⟨?_, hlen, by omega, by omega⟩
  have hL' := hL
  rw [← hL.hl] at hL'
  have h1 : Li.take (Li.take 150).length = Li.take 150 := by rw [← hlen, ← hL.hl]; simp [Nat.min_comm]
  have h2 := rds_take hL' (H := (Li.take 150).length) (by have := hL.hl; omega)
  rwa [h1] at h2
theorem take_step {A B : List ByteArray} {j : Nat} (ha : j < A.length) (hb : j < B.length) : A.take (j + 1) = B.take (j + 1) ↔ A.take j = B.take j ∧ A.getD j ByteArray.empty = B.getD j ByteArray.empty := by
  rw [List.take_succ_eq_append_getElem ha, List.take_succ_eq_append_getElem hb, List.getD_eq_getElem?_getD, List.getElem?_eq_getElem ha, List.getD_eq_getElem?_getD, List.getElem?_eq_getElem hb]
  constructor
  · intro h
    have := List.append_inj' h rfl
    exact ⟨this.1, by simpa using this.2⟩
  · rintro ⟨h1, h2⟩
    rw [h1]
    simp only [Option.getD_some] at h2
    rw [h2]
set_option maxRecDepth 100000 in
set_option maxHeartbeats 4000000 in
theorem begins_walk (w : World) (ht : Tb w) (hr : Tr w) (k : Int) (pa : Option Addr) (pb po pn pc : Nat) (Pi : List ByteArray) (hP : RdS w pa pb po pn Pi) (hps : ∀ s ∈ Pi, s.size ≤ 140737488351232) (hpc : pn ≤ pc) (qa : Option Addr) (qb qo qn qc : Nat) (Qi : List ByteArray) (hQ : RdS w qa qb qo qn Qi) (hqs : ∀ s ∈ Qi, s.size ≤ 140737488351232) (hqc : qn ≤ qc) (s : ByteArray) (hs : s.size ≤ 281474976710656) :
    Calls Tryz.prog 4 #[.int .i64 k, .agg #[.slice pa pn pc, .slice qa qn qc], .string s] w fun e w' => e = .returned (.bool true) ∧ Below w.heap.size w w' := by
  obtain ⟨hA2, hlA, hmA, hnA⟩ := rds_few hP
  obtain ⟨hB2, hlB, hmB, hnB⟩ := rds_few hQ
  have hsA : ∀ s ∈ Pi.take 150, s.size ≤ 140737488351232 := fun s hs => hps s (List.mem_of_mem_take hs)
  have hsB : ∀ s ∈ Qi.take 150, s.size ≤ 140737488351232 := fun s hs => hqs s (List.mem_of_mem_take hs)
  obtain ⟨A, hAe⟩ : ∃ A, Pi.take 150 = A := ⟨_, rfl⟩
  obtain ⟨B, hBe⟩ : ∃ B, Qi.take 150 = B := ⟨_, rfl⟩
  rw [hAe] at hA2 hlA hmA hnA hsA
  rw [hBe] at hB2 hlB hmB hnB hsB
  obtain ⟨o1, c1, o2, c2, r, T, X⟩ := ext_kin k A B (by omega) (by omega) hsA hsB s hs
  have HFA : Hid (∀ W, Calls Tryz.prog 8 #[.slice pa pn pc] W fun e w' => e = .returned (.slice pa A.length pc) ∧ w' = W) := fun W => (few_any W pa pn pc hpc _ hlA).mono fun _ _ ⟨a, b⟩ => ⟨a, b.symm⟩
  have HFB : Hid (∀ W, Calls Tryz.prog 8 #[.slice qa qn qc] W fun e w' => e = .returned (.slice qa B.length qc) ∧ w' = W) := fun W => (few_any W qa qn qc hqc _ hlB).mono fun _ _ ⟨a, b⟩ => ⟨a, b.symm⟩
  have HAl : Hid (∀ W, Below w.heap.size w W → Calls Tryz.prog 7 #[] W fun e w' => e = .returned (.bool true) ∧ Below W.heap.size W w') := fun W hb => alive_ext W (ht.next hb) (hr.next hb)
  have HE : Hid (∀ W, Below w.heap.size w W → Calls Tryz.prog 13 #[.int .i64 k, .slice pa A.length pc, .slice qa B.length qc, .string s] W fun e w' => e = .returned (tri T) ∧ Below W.heap.size W w') := fun W hb => X.ext W pa pb po pc qa qb qo qc (ht.next hb) (hA2.next hb (Nat.le_refl _)) (by omega) (hB2.next hb (Nat.le_refl _)) (by omega)
  have HLt : Hid (∀ W, Below w.heap.size w W → Calls Tryz.prog 14 #[.int .i64 k, .agg #[.int .u64 (o1 : Int), .string c1], .agg #[.int .u64 (o2 : Int), .string c2], .string s] W fun e w' => e = .returned (.int .i64 r) ∧ Below W.heap.size W w') := fun W hb => X.light W (ht.next hb)
  have HRd : Hid (∀ W, Below w.heap.size w W → RdS W pa pb po A.length A ∧ RdS W qa qb qo B.length B) := fun W hb => ⟨hA2.next hb (Nat.le_refl _), hB2.next hb (Nat.le_refl _)⟩
  have zA : (A.length : Int) ≤ 150 := by omega
  have zB : (B.length : Int) ≤ 150 := by omega
  obtain ⟨W0, hW0, hls, hb0⟩ := ls2_box w pa pn pc qa qn qc
  have HLs := hide hls
  by_cases hk : 1 ≤ k ∧ k ≤ 32
  · obtain ⟨⟨ho1, hc1⟩, ho2, hc2⟩ := X.good hk.1 hk.2
    subst ho1 ho2
    have HRA : Hid (∀ W, Below w.heap.size w W → Calls Tryz.prog 9 #[.int .i64 k, .slice pa A.length pc, .int .u64 (A.length : Int)] W fun e w' => e = .returned (.tuple #[.agg #[.int .u64 (A.length : Int), .string c1], .int .i64 0]) ∧ Below W.heap.size W w') := fun W hb => rroot_ok W (hr.next hb) k hk.1 hk.2 pa pb po A.length pc A (hA2.next hb (Nat.le_refl _)) hsA (by omega) (by omega) A.length (Nat.le_refl _) c1 hc1.symm
    have HRB : Hid (∀ W, Below w.heap.size w W → Calls Tryz.prog 9 #[.int .i64 k, .slice qa B.length qc, .int .u64 (B.length : Int)] W fun e w' => e = .returned (.tuple #[.agg #[.int .u64 (B.length : Int), .string c2], .int .i64 0]) ∧ Below W.heap.size W w') := fun W hb => rroot_ok W (hr.next hb) k hk.1 hk.2 qa qb qo B.length qc B (hB2.next hb (Nat.le_refl _)) hsB (by omega) (by omega) B.length (Nat.le_refl _) c2 hc2.symm
    have HZ : r = 0 → Hid (A.length ≤ B.length ∧ (A = B.take A.length → T = none) ∧ (¬ A = B.take A.length → ∃ q, T = some q ∧ Clx (clk k) q ∧ Sz 1152921504606846000 q)) := fun h0 => by subst h0; exact kinx_soundZ hsA hsB X
    have hno := X.no
    have HCl : Hid (∀ W q, Below w.heap.size w W → Clx (clk k) q → Sz 1152921504606846000 q → Calls Tryz.prog 12 #[.int .i64 k, .string q.1, .string q.2] W fun e w' => e = .returned (.bool true) ∧ Below W.heap.size W w') := fun W q hb h1 h2 => clash_any W (hr.next hb) k hk.1 hk.2 q.1 q.2 (by have := h2.1; omega) (by have := h2.2; omega) h1.1 h1.2
    clear ht hr hP hps hpc hQ hqs hqc hs hA2 hlA hmA hnA hB2 hlB hmB hnB hsA hsB hAe hBe X hc1 hc2 hls hk
    obtain ⟨k0, k1⟩ := HLs.out.cells
    go_enter Tryz.func4, Tryz.ntmps4
    go_upto_region 1 with (fail)
    try rw [hW0]
    clear hW0
    go_upto_region 3 with (go_at_call 7; with_reducible refine (HAl.out _ hb0).mono ?_; rintro e w1 ⟨rfl, hb1⟩)
    obtain ⟨d0, d1⟩ := (HLs.out.next hb1).cells
    have hbA := bnext hb0 hb1
    clear k0 k1 HAl
    have HB0 : Hid (∀ t, Below w.heap.size w (w1.drewN t)) := fun t => below_drewN hbA t
    go_quiet (first
      | (go_at_call 8; refine Calls.quiet_of_same (HFA.out _))
      | (go_at_call 8; refine Calls.quiet_of_same (HFB.out _)))
    go_upto_region 5 with (go_at_call 9; with_reducible refine (HRA.out _ (HB0.out _)).mono ?_; rintro e w2 ⟨rfl, hb2⟩)
    obtain ⟨F, hFe, hrh, hb3⟩ : ∃ W, w2.alloc (.cells #[.int .u64 (A.length : Int), .string c1] 30) = W ∧ Rh W w2.heap.size A.length c1 ∧ Below w2.heap.size w2 W := ⟨_, rfl, rh_new w2 A.length c1, bal (Below.refl _ _) _⟩
    try rw [hFe]
    clear hFe
    have hbF : Below w.heap.size w F := bnext (bnext (HB0.out _) hb2) hb3
    clear hb0 hb1 hb2 hb3 HLs HB0 hbA d0 d1 HFA HFB
    go_upto_region 6 with (go_at_call 9; with_reducible refine (HRB.out _ hbF).mono ?_; rintro e w4 ⟨rfl, hb4⟩)
    obtain ⟨G, hGe, hrh2, hb5⟩ : ∃ W, w4.alloc (.cells #[.int .u64 (B.length : Int), .string c2] 30) = W ∧ Rh W w4.heap.size B.length c2 ∧ Below w4.heap.size w4 W := ⟨_, rfl, rh_new w4 B.length c2, bal (Below.refl _ _) _⟩
    try rw [hGe]
    clear hGe
    have hbG := bnext (bnext hbF hb4) hb5
    have hrh1 := hrh.next (bnext hb4 hb5)
    clear hbF hb4 hb5 hrh HRA HRB
    go_upto_region 7 with (go_at_call 13; with_reducible refine (HE.out _ hbG).mono ?_; rintro e w6 ⟨rfl, hb6⟩)
    obtain ⟨e0, e1⟩ := (hrh1.next hb6).cells
    obtain ⟨f0, f1⟩ := (hrh2.next hb6).cells
    have hbH := bnext hbG hb6
    clear hbG hb6 hrh1 hrh2 HE
    by_cases h0 : r = 0
    · obtain ⟨hAB, hso1, hso2⟩ := (HZ h0).out
      subst h0
      have HS1 := hide hso1
      have HS2 := hide hso2
      have zAB : ¬ (B.length : Int) < (A.length : Int) := by omega
      clear HZ hso1 hso2 hno
      go_upto_region 9 with (go_at_call 14; with_reducible refine (HLt.out _ hbH).mono ?_; rintro e w5 ⟨rfl, hb5⟩)
      have HB5 := hide (bnext hbH hb5)
      clear hbH hb5 e0 e1 f0 f1 HLt
      go_wp2
      go_loopg [16, 17] A.length (fun g b i wr => ∃ j : Nat, g = A.length - j ∧ j ≤ A.length ∧ i = .int .i64 (j : Int) ∧ b = .bool (decide (A.take j = B.take j)) ∧ Hid (Below w.heap.size w wr))
      case atStart =>
        go_light
        exact ⟨0, rfl, Nat.zero_le _, rfl, by simp, HB5⟩
      case round =>
        clear HB5
        obtain ⟨j, rfl, hj, rfl, rfl, HI⟩ := hrel
        obtain ⟨v, hvd⟩ : ∃ v, decide (A.take j = B.take j) = v := ⟨_, rfl⟩
        rw [hvd]
        by_cases hlt : j < A.length
        · have y0 : (0 : Int) ≤ (j : Int) := Int.natCast_nonneg _
          have y1 : (j : Int) < (A.length : Int) := by omega
          have y2 : (j : Int) < (B.length : Int) := by omega
          obtain ⟨hrA, hrB⟩ := HRd.out wr HI.out
          obtain rfl := hrA.ptr (by omega)
          obtain rfl := hrB.ptr (by omega)
          have ca := hrA.at hlt
          have cb := hrB.at (show j < B.length by omega)
          have hstep := take_step (A := A) (B := B) hlt (by omega)
          obtain ⟨x, hx⟩ : ∃ x, A.getD j ByteArray.empty = x := ⟨_, rfl⟩
          obtain ⟨y, hy⟩ : ∃ y, B.getD j ByteArray.empty = y := ⟨_, rfl⟩
          rw [hx] at ca hstep
          rw [hy] at cb hstep
          have HW1 : Hid (∀ t, Below w.heap.size w (wr.drewN t)) := fun t => below_drewN HI.out t
          cases v with
          | false =>
            have HN : Hid (decide (A.take (j + 1) = B.take (j + 1)) = false) := decide_eq_false fun h => (of_decide_eq_false hvd) (hstep.1 h).1
            clear hrA hrB hx hy hstep hvd HI
            go_upto_region 15 with (fail)
            go_quiet (fail)
            go_wp2
            go_roundg (A.length - (j + 1))
            case rel =>
              go_light
              exact ⟨j + 1, rfl, by omega, by go_num, by rw [HN.out], HW1.out _⟩
            case measure => go_light; omega
          | true =>
            by_cases he : x = y
            · have HN : Hid (decide (A.take (j + 1) = B.take (j + 1)) = true) := decide_eq_true (hstep.2 ⟨of_decide_eq_true hvd, he⟩)
              subst he
              clear hrA hrB hx hy hstep hvd HI
              go_upto_region 15 with (fail)
              go_quiet (fail)
              go_wp2
              go_roundg (A.length - (j + 1))
              case rel =>
                go_light
                exact ⟨j + 1, rfl, by omega, by go_num, by rw [HN.out], HW1.out _⟩
              case measure => go_light; omega
            · have HN : Hid (decide (A.take (j + 1) = B.take (j + 1)) = false) := decide_eq_false fun h => he (hstep.1 h).2
              have hzb := list_beq he
              have hz := list_ne he
              clear hrA hrB hx hy hstep hvd HI he
              go_upto_region 15 with (fail)
              go_quiet (fail)
              go_wp2
              go_roundg (A.length - (j + 1))
              case rel =>
                go_light
                exact ⟨j + 1, rfl, by omega, by go_num, by rw [HN.out], HW1.out _⟩
              case measure => go_light; omega
        · obtain rfl : j = A.length := by omega
          have hz1 : ¬ (A.length : Int) < (A.length : Int) := by omega
          rw [List.take_length] at hvd
          have hB := HI.out
          cases v with
          | true =>
            have hTn := HS1.out (of_decide_eq_true hvd)
            subst hTn
            simp only [pA, pB', Option.isSome_none]
            clear hvd HS1 HS2 HCl HRd hlt hj
            go_wp2
            go_ret
            exact ⟨rfl, hB⟩
          | false =>
            obtain ⟨q, hTq, hq1, hq2⟩ := HS2.out (of_decide_eq_false hvd)
            subst hTq
            have HC := hide (HCl.out wr q hB hq1 hq2)
            simp only [pA, pB', Option.isSome_some]
            obtain ⟨qa', qb'⟩ := q
            simp only at HC
            clear hvd HS1 HS2 HCl HRd hlt hj hq1 hq2
            go_wp2_with (go_at_call 12; with_reducible refine HC.out.mono ?_; rintro e w9 ⟨rfl, hb9⟩)
            go_ret
            exact ⟨rfl, bnext hB hb9⟩
    · have hTn := hno h0
      subst hTn
      have hz : (r != 0) = true := by simpa using h0
      have hz2 : ¬ r = 0 := h0
      clear h0 HZ hno
      simp only [pA, pB']
      go_wp2_with (go_at_call 14; with_reducible refine (HLt.out _ hbH).mono ?_; rintro e w5 ⟨rfl, hb5⟩)
      go_ret
      exact ⟨rfl, bnext hbH hb5⟩
  · have hTn := X.no (X.bad hk)
    subst hTn
    have HRA : Hid (∀ W, Calls Tryz.prog 9 #[.int .i64 k, .slice pa A.length pc, .int .u64 (A.length : Int)] W fun e w' => e = .returned (.tuple #[.agg #[.int .u64 0, .string ⟨#[]⟩], .int .i64 70]) ∧ Below W.heap.size W w') := fun W => rroot_bad W k (by omega) pa A.length pc A.length
    have HRB : Hid (∀ W, Calls Tryz.prog 9 #[.int .i64 k, .slice qa B.length qc, .int .u64 (B.length : Int)] W fun e w' => e = .returned (.tuple #[.agg #[.int .u64 0, .string ⟨#[]⟩], .int .i64 70]) ∧ Below W.heap.size W w') := fun W => rroot_bad W k (by omega) qa B.length qc B.length
    clear ht hr hP hps hpc hQ hqs hqc hs hA2 hlA hmA hnA hB2 hlB hmB hnB hsA hsB hAe hBe X hls hk HLt HRd
    obtain ⟨k0, k1⟩ := HLs.out.cells
    go_enter Tryz.func4, Tryz.ntmps4
    go_upto_region 1 with (fail)
    try rw [hW0]
    clear hW0
    go_upto_region 3 with (go_at_call 7; with_reducible refine (HAl.out _ hb0).mono ?_; rintro e w1 ⟨rfl, hb1⟩)
    obtain ⟨d0, d1⟩ := (HLs.out.next hb1).cells
    have hbA := bnext hb0 hb1
    clear k0 k1 HAl
    have HB0 : Hid (∀ t, Below w.heap.size w (w1.drewN t)) := fun t => below_drewN hbA t
    go_quiet (first
      | (go_at_call 8; refine Calls.quiet_of_same (HFA.out _))
      | (go_at_call 8; refine Calls.quiet_of_same (HFB.out _)))
    go_upto_region 5 with (go_at_call 9; with_reducible refine (HRA.out _).mono ?_; rintro e w2 ⟨rfl, hb2⟩)
    obtain ⟨F, hFe, hb3⟩ : ∃ W, w2.alloc (.cells #[.int .u64 0, .string ⟨#[]⟩] 30) = W ∧ Below w2.heap.size w2 W := ⟨_, rfl, bal (Below.refl _ _) _⟩
    try rw [hFe]
    clear hFe
    have hbF : Below w.heap.size w F := bnext (bnext (HB0.out _) hb2) hb3
    clear hb0 hb1 hb2 hb3 HLs HB0 hbA d0 d1 HFA HFB
    go_upto_region 6 with (go_at_call 9; with_reducible refine (HRB.out _).mono ?_; rintro e w4 ⟨rfl, hb4⟩)
    obtain ⟨G, hGe, hb5⟩ : ∃ W, w4.alloc (.cells #[.int .u64 0, .string ⟨#[]⟩] 30) = W ∧ Below w4.heap.size w4 W := ⟨_, rfl, bal (Below.refl _ _) _⟩
    try rw [hGe]
    clear hGe
    have hbG := bnext (bnext hbF hb4) hb5
    clear hbF hb4 hb5 HRA HRB
    go_upto_region 7 with (go_at_call 13; with_reducible refine (HE.out _ hbG).mono ?_; rintro e w6 ⟨rfl, hb6⟩)
    simp only [pA, pB']
    go_wp2
    go_ret
    exact ⟨rfl, bnext hbG hb6⟩
end Go.Proofs.YtdocjikpcbmcgaaGreatDoor
/-
  ExtractBegins: the row. Own work.
-/
namespace Go.Proofs.YtdocjikpcbmcgaaGreatDoor.extractBegins
open Go.ChangeShapes Go.WideShapes Go.ChangeAt Go.RowKit
theorem own : ownKnob Tryz.prog.godebug = none := by kernel_rfl
theorem strShut {H : Type} (enc : TypeId × Value → H) (W' : World) (sp : Nat → Bool) (s : ByteArray) (hs : s.size ≤ maxLen) : DataW.Trod enc Tryz.prog W' 0 sp true 9 (.string s) (.lit (.string s.data.toList)) [] := ⟨1, by simp [DataW.trod, Value.cells, Tryz.underlying9, hs]⟩
theorem laidOut : laidOutB Tryz.prog = true := by kernel_rfl
theorem cellsS1 : Tryz.prog.cellsOf 9 = 1 := by kernel_rfl
theorem bytesS1 : Tryz.prog.bytesOf 9 = 16 := by kernel_rfl
theorem weights_strs {H : Type} (l : List ByteArray) (s : ByteArray) (hs : s ∈ l) : s.size ∈ DataW.weightsAll Tryz.prog 9 (strs (H := H) l) := by
  induction l with
  | nil => cases hs
  | cons x r ih =>
    simp only [strs, List.map_cons, DataW.weightsAll, DataW.weights, List.mem_append, List.mem_singleton]
    rcases List.mem_cons.1 hs with rfl | h
    · left; rw [Array.length_toList]; rfl
    · right; exact ih h
theorem sliceRdS {H : Type} {enc : TypeId × Value → H} {W : World} {fuel : Nat} {ao : Option Addr} {len cap : Nat} {x : DataW H × List MemPlace} {ts : List TypeId} {ds : List (DataW H)} {j : Nat} (hf : DataW.trod enc Tryz.prog W 0 (fun _ => true) true fuel 22 [.slice ao len cap] = some x)
    (hz : (DataW.weightsEach Tryz.prog ts ds).all (· ≤ reachBytes) = true) (hj : ts[j]? = some 22) (hd : ds[j]? = some x.1) :
    ∃ (b off : Nat) (ss : List ByteArray), RdS W ao b off len ss ∧ (∀ s ∈ ss, s.size ≤ 140737488351232) ∧ len ≤ 8796093021952 ∧ len ≤ cap ∧ (ao = none → cap = 0) := by
  rcases open_strings Tryz.underlying22 Tryz.underlying9 cellsS1 hf with ⟨hcs, hx⟩ | ⟨a, len', cap', ss, hcs, _, hl, hm, hzl, hx, hcell, hws⟩
  · simp at hcs
    obtain ⟨rfl, rfl, rfl⟩ := hcs
    exact ⟨0, 0, [], ⟨rfl, fun h => absurd h (Nat.lt_irrefl 0), (fun j v h => by cases h), (fun s h => by cases h)⟩, (fun s h => by cases h), Nat.zero_le _, Nat.le_refl _, fun _ => rfl⟩
  · simp at hcs
    obtain ⟨rfl, rfl, rfl⟩ := hcs
    simp only [if_true] at hzl
    have hcap : cap ≤ 8796093021952 := by
      have hd' := hd
      rw [hx] at hd'
      have h1 := List.all_eq_true.1 hz _ (DataW.weights_mem_each hj hd' _ (by simp only [DataW.weights, Tryz.underlying22]; exact List.mem_cons_self))
      have h2 := of_decide_eq_true h1
      simp only [strs, List.length_map, List.length_take, List.length_drop, bytesS1] at h2
      unfold reachBytes at h2
      omega
    have hsz : ∀ s ∈ ss.take len, s.size ≤ 140737488351232 := fun s hs => by
      rw [hx] at hd
      have := List.all_eq_true.1 hz _ (DataW.weights_mem_each hj hd s.size (by simp only [DataW.weights, Tryz.underlying22, List.mem_cons, List.mem_append]; exact Or.inr (Or.inl (weights_strs _ s hs))))
      exact of_decide_eq_true this
    by_cases h0 : len = 0
    · subst h0
      exact ⟨0, 0, [], ⟨rfl, fun h => absurd h (Nat.lt_irrefl 0), (fun j v h => by cases h), (fun s h => by cases h)⟩, (fun s h => by cases h), Nat.zero_le _, hl, fun h => by cases h⟩
    · obtain ⟨b, off, spot⟩ := a
      have hspot : spot = none := by simpa [Addr.add] using World.cell?_spot (hcell 0 (by omega))
      subst hspot
      refine ⟨b, off, ss.take len, ⟨by rw [List.length_take]; omega, fun _ => rfl, fun j v hv => ?_, fun s hs => Nat.le_trans (hsz s hs) (by decide)⟩, hsz, by omega, hl, fun h => by cases h⟩
      have hj : j < len := by have := (List.getElem?_eq_some_iff.1 hv).1; rw [List.length_map, List.length_take] at this; omega
      have hc := hcell j (by omega)
      rw [Addr.add_mid] at hc
      rw [hc, ← hv]
      simp [hj, List.getD_eq_getElem?_getD, List.getElem?_eq_getElem (show j < ss.length by omega)]
theorem cellsA2s : Tryz.prog.cellsOf 41 = 2 := by kernel_rfl
theorem cellsAV : Tryz.prog.cellsOf 22 = 1 := by kernel_rfl
theorem twoCells {cs : Array Value} (h : cs.size = 2) : ∃ x y, cs = #[x, y] := by
  obtain ⟨l⟩ := cs
  match l, h with
  | [x, y], _ => exact ⟨x, y, rfl⟩
theorem twoL {α : Type} {l : List α} (h : l.length = 2) : ∃ x y, l = [x, y] := by
  match l, h with
  | [x, y], _ => exact ⟨x, y, rfl⟩
theorem isSlice {H : Type} {enc : TypeId × Value → H} {W : World} {fuel : Nat} {v : Value} {x : DataW H × List MemPlace} (hf : DataW.trod enc Tryz.prog W 0 (fun _ => true) true fuel 22 [v] = some x) : ∃ ao n c, v = .slice ao n c := by
  rcases open_strings Tryz.underlying22 Tryz.underlying9 cellsS1 hf with ⟨hcs, hx⟩ | ⟨a, len', cap', ss, hcs, _⟩
  · simp at hcs; exact ⟨_, _, _, hcs⟩
  · simp at hcs; exact ⟨_, _, _, hcs⟩
theorem openA2s {H : Type} {enc : TypeId × Value → H} {W : World} {fuel : Nat} {x y : Value} {z : DataW H × List MemPlace} (h : DataW.trod enc Tryz.prog W 0 (fun _ => true) true fuel 41 [x, y] = some z) (hw : ∀ u ∈ DataW.weights Tryz.prog 41 z.1, u ≤ reachBytes) :
    ∃ (pa : Option Addr) (pb po pn pc : Nat) (L : List ByteArray) (qa : Option Addr) (qb qo qn qc : Nat) (M : List ByteArray), x = .slice pa pn pc ∧ y = .slice qa qn qc ∧ RdS W pa pb po pn L ∧ (∀ s ∈ L, s.size ≤ 140737488351232) ∧ pn ≤ pc ∧ RdS W qa qb qo qn M ∧ (∀ s ∈ M, s.size ≤ 140737488351232) ∧ qn ≤ qc := by
  obtain ⟨xs, m, _, hze, _, hl, hf⟩ := DataW.trod_array Tryz.underlying41 h
  have h0 := hf 0 (by decide)
  have h1 := hf 1 (by decide)
  simp [cellsAV] at h0 h1
  have hl2 : xs.length = 2 := hl
  obtain ⟨z0, z1, rfl⟩ := twoL hl2
  · subst hze
    simp at h0 h1
    obtain ⟨pa, pn, pc, rfl⟩ := isSlice h0
    obtain ⟨qa, qn, qc, rfl⟩ := isSlice h1
    have hz : (DataW.weightsEach Tryz.prog [22, 22] [z0.1, z1.1]).all (· ≤ reachBytes) = true := List.all_eq_true.2 fun u hu => decide_eq_true (hw u (by
      simp only [DataW.weightsEach, List.mem_append] at hu
      simp only [DataW.weights, DataW.weightsAll, Tryz.underlying41, List.map_cons, List.map_nil, List.mem_append]
      exact hu))
    obtain ⟨pb, po, L, a1, a2, _, a4, _⟩ := sliceRdS (j := 0) h0 hz rfl rfl
    obtain ⟨qb, qo, M, b1, b2, _, b4, _⟩ := sliceRdS (j := 1) h1 hz rfl rfl
    exact ⟨pa, pb, po, pn, pc, L, qa, qb, qo, qn, qc, M, rfl, rfl, a1, a2, a4, b1, b2, b4⟩
theorem cellsT167 : Tryz.prog.cellsOf 167 = 64 := by kernel_rfl
theorem cellsT113 : Tryz.prog.cellsOf 113 = 8 := by kernel_rfl
theorem cellsT112 : Tryz.prog.cellsOf 112 = 1 := by kernel_rfl
theorem range_tab {W : World} {name : String} {l : List Int} {g : Nat} (h : Lib.TabIs Tryz.prog W name .u32 l) (hg : Tryz.prog.globalNamed name = some g) : W.rangeAt g 0 (cW l) := fun j v hv => by
  have hj : j < l.length := by have := (List.getElem?_eq_some_iff.1 hv).1; rwa [cW_len] at this
  have hc := h.cell hg j hj
  rw [Nat.zero_add, hc, ← hv]
  simp [cW, List.getD_eq_getElem?_getD, List.getElem?_eq_getElem hj]
theorem gn0 : Tryz.prog.globalNamed "massif/massifref01.first" = some 0 := by kernel_rfl
theorem gt0 : (Tryz.prog.globals[0]?).map (·.type) = some 113 := by kernel_rfl
theorem tab0 {W : World} (h0 : laidMetH Tryz.prog Rows.extractBeginsRow.laid W) : W.rangeAt 0 0 (cW IV) := by
  exact range_tab (Lib.tabIs_of_head (zs := IV) gn0 gt0 Tryz.underlying113 Tryz.underlying112 cellsT112 cellsT113 h0) gn0
theorem gn1 : Tryz.prog.globalNamed "massif/massifref01.rounds" = some 1 := by kernel_rfl
theorem gt1 : (Tryz.prog.globals[1]?).map (·.type) = some 167 := by kernel_rfl
theorem tab1 {W : World} (h0 : laidMetH Tryz.prog Rows.extractBeginsRow.laid W) : W.rangeAt 1 0 (cW RS) := by
  have h1 : laidMet Tryz.prog [("massif/massifref01.rounds", Rows.laid_massif_massifref01_rounds), ("massif/sha.rounds", Rows.laid_massif_sha_rounds)] W := laidMet.tail (h0 : laidMet Tryz.prog Rows.extractBeginsRow.laid W)
  exact range_tab (Lib.tabIs_of_head (zs := RS) gn1 gt1 Tryz.underlying167 Tryz.underlying112 cellsT112 cellsT167 h1) gn1
theorem gn2 : Tryz.prog.globalNamed "massif/sha.rounds" = some 2 := by kernel_rfl
theorem gt2 : (Tryz.prog.globals[2]?).map (·.type) = some 167 := by kernel_rfl
theorem tab2 {W : World} (h0 : laidMetH Tryz.prog Rows.extractBeginsRow.laid W) : W.rangeAt 2 0 (cW RS) := by
  have h1 : laidMet Tryz.prog [("massif/massifref01.rounds", Rows.laid_massif_massifref01_rounds), ("massif/sha.rounds", Rows.laid_massif_sha_rounds)] W := laidMet.tail (h0 : laidMet Tryz.prog Rows.extractBeginsRow.laid W)
  have h2 : laidMet Tryz.prog [("massif/sha.rounds", Rows.laid_massif_sha_rounds)] W := laidMet.tail h1
  exact range_tab (Lib.tabIs_of_head (zs := RS) gn2 gt2 Tryz.underlying167 Tryz.underlying112 cellsT112 cellsT167 h2) gn2
def layTab (l : List Int) : Obj → Obj
  | .cells _ t frozen => .cells (cW l).toArray t frozen
  | o => o
def withTabs (w : World) : World := { w with heap := (((w.heap.modify 0 (layTab IV)).modify 1 (layTab RS)).modify 2 (layTab RS)) }
theorem laid_met (os : Os) : laidMet Tryz.prog Rows.extractBeginsRow.laid ((withTabs (World.holding Tryz.prog os ⟨#[], #[], []⟩)).forCall (fun _ _ => 0) ⟨#[], #[.int .i64 0, .agg #[.slice none 0 0, .slice none 0 0], .string ByteArray.empty], []⟩).memory :=
  laidMet_of_run' 8 (by kernel_rfl) (by kernel_rfl)
theorem reads (os : Os) {H : Type} (enc : TypeId × Value → H) : ∃ places, DataW.whole enc Tryz.prog ((withTabs (World.holding Tryz.prog os ⟨#[], #[], []⟩)).forCall (fun _ _ => 0) ⟨#[], #[.int .i64 0, .agg #[.slice none 0 0, .slice none 0 0], .string ByteArray.empty], []⟩).memory Tryz.f4.params.toList Rows.extractBeginsSpec.vars false (#[.int .i64 0, .agg #[.slice none 0 0, .slice none 0 0], .string ByteArray.empty] : Array Value).toList 8 = some ([.lit (.int .i64 0), .agg [.nil, .nil], .lit (.string [])], [], places) :=
  ⟨[], by kernel_rfl⟩
set_option maxRecDepth 100000 in
theorem lifted (os : Os) (started : os.Started) (H : Type) (enc : TypeId × Value → H) (F : Stop.Interp) :
    ReturnsInHanded {} Tryz.checked os 4 .any ((OpenSpec.ofChange Rows.extractBeginsSpec).preRow enc Tryz.prog Tryz.f4 Rows.extractBeginsRow.domain false Rows.extractBeginsRow.laid) (((OpenSpec.ofChange Rows.extractBeginsSpec).at F).post enc Tryz.prog Tryz.f4 false true false false) := by
  obtain ⟨places, hx⟩ := reads os enc
  refine returnsInHanded_of_row (C := Tryz.checked) (s := OpenSpec.ofChange Rows.extractBeginsSpec) own started (by kernel_rfl) Tryz.func4
    (witness_row_at (enc := enc) (C := Tryz.checked) false (withTabs (World.holding Tryz.prog os ⟨#[], #[], []⟩)) #[.int .i64 0, .agg #[.slice none 0 0, .slice none 0 0], .string ByteArray.empty] rfl (by kernel_rfl) (by kernel_rfl) (by kernel_rfl)
      (OpenSpec.preRow_of_cond 8 hx (by kernel_rfl) (fun k hk => by cases hk) (by kernel_rfl) (laid_met os))) ?_
  intro W base args ds gs before hval0 hW0 _ _ hz0 hL _ _
  show Calls Tryz.prog 4 args W fun e W' => ∃ v, e = .returned v ∧ Rows.extractBeginsSpec.post enc Tryz.prog Tryz.f4 false true false false W args v W'
  have hW : DataW.Whole enc Tryz.prog Tryz.f4.params.toList Rows.extractBeginsSpec.vars false W args.toList ds gs before := hW0
  have hval : ∀ (j : Nat) t v, Tryz.f4.params[j]? = some t → args[j]? = some v → Value.okWide Tryz.prog W .any base t v := hval0
  have hW' := hW
  obtain ⟨p, q, hA0, hV, rfl, hfz, hnd⟩ := hW
  have hA : DataW.TrodAll enc Tryz.prog W 0 (fun _ => true) true Tryz.f4.params.toList args.toList ds p := hA0
  rw [Tryz.params4] at hA hval
  obtain ⟨v0, vs0, d0, ds0, p0, q0, hargs, rfl, rfl, h0, r0⟩ := trodAll_cons hA
  obtain ⟨v1, vs1, d1, ds1, p1, q1, rfl, rfl, rfl, h1, r1⟩ := trodAll_cons r0
  obtain ⟨v2, vs2, d2, ds2, p2, q2, rfl, rfl, rfl, h2, r2⟩ := trodAll_cons r1
  obtain ⟨rfl, rfl, rfl⟩ := trodAll_nil r2
  obtain rfl : args = #[v0, v1, v2] := by cases args; simp_all
  obtain ⟨rfl, rfl⟩ := trodVars_none hV
  have hz : (DataW.weightsEach Tryz.prog [3, 41, 9] [d0, d1, d2]).all (· ≤ reachBytes) = true := hz0
  clear hz0
  obtain ⟨a0, rfl, rfl, rfl, w0⟩ := open_int Tryz.underlying3 (hval 0 3 v0 rfl rfl) h0
  obtain ⟨cs1, rfl, hsz1, _⟩ : ∃ cs, v1 = .agg cs ∧ cs.size = Tryz.prog.cellsOf 41 ∧ Row.okWide Tryz.prog W .any base 41 cs := by
    have := hval 1 41 v1 rfl rfl
    simpa [Value.okWide, Tryz.underlying41] using this
  rw [cellsA2s] at hsz1
  have hk1 := h1
  obtain ⟨x1, y1, rfl⟩ := twoCells hsz1
  obtain ⟨fuel1, hf1⟩ := h1
  obtain ⟨pa1, pb1, po1, pn1, pc1, L1, qa1, qb1, qo1, qn1, qc1, M1, rfl, rfl, rp1, hp1, cp1, rq1, hq1, cq1⟩ := openA2s (by simpa [Value.cells] using hf1) (fun y hy => of_decide_eq_true (List.all_eq_true.1 hz y (DataW.weights_mem_each (j := 1) rfl rfl y hy)))
  obtain ⟨s2, rfl, rfl, rfl, ws2⟩ := Go.ChangeMaps.open_string Tryz.underlying9 (hval 2 9 v2 rfl rfl) h2
  clear hA0 hval0
  simp only [List.append_nil, List.nil_append] at hW'
  have ls2 : s2.size ≤ 140737488351232 := by have := sized_string hz (j := 2) rfl rfl; rw [Array.length_toList] at this; exact this
  have hlt1 : ∀ x ∈ p1, x.block < W.heap.size := fun x hx => by simpa using hW'.lt x hx
  have HT : Tb W := ⟨tab2 hL⟩
  have HR : Tr W := ⟨tab1 hL, tab0 hL⟩
  refine (begins_walk W HT HR a0 pa1 pb1 po1 pn1 pc1 L1 rp1 hp1 cp1 qa1 qb1 qo1 qn1 qc1 M1 rq1 hq1 cq1 s2 (by omega)).mono fun e W' ⟨he, hb⟩ => ?_
  subst he
  have hsh := trodAll_cons_mk (shut_int Tryz.underlying3 w0) (trodAll_cons_mk (Below.trod laidOut (by kernel_rfl) (of_decide_eq_true (by kernel_rfl)) hk1 hb hlt1) (trodAll_cons_mk (strShut enc _ _ s2 ws2) trodAll_mk0))
  simp only [List.append_nil, List.nil_append] at hsh
  exact ⟨_, rfl, _, _, _, [], p1, [], hW', trodAll_cons_mk (shut_bool Tryz.underlying4 _) trodAll_mk0, hsh, rfl, hb.frame _, fun h => by cases h⟩
theorem said : Rows.ExtractBeginsSaid :=
  OpenClaim.holds_of_cond 4 Tryz.f4 rfl rfl rfl rfl rfl rfl rfl ⟨rfl, rfl, rfl, rfl, rfl⟩ rfl rfl rfl rfl rfl (by kernel_rfl) Tryz.func4 (by kernel_rfl)
    (of_decide_eq_true (by kernel_rfl)) (by unfold Func.isWrapper; first | (rw [if_pos (by decide +kernel)]; kernel_rfl) | (rw [if_neg (by decide +kernel)]; exact ⟨rfl, rfl⟩))
    (fun os started H enc _ F => by rw [OpenClaim.pre_eq_preRow]; exact lifted os started H enc F)
theorem plain (f : FuncId) (fn : Func) (hf : Tryz.pinned.checked.prog.funcNamed "massif/massiflaw16.ExtractBegins" = some f) (hfn : Tryz.pinned.checked.prog.funcs[f]? = some fn) :
    true = Tryz.pinned.checked.prog.looks [] ∧ ∀ (j : Nat) t, fn.params[j]? = some t → Tryz.pinned.checked.prog.wantsStandIn t = false := by
  obtain rfl : f = 4 := Option.some.inj ((show Tryz.prog.funcNamed "massif/massiflaw16.ExtractBegins" = some 4 by kernel_rfl).symm.trans hf) |>.symm
  obtain rfl : fn = Tryz.f4 := (Option.some.inj (Tryz.func4.symm.trans hfn)).symm
  refine ⟨by kernel_rfl, fun j t ht => ?_⟩
  rw [Tryz.params4] at ht
  have hj : j < 3 := by have := (Array.getElem?_eq_some_iff.1 ht).1; simpa using this
  match j, hj, ht with
  | 0, _, ht => have e : some 3 = some t := ht; cases e; exact (show Tryz.prog.wantsStandIn 3 = false by kernel_rfl)
  | 1, _, ht => have e : some 41 = some t := ht; cases e; exact (show Tryz.prog.wantsStandIn 41 = false by kernel_rfl)
  | 2, _, ht => have e : some 9 = some t := ht; cases e; exact (show Tryz.prog.wantsStandIn 9 = false by kernel_rfl)
theorem card : Rows.ExtractBeginsCardSaid :=
  Claim7.holds_tied_plain_at .later [] _ _ _ _ said (fun _ h => by cases h) (by kernel_rfl) (fun _ h => by cases h) extractBegins_row_tie rfl ⟨rfl, rfl⟩ (by kernel_rfl) rfl plain (by kernel_rfl)
end Go.Proofs.YtdocjikpcbmcgaaGreatDoor.extractBegins
namespace Go.Proofs.YtdocjikpcbmcgaaGreatDoor
theorem extractBegins_holds : Rows.ExtractBeginsCardSaid := extractBegins.card
#print axioms extractBegins_holds
end Go.Proofs.YtdocjikpcbmcgaaGreatDoor
