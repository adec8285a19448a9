/- Own work. -/
import Derived.Laws.IdiomStrings
import Derived.Test.YtoblgjledefdbaaGreatDoorProg
import Derived.Deep.MidRow
import Derived.Below
import Derived.WalkKit
import Derived.WalkSpells
import Derived.Outline
import Derived.KernelRfl
import Derived.Deep.LoopGhost
import Derived.Deep.RegionHeld3
import Derived.Deep.RegionWith
import Derived.Deep.DrawnRows
import Derived.Deep.Light
import Derived.Laws.BitsAllLaws
import Derived.BigQuiet
import Derived.Test.YtoblgjledefdbaaGreatDoorQf35
namespace Go.Proofs.YtoblgjledefdbaaGreatDoor.Cv
open Pl
open Go.RowKit
attribute [local go_sem ↓] Go.wp_at_zero Go.wp_at_succ
theorem drop_get (l:List Nat) (j:Nat) (h:j<l.length):l.drop j=l.getD j 0::l.drop (j+1):=by
 rw [List.drop_eq_getElem_cons h,List.getD_eq_getElem?_getD,List.getElem?_eq_getElem h]; rfl
set_option maxHeartbeats 1000000 in
theorem eachrest_any {k B0 M:Nat} (hk:k=277∨k=230∨k=389) {I:(Nat→Prop)→List (Nat×Nat)→World→Prop} (G:Give k B0 M I) (hM:M≤4611686018427387904) (X:Nat→Prop) (acc:List (Nat×Nat)) (n:Nat) (w:World)
  (ao:Option Addr) (b off m cap:Nat) (l:List Nat) (hI:I X acc w) (hX : ∀ x,X x→x<w.heap.size) (hl:acc.length+100 * (m+1)+1000<M) (r:Rd w ao b off m l) (hb:0<m→b<B0) (hc:Chain 0 l n) (hn:n≤2^40) :
  Calls Tryz.prog 229 #[.int .u64 (n:Int),.slice ao m cap,gv k B0] w fun e w'=>e = .returned (.tuple #[])∧I X (acc++rst 0 n l) w'∧Below B0 w w' ∧ ∀ x,X x→w'.heap[x]? = w.heap[x]? := by
 have HS:Hid (I X acc w∧(∀ x,X x→x<w.heap.size)∧acc.length+100 * (m+1)+1000<M∧Rd w ao b off m l∧(0<m→b<B0)∧Chain 0 l n∧n≤2^40):=⟨hI,hX,hl,r,hb,hc,hn⟩
 have HM:Hid (M≤4611686018427387904):=hM
 clear hI hX hl r hb hc hn hM
 go_enter Tryz.func229,Tryz.ntmps229
 go_wp2
 go_loopg [6,8,11] m (fun g nx i8 ix wr => ∃ (j next:Nat) (acc':List (Nat×Nat)),j≤m∧g=m - j∧ix = .int .i64 (j:Int)∧nx = .int .u64 (next:Int)∧I X acc' wr∧acc'++rst next n (l.drop j)=acc++rst 0 n l∧Chain next (l.drop j) n∧Below B0 w wr∧(∀ x,X x→wr.heap[x]? = w.heap[x]?)∧acc'.length≤acc.length+80 * j)
 case atStart =>
  go_light
  exact ⟨0,0,acc,Nat.zero_le _,rfl,rfl,rfl,HS.out.1,rfl,HS.out.2.2.2.2.2.1,Below.refl _ _,fun _ _=>rfl,Nat.le_refl _⟩
 case round =>
  obtain ⟨j,next,acc',hj,rfl,rfl,rfl,hI',hacc,hch,hbl,hkp,hlen⟩:=hrel
  obtain ⟨s1,s2,s3,s4,s5,s6,s7⟩:=HS.out
  have hM9:=HM.out
  have hj0:(0:Int)≤(j:Int):=Int.natCast_nonneg _
  have hm9:(j:Int)≤4611686018427387904:=by omega
  clear hM9
  by_cases hlt:j<m
  ·have hlt':(j:Int)<(m:Int):=by omega
   have r':=s4.at hbl s5
   obtain rfl:=r'.addr (by omega)
   have cj:=r'.cell j hlt
   have hd:=drop_get l j (by have:=s4.len; omega)
   obtain ⟨x,hx⟩ : ∃ x,l.getD j 0=x:=⟨_,rfl⟩
   rw [hx] at cj hd
   rw [hd] at hacc hch
   obtain ⟨hnx,hch2⟩:=hch
   have hxn:=chain_le hch2
   have HE:=each_any hk G X acc' next x wr hI' (fun y hy=>Nat.lt_of_lt_of_le (s2 y hy) hbl.size) (by omega) hnx (by omega)
   have ex:IntKind.u64.wrap ((x:Int)+1)=(x:Int)+1:=by rw [IntKind.wrap_u64]; omega
   have HX:Hid (acc'++cov next x++rst (x+1) n (l.drop (j+1))=acc++rst 0 n l∧Chain (x+1) (l.drop (j+1)) n∧Below B0 w wr∧(∀ y,X y→wr.heap[y]? = w.heap[y]?)∧(acc'++cov next x).length≤acc.length+80 * (j+1)∧j+1≤m):=by
    refine ⟨by rw [List.append_assoc]; exact hacc,hch2,hbl,hkp,?_,hlt⟩
    have:=cov_len next x hnx (by omega)
    simp; omega
   clear hacc hch2 hbl hkp hlen hlt r' hd hx hnx hxn s1 s2 s3 s4 s5 s6 s7 hI' hj
   go_wp2_with (go_at_call 276; with_reducible refine HE.mono ?_; rintro e w1 ⟨rfl,hI1,hb1,hk1⟩)
   go_roundg (m - (j+1))
   case rel =>
    go_light
    obtain ⟨x1,x2,x3,x4,x5,x6⟩:=HX.out
    refine ⟨j+1,x+1,_,x6,rfl,by go_num,by go_num,hI1,x1,x2,x3.trans hb1,fun y hy=>(hk1 y hy).trans (x4 y hy),x5⟩
   case measure=>go_light; have:=HX.out.2.2.2.2.2; omega
  ·obtain rfl:j=m:=by omega
   have hlt' : ¬ (j:Int)<(j:Int):=by omega
   have hdn:l.drop j=[]:=List.drop_eq_nil_iff.2 (by have:=s4.len; omega)
   rw [hdn] at hacc hch
   have HE:=each_any hk G X acc' next n wr hI' (fun y hy=>Nat.lt_of_lt_of_le (s2 y hy) hbl.size) (by omega) hch s7
   have HX:Hid (acc'++cov next n=acc++rst 0 n l∧Below B0 w wr∧(∀ y,X y→wr.heap[y]? = w.heap[y]?)):=⟨hacc,hbl,hkp⟩
   clear hacc hbl hkp hlen hlt hdn s1 s2 s3 s4 s5 s6 s7 hI' hj hch
   go_wp2_with (go_at_call 276; with_reducible refine HE.mono ?_; rintro e w1 ⟨rfl,hI1,hb1,hk1⟩)
   go_end0
   obtain ⟨x1,x2,x3⟩:=HX.out
   rw [x1] at hI1
   exact ⟨rfl,hI1,x2.trans hb1,fun y hy=>(hk1 y hy).trans (x3 y hy)⟩
theorem rest_err (n e:Nat) (w:World) (ao:Option Addr) (b off m cap:Nat) (l:List Nat) (r:Rd w ao b off m l) (hm:m≤maxLen) (he:errS n l=e) (h0:e≠0) :
  Calls Tryz.prog 140 #[.int .u64 (n:Int),.slice ao m cap] w fun x w' => ∃ v,x = .returned (.tuple #[v,.int .i64 (e:Int)])∧OwnB w' w.heap.size v []∧Below w.heap.size w w':=by
 have HC:=check_any n w ao b off m cap l r hm
 rw [he] at HC
 have h0' : ¬ (e:Int)=0:=by omega
 clear he r hm
 go_enter Tryz.func140,Tryz.ntmps140
 go_wp2_with (go_at_call 228; with_reducible refine HC.mono ?_; rintro x w1 ⟨rfl,hb⟩)
 go_ret2
 exact ⟨_,rfl,World.ownsRow_nil _ _ _ _,hb⟩
theorem rest_ok (n:Nat) (w:World) (ao:Option Addr) (b off m cap:Nat) (l:List Nat) (r:Rd w ao b off m l) (hm:m≤5000) (he:errS n l=0) :
  Calls Tryz.prog 140 #[.int .u64 (n:Int),.slice ao m cap] w fun x w' => ∃ v,x = .returned (.tuple #[v,.int .i64 0])∧OwnB w' w.heap.size v (zl (rst 0 n l))∧Below w.heap.size w w':=by
 have HC:=check_any n w ao b off m cap l r (by unfold maxLen; omega)
 obtain ⟨g1,g2,g3,g4⟩:=errS_ok he
 rw [he] at HC
 have HE : ∀ w1,Below w.heap.size w w1→_:=fun w1 hb1=>eachrest_any (.inr (.inl rfl)) (give_rest w1.heap.size) (by decide) (fun _=>False) [] n (w1.alloc (.cells #[.slice none 0 0] 187)) ao b off m cap l (ia_new w1) (fun _ h=>h.elim) (by simp; omega) ((r.below hb1).below ((Below.refl _ w1).alloc (Nat.le_refl _) _)) (fun h=>Nat.lt_of_lt_of_le (r.lt h) hb1.size) g4 g1
 clear he r hm g1 g2 g3 g4
 go_enter Tryz.func140,Tryz.ntmps140
 go_upto_region 6 with (first
  | (go_at_call 228; with_reducible refine HC.mono ?_; rintro x w1 ⟨rfl,hb⟩; replace HE:=HE w1 hb)
  | (go_at_call 229; with_reducible refine HE.mono ?_; rintro x w2 ⟨rfl,hI,hb2,_⟩))
 obtain ⟨⟨v,h1,h2,_⟩,_⟩:=hI
 have c0:=cell_of_one h1
 obtain ⟨ao,m,c,rfl⟩:=own_slice h2
 have HF:Hid (OwnB w2 w.heap.size (.slice ao m c) (zl (rst 0 n l))∧Below w.heap.size w w2):=⟨by
  have:=h2.mono (base':=w.heap.size) (by have:=hb.size; omega)
  simpa using this,hb.trans ((((Below.refl _ w1).alloc (Nat.le_refl _) _).trans hb2).mono hb.size)⟩
 clear h1 h2 hb2 HE hb
 go_wp2
 go_ret2
 exact ⟨_,rfl,HF.out.1,HF.out.2⟩
theorem rest_any (n:Nat) (w:World) (ao:Option Addr) (b off m cap:Nat) (l:List Nat) (r:Rd w ao b off m l) (hm:m≤5000) :
  Calls Tryz.prog 140 #[.int .u64 (n:Int),.slice ao m cap] w fun x w' => ∃ v,x = .returned (.tuple #[v,.int .i64 (errS n l:Nat)])∧OwnB w' w.heap.size v (zl (rstS n l))∧Below w.heap.size w w':=by
 by_cases h:errS n l=0
 ·rw [rstS,if_pos h,h]; exact rest_ok n w ao b off m cap l r hm h
 ·rw [rstS,if_neg h]; exact rest_err n _ w ao b off m cap l r (by unfold maxLen; omega) rfl h
theorem ic_new (w:World):IC w.heap.size (fun _=>False) [] (w.alloc (.cells #[.int .u64 0] 48)):=⟨heap_new _ _,fun h=>h⟩
theorem count_err (n e:Nat) (w:World) (ao:Option Addr) (b off m cap:Nat) (l:List Nat) (r:Rd w ao b off m l) (hm:m≤maxLen) (he:errS n l=e) (h0:e≠0) :
  Calls Tryz.prog 323 #[.int .u64 (n:Int),.slice ao m cap] w fun x w'=>x = .returned (.tuple #[.int .u64 0,.int .i64 (e:Int)])∧Below w.heap.size w w':=by
 have HC:=check_any n w ao b off m cap l r hm
 rw [he] at HC
 have h0' : ¬ (e:Int)=0:=by omega
 clear he r hm
 go_enter Tryz.func323,Tryz.ntmps323
 go_wp2_with (go_at_call 228; with_reducible refine HC.mono ?_; rintro x w1 ⟨rfl,hb⟩)
 go_ret2
 exact ⟨rfl,hb⟩
theorem count_ok (n:Nat) (w:World) (ao:Option Addr) (b off m cap:Nat) (l:List Nat) (r:Rd w ao b off m l) (hm:m≤17592186044416) (he:errS n l=0) :
  Calls Tryz.prog 323 #[.int .u64 (n:Int),.slice ao m cap] w fun x w'=>x = .returned (.tuple #[.int .u64 ((rst 0 n l).length:Nat),.int .i64 0])∧Below w.heap.size w w':=by
 have HC:=check_any n w ao b off m cap l r (by unfold maxLen; omega)
 obtain ⟨g1,g2,g3,g4⟩:=errS_ok he
 rw [he] at HC
 have HE : ∀ w1,Below w.heap.size w w1→_:=fun w1 hb1=>eachrest_any (.inr (.inr rfl)) (give_count w1.heap.size) (by decide) (fun _=>False) [] n (w1.alloc (.cells #[.int .u64 0] 48)) ao b off m cap l (ic_new w1) (fun _ h=>h.elim) (by simp; omega) ((r.below hb1).below ((Below.refl _ w1).alloc (Nat.le_refl _) _)) (fun h=>Nat.lt_of_lt_of_le (r.lt h) hb1.size) g4 g1
 clear he r hm g1 g2 g3 g4
 go_enter Tryz.func323,Tryz.ntmps323
 go_upto_region 6 with (first
  | (go_at_call 228; with_reducible refine HC.mono ?_; rintro x w1 ⟨rfl,hb⟩; replace HE:=HE w1 hb)
  | (go_at_call 229; with_reducible refine HE.mono ?_; rintro x w2 ⟨rfl,hI,hb2,_⟩))
 have h1:=hI.at0
 rw [List.nil_append] at h1
 have c0:=cell_of_one h1
 have HF:Hid (Below w.heap.size w w2):=hb.trans ((((Below.refl _ w1).alloc (Nat.le_refl _) _).trans hb2).mono hb.size)
 clear h1 hI hb2 HE hb
 go_wp2
 go_ret2
 exact ⟨rfl,HF.out⟩
theorem count_any (n:Nat) (w:World) (ao:Option Addr) (b off m cap:Nat) (l:List Nat) (r:Rd w ao b off m l) (hm:m≤17592186044416) :
  Calls Tryz.prog 323 #[.int .u64 (n:Int),.slice ao m cap] w fun x w'=>x = .returned (.tuple #[.int .u64 ((rstS n l).length:Nat),.int .i64 (errS n l:Nat)])∧Below w.heap.size w w':=by
 by_cases h:errS n l=0
 ·rw [rstS,if_pos h,h]; exact count_ok n w ao b off m cap l r hm h
 ·rw [rstS,if_neg h]; exact count_err n _ w ao b off m cap l r (by unfold maxLen; omega) rfl h
theorem til_mem {A:Nat→Prop} {q:Nat} : ∀ {L:List (Nat×Nat)} {p:Nat},Til A q p L → ∀ b∈L,¬ All A (b.1+1) (b.2 / 2)∧(b.2+1) * pw b.1≤q:=by
 intro L
 induction L with
 | nil=>intro p _ b hb; cases hb
 | cons c L ih =>
  intro p h b hb
  rcases List.mem_cons.1 hb with rfl | hb
  ·exact ⟨h.2.2.2.2.1,h.2.1⟩
  ·exact ih h.2.2.2.2.2 b hb
end Go.Proofs.YtoblgjledefdbaaGreatDoor.Cv
namespace Go.Proofs.YtoblgjledefdbaaGreatDoor.Cv
open Pl
def inb (H K i:Nat):Bool:=decide (K * pw H≤i) && decide (i<(K+1) * pw H)
def tno:Nat→Nat→List Nat→List (Nat×Nat)
 | 0,K,S=>if (S.filter (inb 0 K)).length=0 then [(0,K)] else []
 | H+1,K,S=>if (S.filter (inb (H+1) K)).length=0 then [(H+1,K)] else tno H (2 * K) (S.filter (inb (H+1) K))++tno H (2 * K+1) (S.filter (inb (H+1) K))
theorem inb_iff {H K i:Nat} : inb H K i=true↔K * pw H≤i∧i<(K+1) * pw H:=by simp [inb]
theorem half_lo (H K:Nat):(2 * K) * pw H=K * pw (H+1):=(mul_half K H).symm
theorem half_mid (H K:Nat):(2 * K+1) * pw H=K * pw (H+1)+pw H:=by rw [Nat.add_mul,Nat.one_mul,half_lo]
theorem half_hi (H K:Nat):(2 * K+1+1) * pw H=(K+1) * pw (H+1):=by rw [show 2 * K+1+1=2 * (K+1) by omega,half_lo]
theorem blk_len (H K:Nat):(K+1) * pw (H+1)=K * pw (H+1)+pw H+pw H:=by rw [Nat.add_mul,Nat.one_mul,pw_succ]; omega
theorem til_blk {A:Nat→Prop} {H K:Nat} (ha:All A H K) (hp : ¬ All A (H+1) (K / 2)):Til A ((K+1) * pw H) (K * pw H) [(H,K)] :=
 ⟨Nat.le_refl _,Nat.le_refl _,fun i h1 h2=>by dsimp only at h2; omega,ha,hp,Nat.le_refl _,fun i h1 h2=>by dsimp only at h1; omega⟩
theorem tno_til (A:Nat→Prop) : ∀ H K (S:List Nat),(∀ i,K * pw H≤i→i<(K+1) * pw H→(A i↔i ∉ S)) → ¬ All A (H+1) (K / 2)→Til A ((K+1) * pw H) (K * pw H) (tno H K S):=by
 intro H
 induction H with
 | zero =>
  intro K S hA hp
  rw [tno]
  have e0:pw 0=1:=rfl
  split
  ·rename_i h
   refine til_blk (fun i h1 h2=>(hA i h1 h2).2 (fun hi => ?_)) hp
   have hm:i∈S.filter (inb 0 K):=List.mem_filter.2 ⟨hi,inb_iff.2 ⟨h1,h2⟩⟩
   rw [List.length_eq_zero_iff.1 h] at hm
   cases hm
  ·rename_i h
   refine ⟨by rw [e0]; omega,fun i h1 h2 hr=>h ?_⟩
   cases hm:S.filter (inb 0 K) with
   | nil=>rfl
   | cons s M =>
    have hs:s∈S.filter (inb 0 K):=by rw [hm]; exact List.mem_cons_self
    obtain ⟨g1,g2⟩:=List.mem_filter.1 hs
    obtain ⟨g3,g4⟩:=inb_iff.1 g2
    rw [e0] at *
    obtain rfl:i=s:=by omega
    exact absurd g1 ((hA i h1 h2).1 hr)
 | succ H ih =>
  intro K S hA hp
  rw [tno]
  have hb:=blk_len H K
  have hpp:=pw_pos H
  split
  ·rename_i h
   refine til_blk (fun i h1 h2=>(hA i h1 h2).2 (fun hi => ?_)) hp
   have hm:i∈S.filter (inb (H+1) K):=List.mem_filter.2 ⟨hi,inb_iff.2 ⟨h1,h2⟩⟩
   rw [List.length_eq_zero_iff.1 h] at hm
   cases hm
  ·rename_i h
   have hno : ¬ All A (H+1) K:=fun hall=>h (by
    cases hm:S.filter (inb (H+1) K) with
    | nil=>rfl
    | cons s M =>
     have hs:s∈S.filter (inb (H+1) K):=by rw [hm]; exact List.mem_cons_self
     obtain ⟨g1,g2⟩:=List.mem_filter.1 hs
     obtain ⟨g3,g4⟩:=inb_iff.1 g2
     exact absurd g1 ((hA s g3 g4).1 (hall s g3 g4)))
   have hM : ∀ i,K * pw (H+1)≤i→i<(K+1) * pw (H+1)→(A i↔i ∉ S.filter (inb (H+1) K)):=fun i h1 h2=>by
    rw [hA i h1 h2,List.mem_filter,inb_iff]
    exact ⟨fun h g=>h g.1,fun h g=>h ⟨g,h1,h2⟩⟩
   have e1:=half_lo H K
   have e2:=half_mid H K
   have e3:=half_hi H K
   have t1:=ih (2 * K) (S.filter (inb (H+1) K)) (fun i h1 h2=>hM i (by omega) (by omega)) (by rw [show 2 * K / 2=K by omega]; exact hno)
   have t2:=ih (2 * K+1) (S.filter (inb (H+1) K)) (fun i h1 h2=>hM i (by omega) (by omega)) (by rw [show (2 * K+1) / 2=K by omega]; exact hno)
   rw [half_hi] at t2
   rw [half_lo] at t1
   exact til_app t2 t1
theorem mt_til {A:Nat→Prop} {n:Nat} (t:Nat→Nat→List (Nat×Nat)) (ht : ∀ h k,(k+1) * pw h≤n → ¬ All A (h+1) (k / 2)→Til A ((k+1) * pw h) (k * pw h) (t h k)) (hn : ¬ A n) :
  ∀ h x,(∃ c,x=c * pw h)→n - x<pw h→x≤n→Til A n x ((dnL h x n).flatMap (fun b=>t b.1 b.2)):=by
 intro h
 induction h with
 | zero =>
  intro x _ h2 h3
  rw [pw_zero] at h2
  exact ⟨h3,fun i h5 h6=>by omega⟩
 | succ h ih =>
  intro x h1 h2 h3
  obtain ⟨c,hc⟩:=h1
  have hp:=pw_pos h
  have hps:=pw_succ h
  rw [mul_half] at hc
  rw [dnL]
  split
  ·rename_i hfit
   have hk:x / pw h=2 * c:=by rw [hc]; exact Nat.mul_div_cancel _ hp
   have e1:(2 * c+1) * pw h=x+pw h:=by rw [Nat.add_mul,Nat.one_mul,← hc]
   have e2:2 * c / 2=c:=by omega
   have e3:c * pw (h+1)=x:=by rw [mul_half]; exact hc.symm
   rw [hk,List.flatMap_cons]
   have t1:=ht h (2 * c) (by omega) (by rw [e2]; exact fun hall=>hn (hall n (by omega) (by rw [Nat.add_mul,Nat.one_mul,e3]; omega)))
   have t2:=ih (x+pw h) ⟨2 * c+1,e1.symm⟩ (by omega) (by omega)
   rw [← e1] at t2
   rw [← hc] at t1
   rw [← e1]
   exact til_app t2 t1
  ·exact ih x ⟨2 * c,hc⟩ (by omega) h3
theorem mt_all {A:Nat→Prop} {n:Nat} (t:Nat→Nat→List (Nat×Nat)) (ht : ∀ h k,(k+1) * pw h≤n → ¬ All A (h+1) (k / 2)→Til A ((k+1) * pw h) (k * pw h) (t h k)) (hn : ¬ A n) (h40:n≤2^40) :
    Til A n 0 ((dnL 41 0 n).flatMap (fun b=>t b.1 b.2)) :=
  mt_til t ht hn 41 0 ⟨0, by simp⟩ (by have : pw 41 = 2 ^ 41 := rfl
                                       omega) (Nat.zero_le _)
theorem par_sub (h k:Nat):k / 2 * pw (h+1)≤k * pw h∧(k+1) * pw h≤(k / 2+1) * pw (h+1):=by
 rw [mul_half,mul_half]
 exact ⟨Nat.mul_le_mul_right _ (by omega),Nat.mul_le_mul_right _ (by omega)⟩
theorem til_sub {A:Nat→Prop} {lo hi:Nat} (hA : ∀ j,lo≤j→j<hi→A j) (hl:lo=0 ∨ ¬ A (lo - 1)) (hh : ¬ A hi) : ∀ {L:List (Nat×Nat)} {p:Nat},lo≤p→Til (Rg lo hi) hi p L→Til A hi p L:=by
 intro L
 induction L with
 | nil=>intro p h1 h2; exact ⟨h2.1,fun i i1 i2=>absurd ⟨by omega,i2⟩ (h2.2 i i1 i2)⟩
 | cons b L ih =>
  intro p h1 h2
  obtain ⟨a1,a2,a3,a4,a5,a6⟩:=h2
  have hlt:=blk_lt b.1 b.2
  refine ⟨a1,a2,fun i i1 i2=>absurd ⟨by omega,by omega⟩ (a3 i i1 i2),fun i i1 i2=>hA i (by omega) (by omega),fun hall=>a5 (fun i i1 i2 => ?_),ih (by omega) a6⟩
  obtain ⟨p1,p2⟩:=par_sub b.1 b.2
  refine ⟨?_,?_⟩
  ·by_cases hlo:lo≤i
   ·exact hlo
   ·rcases hl with hl | hl
    ·omega
    ·exact absurd (hall (lo - 1) (by omega) (by omega)) hl
  ·by_cases hhi:i<hi
   ·exact hhi
   ·exact absurd (hall hi (by omega) (by omega)) hh
theorem chain_mem : ∀ {S:List Nat} {x n:Nat},Chain x S n → ∀ s∈S,x≤s∧s<n:=by
 intro S
 induction S with
 | nil=>intro x n _ s hs; cases hs
 | cons i S ih =>
  intro x n h s hs
  have h1:=h.1
  have h2:=chain_le h.2
  rcases List.mem_cons.1 hs with rfl | hs
  ·exact ⟨h1,by omega⟩
  ·have:=ih h.2 s hs; omega
theorem rst_til {A:Nat→Prop} {n:Nat} (hn:n≤2^40) : ∀ (S:List Nat) (x:Nat),(∀ i,x≤i→(A i↔i<n∧i ∉ S))→(x=0 ∨ ¬ A (x - 1))→Chain x S n→Til A n x (rst x n S):=by
  intro S
  induction S with
  | nil =>
    intro x hA hx hc
    have hc':x≤n:=hc
    exact til_sub (fun j j1 j2=>(hA j j1).2 ⟨j2,by simp⟩) hx (fun h=>by have:=((hA n hc').1 h).1; omega) (Nat.le_refl _) (cov_til x n hc' hn)
  | cons i S ih =>
    intro x hA hx hc
    obtain ⟨c1,c2⟩:=hc
    have hin:=chain_le c2
    have hni : ¬ A i:=fun h=>((hA i c1).1 h).2 List.mem_cons_self
    have t1:Til A i x (cov x i):=til_sub (fun j j1 j2=>(hA j j1).2 ⟨by omega,fun hj=>by
      rcases List.mem_cons.1 hj with rfl | hj
      · omega
      · have:=chain_mem c2 j hj; omega⟩) hx hni (Nat.le_refl _) (cov_til x i c1 (by omega))
    have t2:Til A n (i+1) (rst (i+1) n S):=ih (i+1) (fun j j1=>by
      rw [hA j (by omega)]
      refine ⟨fun h=>⟨h.1,fun hj=>h.2 (List.mem_cons_of_mem _ hj)⟩,fun h=>⟨h.1,fun hj => ?_⟩⟩
      rcases List.mem_cons.1 hj with rfl | hj
      · omega
      · exact h.2 hj) (.inr (by rw [Nat.add_sub_cancel]; exact hni)) c2
    exact til_app (til_pre t2 (Nat.le_succ i) (fun j j1 j2 => by obtain rfl : j = i := by omega
                                                                 exact hni)) t1
abbrev But (n:Nat) (S:List Nat):Nat→Prop:=fun i=>i<n∧i ∉ S
theorem rst_but (n:Nat) (S:List Nat) (hn:n≤2^40) (hc:Chain 0 S n):Til (But n S) n 0 (rst 0 n S):=rst_til hn S 0 (fun _ _=>Iff.rfl) (.inl rfl) hc
theorem rest_ref (n:Nat) (S:List Nat) (hn:n≤2^40) (hc:Chain 0 S n):rst 0 n S=(dnL 41 0 n).flatMap (fun b=>tno b.1 b.2 S) :=
 til_one (rst_but n S hn hc) (mt_all (fun h k=>tno h k S) (fun h k hk hp=>tno_til _ h k S (fun i _ i2=>⟨fun h=>h.2,fun h=>⟨by omega,h⟩⟩) hp) (fun h=>by have:=h.1; omega) hn)
theorem rst_len (n:Nat) (hn:n≤2^40) : ∀ (S:List Nat) (x:Nat),Chain x S n→(rst x n S).length≤80 * (S.length+1):=by
 intro S
 induction S with
 | nil=>intro x hc; exact cov_len x n hc hn
 | cons i S ih =>
  intro x hc
  have h1:=cov_len x i hc.1 (by have:=chain_le hc.2; omega)
  have h2:=ih (i+1) hc.2
  simp only [rst,List.length_append,List.length_cons]
  omega
theorem part_len (H K:Nat) : ∀ M:List Nat,(∀ i∈M,inb (H+1) K i=true)→(M.filter (inb H (2 * K))).length+(M.filter (inb H (2 * K+1))).length=M.length:=by
 have e1:=half_lo H K
 have e2:=half_mid H K
 have e3:=half_hi H K
 intro M
 induction M with
 | nil=>intro _; rfl
 | cons i M ih =>
  intro h
  have h1:=inb_iff.1 (h i List.mem_cons_self)
  have h2:=ih (fun j hj=>h j (List.mem_cons_of_mem _ hj))
  by_cases hm:i<(2 * K+1) * pw H
  ·have a1:inb H (2 * K) i=true:=inb_iff.2 ⟨by omega,hm⟩
   have a2:inb H (2 * K+1) i=false:=by
    cases hb:inb H (2 * K+1) i with
    | false=>rfl
    | true=>have:=(inb_iff.1 hb).1; omega
   rw [List.filter_cons_of_pos a1,List.filter_cons_of_neg (by rw [a2]; decide),List.length_cons,List.length_cons]; omega
  ·have a1:inb H (2 * K+1) i=true:=inb_iff.2 ⟨by omega,by omega⟩
   have a2:inb H (2 * K) i=false:=by
    cases hb:inb H (2 * K) i with
    | false=>rfl
    | true=>have:=(inb_iff.1 hb).2; omega
   rw [List.filter_cons_of_pos a1,List.filter_cons_of_neg (by rw [a2]; decide),List.length_cons,List.length_cons]; omega
theorem filter_twice (S:List Nat) (H K:Nat) : ∀ i∈S.filter (inb H K),inb H K i=true:=fun _ hi=>(List.mem_filter.1 hi).2
theorem tno_count : ∀ H K (S:List Nat),((S.filter (inb H K)).length=0→(tno H K S).length=1)∧((S.filter (inb H K)).length≠0→(tno H K S).length≤(S.filter (inb H K)).length * H):=by
 intro H
 induction H with
 | zero =>
  intro K S
  refine ⟨fun h=>by rw [tno,if_pos h]; rfl,fun h=>by rw [tno,if_neg h]; simp⟩
 | succ H ih =>
  intro K S
  refine ⟨fun h=>by rw [tno,if_pos h]; rfl,fun h => ?_⟩
  rw [tno,if_neg h,List.length_append]
  have hp:=part_len H K (S.filter (inb (H+1) K)) (filter_twice S (H+1) K)
  obtain ⟨l0,l1⟩:=ih (2 * K) (S.filter (inb (H+1) K))
  obtain ⟨r0,r1⟩:=ih (2 * K+1) (S.filter (inb (H+1) K))
  generalize ((S.filter (inb (H+1) K)).filter (inb H (2 * K))).length=a at *
  generalize ((S.filter (inb (H+1) K)).filter (inb H (2 * K+1))).length=b at *
  generalize (tno H (2 * K) (S.filter (inb (H+1) K))).length=x at *
  generalize (tno H (2 * K+1) (S.filter (inb (H+1) K))).length=y at *
  generalize (S.filter (inb (H+1) K)).length=c at *
  subst hp
  rw [Nat.mul_add,Nat.mul_one,Nat.add_mul]
  by_cases ha:a=0
  ·have:=l0 ha
   have hb:b≠0:=by omega
   have:=r1 hb
   subst ha
   omega
  ·have:=l1 ha
   by_cases hb:b=0
   ·have:=r0 hb
    subst hb
    omega
   ·have:=r1 hb
    omega
theorem chain_drop : ∀ {S:List Nat} {a n:Nat} (_:Chain a S n) (j:Nat),j<S.length→S.getD j 0<n∧a≤S.getD j 0 ∧ ∀ t,t<j→S.getD t 0<S.getD j 0:=by
 intro S
 induction S with
 | nil=>intro a n _ j hj; simp at hj
 | cons s r ih =>
  intro a n h j hj
  have hle:=chain_le h.2
  cases j with
  | zero=>exact ⟨by simp; omega,by simpa using h.1,fun t ht=>absurd ht (Nat.not_lt_zero t)⟩
  | succ j =>
   obtain ⟨g1,g2,g3⟩:=ih h.2 j (by simp at hj; omega)
   have h1:=h.1
   refine ⟨by simpa using g1,by simp; simp at g2; omega,fun t ht => ?_⟩
   cases t with
   | zero=>simp; simp at g2; omega
   | succ t=>have:=g3 t (by omega); simpa using this
theorem chain_inc {S:List Nat} {n:Nat} (h:Chain 0 S n) (h0:S≠[]) (hn:n≤2^40):errS n S=0:=by
 have hl:0<S.length:=List.length_pos_iff.2 h0
 have hi:Inc S:=⟨hl,fun i hi=>(chain_drop h (i+1) hi).2.2 i (by omega)⟩
 have hlast:=(chain_drop h (S.length - 1) (by omega)).1
 rw [errS,if_neg (by omega),if_neg (by rw [(incB_iff S).2 hi]; decide),if_neg (by omega)]
end Go.Proofs.YtoblgjledefdbaaGreatDoor.Cv
namespace Go.Proofs.YtoblgjledefdbaaGreatDoor
open Go.RowKit
open Cv (RdC zl cU)
attribute [local go_sem ↓] Go.wp_at_zero Go.wp_at_succ
theorem keep_row {w w':World} {B T s n:Nat} {x:Value} {cs:List Value} (h:w.ownsRow B T s x n cs) (hk : ∀ g,x.ownBlock=some g→B≤g→w'.heap[g]? = w.heap[g]?):w'.ownsRow B T s x n cs:=by
 obtain ⟨h1,h2⟩:=h
 refine ⟨h1,?_⟩
 rcases h2 with h2 | ⟨g,cap,cur,rfl,hg,hh,h3⟩
 ·exact .inl h2
 ·exact .inr ⟨g,cap,cur,rfl,hg,(hk g rfl hg).trans hh,h3⟩
structure ChT (S:Nat→Prop) (w w':World):Prop where
 os:w'.os=w.os
 tape:w'.tape=w.tape
 output:w'.output=w.output
 size:w'.heap.size=w.heap.size
 block : ∀ b,¬ S b→w'.heap[b]? = w.heap[b]?
theorem ChT.refl (S:Nat→Prop) (w:World):ChT S w w:=⟨rfl,rfl,rfl,rfl,fun _ _=>rfl⟩
theorem ChT.set {S:Nat→Prop} {w w':World} (h:ChT S w w') (b i:Nat) (v:Value) (hb:S b):ChT S w (w'.setCell ⟨b,i,none⟩ v):=by
 have h0:=(Below.refl 0 w').setCell (p:=⟨b,i,none⟩) (Nat.zero_le _) v
 refine ⟨h0.os.trans h.os,h0.tape.trans h.tape,h0.output.trans h.output,by rw [← h.size]; simp,fun c hc => ?_⟩
 rw [← h.block c hc]
 exact Below.heap_setCell _ _ _ _ (by show c≠b; rintro rfl; exact hc hb)
def Six (w:World) (s:Nat) (a b c d e f:Value):Prop:=w.heap[s]? = some (.cells #[a,b,c,d,e,f] 138 (0,0))
section
variable {w W:World} {s:Nat} {a b c d e f:Value}
theorem Six.cells (h:Six w s a b c d e f):w.cell? ⟨s,0,none⟩=some a∧w.cell? ⟨s,1,none⟩=some b∧w.cell? ⟨s,2,none⟩=some c∧w.cell? ⟨s,3,none⟩=some d∧w.cell? ⟨s,4,none⟩=some e∧w.cell? ⟨s,5,none⟩=some f :=
 ⟨by rw [cell_of_row w s 0 _ _ (0,0) h]; rfl,by rw [cell_of_row w s 1 _ _ (0,0) h]; rfl,by rw [cell_of_row w s 2 _ _ (0,0) h]; rfl,by rw [cell_of_row w s 3 _ _ (0,0) h]; rfl,by rw [cell_of_row w s 4 _ _ (0,0) h]; rfl,by rw [cell_of_row w s 5 _ _ (0,0) h]; rfl⟩
theorem Six.fz (h:Six w s a b c d e f) (j:Nat):w.frozen? ⟨s,j,none⟩=false:=frozen_of_row w s j _ _ h
theorem Six.lt (h:Six w s a b c d e f):s<w.heap.size:=(Array.getElem?_eq_some_iff.1 h).1
theorem Six.same (h:Six w s a b c d e f) (hb:W.heap[s]? = w.heap[s]?):Six W s a b c d e f:=hb.trans h
theorem Six.next (h:Six w s a b c d e f) (hb:Below w.heap.size w W):Six W s a b c d e f:=h.same (hb.block s h.lt)
theorem six_new (w:World) (a b c d e f:Value):Six (w.alloc (.cells #[a,b,c,d,e,f] 138)) w.heap.size a b c d e f:=heap_alloc_new w _
def put6 (w:World) (s:Nat) (a b c d e f:Value):World:=(((((w.setCell ⟨s,0,none⟩ a).setCell ⟨s,1,none⟩ b).setCell ⟨s,2,none⟩ c).setCell ⟨s,3,none⟩ d).setCell ⟨s,4,none⟩ e).setCell ⟨s,5,none⟩ f
theorem Six.put (h:Six w s a b c d e f) (a' b' c' d' e' f':Value):Six (put6 w s a' b' c' d' e' f') s a' b' c' d' e' f':=by
 have h0:=heap_setCell_same w s 0 _ _ a' h
 have h1:=heap_setCell_same _ s 1 _ _ b' h0
 have h2:=heap_setCell_same _ s 2 _ _ c' h1
 have h3:=heap_setCell_same _ s 3 _ _ d' h2
 have h4:=heap_setCell_same _ s 4 _ _ e' h3
 exact heap_setCell_same _ s 5 _ _ f' h4
theorem put6_ch (w:World) (s:Nat) (a b c d e f:Value):ChT (fun x=>x=s) w (put6 w s a b c d e f) :=
 ((((((ChT.refl (fun x=>x=s) w).set s 0 a rfl).set s 1 b rfl).set s 2 c rfl).set s 3 d rfl).set s 4 e rfl).set s 5 f rfl
end
theorem ChT.below {S:Nat→Prop} {w w':World} (h:ChT S w w') {B:Nat} (hS : ∀ b,S b→B≤b):Below B w w' :=
 ⟨h.os,h.tape,h.output,Nat.le_of_eq h.size.symm,fun b hb=>h.block b fun hs=>by have:=hS b hs; omega⟩
structure RdU (w:World) (ao:Option Addr) (b off len:Nat) (l:List Nat):Prop where
 hl:l.length=len
 ptr:0<len→ao=some ⟨b,off,none⟩
 rng:w.rangeAt b off (cU l)
theorem RdU.at {w:World} {ao:Option Addr} {b off len:Nat} {l:List Nat} (h:RdU w ao b off len l) {j:Nat} (hj:j<len):w.cell? ⟨b,off+j,none⟩=some (.int .u64 (l.getD j 0:Nat)) :=
 h.rng j _ (by have:=h.hl; simp [List.getElem?_eq_getElem (show j<l.length by omega),List.getD_eq_getElem?_getD])
theorem RdU.next {w W:World} {ao:Option Addr} {b off len:Nat} {l:List Nat} (h:RdU w ao b off len l) (hb:Below w.heap.size w W):RdU W ao b off len l:=by
 refine ⟨h.hl,h.ptr,fun j v hv => ?_⟩
 have:=h.rng j v hv
 exact (hb.cell (World.block_lt_of_cell? w _ this)).trans this
theorem rdu_rdc {w:World} {ao:Option Addr} {b off len cap:Nat} {l:List Nat} (h:RdU w ao b off len l) (hn:ao=none→cap=0):RdC w (.slice ao len cap) len (cU l):=by
 refine ⟨ao,cap,rfl,fun e=>⟨?_,hn e⟩,fun ad ha j c hj => ?_⟩
 ·apply Classical.byContradiction
  intro h0
  have:=h.ptr (by omega)
  rw [e] at this
  cases this
 ·have hj':j<len:=by have:=(List.getElem?_eq_some_iff.1 hj).1; rw [List.length_map,h.hl] at this; exact this
  have:=h.ptr (by omega)
  rw [ha] at this
  cases this
  rw [Addr.add_mid]
  exact h.rng j c hj
theorem ownU_form {w:World} {B:Nat} {v:Value} {l:List Nat} (h:Cv.Own w B v l) (h0:0<l.length) : ∃ g cap,v = .slice (some ⟨g,0,none⟩) l.length cap∧B≤g∧l.length≤cap∧cap≤maxLen∧g<w.heap.size:=by
 obtain ⟨h1,h2⟩:=h
 rcases h2 with ⟨_,h2⟩ | ⟨g,cap,cur,hv,hg,hh,hc,hm,_⟩
 ·omega
 ·exact ⟨g,cap,hv,hg,hc,hm,(Array.getElem?_eq_some_iff.1 hh).1⟩
theorem own_rdu {w:World} {B g n c:Nat} {l l':List Nat} (o:Cv.Own w B (.slice (some ⟨g,0,none⟩) n c) (l++l')):RdU w (some ⟨g,0,none⟩) g 0 l.length l :=
 ⟨rfl,fun _=>rfl,fun t v hv=>by
  have:=o.cells (g:=g) rfl t v (by rw [show cU (l++l')=cU l++cU l' from List.map_append,List.getElem?_append_left (by have:=(List.getElem?_eq_some_iff.1 hv).1; simpa using this)]; exact hv)
  rwa [Addr.add_mid] at this⟩
section
variable {q:Nat} {w w1 w2:World}
end
end Go.Proofs.YtoblgjledefdbaaGreatDoor
namespace Go.Proofs.YtoblgjledefdbaaGreatDoor
def num (n:Nat):List UInt8:=if n<128 then [UInt8.ofNat n] else UInt8.ofNat (n % 128+128)::num (n / 128)
termination_by n
decreasing_by omega
theorem num_low {n:Nat} (h:n<128):num n=[UInt8.ofNat n]:=by rw [num,if_pos h]
theorem num_high {n:Nat} (h:128≤n):num n=UInt8.ofNat (n % 128+128)::num (n / 128):=by rw [num,if_neg (by omega)]
def scan:List UInt8→Nat→Nat→Nat×Nat×Nat
 | [],_,_=>(0,60,0)
 | b::r,i,n =>
  if i=9∧1<b.toNat then (0,61,0)
  else if b.toNat<128 then (if b.toNat=0∧0<i then (0,61,0) else (n+b.toNat * 128^i,0,i+1))
  else scan r (i+1) (n+(b.toNat % 128) * 128^i)
theorem ofNat_toNat {x:Nat} (h:x<256):(UInt8.ofNat x).toNat=x:=by
 rw [UInt8.toNat_ofNat']; exact Nat.mod_eq_of_lt h
theorem pow_le9 {i:Nat} (h:i≤9):128^i≤128^9:=Nat.pow_le_pow_right (by decide) h
theorem scan_num (t:List UInt8) : ∀ (m i acc:Nat),acc<128^i→acc+m * 128^i<2^64→i≤9→(i=0∨0<m) →
  scan (num m++t) i acc=(acc+m * 128^i,0,i+(num m).length):=by
 intro m
 induction m using Nat.strongRecOn with
 | _ m ih =>
  intro i acc ha hn hi h0
  by_cases h:m<128
  ·rw [num_low h,List.singleton_append,scan,ofNat_toNat (by omega)]
   have h1 : ¬(i=9∧1<m):=by
    rintro ⟨rfl,h1⟩
    have:2 * 128^9≤m * 128^9:=Nat.mul_le_mul_right _ h1
    have e:2 * 128^9=2^64:=by decide
    omega
   rw [if_neg h1,if_pos h,if_neg (by omega)]
   rfl
  ·rw [num_high (by omega),List.cons_append,scan,ofNat_toNat (by omega)]
   have h1:i≠9:=by
    rintro rfl
    have:128 * 128^9≤m * 128^9:=Nat.mul_le_mul_right _ (by omega)
    have e:2^64≤128 * 128^9:=by decide
    omega
   rw [if_neg (by omega),if_neg (by omega)]
   have hs:acc+(m % 128+128) % 128 * 128^i+m / 128 * 128^(i+1)=acc+m * 128^i:=by
    rw [Nat.add_mod_right,Nat.mod_mod,Nat.pow_succ,Nat.mul_comm (128^i),← Nat.mul_assoc,Nat.add_assoc,← Nat.add_mul,Nat.mod_add_div']
   have hlt:acc+(m % 128+128) % 128 * 128^i<128^(i+1):=by
    rw [Nat.add_mod_right,Nat.mod_mod,Nat.pow_succ]
    have:m % 128 * 128^i≤127 * 128^i:=Nat.mul_le_mul_right _ (by omega)
    omega
   rw [ih (m / 128) (by omega) (i+1) _ hlt (by rw [hs]; exact hn) (by omega) (.inr (by omega)),hs,List.length_cons]
   exact congrArg (fun x=>(acc+m * 128^i,0,x)) (by omega)
theorem scan_back : ∀ (l:List UInt8) (i acc n k:Nat),acc<128^i→i≤9→scan l i acc=(n,0,k) →
  ∃ m,n=acc+m * 128^i∧num m=l.take (k - i)∧i<k∧k≤10∧k - i≤l.length∧(0<i→0<m)∧n<2^64:=by
 intro l
 induction l with
 | nil=>intro i acc n k _ _ h; simp [scan] at h
 | cons b r ih =>
  intro i acc n k ha hi h
  rw [scan] at h
  by_cases h1:i=9∧1<b.toNat
  ·rw [if_pos h1] at h; simp at h
  ·rw [if_neg h1] at h
   by_cases h2:b.toNat<128
   ·rw [if_pos h2] at h
    by_cases h3:b.toNat=0∧0<i
    ·rw [if_pos h3] at h; simp at h
    ·rw [if_neg h3] at h
     simp only [Prod.mk.injEq,true_and] at h
     obtain ⟨rfl,rfl⟩:=h
     refine ⟨b.toNat,rfl,?_,by omega,by omega,by simp,by omega,?_⟩
     ·rw [num_low h2,Nat.add_sub_cancel_left]
      simp
     ·have e9:(128:Nat)^9=9223372036854775808:=by decide
      rcases Nat.lt_or_ge i 9 with h9 | h9
      ·have hp:128^(i+1)≤128^9:=pow_le9 (by omega)
       have:b.toNat * 128^i≤127 * 128^i:=Nat.mul_le_mul_right _ (by omega)
       rw [Nat.pow_succ] at hp
       omega
      ·obtain rfl:i=9:=by omega
       have:b.toNat * 128^9≤1 * 128^9:=Nat.mul_le_mul_right _ (by omega)
       omega
   ·rw [if_neg h2] at h
    have h9:i≠9:=by omega
    have hlt:acc+b.toNat % 128 * 128^i<128^(i+1):=by
     rw [Nat.pow_succ]
     have:b.toNat % 128 * 128^i≤127 * 128^i:=Nat.mul_le_mul_right _ (by omega)
     omega
    obtain ⟨m,rfl,h4,h5,h6,h7,h8,h10⟩:=ih (i+1) _ n k hlt (by omega) h
    have hm:=h8 (by omega)
    have hb:=b.toNat_lt
    refine ⟨b.toNat % 128+128 * m,?_,?_,by omega,h6,by simp; omega,by omega,h10⟩
    ·rw [Nat.add_mul,Nat.pow_succ,Nat.mul_comm (128^i),← Nat.mul_assoc,Nat.mul_comm m,Nat.add_assoc]
    ·rw [num_high (by omega),show (b.toNat % 128+128 * m) / 128=m by omega,h4,show (b.toNat % 128+128 * m) % 128+128=b.toNat by omega,
      show k - i=(k - (i+1))+1 by omega,List.take_succ_cons]
     simp
theorem num_len {n:Nat} (h:n<2^64):(num n).length≤10:=by
 have:=scan_num [] n 0 0 (by decide) (by simpa using h) (by omega) (.inl rfl)
 obtain ⟨m,h1,h2,h3,h4,h5,_⟩:=scan_back _ 0 0 _ _ (by decide) (by omega) this
 omega
end Go.Proofs.YtoblgjledefdbaaGreatDoor
namespace Go.Proofs.YtoblgjledefdbaaGreatDoor
open Go.RowKit
attribute [local go_sem ↓] Go.wp_at_zero Go.wp_at_succ
theorem hideC {q:Prop} (h:q):Hid q:=h
end Go.Proofs.YtoblgjledefdbaaGreatDoor
