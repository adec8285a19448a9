/- Own work. -/
import Derived.Test.YtoblgjledefdbaaGreatDoorQa31
namespace Go.Proofs.YtoblgjledefdbaaGreatDoor.Cv
open Pl
open Go.RowKit
attribute [local go_sem ↓] Go.wp_at_zero Go.wp_at_succ
structure Rd (w:World) (ao:Option Addr) (b off n:Nat) (l:List Nat):Prop where
 len:l.length=n
 addr:0<n→ao=some ⟨b,off,none⟩
 cell : ∀ j,j<n→w.cell? ⟨b,off+j,none⟩=some (.int .u64 (l.getD j 0:Nat))
theorem Rd.below {w w':World} {ao:Option Addr} {b off n:Nat} {l:List Nat} (r:Rd w ao b off n l) (h:Below w.heap.size w w'):Rd w' ao b off n l :=
 ⟨r.len,r.addr,fun j hj=>(h.cell (p:=⟨b,off+j,none⟩) (World.block_lt_of_cell? w _ (r.cell j hj))).trans (r.cell j hj)⟩
theorem Rd.lt {w:World} {ao:Option Addr} {b off n:Nat} {l:List Nat} (r:Rd w ao b off n l) (h:0<n):b<w.heap.size:=World.block_lt_of_cell? w ⟨b,off+0,none⟩ (r.cell 0 h)
theorem Rd.at {w w':World} {ao:Option Addr} {b off n B:Nat} {l:List Nat} (r:Rd w ao b off n l) (h:Below B w w') (hb:0<n→b<B):Rd w' ao b off n l :=
 ⟨r.len,r.addr,fun j hj=>(World.cell?_of_block (h.block b (hb (by omega)))).trans (r.cell j hj)⟩
def Inc (l:List Nat):Prop:=0<l.length ∧ ∀ i,i+1<l.length→l.getD i 0<l.getD (i+1) 0
def incB (l:List Nat):Bool:=decide (0<l.length) && (List.range (l.length - 1)).all (fun i=>decide (l.getD i 0<l.getD (i+1) 0))
theorem incB_iff (l:List Nat):incB l=true↔Inc l:=by
 unfold incB Inc
 rw [Bool.and_eq_true,decide_eq_true_iff,List.all_eq_true]
 constructor
 ·rintro ⟨h1,h2⟩
  exact ⟨h1,fun i hi=>by simpa using h2 i (List.mem_range.2 (by omega))⟩
 ·rintro ⟨h1,h2⟩
  exact ⟨h1,fun i hi=>by have:=List.mem_range.1 hi; simpa using h2 i (by omega)⟩
def Chain:Nat→List Nat→Nat→Prop
 | x,[],n=>x≤n
 | x,i::S,n=>x≤i∧Chain (i+1) S n
theorem chain_le : ∀ {S:List Nat} {x n:Nat},Chain x S n→x≤n:=by
 intro S
 induction S with
 | nil=>intro x n h; exact h
 | cons i S ih=>intro x n h; have:=ih h.2; have:=h.1; omega
theorem chain_of : ∀ (l:List Nat) (x n:Nat),(∀ i,i+1<l.length→l.getD i 0<l.getD (i+1) 0)→(0<l.length→x≤l.getD 0 0)→(0<l.length→l.getD (l.length - 1) 0<n)→x≤n→Chain x l n:=by
 intro l
 induction l with
 | nil=>intro x n _ _ _ h; exact h
 | cons a l ih =>
  intro x n h1 h2 h3 h4
  refine ⟨by simpa using h2 (by simp),ih (a+1) n (fun i hi => ?_) (fun h => ?_) (fun h => ?_) ?_⟩
  ·have:=h1 (i+1) (by simp; omega)
   simpa using this
  ·have:=h1 0 (by simp; omega)
   simp at this ⊢
   omega
  ·have:=h3 (by simp)
   rw [show (a::l).length - 1=(l.length - 1)+1 by simp; omega] at this
   simpa using this
  ·cases l with
   | nil=>have:=h3 (by simp); simp at this; omega
   | cons b l =>
    have h5 : ∀ j,j<(b::l).length→a<(a::b::l).getD (j+1) 0:=fun j=>by
     induction j with
     | zero=>intro _; have:=h1 0 (by simp); simpa using this
     | succ j ihj=>intro hj; have g1:=ihj (by omega); have g2:=h1 (j+1) (by simp at *; omega); omega
    have h6:=h5 l.length (by simp)
    have h7:=h3 (by simp)
    simp only [List.length_cons,Nat.add_sub_cancel] at h7
    omega
def errS (n:Nat) (l:List Nat):Nat:=if 2^40<n then 30 else if incB l=false then 40 else if n≤l.getD (l.length - 1) 0 then 31 else 0
def rstS (n:Nat) (l:List Nat):List (Nat×Nat):=if errS n l=0 then rst 0 n l else []
theorem errS_ok {n:Nat} {l:List Nat} (h:errS n l=0):n≤2^40∧Inc l∧l.getD (l.length - 1) 0<n∧Chain 0 l n:=by
 unfold errS at h
 split at h
 ·cases h
 ·rename_i h1
  split at h
  ·cases h
  ·rename_i h2
   split at h
   ·cases h
   ·rename_i h3
    have hi:Inc l:=(incB_iff l).1 (by cases hb:incB l with
     | true=>rfl
     | false=>exact absurd hb h2)
    exact ⟨by omega,hi,by omega,chain_of l 0 n hi.2 (fun _=>Nat.zero_le _) (fun _=>by omega) (Nat.zero_le _)⟩
theorem rises_any (w:World) (ao:Option Addr) (b off n cap:Nat) (l:List Nat) (r:Rd w ao b off n l) (hn:n≤maxLen) :
  Calls Tryz.prog 320 #[.slice ao n cap] w fun e w'=>e = .returned (.bool (incB l))∧Below w.heap.size w w':=by
 have hn':(n:Int)≤9223372036854775807:=by unfold maxLen at hn; omega
 have HR:Hid (Rd w ao b off n l):=r
 clear hn r
 go_enter Tryz.func320,Tryz.ntmps320
 go_wp2
 go_loopg [3] n (fun g i wr => ∃ k:Nat,(k≤n∨k=1)∧1≤k∧g=n+1 - k∧i = .int .i64 (k:Int)∧(∀ j,j+1<k→l.getD j 0<l.getD (j+1) 0)∧Below w.heap.size w wr)
 case atStart =>
  go_light
  exact ⟨1,.inr rfl,Nat.le_refl _,by omega,rfl,fun j hj=>absurd hj (by omega),Below.refl _ _⟩
 case round =>
  obtain ⟨k,hk,hk1,rfl,rfl,he,hb⟩:=hrel
  have hk0:(0:Int)≤(k:Int):=Int.natCast_nonneg _
  by_cases hlt:k<n
  ·obtain ⟨i,rfl⟩ : ∃ i,k=i+1:=⟨k - 1,by omega⟩
   have r1:=HR.out.below hb
   obtain rfl:=r1.addr (by omega)
   have c1:=r1.cell (i+1) hlt
   have c2:=r1.cell i (by omega)
   have hz:((i+1:Nat):Int)<(n:Int):=by omega
   have ei:(((i+1:Nat):Int) - 1)=(i:Int):=by omega
   have ec:((i+1:Nat):Int)=(i:Int)+1:=by omega
   have hz2:(i:Int)+1<(n:Int):=by omega
   have hz3:(i:Int)<(n:Int):=by omega
   have hi0:(0:Int)≤(i:Int):=Int.natCast_nonneg _
   have hi1:(0:Int)≤(i:Int)+1:=by omega
   have HB:Hid (Below w.heap.size w wr):=hb
   have HE:Hid (∀ j,j+1<i+1→l.getD j 0<l.getD (j+1) 0):=he
   have HI:Hid (¬ l.getD i 0<l.getD (i+1) 0→incB l=false):=fun hno=>by
    cases hB:incB l with
    | false=>rfl
    | true=>exact absurd (((incB_iff l).1 hB).2 i (by have:=HR.out.len; omega)) hno
   obtain ⟨x,hx⟩ : ∃ x,l.getD (i+1) 0=x:=⟨_,rfl⟩
   obtain ⟨y,hy⟩ : ∃ y,l.getD i 0=y:=⟨_,rfl⟩
   rw [hx] at c1
   rw [hy] at c2
   rw [hx,hy] at HI
   have HX:Hid (l.getD (i+1) 0=x∧l.getD i 0=y):=⟨hx,hy⟩
   have hlt2:i+1<n:=hlt
   clear hx hy r1 hb he hk hlt
   by_cases hxy:x≤y
   ·have HN:Hid (incB l=false):=HI.out (by omega)
    go_wp2
    go_quiet (fail)
    go_wp2
    go_ret
    exact ⟨by rw [HN.out]; rfl,below_drewN HB.out _⟩
   ·go_wp2
    go_quiet (fail)
    go_wp2
    go_roundg (n+1 - (i+1+1))
    case rel =>
     go_light
     refine ⟨i+1+1,by omega,by omega,rfl,by go_num,fun j hj => ?_,below_drewN HB.out _⟩
     by_cases hjk:j=i
     ·subst hjk; rw [HX.out.1,HX.out.2]; omega
     ·exact HE.out j (by omega)
    case measure=>go_light; omega
  ·have hz : ¬ (k:Int)<(n:Int):=by omega
   have hz' : ¬ k<n:=by omega
   have HN:Hid (decide ((0:Int)<(n:Int))=incB l):=by
    have hl:=HR.out.len
    cases hB:incB l with
    | true=>have:=((incB_iff l).1 hB).1; exact decide_eq_true (by omega)
    | false =>
     refine decide_eq_false (fun hp => ?_)
     have:incB l=true:=(incB_iff l).2 ⟨by omega,fun i hi=>he i (by omega)⟩
     rw [this] at hB; cases hB
   have HB:Hid (Below w.heap.size w wr):=hb
   clear he hb hk
   go_wp2
   go_ret
   refine ⟨?_,HB.out⟩
   have:=HN.out
   simp at this ⊢
   exact this
theorem check_any (m:Nat) (w:World) (ao:Option Addr) (b off n cap:Nat) (l:List Nat) (r:Rd w ao b off n l) (hn:n≤maxLen) :
  Calls Tryz.prog 228 #[.int .u64 (m:Int),.slice ao n cap] w fun e w'=>e = .returned (.int .i64 (errS m l:Nat))∧Below w.heap.size w w':=by
 have HR:=rises_any w ao b off n cap l r hn
 have hn':(n:Int)≤9223372036854775807:=by unfold maxLen at hn; omega
 by_cases h1:2^40<m
 ·have ht:decide ((1099511627776:Int)<(m:Int))=true:=decide_eq_true (by omega)
  have he:errS m l=30:=by rw [errS,if_pos h1]
  rw [he]
  clear h1 he
  go_enter Tryz.func228,Tryz.ntmps228
  go_wp2
  go_ret
  exact ⟨rfl,Below.refl _ _⟩
 ·have ht:decide ((1099511627776:Int)<(m:Int))=false:=decide_eq_false (by omega)
  cases h2:incB l with
  | false =>
   have he:errS m l=40:=by rw [errS,if_neg h1,if_pos h2]
   rw [he]
   rw [h2] at HR
   clear h1 he
   go_enter Tryz.func228,Tryz.ntmps228
   go_wp2_with (go_at_call 320; with_reducible refine HR.mono ?_; rintro e w1 ⟨rfl,hb⟩)
   go_ret
   exact ⟨rfl,hb⟩
  | true =>
   have h3:=(incB_iff l).1 h2
   have hl:=r.len
   rw [h2] at HR
   obtain ⟨j,rfl⟩ : ∃ j,n=j+1:=⟨n - 1,by have:=h3.1; omega⟩
   obtain rfl:=r.addr (by omega)
   have hc:=r.cell j (by omega)
   have e1:(((j+1:Nat):Int) - 1)=(j:Int):=by omega
   have e2:((j+1:Nat):Int)=(j:Int)+1:=by omega
   have hz1:(j:Int)<(j:Int)+1:=by omega
   have hj0:(0:Int)≤(j:Int):=Int.natCast_nonneg _
   have hlast:l.getD (l.length - 1) 0=l.getD j 0:=by rw [hl]; rfl
   obtain ⟨x,hx⟩ : ∃ x,l.getD j 0=x:=⟨_,rfl⟩
   rw [hx] at hc hlast
   have hcell : ∀ w',Below w.heap.size w w'→w'.cell? ⟨b,off+j,none⟩=some (.int .u64 (x:Int)):=fun w' hb=>(hb.cell (p:=⟨b,off+j,none⟩) (World.block_lt_of_cell? w _ hc)).trans hc
   by_cases h4:m≤x
   ·have he:errS m l=31:=by rw [errS,if_neg h1,if_neg (by rw [h2]; decide),if_pos (by rw [hlast]; exact h4)]
    rw [he]
    have h4':(m:Int)≤(x:Int):=by omega
    clear h1 he h2 h3 hl hx hlast r hn
    go_enter Tryz.func228,Tryz.ntmps228
    go_wp2_with (go_at_call 320; with_reducible refine HR.mono ?_; rintro e w1 ⟨rfl,hb⟩; have c1:=hcell w1 hb)
    go_ret
    exact ⟨rfl,hb⟩
   ·have he:errS m l=0:=by rw [errS,if_neg h1,if_neg (by rw [h2]; decide),if_neg (by rw [hlast]; exact h4)]
    rw [he]
    have h4' : ¬ (m:Int)≤(x:Int):=by omega
    clear h1 he h2 h3 hl hx hlast r hn
    go_enter Tryz.func228,Tryz.ntmps228
    go_wp2_with (go_at_call 320; with_reducible refine HR.mono ?_; rintro e w1 ⟨rfl,hb⟩; have c1:=hcell w1 hb)
    go_ret
    exact ⟨rfl,hb⟩
theorem drop_get (l:List Nat) (j:Nat) (h:j<l.length):l.drop j=l.getD j 0::l.drop (j+1):=by
 rw [List.drop_eq_getElem_cons h,List.getD_eq_getElem?_getD,List.getElem?_eq_getElem h]; rfl
set_option maxHeartbeats 1000000 in
theorem eachrest_any {k B0 M:Nat} (hk:k=277∨k=230∨k=389) {I:(Nat→Prop)→List (Nat×Nat)→World→Prop} (G:Give k B0 M I) (hM:M≤4611686018427387904) (X:Nat→Prop) (acc:List (Nat×Nat)) (n:Nat) (w:World)
  (ao:Option Addr) (b off m cap:Nat) (l:List Nat) (hI:I X acc w) (hX : ∀ x,X x→x<w.heap.size) (hl:acc.length+100 * (m+1)+1000<M) (r:Rd w ao b off m l) (hb:0<m→b<B0) (hc:Chain 0 l n) (hn:n≤2^40) :
  Calls Tryz.prog 229 #[.int .u64 (n:Int),.slice ao m cap,gv k B0] w fun e w'=>e = .returned (.tuple #[])∧I X (acc++rst 0 n l) w'∧Below B0 w w' ∧ ∀ x,X x→w'.heap[x]? = w.heap[x]? := by
 have HS:Hid (I X acc w∧(∀ x,X x→x<w.heap.size)∧acc.length+100 * (m+1)+1000<M∧Rd w ao b off m l∧(0<m→b<B0)∧Chain 0 l n∧n≤2^40):=⟨hI,hX,hl,r,hb,hc,hn⟩
 have HM:Hid (M≤4611686018427387904):=hM
 clear hI hX hl r hb hc hn hM
 go_enter Tryz.func229,Tryz.ntmps229
 go_wp2
 go_loopg [6,8,11] m (fun g nx i8 ix wr => ∃ (j next:Nat) (acc':List (Nat×Nat)),j≤m∧g=m - j∧ix = .int .i64 (j:Int)∧nx = .int .u64 (next:Int)∧I X acc' wr∧acc'++rst next n (l.drop j)=acc++rst 0 n l∧Chain next (l.drop j) n∧Below B0 w wr∧(∀ x,X x→wr.heap[x]? = w.heap[x]?)∧acc'.length≤acc.length+80 * j)
 case atStart =>
  go_light
  exact ⟨0,0,acc,Nat.zero_le _,rfl,rfl,rfl,HS.out.1,rfl,HS.out.2.2.2.2.2.1,Below.refl _ _,fun _ _=>rfl,Nat.le_refl _⟩
 case round =>
  obtain ⟨j,next,acc',hj,rfl,rfl,rfl,hI',hacc,hch,hbl,hkp,hlen⟩:=hrel
  obtain ⟨s1,s2,s3,s4,s5,s6,s7⟩:=HS.out
  have hM9:=HM.out
  have hj0:(0:Int)≤(j:Int):=Int.natCast_nonneg _
  have hm9:(j:Int)≤4611686018427387904:=by omega
  clear hM9
  by_cases hlt:j<m
  ·have hlt':(j:Int)<(m:Int):=by omega
   have r':=s4.at hbl s5
   obtain rfl:=r'.addr (by omega)
   have cj:=r'.cell j hlt
   have hd:=drop_get l j (by have:=s4.len; omega)
   obtain ⟨x,hx⟩ : ∃ x,l.getD j 0=x:=⟨_,rfl⟩
   rw [hx] at cj hd
   rw [hd] at hacc hch
   obtain ⟨hnx,hch2⟩:=hch
   have hxn:=chain_le hch2
   have HE:=each_any hk G X acc' next x wr hI' (fun y hy=>Nat.lt_of_lt_of_le (s2 y hy) hbl.size) (by omega) hnx (by omega)
   have ex:IntKind.u64.wrap ((x:Int)+1)=(x:Int)+1:=by rw [IntKind.wrap_u64]; omega
   have HX:Hid (acc'++cov next x++rst (x+1) n (l.drop (j+1))=acc++rst 0 n l∧Chain (x+1) (l.drop (j+1)) n∧Below B0 w wr∧(∀ y,X y→wr.heap[y]? = w.heap[y]?)∧(acc'++cov next x).length≤acc.length+80 * (j+1)∧j+1≤m):=by
    refine ⟨by rw [List.append_assoc]; exact hacc,hch2,hbl,hkp,?_,hlt⟩
    have:=cov_len next x hnx (by omega)
    simp; omega
   clear hacc hch2 hbl hkp hlen hlt r' hd hx hnx hxn s1 s2 s3 s4 s5 s6 s7 hI' hj
   go_wp2_with (go_at_call 276; with_reducible refine HE.mono ?_; rintro e w1 ⟨rfl,hI1,hb1,hk1⟩)
   go_roundg (m - (j+1))
   case rel =>
    go_light
    obtain ⟨x1,x2,x3,x4,x5,x6⟩:=HX.out
    refine ⟨j+1,x+1,_,x6,rfl,by go_num,by go_num,hI1,x1,x2,x3.trans hb1,fun y hy=>(hk1 y hy).trans (x4 y hy),x5⟩
   case measure=>go_light; have:=HX.out.2.2.2.2.2; omega
  ·obtain rfl:j=m:=by omega
   have hlt' : ¬ (j:Int)<(j:Int):=by omega
   have hdn:l.drop j=[]:=List.drop_eq_nil_iff.2 (by have:=s4.len; omega)
   rw [hdn] at hacc hch
   have HE:=each_any hk G X acc' next n wr hI' (fun y hy=>Nat.lt_of_lt_of_le (s2 y hy) hbl.size) (by omega) hch s7
   have HX:Hid (acc'++cov next n=acc++rst 0 n l∧Below B0 w wr∧(∀ y,X y→wr.heap[y]? = w.heap[y]?)):=⟨hacc,hbl,hkp⟩
   clear hacc hbl hkp hlen hlt hdn s1 s2 s3 s4 s5 s6 s7 hI' hj hch
   go_wp2_with (go_at_call 276; with_reducible refine HE.mono ?_; rintro e w1 ⟨rfl,hI1,hb1,hk1⟩)
   go_end0
   obtain ⟨x1,x2,x3⟩:=HX.out
   rw [x1] at hI1
   exact ⟨rfl,hI1,x2.trans hb1,fun y hy=>(hk1 y hy).trans (x3 y hy)⟩
theorem rest_err (n e:Nat) (w:World) (ao:Option Addr) (b off m cap:Nat) (l:List Nat) (r:Rd w ao b off m l) (hm:m≤maxLen) (he:errS n l=e) (h0:e≠0) :
  Calls Tryz.prog 140 #[.int .u64 (n:Int),.slice ao m cap] w fun x w' => ∃ v,x = .returned (.tuple #[v,.int .i64 (e:Int)])∧OwnB w' w.heap.size v []∧Below w.heap.size w w':=by
 have HC:=check_any n w ao b off m cap l r hm
 rw [he] at HC
 have h0' : ¬ (e:Int)=0:=by omega
 clear he r hm
 go_enter Tryz.func140,Tryz.ntmps140
 go_wp2_with (go_at_call 228; with_reducible refine HC.mono ?_; rintro x w1 ⟨rfl,hb⟩)
 go_ret2
 exact ⟨_,rfl,World.ownsRow_nil _ _ _ _,hb⟩
theorem rest_ok (n:Nat) (w:World) (ao:Option Addr) (b off m cap:Nat) (l:List Nat) (r:Rd w ao b off m l) (hm:m≤5000) (he:errS n l=0) :
  Calls Tryz.prog 140 #[.int .u64 (n:Int),.slice ao m cap] w fun x w' => ∃ v,x = .returned (.tuple #[v,.int .i64 0])∧OwnB w' w.heap.size v (zl (rst 0 n l))∧Below w.heap.size w w':=by
 have HC:=check_any n w ao b off m cap l r (by unfold maxLen; omega)
 obtain ⟨g1,g2,g3,g4⟩:=errS_ok he
 rw [he] at HC
 have HE : ∀ w1,Below w.heap.size w w1→_:=fun w1 hb1=>eachrest_any (.inr (.inl rfl)) (give_rest w1.heap.size) (by decide) (fun _=>False) [] n (w1.alloc (.cells #[.slice none 0 0] 187)) ao b off m cap l (ia_new w1) (fun _ h=>h.elim) (by simp; omega) ((r.below hb1).below ((Below.refl _ w1).alloc (Nat.le_refl _) _)) (fun h=>Nat.lt_of_lt_of_le (r.lt h) hb1.size) g4 g1
 clear he r hm g1 g2 g3 g4
 go_enter Tryz.func140,Tryz.ntmps140
 go_upto_region 6 with (first
  | (go_at_call 228; with_reducible refine HC.mono ?_; rintro x w1 ⟨rfl,hb⟩; replace HE:=HE w1 hb)
  | (go_at_call 229; with_reducible refine HE.mono ?_; rintro x w2 ⟨rfl,hI,hb2,_⟩))
 obtain ⟨⟨v,h1,h2,_⟩,_⟩:=hI
 have c0:=cell_of_one h1
 obtain ⟨ao,m,c,rfl⟩:=own_slice h2
 have HF:Hid (OwnB w2 w.heap.size (.slice ao m c) (zl (rst 0 n l))∧Below w.heap.size w w2):=⟨by
  have:=h2.mono (base':=w.heap.size) (by have:=hb.size; omega)
  simpa using this,hb.trans ((((Below.refl _ w1).alloc (Nat.le_refl _) _).trans hb2).mono hb.size)⟩
 clear h1 h2 hb2 HE hb
 go_wp2
 go_ret2
 exact ⟨_,rfl,HF.out.1,HF.out.2⟩
theorem rest_any (n:Nat) (w:World) (ao:Option Addr) (b off m cap:Nat) (l:List Nat) (r:Rd w ao b off m l) (hm:m≤5000) :
  Calls Tryz.prog 140 #[.int .u64 (n:Int),.slice ao m cap] w fun x w' => ∃ v,x = .returned (.tuple #[v,.int .i64 (errS n l:Nat)])∧OwnB w' w.heap.size v (zl (rstS n l))∧Below w.heap.size w w':=by
 by_cases h:errS n l=0
 ·rw [rstS,if_pos h,h]; exact rest_ok n w ao b off m cap l r hm h
 ·rw [rstS,if_neg h]; exact rest_err n _ w ao b off m cap l r (by unfold maxLen; omega) rfl h
theorem ic_new (w:World):IC w.heap.size (fun _=>False) [] (w.alloc (.cells #[.int .u64 0] 48)):=⟨heap_new _ _,fun h=>h⟩
theorem count_err (n e:Nat) (w:World) (ao:Option Addr) (b off m cap:Nat) (l:List Nat) (r:Rd w ao b off m l) (hm:m≤maxLen) (he:errS n l=e) (h0:e≠0) :
  Calls Tryz.prog 323 #[.int .u64 (n:Int),.slice ao m cap] w fun x w'=>x = .returned (.tuple #[.int .u64 0,.int .i64 (e:Int)])∧Below w.heap.size w w':=by
 have HC:=check_any n w ao b off m cap l r hm
 rw [he] at HC
 have h0' : ¬ (e:Int)=0:=by omega
 clear he r hm
 go_enter Tryz.func323,Tryz.ntmps323
 go_wp2_with (go_at_call 228; with_reducible refine HC.mono ?_; rintro x w1 ⟨rfl,hb⟩)
 go_ret2
 exact ⟨rfl,hb⟩
theorem count_ok (n:Nat) (w:World) (ao:Option Addr) (b off m cap:Nat) (l:List Nat) (r:Rd w ao b off m l) (hm:m≤17592186044416) (he:errS n l=0) :
  Calls Tryz.prog 323 #[.int .u64 (n:Int),.slice ao m cap] w fun x w'=>x = .returned (.tuple #[.int .u64 ((rst 0 n l).length:Nat),.int .i64 0])∧Below w.heap.size w w':=by
 have HC:=check_any n w ao b off m cap l r (by unfold maxLen; omega)
 obtain ⟨g1,g2,g3,g4⟩:=errS_ok he
 rw [he] at HC
 have HE : ∀ w1,Below w.heap.size w w1→_:=fun w1 hb1=>eachrest_any (.inr (.inr rfl)) (give_count w1.heap.size) (by decide) (fun _=>False) [] n (w1.alloc (.cells #[.int .u64 0] 48)) ao b off m cap l (ic_new w1) (fun _ h=>h.elim) (by simp; omega) ((r.below hb1).below ((Below.refl _ w1).alloc (Nat.le_refl _) _)) (fun h=>Nat.lt_of_lt_of_le (r.lt h) hb1.size) g4 g1
 clear he r hm g1 g2 g3 g4
 go_enter Tryz.func323,Tryz.ntmps323
 go_upto_region 6 with (first
  | (go_at_call 228; with_reducible refine HC.mono ?_; rintro x w1 ⟨rfl,hb⟩; replace HE:=HE w1 hb)
  | (go_at_call 229; with_reducible refine HE.mono ?_; rintro x w2 ⟨rfl,hI,hb2,_⟩))
 have h1:=hI.at0
 rw [List.nil_append] at h1
 have c0:=cell_of_one h1
 have HF:Hid (Below w.heap.size w w2):=hb.trans ((((Below.refl _ w1).alloc (Nat.le_refl _) _).trans hb2).mono hb.size)
 clear h1 hI hb2 HE hb
 go_wp2
 go_ret2
 exact ⟨rfl,HF.out⟩
theorem count_any (n:Nat) (w:World) (ao:Option Addr) (b off m cap:Nat) (l:List Nat) (r:Rd w ao b off m l) (hm:m≤17592186044416) :
  Calls Tryz.prog 323 #[.int .u64 (n:Int),.slice ao m cap] w fun x w'=>x = .returned (.tuple #[.int .u64 ((rstS n l).length:Nat),.int .i64 (errS n l:Nat)])∧Below w.heap.size w w':=by
 by_cases h:errS n l=0
 ·rw [rstS,if_pos h,h]; exact count_ok n w ao b off m cap l r hm h
 ·rw [rstS,if_neg h]; exact count_err n _ w ao b off m cap l r (by unfold maxLen; omega) rfl h
theorem til_mem {A:Nat→Prop} {q:Nat} : ∀ {L:List (Nat×Nat)} {p:Nat},Til A q p L → ∀ b∈L,¬ All A (b.1+1) (b.2 / 2)∧(b.2+1) * pw b.1≤q:=by
 intro L
 induction L with
 | nil=>intro p _ b hb; cases hb
 | cons c L ih =>
  intro p h b hb
  rcases List.mem_cons.1 hb with rfl | hb
  ·exact ⟨h.2.2.2.2.1,h.2.1⟩
  ·exact ih h.2.2.2.2.2 b hb
end Go.Proofs.YtoblgjledefdbaaGreatDoor.Cv
namespace Go.Proofs.YtoblgjledefdbaaGreatDoor.Cv
open Pl
def inb (H K i:Nat):Bool:=decide (K * pw H≤i) && decide (i<(K+1) * pw H)
def tno:Nat→Nat→List Nat→List (Nat×Nat)
 | 0,K,S=>if (S.filter (inb 0 K)).length=0 then [(0,K)] else []
 | H+1,K,S=>if (S.filter (inb (H+1) K)).length=0 then [(H+1,K)] else tno H (2 * K) (S.filter (inb (H+1) K))++tno H (2 * K+1) (S.filter (inb (H+1) K))
theorem inb_iff {H K i:Nat} : inb H K i=true↔K * pw H≤i∧i<(K+1) * pw H:=by simp [inb]
theorem half_lo (H K:Nat):(2 * K) * pw H=K * pw (H+1):=(mul_half K H).symm
theorem half_mid (H K:Nat):(2 * K+1) * pw H=K * pw (H+1)+pw H:=by rw [Nat.add_mul,Nat.one_mul,half_lo]
theorem half_hi (H K:Nat):(2 * K+1+1) * pw H=(K+1) * pw (H+1):=by rw [show 2 * K+1+1=2 * (K+1) by omega,half_lo]
theorem blk_len (H K:Nat):(K+1) * pw (H+1)=K * pw (H+1)+pw H+pw H:=by rw [Nat.add_mul,Nat.one_mul,pw_succ]; omega
theorem til_blk {A:Nat→Prop} {H K:Nat} (ha:All A H K) (hp : ¬ All A (H+1) (K / 2)):Til A ((K+1) * pw H) (K * pw H) [(H,K)] :=
 ⟨Nat.le_refl _,Nat.le_refl _,fun i h1 h2=>by dsimp only at h2; omega,ha,hp,Nat.le_refl _,fun i h1 h2=>by dsimp only at h1; omega⟩
theorem tno_til (A:Nat→Prop) : ∀ H K (S:List Nat),(∀ i,K * pw H≤i→i<(K+1) * pw H→(A i↔i ∉ S)) → ¬ All A (H+1) (K / 2)→Til A ((K+1) * pw H) (K * pw H) (tno H K S):=by
 intro H
 induction H with
 | zero =>
  intro K S hA hp
  rw [tno]
  have e0:pw 0=1:=rfl
  split
  ·rename_i h
   refine til_blk (fun i h1 h2=>(hA i h1 h2).2 (fun hi => ?_)) hp
   have hm:i∈S.filter (inb 0 K):=List.mem_filter.2 ⟨hi,inb_iff.2 ⟨h1,h2⟩⟩
   rw [List.length_eq_zero_iff.1 h] at hm
   cases hm
  ·rename_i h
   refine ⟨by rw [e0]; omega,fun i h1 h2 hr=>h ?_⟩
   cases hm:S.filter (inb 0 K) with
   | nil=>rfl
   | cons s M =>
    have hs:s∈S.filter (inb 0 K):=by rw [hm]; exact List.mem_cons_self
    obtain ⟨g1,g2⟩:=List.mem_filter.1 hs
    obtain ⟨g3,g4⟩:=inb_iff.1 g2
    rw [e0] at *
    obtain rfl:i=s:=by omega
    exact absurd g1 ((hA i h1 h2).1 hr)
 | succ H ih =>
  intro K S hA hp
  rw [tno]
  have hb:=blk_len H K
  have hpp:=pw_pos H
  split
  ·rename_i h
   refine til_blk (fun i h1 h2=>(hA i h1 h2).2 (fun hi => ?_)) hp
   have hm:i∈S.filter (inb (H+1) K):=List.mem_filter.2 ⟨hi,inb_iff.2 ⟨h1,h2⟩⟩
   rw [List.length_eq_zero_iff.1 h] at hm
   cases hm
  ·rename_i h
   have hno : ¬ All A (H+1) K:=fun hall=>h (by
    cases hm:S.filter (inb (H+1) K) with
    | nil=>rfl
    | cons s M =>
     have hs:s∈S.filter (inb (H+1) K):=by rw [hm]; exact List.mem_cons_self
     obtain ⟨g1,g2⟩:=List.mem_filter.1 hs
     obtain ⟨g3,g4⟩:=inb_iff.1 g2
     exact absurd g1 ((hA s g3 g4).1 (hall s g3 g4)))
   have hM : ∀ i,K * pw (H+1)≤i→i<(K+1) * pw (H+1)→(A i↔i ∉ S.filter (inb (H+1) K)):=fun i h1 h2=>by
    rw [hA i h1 h2,List.mem_filter,inb_iff]
    exact ⟨fun h g=>h g.1,fun h g=>h ⟨g,h1,h2⟩⟩
   have e1:=half_lo H K
   have e2:=half_mid H K
   have e3:=half_hi H K
   have t1:=ih (2 * K) (S.filter (inb (H+1) K)) (fun i h1 h2=>hM i (by omega) (by omega)) (by rw [show 2 * K / 2=K by omega]; exact hno)
   have t2:=ih (2 * K+1) (S.filter (inb (H+1) K)) (fun i h1 h2=>hM i (by omega) (by omega)) (by rw [show (2 * K+1) / 2=K by omega]; exact hno)
   rw [half_hi] at t2
   rw [half_lo] at t1
   exact til_app t2 t1
theorem mt_til {A:Nat→Prop} {n:Nat} (t:Nat→Nat→List (Nat×Nat)) (ht : ∀ h k,(k+1) * pw h≤n → ¬ All A (h+1) (k / 2)→Til A ((k+1) * pw h) (k * pw h) (t h k)) (hn : ¬ A n) :
  ∀ h x,(∃ c,x=c * pw h)→n - x<pw h→x≤n→Til A n x ((dnL h x n).flatMap (fun b=>t b.1 b.2)):=by
 intro h
 induction h with
 | zero =>
  intro x _ h2 h3
  rw [pw_zero] at h2
  exact ⟨h3,fun i h5 h6=>by omega⟩
 | succ h ih =>
  intro x h1 h2 h3
  obtain ⟨c,hc⟩:=h1
  have hp:=pw_pos h
  have hps:=pw_succ h
  rw [mul_half] at hc
  rw [dnL]
  split
  ·rename_i hfit
   have hk:x / pw h=2 * c:=by rw [hc]; exact Nat.mul_div_cancel _ hp
   have e1:(2 * c+1) * pw h=x+pw h:=by rw [Nat.add_mul,Nat.one_mul,← hc]
   have e2:2 * c / 2=c:=by omega
   have e3:c * pw (h+1)=x:=by rw [mul_half]; exact hc.symm
   rw [hk,List.flatMap_cons]
   have t1:=ht h (2 * c) (by omega) (by rw [e2]; exact fun hall=>hn (hall n (by omega) (by rw [Nat.add_mul,Nat.one_mul,e3]; omega)))
   have t2:=ih (x+pw h) ⟨2 * c+1,e1.symm⟩ (by omega) (by omega)
   rw [← e1] at t2
   rw [← hc] at t1
   rw [← e1]
   exact til_app t2 t1
  ·exact ih x ⟨2 * c,hc⟩ (by omega) h3
theorem mt_all {A:Nat→Prop} {n:Nat} (t:Nat→Nat→List (Nat×Nat)) (ht : ∀ h k,(k+1) * pw h≤n → ¬ All A (h+1) (k / 2)→Til A ((k+1) * pw h) (k * pw h) (t h k)) (hn : ¬ A n) (h40:n≤2^40) :
    Til A n 0 ((dnL 41 0 n).flatMap (fun b=>t b.1 b.2)) :=
  mt_til t ht hn 41 0 ⟨0, by simp⟩ (by have : pw 41 = 2 ^ 41 := rfl
                                       omega) (Nat.zero_le _)
theorem par_sub (h k:Nat):k / 2 * pw (h+1)≤k * pw h∧(k+1) * pw h≤(k / 2+1) * pw (h+1):=by
 rw [mul_half,mul_half]
 exact ⟨Nat.mul_le_mul_right _ (by omega),Nat.mul_le_mul_right _ (by omega)⟩
theorem til_sub {A:Nat→Prop} {lo hi:Nat} (hA : ∀ j,lo≤j→j<hi→A j) (hl:lo=0 ∨ ¬ A (lo - 1)) (hh : ¬ A hi) : ∀ {L:List (Nat×Nat)} {p:Nat},lo≤p→Til (Rg lo hi) hi p L→Til A hi p L:=by
 intro L
 induction L with
 | nil=>intro p h1 h2; exact ⟨h2.1,fun i i1 i2=>absurd ⟨by omega,i2⟩ (h2.2 i i1 i2)⟩
 | cons b L ih =>
  intro p h1 h2
  obtain ⟨a1,a2,a3,a4,a5,a6⟩:=h2
  have hlt:=blk_lt b.1 b.2
  refine ⟨a1,a2,fun i i1 i2=>absurd ⟨by omega,by omega⟩ (a3 i i1 i2),fun i i1 i2=>hA i (by omega) (by omega),fun hall=>a5 (fun i i1 i2 => ?_),ih (by omega) a6⟩
  obtain ⟨p1,p2⟩:=par_sub b.1 b.2
  refine ⟨?_,?_⟩
  ·by_cases hlo:lo≤i
   ·exact hlo
   ·rcases hl with hl | hl
    ·omega
    ·exact absurd (hall (lo - 1) (by omega) (by omega)) hl
  ·by_cases hhi:i<hi
   ·exact hhi
   ·exact absurd (hall hi (by omega) (by omega)) hh
theorem chain_mem : ∀ {S:List Nat} {x n:Nat},Chain x S n → ∀ s∈S,x≤s∧s<n:=by
 intro S
 induction S with
 | nil=>intro x n _ s hs; cases hs
 | cons i S ih =>
  intro x n h s hs
  have h1:=h.1
  have h2:=chain_le h.2
  rcases List.mem_cons.1 hs with rfl | hs
  ·exact ⟨h1,by omega⟩
  ·have:=ih h.2 s hs; omega
theorem rst_til {A:Nat→Prop} {n:Nat} (hn:n≤2^40) : ∀ (S:List Nat) (x:Nat),(∀ i,x≤i→(A i↔i<n∧i ∉ S))→(x=0 ∨ ¬ A (x - 1))→Chain x S n→Til A n x (rst x n S):=by
  intro S
  induction S with
  | nil =>
    intro x hA hx hc
    have hc':x≤n:=hc
    exact til_sub (fun j j1 j2=>(hA j j1).2 ⟨j2,by simp⟩) hx (fun h=>by have:=((hA n hc').1 h).1; omega) (Nat.le_refl _) (cov_til x n hc' hn)
  | cons i S ih =>
    intro x hA hx hc
    obtain ⟨c1,c2⟩:=hc
    have hin:=chain_le c2
    have hni : ¬ A i:=fun h=>((hA i c1).1 h).2 List.mem_cons_self
    have t1:Til A i x (cov x i):=til_sub (fun j j1 j2=>(hA j j1).2 ⟨by omega,fun hj=>by
      rcases List.mem_cons.1 hj with rfl | hj
      · omega
      · have:=chain_mem c2 j hj; omega⟩) hx hni (Nat.le_refl _) (cov_til x i c1 (by omega))
    have t2:Til A n (i+1) (rst (i+1) n S):=ih (i+1) (fun j j1=>by
      rw [hA j (by omega)]
      refine ⟨fun h=>⟨h.1,fun hj=>h.2 (List.mem_cons_of_mem _ hj)⟩,fun h=>⟨h.1,fun hj => ?_⟩⟩
      rcases List.mem_cons.1 hj with rfl | hj
      · omega
      · exact h.2 hj) (.inr (by rw [Nat.add_sub_cancel]; exact hni)) c2
    exact til_app (til_pre t2 (Nat.le_succ i) (fun j j1 j2 => by obtain rfl : j = i := by omega
                                                                 exact hni)) t1
abbrev But (n:Nat) (S:List Nat):Nat→Prop:=fun i=>i<n∧i ∉ S
theorem rst_but (n:Nat) (S:List Nat) (hn:n≤2^40) (hc:Chain 0 S n):Til (But n S) n 0 (rst 0 n S):=rst_til hn S 0 (fun _ _=>Iff.rfl) (.inl rfl) hc
theorem rest_ref (n:Nat) (S:List Nat) (hn:n≤2^40) (hc:Chain 0 S n):rst 0 n S=(dnL 41 0 n).flatMap (fun b=>tno b.1 b.2 S) :=
 til_one (rst_but n S hn hc) (mt_all (fun h k=>tno h k S) (fun h k hk hp=>tno_til _ h k S (fun i _ i2=>⟨fun h=>h.2,fun h=>⟨by omega,h⟩⟩) hp) (fun h=>by have:=h.1; omega) hn)
theorem rst_len (n:Nat) (hn:n≤2^40) : ∀ (S:List Nat) (x:Nat),Chain x S n→(rst x n S).length≤80 * (S.length+1):=by
 intro S
 induction S with
 | nil=>intro x hc; exact cov_len x n hc hn
 | cons i S ih =>
  intro x hc
  have h1:=cov_len x i hc.1 (by have:=chain_le hc.2; omega)
  have h2:=ih (i+1) hc.2
  simp only [rst,List.length_append,List.length_cons]
  omega
theorem part_len (H K:Nat) : ∀ M:List Nat,(∀ i∈M,inb (H+1) K i=true)→(M.filter (inb H (2 * K))).length+(M.filter (inb H (2 * K+1))).length=M.length:=by
 have e1:=half_lo H K
 have e2:=half_mid H K
 have e3:=half_hi H K
 intro M
 induction M with
 | nil=>intro _; rfl
 | cons i M ih =>
  intro h
  have h1:=inb_iff.1 (h i List.mem_cons_self)
  have h2:=ih (fun j hj=>h j (List.mem_cons_of_mem _ hj))
  by_cases hm:i<(2 * K+1) * pw H
  ·have a1:inb H (2 * K) i=true:=inb_iff.2 ⟨by omega,hm⟩
   have a2:inb H (2 * K+1) i=false:=by
    cases hb:inb H (2 * K+1) i with
    | false=>rfl
    | true=>have:=(inb_iff.1 hb).1; omega
   rw [List.filter_cons_of_pos a1,List.filter_cons_of_neg (by rw [a2]; decide),List.length_cons,List.length_cons]; omega
  ·have a1:inb H (2 * K+1) i=true:=inb_iff.2 ⟨by omega,by omega⟩
   have a2:inb H (2 * K) i=false:=by
    cases hb:inb H (2 * K) i with
    | false=>rfl
    | true=>have:=(inb_iff.1 hb).2; omega
   rw [List.filter_cons_of_pos a1,List.filter_cons_of_neg (by rw [a2]; decide),List.length_cons,List.length_cons]; omega
theorem filter_twice (S:List Nat) (H K:Nat) : ∀ i∈S.filter (inb H K),inb H K i=true:=fun _ hi=>(List.mem_filter.1 hi).2
theorem tno_count : ∀ H K (S:List Nat),((S.filter (inb H K)).length=0→(tno H K S).length=1)∧((S.filter (inb H K)).length≠0→(tno H K S).length≤(S.filter (inb H K)).length * H):=by
 intro H
 induction H with
 | zero =>
  intro K S
  refine ⟨fun h=>by rw [tno,if_pos h]; rfl,fun h=>by rw [tno,if_neg h]; simp⟩
 | succ H ih =>
  intro K S
  refine ⟨fun h=>by rw [tno,if_pos h]; rfl,fun h => ?_⟩
  rw [tno,if_neg h,List.length_append]
  have hp:=part_len H K (S.filter (inb (H+1) K)) (filter_twice S (H+1) K)
  obtain ⟨l0,l1⟩:=ih (2 * K) (S.filter (inb (H+1) K))
  obtain ⟨r0,r1⟩:=ih (2 * K+1) (S.filter (inb (H+1) K))
  generalize ((S.filter (inb (H+1) K)).filter (inb H (2 * K))).length=a at *
  generalize ((S.filter (inb (H+1) K)).filter (inb H (2 * K+1))).length=b at *
  generalize (tno H (2 * K) (S.filter (inb (H+1) K))).length=x at *
  generalize (tno H (2 * K+1) (S.filter (inb (H+1) K))).length=y at *
  generalize (S.filter (inb (H+1) K)).length=c at *
  subst hp
  rw [Nat.mul_add,Nat.mul_one,Nat.add_mul]
  by_cases ha:a=0
  ·have:=l0 ha
   have hb:b≠0:=by omega
   have:=r1 hb
   subst ha
   omega
  ·have:=l1 ha
   by_cases hb:b=0
   ·have:=r0 hb
    subst hb
    omega
   ·have:=r1 hb
    omega
theorem chain_drop : ∀ {S:List Nat} {a n:Nat} (_:Chain a S n) (j:Nat),j<S.length→S.getD j 0<n∧a≤S.getD j 0 ∧ ∀ t,t<j→S.getD t 0<S.getD j 0:=by
 intro S
 induction S with
 | nil=>intro a n _ j hj; simp at hj
 | cons s r ih =>
  intro a n h j hj
  have hle:=chain_le h.2
  cases j with
  | zero=>exact ⟨by simp; omega,by simpa using h.1,fun t ht=>absurd ht (Nat.not_lt_zero t)⟩
  | succ j =>
   obtain ⟨g1,g2,g3⟩:=ih h.2 j (by simp at hj; omega)
   have h1:=h.1
   refine ⟨by simpa using g1,by simp; simp at g2; omega,fun t ht => ?_⟩
   cases t with
   | zero=>simp; simp at g2; omega
   | succ t=>have:=g3 t (by omega); simpa using this
theorem chain_inc {S:List Nat} {n:Nat} (h:Chain 0 S n) (h0:S≠[]) (hn:n≤2^40):errS n S=0:=by
 have hl:0<S.length:=List.length_pos_iff.2 h0
 have hi:Inc S:=⟨hl,fun i hi=>(chain_drop h (i+1) hi).2.2 i (by omega)⟩
 have hlast:=(chain_drop h (S.length - 1) (by omega)).1
 rw [errS,if_neg (by omega),if_neg (by rw [(incB_iff S).2 hi]; decide),if_neg (by omega)]
end Go.Proofs.YtoblgjledefdbaaGreatDoor.Cv
