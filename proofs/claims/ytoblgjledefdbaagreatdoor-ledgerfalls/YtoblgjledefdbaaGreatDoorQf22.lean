/- Own work. -/
import Derived.Deep.RegionHeld3
import Derived.Test.YtoblgjledefdbaaGreatDoorQf21
namespace Go.Proofs.YtoblgjledefdbaaGreatDoor.St
open Rc
abbrev It:=List UInt8×List ByteArray
structure BV where
 ends:List Nat
 chain:BitVec 32
 a:List UInt8
 b:List UInt8
 m:List UInt8
def BV.z:BV:=⟨[],0#32,[],[],[]⟩
def BV.mk' (k:Nat) (B:BV) (x:It):MV:=nxM k B.ends B.chain (pay x.1) (recs (nn B.ends.length) x.2)
def BV.ad (k:Nat) (B:BV) (x:It):BV:=⟨B.ends++[(B.mk' k x).items],(B.mk' k x).chain,B.a++pay x.1,B.b++Rc.flat (recs (nn B.ends.length) x.2),B.m++mrk (B.mk' k x)⟩
def bA (k:Nat) (A:List It):BV:=A.foldl (BV.ad k) BV.z
theorem bA_snoc (k:Nat) (A:List It) (x:It):bA k (A++[x])=(bA k A).ad k x:=by simp [bA]
def sA (k:Nat) (A:List It):SV:=⟨k,(bA k A).ends,(bA k A).chain,false⟩
structure OkI (k n:Nat) (x:It):Prop where
 len:x.1.length≤1048576
 cnt:x.2.length=nn (n+1) - nn n
 sz : ∀ d∈x.2,d.size=k
structure OkA (k:Nat) (A:List It):Prop where
 k1:1≤k
 k2:k≤32
 few:A.length≤65536
 it : ∀ i x,A[i]? = some x→OkI k i x
theorem okA_nil {k:Nat} (h1:1≤k) (h2:k≤32):OkA k []:=⟨h1,h2,by simp,fun i x h=>by simp at h⟩
theorem OkA.init {k:Nat} {A:List It} {x:It} (h:OkA k (A++[x])):OkA k A :=
 ⟨h.k1,h.k2,by have:=h.few; simp at this; omega,fun i y hy=>h.it i y (by rw [List.getElem?_append_left (List.getElem?_eq_some_iff.1 hy).1]; exact hy)⟩
theorem OkA.last {k:Nat} {A:List It} {x:It} (h:OkA k (A++[x])):OkI k A.length x:=h.it A.length x (by simp)
theorem OkA.take {k:Nat} {A:List It} (h:OkA k A) (j:Nat):OkA k (A.take j) :=
 ⟨h.k1,h.k2,by have:=h.few; rw [List.length_take]; omega,fun i y hy=>h.it i y (by rw [List.getElem?_take] at hy; split at hy; exact hy; cases hy)⟩
theorem flat_cons (x:ByteArray) (l:List ByteArray):Rc.flat (x::l)=x.data.toList++Rc.flat l:=by simp [Rc.flat]
theorem recs_cons (p:Nat) (d:ByteArray) (ds:List ByteArray):recs p (d::ds)=tx (nod p d.data.toList)::recs (p+1) ds:=by
 have e:(fun (i:Nat) (d:ByteArray)=>tx (nod (p+(i+1)) d.data.toList))=fun i d=>tx (nod (p+1+i) d.data.toList):=by
  funext i d
  rw [show p+(i+1)=p+1+i by omega]
 simp [recs,List.mapIdx_cons,e]
theorem flat_recs_len (p:Nat) (ds:List ByteArray) (h : ∀ d∈ds,d.size≤32):(Rc.flat (recs p ds)).length=40 * ds.length:=by
 induction ds generalizing p with
 | nil=>rfl
 | cons d ds ih =>
  rw [recs_cons,flat_cons,List.length_append,ih (p+1) (fun x hx=>h x (List.mem_cons_of_mem _ hx)),tx_data,nod_len _ _ (by rw [size_list]; exact h d (by simp)),List.length_cons]
  omega
structure LenA (k:Nat) (A:List It):Prop where
 ends:(bA k A).ends.length=A.length
 lst:lst (bA k A).ends=(bA k A).a.length
 a:(bA k A).a.length≤1048584 * A.length
 b:(bA k A).b.length=40 * nn A.length
 m:(bA k A).m.length=64 * A.length
theorem lst_snoc (l:List Nat) (x:Nat):lst (l++[x])=x:=by simp [lst]
theorem OkA.lens {k:Nat} {A:List It} : OkA k A→LenA k A:=by
 refine rev_ind (P:=fun A=>OkA k A→LenA k A) (fun _=>⟨rfl,rfl,Nat.le_refl _,rfl,rfl⟩) (fun A x ih h => ?_) A
 have l:=ih h.init
 have hx:=h.last
 have hf:=h.few
 simp only [List.length_append,List.length_cons,List.length_nil] at hf
 have hm:=nn_mono A.length (by omega)
 have e:(bA k (A++[x]))=(bA k A).ad k x:=bA_snoc k A x
 have ei:((bA k A).mk' k x).items=(bA k A).a.length+(x.1.length+8):=by
  show Go.Proofs.YtoblgjledefdbaaGreatDoor.St.lst (bA k A).ends+(pay x.1).length=_
  rw [l.lst,pay_len]
 refine ⟨?_,?_,?_,?_,?_⟩
 ·rw [e]; simp [BV.ad,l.ends]
 ·rw [e]
  show Go.Proofs.YtoblgjledefdbaaGreatDoor.St.lst ((bA k A).ends++[((bA k A).mk' k x).items])=((bA k A).a++pay x.1).length
  rw [lst_snoc,ei,List.length_append,pay_len]
 ·rw [e]
  show ((bA k A).a++pay x.1).length≤_
  have:=l.a
  have:=hx.len
  rw [List.length_append,pay_len,List.length_append]
  simp only [List.length_cons,List.length_nil]
  omega
 ·rw [e]
  show ((bA k A).b++Rc.flat (recs (nn (bA k A).ends.length) x.2)).length=_
  rw [List.length_append,flat_recs_len _ _ (fun d hd=>by rw [hx.sz d hd]; exact h.k2),l.b,hx.cnt,List.length_append]
  simp only [List.length_cons,List.length_nil,Nat.zero_add]
  omega
 ·rw [e]
  show ((bA k A).m++mrk ((bA k A).mk' k x)).length=_
  rw [List.length_append,mrk_len _ ⟨by show (1:Int)≤(k:Int); have:=h.k1; omega,by show (k:Int)≤32; have:=h.k2; omega⟩,l.m,List.length_append]
  simp only [List.length_cons,List.length_nil]
  omega
theorem bA_pre (k:Nat) (A B:List It):(bA k A).a <+: (bA k (A++B)).a∧(bA k A).b <+: (bA k (A++B)).b∧(bA k A).m <+: (bA k (A++B)).m:=by
 refine rev_ind (P:=fun B=>(bA k A).a <+: (bA k (A++B)).a∧(bA k A).b <+: (bA k (A++B)).b∧(bA k A).m <+: (bA k (A++B)).m) (by simp) (fun B x ih => ?_) B
 rw [← List.append_assoc,bA_snoc]
 exact ⟨ih.1.trans (List.prefix_append _ _),ih.2.1.trans (List.prefix_append _ _),ih.2.2.trans (List.prefix_append _ _)⟩
theorem bA_take (k:Nat) (A:List It) (j:Nat):(bA k (A.take j)).a <+: (bA k A).a∧(bA k (A.take j)).b <+: (bA k A).b∧(bA k (A.take j)).m <+: (bA k A).m:=by
 have:=bA_pre k (A.take j) (A.drop j)
 rwa [List.take_append_drop] at this
theorem OkA.mvok {k:Nat} {A:List It} {x:It} (h:OkA k (A++[x])):((bA k A).mk' k x).Ok:=by
 have l:=h.init.lens
 have hx:=h.last
 have hf:=h.few
 simp only [List.length_append,List.length_cons,List.length_nil] at hf
 have hm:=nn_mono A.length (by omega)
 refine ⟨by show (1:Int)≤(k:Int); have:=h.k1; omega,by show (k:Int)≤32; have:=h.k2; omega,?_,?_,?_⟩
 ·show (bA k A).ends.length+1<_; rw [l.ends]; omega
 ·show lst (bA k A).ends+(pay x.1).length<_
  have:=l.a
  have:=hx.len
  rw [l.lst,pay_len]; omega
 ·show nn ((bA k A).ends.length+1) * 40<_; rw [l.ends]; omega
theorem flat_row (p:Nat) (ds:List ByteArray) (t:List UInt8) (h : ∀ d∈ds,d.size≤32) (j:Nat) (d:ByteArray) (hd:ds[j]? = some d):((Rc.flat (recs p ds)++t).drop (40 * j)).take 40=nod (p+j) d.data.toList:=by
 induction ds generalizing p j with
 | nil=>simp at hd
 | cons e ds ih =>
  rw [recs_cons,flat_cons,tx_data,List.append_assoc]
  have hl:(nod p e.data.toList).length=40:=nod_len _ _ (by rw [size_list]; exact h e (by simp))
  cases j with
  | zero =>
   simp only [List.getElem?_cons_zero,Option.some.injEq] at hd
   subst hd
   rw [Nat.mul_zero,List.drop_zero,List.take_append_of_le_length (by omega),List.take_of_length_le (by omega),Nat.add_zero]
  | succ j =>
   simp only [List.getElem?_cons_succ] at hd
   rw [show 40 * (j+1)=(nod p e.data.toList).length+40 * j by omega,← List.drop_drop,List.drop_left,ih (p+1) (fun x hx=>h x (List.mem_cons_of_mem _ hx)) j hd,show p+1+j=p+(j+1) by omega]
theorem rdN_good (k:Nat) (b:List UInt8) (p:Nat) (ds:List ByteArray) (hk:k≤32) (h : ∀ d∈ds,d.size=k) (t:List UInt8) (hb:b.drop (40 * p)=Rc.flat (recs p ds)++t) (hpl:40 * p≤b.length) : ∀ j,j≤ds.length→rdN k b p j=some ((recs p ds).take j)
 | 0,_=>rfl
 | j+1,hj=>by
  have h32 : ∀ d∈ds,d.size≤32:=fun d hd=>by rw [h d hd]; exact hk
  obtain ⟨d,hd⟩ : ∃ d,ds[j]? = some d:=⟨_,List.getElem?_eq_getElem (by omega)⟩
  have hrow:rowN b (p+j)=nod (p+j) d.data.toList:=by
   rw [rowN,show 40 * (p+j)=40 * p+40 * j by omega,← List.drop_drop,hb]
   exact flat_row p ds t h32 j d hd
  have hdm:d∈ds:=List.mem_of_getElem? hd
  have hrn:rnod k (p+j) (nod (p+j) d.data.toList)=some d.data.toList:=by
   have:=rnod_nod (p+j) d.data.toList (by rw [size_list]; exact h32 d hdm)
   rwa [size_list,h d hdm] at this
  have hlen:40 * (p+j)+40≤b.length:=by
   have e:=congrArg List.length hb
   rw [List.length_drop,List.length_append,flat_recs_len p ds h32] at e
   omega
  rw [rdN,rdN_good k b p ds hk h t hb hpl j (by omega)]
  simp only
  rw [if_pos ⟨hlen,by rw [hrow,hrn]; rfl⟩,hrow]
  have e2:(recs p ds)[j]? = some (tx (nod (p+j) d.data.toList)):=by
   unfold recs
   rw [List.getElem?_mapIdx,hd]; rfl
  rw [List.take_add_one,e2]; rfl
theorem whl_pay (x:List UInt8) (h:x.length≤1048576):whl (pay x)=true:=by
 have:=rpay_pay x [] h
 rw [List.append_nil] at this
 unfold whl
 rw [this]
 simp [pay_len]
theorem tkN_good {k:Nat} {A:List It} {x:It} (h:OkA k (A++[x])) {I N:List UInt8} (hI:(bA k (A++[x])).a <+: I) (hN:(bA k (A++[x])).b <+: N) :
  tkN k I N ((bA k A).ends,(bA k A).chain) (mrk ((bA k A).mk' k x))=some ((bA k (A++[x])).ends,(bA k (A++[x])).chain):=by
 have l:=h.init.lens
 have l2:=h.lens
 have hx:=h.last
 have hf:=h.few
 simp only [List.length_append,List.length_cons,List.length_nil] at hf
 have hm:=nn_mono A.length (by omega)
 obtain ⟨tI,hI⟩:=hI
 obtain ⟨tN,hN⟩:=hN
 rw [bA_snoc] at hI hN
 have ei:((bA k A).mk' k x).items=(bA k A).a.length+(x.1.length+8):=by
  show lst (bA k A).ends+(pay x.1).length=_
  rw [l.lst,pay_len]
 have hp:(I.drop (lst (bA k A).ends)).take (((bA k A).mk' k x).items - lst (bA k A).ends)=pay x.1:=by
  rw [ei,l.lst,← hI]
  show List.take _ (List.drop _ (((bA k A).a++pay x.1)++tI))=_
  exact cut_at _ _ _ _ _ rfl (by rw [pay_len]; omega)
 have hb:N.drop (40 * nn A.length)=Rc.flat (recs (nn A.length) x.2)++tN:=by
  rw [← hN,← l.b]
  show List.drop _ (((bA k A).b++Rc.flat (recs (nn (bA k A).ends.length) x.2))++tN)=_
  rw [List.append_assoc,List.drop_left,l.ends]
 have hr:=rdN_good k N (nn A.length) x.2 h.k2 hx.sz tN hb (by rw [← hN,← l.b]; show _≤(((bA k A).b++Rc.flat (recs (nn (bA k A).ends.length) x.2))++tN).length; simp only [List.length_append]; omega) x.2.length (Nat.le_refl _)
 rw [List.take_of_length_le (by rw [recs_len]; exact Nat.le_refl _),hx.cnt] at hr
 have hil:I.length=(bA k A).a.length+(x.1.length+8)+tI.length:=by
  rw [← hI]
  show (((bA k A).a++pay x.1)++tI).length=_
  simp only [List.length_append,pay_len]
 unfold tkN
 rw [rmrk_mrk _ h.mvok]
 simp only
 rw [if_neg (by
  rw [hp,whl_pay _ hx.len,ei,l.lst,l.ends]
  simp
  omega),l.ends,hr]
 simp only
 rw [hp,if_pos (by unfold BV.mk'; rw [l.ends]),bA_snoc]
 rfl
theorem rowM_at {k:Nat} {A:List It} {x:It} {M:List UInt8} (h:OkA k (A++[x])) (hM:(bA k (A++[x])).m <+: M):rowM M A.length=mrk ((bA k A).mk' k x):=by
 have l:=h.init.lens
 obtain ⟨t,hM⟩:=hM
 rw [rowM,← hM,bA_snoc]
 show List.take _ (List.drop _ (((bA k A).m++mrk ((bA k A).mk' k x))++t))=_
 exact cut_at _ _ _ _ _ l.m (mrk_len _ ⟨by show (1:Int)≤(k:Int); have:=h.k1; omega,by show (k:Int)≤32; have:=h.k2; omega⟩)
theorem take_next (A:List It) (j:Nat) (hj:j<A.length):A.take (j+1)=A.take j++[A[j]]:=List.take_succ_eq_append_getElem hj
theorem tkA_good {k:Nat} {A:List It} (h:OkA k A) {I N M:List UInt8} (hI:(bA k A).a <+: I) (hN:(bA k A).b <+: N) (hM:(bA k A).m <+: M) : ∀ j,j≤A.length→tkA k I N M j=some ((bA k (A.take j)).ends,(bA k (A.take j)).chain)
 | 0,_=>rfl
 | j+1,hj=>by
  have e:=take_next A j (by omega)
  have hp:=bA_take k A (j+1)
  have ht:=h.take (j+1)
  rw [e] at hp ht
  rw [tkA,tkA_good h hI hN hM j (by omega)]
  simp only
  have hl:(A.take j).length=j:=by rw [List.length_take]; omega
  have hr:=rowM_at ht (hp.2.2.trans hM)
  rw [hl] at hr
  rw [hr,tkN_good ht (hp.1.trans hI) (hp.2.1.trans hN),e]
theorem mrk_ne (m:MV) (h:1≤m.k∧m.k≤32):mrk m≠zer 64:=by
 unfold mrk
 rw [if_pos h]
 intro e
 have:=congrArg (fun l=>l.head?) e
 simp [sld,bodyM,zer] at this
theorem cntM_good {k:Nat} {A:List It} (h:OkA k A) {t:List UInt8} (ht:t.length<64∨t=zer 64):cntM ((bA k A).m++t)=A.length:=by
 have l:=h.lens
 unfold cntM
 rcases ht with ht | rfl
 ·have hd:((bA k A).m++t).length / 64=A.length:=by rw [List.length_append,l.m]; omega
  rw [hd,if_neg]
  rintro ⟨h0,hz⟩
  obtain ⟨B,x,rfl⟩ : ∃ B x,A=B++[x]:=by
   rcases List.eq_nil_or_concat A with rfl | ⟨B,x,rfl⟩
   ·simp at h0
   ·exact ⟨B,x,List.concat_eq_append⟩
  have hr:=rowM_at h (List.prefix_append _ t)
  simp only [List.length_append,List.length_cons,List.length_nil,Nat.zero_add,Nat.add_sub_cancel] at hz
  rw [hr] at hz
  exact mrk_ne _ ⟨by show (1:Int)≤(k:Int); have:=h.k1; omega,by show (k:Int)≤32; have:=h.k2; omega⟩ hz
 ·have hd:((bA k A).m++zer 64).length / 64=A.length+1:=by rw [List.length_append,l.m,zer_len]; omega
  have hz:rowM ((bA k A).m++zer 64) (A.length+1 - 1)=zer 64:=by
   unfold rowM
   rw [Nat.add_sub_cancel,← l.m,List.drop_left,List.take_of_length_le (by rw [zer_len]; exact Nat.le_refl _)]
  rw [hd,if_pos ⟨by omega,hz⟩]
  omega
theorem tkAll_good {k:Nat} {A:List It} (h:OkA k A) {I N t:List UInt8} (hI:(bA k A).a <+: I) (hN:(bA k A).b <+: N) (ht:t.length<64∨t=zer 64):tkAll k I N ((bA k A).m++t)=some ((bA k A).ends,(bA k A).chain):=by
 rw [tkAll,cntM_good h ht,tkA_good h hI hN (List.prefix_append _ _) A.length (Nat.le_refl _),List.take_of_length_le (Nat.le_refl _)]
end Go.Proofs.YtoblgjledefdbaaGreatDoor.St
namespace Go.Proofs.YtoblgjledefdbaaGreatDoor.St.Rc
open Go.RowKit
attribute [local go_sem ↓] Go.wp_at_zero Go.wp_at_succ
def mC (m:MV):Array Value:=#[.int .i64 m.k,.int .u64 (m.size:Int),.int .u64 (m.items:Int),.int .u64 (m.nodes:Int),.int .u32 (m.chain.toNat:Int)]
def pC (g:Nat):Array Value:=#[.slice (some ⟨g,0,none⟩) 4 4,.slice (some ⟨g,4,none⟩) 1 1,.slice (some ⟨g,8,none⟩) 8 8,.slice (some ⟨g,16,none⟩) 8 8,.slice (some ⟨g,24,none⟩) 8 8,.slice (some ⟨g,32,none⟩) 4 4]
structure Mk (w W:World) (m:MV) (bm g bp:Nat) (l:List UInt8):Prop where
 hm:W.heap[bm]? = some (.cells (mC m) 239 (0,0))
 hp:W.heap[bp]? = some (.cells (pC g) 339 (0,0))
 row:Byt W g l
 len:l.length=64
 nm:bm≠g
 np:bp≠g
 lg:w.heap.size≤g
 bel:Below w.heap.size w W
theorem Mk.cells {w W:World} {m:MV} {bm g bp:Nat} {l:List UInt8} (h:Mk w W m bm g bp l) :
  W.cell? ⟨bm,0,none⟩=some (.int .i64 m.k)∧W.cell? ⟨bm,1,none⟩=some (.int .u64 (m.size:Int))∧W.cell? ⟨bm,2,none⟩=some (.int .u64 (m.items:Int))∧W.cell? ⟨bm,3,none⟩=some (.int .u64 (m.nodes:Int))∧W.cell? ⟨bm,4,none⟩=some (.int .u32 (m.chain.toNat:Int)) ∧
  W.cell? ⟨bp,0,none⟩=some (.slice (some ⟨g,0,none⟩) 4 4)∧W.cell? ⟨bp,1,none⟩=some (.slice (some ⟨g,4,none⟩) 1 1)∧W.cell? ⟨bp,2,none⟩=some (.slice (some ⟨g,8,none⟩) 8 8)∧W.cell? ⟨bp,3,none⟩=some (.slice (some ⟨g,16,none⟩) 8 8)∧W.cell? ⟨bp,4,none⟩=some (.slice (some ⟨g,24,none⟩) 8 8)∧W.cell? ⟨bp,5,none⟩=some (.slice (some ⟨g,32,none⟩) 4 4):=by
 refine ⟨?_,?_,?_,?_,?_,?_,?_,?_,?_,?_,?_⟩
 iterate 5 (rw [cell_of_row W bm _ _ _ (0,0) h.hm]; rfl)
 iterate 6 (rw [cell_of_row W bp _ _ _ (0,0) h.hp]; rfl)
theorem Mk.upo {w W W':World} {m:MV} {bm g bp:Nat} {l l':List UInt8} (h:Mk w W m bm g bp l) (hu:Upo (fun b=>b=g) W W') (hr:Byt W' g l') (hl:l'.length=64):Mk w W' m bm g bp l' :=
 ⟨(hu.block bm (Array.getElem?_eq_some_iff.1 h.hm).1 h.nm).trans h.hm,(hu.block bp (Array.getElem?_eq_some_iff.1 h.hp).1 h.np).trans h.hp,hr,hl,h.nm,h.np,h.lg,hu.since h.bel h.lg⟩
theorem Mk.put {w W:World} {m:MV} {bm g bp:Nat} {l:List UInt8} (h:Mk w W m bm g bp l) (off len n:Nat) (ho:off+len≤64) (h8:len≤8) (hn:n<18446744073709551616) :
  Calls Tryz.prog 264 #[.slice (some ⟨g,off,none⟩) len len,.int .u64 (n:Int)] W fun e w'=>e = .returned (.tuple #[])∧Mk w w' m bm g bp (ovr l off (big len n)):=by
 refine (put_any W g off len len n l h.row (by rw [h.len]; exact ho) h8 hn).mono ?_
 rintro e w' ⟨rfl,hy,hu⟩
 exact ⟨rfl,h.upo hu hy (by rw [ovr_len _ _ _ (by rw [big_len,h.len]; exact ho),h.len])⟩
theorem mrk_row (k a b c d:Nat):ovr (ovr (ovr (ovr (ovr (ovr (zer 64) 0 [109,115,102,1]) 4 (big 1 k)) 8 (big 8 a)) 16 (big 8 b)) 24 (big 8 c)) 32 (big 4 d)=bodyM k a b c d++zer 4:=by
 have e64:zer 64=[]++zer 64:=rfl
 rw [e64,ovr_zer [] _ _ 0 rfl,List.nil_append,show ([109,115,102,1]:List UInt8).length=4 from rfl,ovr_zer _ _ _ 4 rfl,big_len]
 rw [show zer (64 - 4 - 1)=zer 3++zer 56 from rfl,← List.append_assoc,ovr_zer _ _ _ 8 (by simp [big_len,zer_len]),big_len]
 rw [ovr_zer _ _ _ 16 (by simp [big_len,zer_len]),big_len,ovr_zer _ _ _ 24 (by simp [big_len,zer_len]),big_len,ovr_zer _ _ _ 32 (by simp [big_len,zer_len]),big_len]
 rw [bodyM,show zer (56 - 8 - 8 - 8 - 4)=zer 24++zer 4 from rfl,List.append_assoc _ (zer 24)]
theorem Mk.first {w W:World} {m:MV} {bm g bp:Nat} (h:Mk w W m bm g bp (zer 64)) : ∃ W',(∀ ty,(Builtin.copy_ #[127,9] ty #[.slice (some ⟨g,0,none⟩) 4 4,.string ⟨#[109,115,102,1]⟩]).run Tryz.prog W = .ok (goInt 4) W')∧Mk w W' m bm g bp (ovr (zer 64) 0 [109,115,102,1]):=by
 refine ⟨W.setCells g 0 (cY [109,115,102,1]),fun ty=>run_copy ty (k:=0) (n:=4) (m:=4) (o:=0) h.row (by rw [zer_len]; decide) (fun _=>rfl) (Nat.le_refl _),h.upo (Upo.sets (S:=fun b=>b=g) (.inl rfl) _ 0 _ (Upo.refl _ _)) (h.row.over 0 _ (by rw [zer_len]; decide)) ?_⟩
 rw [ovr_len _ _ _ (by rw [zer_len]; decide),zer_len]
theorem Mk.seal {w W:World} {m:MV} {bm g bp:Nat} {k a b c d:Nat} (h:Mk w W m bm g bp (ovr (ovr (ovr (ovr (ovr (ovr (zer 64) 0 [109,115,102,1]) 4 (big 1 k)) 8 (big 8 a)) 16 (big 8 b)) 24 (big 8 c)) 32 (big 4 d))) (t:ByteArray) (ht:(⟨(sld (bodyM k a b c d)).toArray⟩:ByteArray)=t) :
  Calls Tryz.prog 265 #[.slice (some ⟨g,0,none⟩) 64 64] W fun e w'=>e = .returned (.string t)∧Below w.heap.size w w':=by
 have hr:=h.row
 have hl:=h.len
 rw [mrk_row] at hr hl
 have htk:(bodyM k a b c d++zer 4).take (64 - 4)=bodyM k a b c d:=by
  rw [List.take_append_of_le_length (by rw [bodyM_len]; decide),List.take_of_length_le (by rw [bodyM_len]; decide)]
 refine (sealed_any W g 64 64 _ hr hl (by decide) (Nat.le_refl _) (by decide) t (by rw [htk]; exact ht)).mono ?_
 rintro e w' ⟨rfl,_,hup⟩
 exact ⟨rfl,hup.since h.bel h.lg⟩
set_option maxRecDepth 100000 in
set_option maxHeartbeats 2000000 in
theorem mark_any (w:World) (m:MV) (h1:m.size<18446744073709551616) (h2:m.items<18446744073709551616) (h3:m.nodes<18446744073709551616) (t:ByteArray) (ht:(⟨(mrk m).toArray⟩:ByteArray)=t) :
  Calls Tryz.prog 177 #[.agg (mC m)] w fun e w'=>e = .returned (.string t)∧Below w.heap.size w w':=by
 obtain ⟨mk,ma,mb,mc,md⟩:=m
 have HS:=fun W=>strength_any W mk
 have h4:=md.isLt
 by_cases hk:1≤mk∧mk≤32
 ·rw [decide_eq_true hk] at HS
  rw [mrk,if_pos hk] at ht
  obtain ⟨k,rfl⟩ : ∃ k:Nat,mk=(k:Int):=⟨mk.toNat,by omega⟩
  simp only [Int.toNat_natCast] at ht h1 h2 h3
  have hw:IntKind.u64.wrap (k:Int)=(k:Int):=by rw [IntKind.wrap_u64]; omega
  obtain ⟨d,hd⟩ : ∃ d,md.toNat=d:=⟨_,rfl⟩
  have hw2:IntKind.u64.wrap (d:Int)=(d:Int):=by rw [IntKind.wrap_u64]; omega
  have H4:Hid (k<18446744073709551616∧ma<18446744073709551616∧mb<18446744073709551616∧mc<18446744073709551616∧d<18446744073709551616):=⟨by omega,h1,h2,h3,by omega⟩
  have hmk : ∀ u:World,(Instr.makeSlice 127 (.int .i64 64) (.int .i64 64)).run Tryz.prog u = .ok (.slice (some ⟨u.heap.size,0,none⟩) 64 64) (u.alloc (.cells (Array.replicate 64 (Value.int .u8 0)) 5)):=fun u=>make_bytes 64 (by decide) u
  have HPP:Hid (∀ W g,Calls Tryz.prog 273 #[.slice (some ⟨g,0,none⟩) 64 64] W fun e w'=>e = .returned (mP g)∧Below W.heap.size W w'):=fun W g=>mparts_any W g 64 64 (by decide)
  obtain ⟨z64,hz⟩ : ∃ z,Array.replicate 64 (Value.int .u8 0)=z:=⟨_,rfl⟩
  rw [hz] at hmk
  have HZ:Hid (Array.replicate 64 (Value.int .u8 0)=z64):=hz
  have HT:Hid ((⟨(sld (bodyM k ma mb mc d)).toArray⟩:ByteArray)=t):=by rw [← hd]; exact ht
  clear ht hz h1 h2 h3 h4 hk
  unfold mC
  rw [hd]
  go_enter Tryz.func177,Tryz.ntmps177
  go_upto_region 5 with (first
   | (go_at_call 272; with_reducible refine (HS _).mono ?_; rintro e w1 ⟨rfl,rfl⟩)
   | (go_at_call 273; with_reducible refine (HPP.out _ _).mono ?_; rintro e w2 ⟨rfl,hb⟩; unfold mP))
  obtain ⟨w3,hw3⟩ : ∃ w3,w2.alloc (.cells (pC (w.heap.size+1)) 339)=w3:=⟨_,rfl⟩
  obtain ⟨wa,hwa⟩ : ∃ wa,w.alloc (.cells (mC ⟨(k:Int),ma,mb,mc,md⟩) 239)=wa:=⟨_,rfl⟩
  have M3:Mk w w3 ⟨(k:Int),ma,mb,mc,md⟩ w.heap.size (w.heap.size+1) w2.heap.size (zer 64):=by
   have hb':=hb
   unfold mC at hwa
   rw [hd] at hwa
   rw [hwa] at hb'
   have hsa:wa.heap.size=w.heap.size+1:=by rw [← hwa]; simp
   have y0:Byt (wa.alloc (.cells z64 5)) (w.heap.size+1) (zer 64):=by
    rw [← HZ.out,← hsa]; exact byt_made wa 64
   have s2:w.heap.size+2≤w2.heap.size:=by have:=hb'.size; simp at this; omega
   have y2:=y0.next hb' (by simp; omega)
   have m2:w2.heap[w.heap.size]? = some (.cells (mC ⟨(k:Int),ma,mb,mc,md⟩) 239 (0,0)):=by
    rw [hb'.block _ (by simp; omega),(MapKept.heap_alloc wa _).2 _ (by omega),← hwa,new1]
    unfold mC
    rw [hd]
   have b2:Below w.heap.size w w2:=bnext (by rw [← hwa]; exact bal (bal (Below.refl _ _) _) _) hb'
   rw [← hw3]
   exact ⟨(MapKept.heap_alloc w2 _).2 _ (by omega) |>.trans m2,new1 _ _,y2.same ((MapKept.heap_alloc w2 _).2 _ (by omega)),zer_len _,by omega,by omega,by omega,bal b2 _⟩
  unfold pC at hw3
  rw [hw3]
  generalize w.heap.size+1=g at *
  generalize w2.heap.size=bp at *
  obtain ⟨w4,hcp,M⟩:=M3.first
  have HM:Hid (∀ W l,Mk w W ⟨(k:Int),ma,mb,mc,md⟩ w.heap.size g bp l→W.cell? ⟨w.heap.size,0,none⟩=some (.int .i64 (k:Int))∧W.cell? ⟨w.heap.size,1,none⟩=some (.int .u64 (ma:Int))∧W.cell? ⟨w.heap.size,2,none⟩=some (.int .u64 (mb:Int))∧W.cell? ⟨w.heap.size,3,none⟩=some (.int .u64 (mc:Int))∧W.cell? ⟨w.heap.size,4,none⟩=some (.int .u32 (d:Int)) ∧
    W.cell? ⟨bp,0,none⟩=some (.slice (some ⟨g,0,none⟩) 4 4)∧W.cell? ⟨bp,1,none⟩=some (.slice (some ⟨g,4,none⟩) 1 1)∧W.cell? ⟨bp,2,none⟩=some (.slice (some ⟨g,8,none⟩) 8 8)∧W.cell? ⟨bp,3,none⟩=some (.slice (some ⟨g,16,none⟩) 8 8)∧W.cell? ⟨bp,4,none⟩=some (.slice (some ⟨g,24,none⟩) 8 8)∧W.cell? ⟨bp,5,none⟩=some (.slice (some ⟨g,32,none⟩) 4 4)):=fun W l h=>by
   have:=h.cells
   simp only [hd] at this
   exact this
  have p0:=(HM.out _ _ M3).2.2.2.2.2.1
  obtain ⟨c0,c1,c2,c3,c4,_,q1,q2,q3,q4,q5⟩:=HM.out _ _ M
  clear hw3 hd hb HPP HS hmk hwa
  go_wp2_with (first
   | (refine wpList_copy_at (by rfl) _ _ _ _ (by rfl) (by rfl) (by rfl) (hcp _) ?_)
   | (go_at_call 264; (first
     | (with_reducible refine (M.put 4 1 k (by decide) (by decide) H4.out.1).mono ?_)
     | (with_reducible refine (M.put 8 8 ma (by decide) (by decide) H4.out.2.1).mono ?_)
     | (with_reducible refine (M.put 16 8 mb (by decide) (by decide) H4.out.2.2.1).mono ?_)
     | (with_reducible refine (M.put 24 8 mc (by decide) (by decide) H4.out.2.2.2.1).mono ?_)
     | (with_reducible refine (M.put 32 4 d (by decide) (by decide) H4.out.2.2.2.2).mono ?_)); rintro e w5 ⟨rfl,M⟩; obtain ⟨c0,c1,c2,c3,c4,_,q1,q2,q3,q4,q5⟩:=HM.out _ _ M)
   | (go_at_call 265; with_reducible refine (M.seal t HT.out).mono ?_; rintro e w6 ⟨rfl,hb6⟩))
  go_ret
  exact ⟨rfl,hb6⟩
 ·rw [decide_eq_false hk] at HS
  rw [mrk,if_neg hk] at ht
  subst ht
  unfold mC
  go_enter Tryz.func177,Tryz.ntmps177
  go_wp2_with (go_at_call 272; with_reducible refine (HS _).mono ?_; rintro e w1 ⟨rfl,rfl⟩)
  go_ret
  exact ⟨rfl,bal (Below.refl _ _) _⟩
end Go.Proofs.YtoblgjledefdbaaGreatDoor.St.Rc
namespace Go.Proofs.YtoblgjledefdbaaGreatDoor.St
open Go.RowKit
open Rc
attribute [local go_sem ↓] Go.wp_at_zero Go.wp_at_succ
theorem bdw {B:Nat} {w W:World} (h:Below B w W):Below B w W.drew:=⟨h.os,h.tape,h.output,h.size,h.block⟩
theorem bset5 {w W:World} (h:Below w.heap.size w W) {g:Nat} (hg:w.heap.size≤g) (a b c d e:Value):Below w.heap.size w (((((W.setCell ⟨g,0,none⟩ a).setCell ⟨g,1,none⟩ b).setCell ⟨g,2,none⟩ c).setCell ⟨g,3,none⟩ d).setCell ⟨g,4,none⟩ e) :=
 Upo.below (S:=fun _=>False) (((((Upo.of h).set g 0 a (.inr hg)).set g 1 b (.inr hg)).set g 2 c (.inr hg)).set g 3 d (.inr hg) |>.set g 4 e (.inr hg)) (Nat.le_refl _) (fun _ q=>q.elim)
theorem set5_at {W:World} {g:Nat} {x0 x1 x2 x3 x4:Value} {T:TypeId} (h:W.heap[g]? = some (.cells #[x0,x1,x2,x3,x4] T (0,0))) (a b c d e:Value):(((((W.setCell ⟨g,0,none⟩ a).setCell ⟨g,1,none⟩ b).setCell ⟨g,2,none⟩ c).setCell ⟨g,3,none⟩ d).setCell ⟨g,4,none⟩ e).heap[g]? = some (.cells #[a,b,c,d,e] T (0,0)):=by
 have h1:(W.setCell ⟨g,0,none⟩ a).heap[g]? = some (.cells #[a,x1,x2,x3,x4] T (0,0)):=heap_setCell_same W g 0 _ _ a h
 have h2:((W.setCell ⟨g,0,none⟩ a).setCell ⟨g,1,none⟩ b).heap[g]? = some (.cells #[a,b,x2,x3,x4] T (0,0)):=heap_setCell_same _ g 1 _ _ b h1
 have h3:(((W.setCell ⟨g,0,none⟩ a).setCell ⟨g,1,none⟩ b).setCell ⟨g,2,none⟩ c).heap[g]? = some (.cells #[a,b,c,x3,x4] T (0,0)):=heap_setCell_same _ g 2 _ _ c h2
 have h4:((((W.setCell ⟨g,0,none⟩ a).setCell ⟨g,1,none⟩ b).setCell ⟨g,2,none⟩ c).setCell ⟨g,3,none⟩ d).heap[g]? = some (.cells #[a,b,c,d,x4] T (0,0)):=heap_setCell_same _ g 3 _ _ d h3
 exact heap_setCell_same _ g 4 _ _ e h4
section
variable {q p:Nat} {T:Nat→Prop} {D:DV} {S:SV}
theorem chn_lt (c:BitVec 32) (s:List UInt8) (ss:List ByteArray):chn c s ss<4294967296:=crc_lt _
set_option maxRecDepth 100000 in
set_option maxHeartbeats 8000000 in
theorem fnext_any (w:World) (h:Sk w q p T D S) (s:ByteArray) (hs:s.size≤1073741824) (ao:Option Addr) (b off len cap:Nat) (ss:List ByteArray) (hr:Rc.RdS w ao b off len ss) (hmx:len≤9223372036854775807) (m:MV) (hm:nxM S.k S.ends S.chain s.data.toList ss=m) :
  Calls Tryz.prog 169 #[.pointer (some ⟨q,0,none⟩),.string s,.slice ao len cap] w fun e w'=>e = .returned (.agg (mC m))∧Below w.heap.size w w':=by
 obtain ⟨hk1,hk2,hf,_,_,hl⟩:=h.small
 have hb:=nn_le (S.ends.length+1)
 have hlt:=chn_lt S.chain s.data.toList ss
 obtain ⟨cv,hcv⟩ : ∃ c,chn S.chain s.data.toList ss=c:=⟨_,rfl⟩
 have hz:=size_list s
 have em:mC m=#[.int .i64 (S.k:Int),.int .u64 ((S.ends.length:Int)+1),.int .u64 ((lst S.ends:Int)+(s.size:Int)),.int .u64 ((nn (S.ends.length+1):Int) * 40),.int .u32 (cv:Int)]:=by
  rw [← hm,mC,nxM,hz,hcv]
  simp only [BitVec.toNat_ofNat]
  rw [Nat.mod_eq_of_lt (by omega)]
  simp
 rw [em]
 obtain ⟨w1,hw1⟩ : ∃ W,w.alloc (.cells #[.int .i64 0,.int .u64 0,.int .u64 0,.int .u64 0,.int .u32 0] 239)=W:=⟨_,rfl⟩
 have u1:Below w.heap.size w w1:=by rw [← hw1]; exact bal (Below.refl _ _) _
 obtain ⟨bo,hbo⟩ : ∃ b,w.heap.size=b:=⟨_,rfl⟩
 obtain ⟨ea,ec,hcs⟩:=h.seen
 have HC:Hid (∀ W,Below w.heap.size w W→W.cell? ⟨q,1,none⟩=some (.int .i64 (S.k:Int))∧W.cell? ⟨q,2,none⟩=some (.slice ea S.ends.length ec)∧W.cell? ⟨q,3,none⟩=some (.int .u32 (S.chain.toNat:Int))):=fun W hW=>⟨(hcs W hW).2.1,(hcs W hW).2.2.1,(hcs W hW).2.2.2.1⟩
 have HS:Hid (∀ W,Below w.heap.size w W→Calls Tryz.prog 74 #[.pointer (some ⟨q,0,none⟩)] W fun e w'=>e = .returned (.int .u64 (S.ends.length:Int))∧w'=W):=fun W hW=>fsize_any W (h.next hW)
 have HL:Hid (∀ W,Below w.heap.size w W→Calls Tryz.prog 155 #[.pointer (some ⟨q,0,none⟩),.string ⟨#[105,116,101,109,115]⟩] W fun e w'=>e = .returned (.int .i64 (lst S.ends:Int))∧w'=W):=fun W hW=>length_items W (h.next hW)
 have HN:Hid (∀ W,Calls Tryz.prog 245 #[.int .i64 ((S.ends.length:Int)+1)] W fun e w'=>e = .returned (.int .u64 (nn (S.ends.length+1):Int))∧w'=W):=fun W=>by
  have:=nodesof_any W (S.ends.length+1) (by omega)
  rw [Int.natCast_add] at this
  exact this
 have HK:Hid (∀ W,Below w.heap.size w W→Calls Tryz.prog 267 #[.int .u32 (S.chain.toNat:Int),.string s,.slice ao len cap] W fun e w'=>e = .returned (.int .u32 (cv:Int))∧Below w.heap.size w w'∧Below W.heap.size W w'):=fun W hW =>
  (chain_any W S.chain s (by omega) ao b off len cap ss (hr.next hW (Nat.le_refl _)) hmx cv hcv).mono fun e w' z=>⟨z.1,bnext hW z.2,z.2⟩
 clear hr hcs h hm em hcv hz hlt
 generalize S.chain.toNat=cc at *
 generalize nn (S.ends.length+1)=m1 at *
 generalize lst S.ends=l1 at *
 generalize S.k=k at *
 generalize S.ends.length=n at *
 generalize hsz:s.size=sz at *
 have e1:IntKind.u64.wrap ((n:Int)+1)=(n:Int)+1:=wrap_u _ (by omega) (by omega)
 have e2:IntKind.i64.wrap ((n:Int)+1)=(n:Int)+1:=by rw [IntKind.wrap_i64]; omega
 have e3:IntKind.i64.wrap ((l1:Int)+(sz:Int))=(l1:Int)+(sz:Int):=by rw [IntKind.wrap_i64]; omega
 have e4:IntKind.u64.wrap ((l1:Int)+(sz:Int))=(l1:Int)+(sz:Int):=wrap_u _ (by omega) (by omega)
 have e5:IntKind.u64.wrap ((m1:Int) * 40)=(m1:Int) * 40:=wrap_u _ (by omega) (by omega)
 have H5:Hid (∀ W a b c d e,Below w.heap.size w W→Below w.heap.size w (((((W.setCell ⟨bo,0,none⟩ a).setCell ⟨bo,1,none⟩ b).setCell ⟨bo,2,none⟩ c).setCell ⟨bo,3,none⟩ d).setCell ⟨bo,4,none⟩ e)):=fun W a b c d e hW=>bset5 hW (by omega) a b c d e
 have HC5:Hid (∀ W a b c d e,Below w.heap.size w W→(((((W.setCell ⟨bo,0,none⟩ a).setCell ⟨bo,1,none⟩ b).setCell ⟨bo,2,none⟩ c).setCell ⟨bo,3,none⟩ d).setCell ⟨bo,4,none⟩ e).cell? ⟨q,1,none⟩=some (.int .i64 (k:Int))∧(((((W.setCell ⟨bo,0,none⟩ a).setCell ⟨bo,1,none⟩ b).setCell ⟨bo,2,none⟩ c).setCell ⟨bo,3,none⟩ d).setCell ⟨bo,4,none⟩ e).cell? ⟨q,2,none⟩=some (.slice ea n ec)∧(((((W.setCell ⟨bo,0,none⟩ a).setCell ⟨bo,1,none⟩ b).setCell ⟨bo,2,none⟩ c).setCell ⟨bo,3,none⟩ d).setCell ⟨bo,4,none⟩ e).cell? ⟨q,3,none⟩=some (.int .u32 (cc:Int))):=fun W a b c d e hW=>HC.out _ (H5.out W a b c d e hW)
 have HW:=hide hw1
 have HB:=hide hbo
 have hco:w1.heap[bo]? = some (.cells #[.int .i64 0,.int .u64 0,.int .u64 0,.int .u64 0,.int .u32 0] 239 (0,0)):=by rw [← hw1,← hbo]; exact new1 _ _
 have HO:Hid (∀ W,Below w1.drew.heap.size w1.drew W → ∀ j,W.frozen? ⟨bo,j,none⟩=false):=fun W hW j=>frozen_of_row W bo j _ _ ((hW.block bo (Array.getElem?_eq_some_iff.1 hco).1).trans hco)
 have HP:Hid (∀ W,Below w1.drew.heap.size w1.drew W→W.heap[bo]? = some (.cells #[.int .i64 0,.int .u64 0,.int .u64 0,.int .u64 0,.int .u32 0] 239 (0,0))):=fun W hW=>(hW.block bo (Array.getElem?_eq_some_iff.1 hco).1).trans hco
 clear hco
 clear hw1 hbo
 go_enter Tryz.func169,Tryz.ntmps169
 go_upto_region 1 with (fail)
 rw [HW.out,HB.out]
 have u:=bdw u1
 go_region_held3 (fun Z=>Z.cell? ⟨q,1,none⟩=some (.int .i64 (k:Int))∧Z.cell? ⟨q,2,none⟩=some (.slice ea n ec)∧Z.cell? ⟨q,3,none⟩=some (.int .u32 (cc:Int))) (first | assumption | (with_reducible exact HC5.out _ _ _ _ _ _ u) | (with_reducible exact HC.out _ u)) (first
  | (go_at_call 74; (with_reducible refine (HS.out _ u).mono ?_); rintro e w2 ⟨rfl,rfl⟩)
  | (go_at_call 155; (with_reducible refine (HL.out _ u).mono ?_); rintro e w2 ⟨rfl,rfl⟩)
  | (go_at_call 245; (with_reducible refine (HN.out _).mono ?_); rintro e w2 ⟨rfl,rfl⟩)
  | (go_at_call 267; (with_reducible refine (HK.out _ u).mono ?_); rintro e w2 ⟨rfl,u,u2⟩; have hfz:=HO.out _ u2; have ⟨b0,b1,b2,b3,b4⟩:=five_at (HP.out _ u2)))
 all_goals
  have z5:=H5.out w2 (.int .i64 (k:Int)) (.int .u64 ((n:Int)+1)) (.int .u64 ((l1:Int)+(sz:Int))) (.int .u64 ((m1:Int) * 40)) (.int .u32 (cv:Int)) u
  have z6:=five_at (set5_at (HP.out _ u2) (.int .i64 (k:Int)) (.int .u64 ((n:Int)+1)) (.int .u64 ((l1:Int)+(sz:Int))) (.int .u64 ((m1:Int) * 40)) (.int .u32 (cv:Int)))
  clear H5 HC5 HC HS HL HN HK HO HP hfz b0 b1 b2 b3 b4
  generalize (((((w2.setCell ⟨bo,0,none⟩ (.int .i64 (k:Int))).setCell ⟨bo,1,none⟩ (.int .u64 ((n:Int)+1))).setCell ⟨bo,2,none⟩ (.int .u64 ((l1:Int)+(sz:Int)))).setCell ⟨bo,3,none⟩ (.int .u64 ((m1:Int) * 40))).setCell ⟨bo,4,none⟩ (.int .u32 (cv:Int)))=wz at *
  obtain ⟨y0,y1,y2,y3,y4⟩:=z6
  repeat go_step
  exact bodyPost_ret (v := .agg #[.int .i64 (k:Int),.int .u64 ((n:Int)+1),.int .u64 ((l1:Int)+(sz:Int)),.int .u64 ((m1:Int) * 40),.int .u32 (cv:Int)]) (by simp [results,Tryz.results169,go_sem,y0,y1,y2,y3,y4]) rfl ⟨rfl,z5⟩
end
end Go.Proofs.YtoblgjledefdbaaGreatDoor.St
