/- Own work. -/
import Derived.Deep.Cut
import Derived.Deep.CutRange
import Derived.Test.YtoblgjledefdbaaGreatDoorQf23
namespace Go.Proofs.YtoblgjledefdbaaGreatDoor.St
open Go.RowKit
open Rc
attribute [local go_sem ↓] Go.wp_at_zero Go.wp_at_succ
theorem rep_zero:(⟨(Lib.repeatL [0] 64).toArray⟩:ByteArray)=tx (zer 64):=by kernel_rfl
theorem isnone_any (w:World) (s:ByteArray) (b:Bool) (hb:decide (s.data.toList=zer 64)=b):Calls Tryz.prog 153 #[.string s] w fun e w'=>e = .returned (.bool b)∧Below w.heap.size w w':=by
 have HR:Hid (Calls Tryz.prog 242 #[.string ⟨#[0]⟩,.int .i64 64] w fun e w'=>e = .returned (.string (tx (zer 64)))∧Below w.heap.size w w'):=by
  have:=Tryz.strings_Repeat_main ⟨#[0]⟩ 64 w (by decide) (by decide) (by decide) (by decide)
  rw [show (ByteArray.mk #[0]).data.toList=[0] from rfl,rep_zero] at this
  exact this
 have h1:(s.toList == (tx (zer 64)).toList)=b:=by
  rw [← hb]
  by_cases h:s=tx (zer 64)
  ·rw [beq_yes h,h,tx_data]; simp
  ·rw [beq_ne h]
   exact (decide_eq_false fun e=>h (Rc.ba_ext (by rw [e,tx_data]))).symm
 generalize tx (zer 64)=z at *
 clear hb
 go_enter Tryz.func153,Tryz.ntmps153
 go_wp2_with (go_at_call 242; refine HR.out.mono ?_; rintro e w1 ⟨rfl,u1⟩)
 go_ret
 exact ⟨by simp_all,u1⟩
theorem rdN_len (k:Nat) (b:List UInt8) (p:Nat) : ∀ {j:Nat} {l:List ByteArray},rdN k b p j=some l→l.length=j ∧ ∀ x∈l,x.size=40
 | 0,l,h=>by simp only [rdN,Option.some.injEq] at h; subst h; simp
 | j+1,l,h=>by
  rw [rdN] at h
  cases hq:rdN k b p j with
  | none=>rw [hq] at h; cases h
  | some l' =>
   rw [hq] at h
   simp only at h
   split at h
   ·rename_i hc
    simp only [Option.some.injEq] at h
    subst h
    obtain ⟨h1,h2⟩:=rdN_len k b p hq
    refine ⟨by simp [h1],fun x hx => ?_⟩
    rcases List.mem_append.1 hx with h | h
    ·exact h2 x h
    ·rw [List.mem_singleton.1 h,tx_size,rowN,List.length_take,List.length_drop]
     have:=hc.1
     omega
   ·cases h
theorem rdN_none {k:Nat} {b:List UInt8} {p j:Nat} (h:rdN k b p j=none) : ∀ i,j≤i→rdN k b p i=none:=fun i hi=>by
 induction i with
 | zero => obtain rfl : j = 0 := by omega
           exact h
 | succ i ih =>
  by_cases e:j=i+1
  ·rw [← e]; exact h
  ·rw [rdN,ih (by omega)]
def RnQ (w:World) (o:Option (List ByteArray)) (e:Ending) (w':World):Prop:=Below w.heap.size w w'∧match o with
 | none=>e = .returned (.tuple #[.slice none 0 0,.int .i64 190])
 | some rows => ∃ va vc,e = .returned (.tuple #[.slice va rows.length vc,.int .i64 0])∧Rc.OwnS w' w.heap.size (.slice va rows.length vc) rows
theorem rdS_row {D:DV} (hd:D.down=false) (s:List UInt8) (a n:Nat):rdS D s (a:Int) (n:Int)=if a+n≤(now D s).length then (((now D s).drop a).take n,0) else ([],190):=by
 have e1:rdD D s (a:Int) (n:Int)=if a+n≤(now D s).length then (((now D s).drop a).take n,0) else ([],173):=by
  unfold rdD now
  rw [hd]
  simp only [Bool.false_eq_true,if_false,Int.toNat_natCast]
  by_cases h:a+n≤(fget D.L s).now.length
  ·rw [if_neg (by omega),if_pos h]
  ·rw [if_pos (by omega),if_neg h]
 unfold rdS
 rw [e1]
 by_cases h:a+n≤(now D s).length
 ·simp only [if_pos h]; rfl
 ·simp only [if_neg h]; rfl
set_option maxRecDepth 100000 in
theorem newnodes_any (w:World) {q p:Nat} {T:Nat→Prop} {D:DV} {S:SV} (h:Sk w q p T D S) (hd:D.down=false) (hfew:S.ends.length<65536) :
  Calls Tryz.prog 244 #[.pointer (some ⟨q,0,none⟩)] w (RnQ w (rdN S.k (now D nmN) (nn S.ends.length) (nn (S.ends.length+1) - nn S.ends.length))):=by
 obtain ⟨hk1,hk2,hf,_⟩:=h.small
 have hmm:=nn_mono S.ends.length hf
 obtain ⟨ea,ec,hcs⟩:=h.seen
 have HC:Hid (∀ W,Below w.heap.size w W→W.cell? ⟨q,1,none⟩=some (.int .i64 (S.k:Int))):=fun W hW=>(hcs W hW).2.1
 obtain ⟨_,_,c2,_,_⟩:=hcs w (Below.refl _ _)
 have HN:Hid (∀ W,Calls Tryz.prog 245 #[.int .i64 (S.ends.length:Int)] W fun e w'=>e = .returned (.int .u64 (nn S.ends.length:Int))∧w'=W):=fun W=>nodesof_any W S.ends.length (by omega)
 have HN1:Hid (∀ W,Calls Tryz.prog 245 #[.int .i64 ((S.ends.length:Int)+1)] W fun e w'=>e = .returned (.int .u64 (nn (S.ends.length+1):Int))∧w'=W):=fun W=>by
  have:=nodesof_any W (S.ends.length+1) (by omega)
  rw [Int.natCast_add] at this
  exact this
 have hz:=h.sz nmN
 have HR:Hid (∀ W,Below w.heap.size w W → ∀ i t r,rdS D nmN ((i * 40:Nat):Int) 40=(t,r)→i≤131074→Calls Tryz.prog 143 #[.pointer (some ⟨q,0,none⟩),.string ⟨#[110,111,100,101,115]⟩,.int .i64 ((i:Int) * 40),.int .i64 40] W fun e w'=>e = .returned (.tuple #[.string (tx t),.int .i64 r])∧Below W.heap.size W w'):=fun W hW i t r h1 h2=>by
  rw [show (i:Int) * 40=((i * 40:Nat):Int) by omega]
  exact fread_any W (h.next hW) ⟨#[110,111,100,101,115]⟩ (by decide) _ _ (by omega) (by omega) (by omega) (by omega) (tx t) r (by rw [show (ByteArray.mk #[110,111,100,101,115]).data.toList=nmN from rfl,h1]) (by rw [show (ByteArray.mk #[110,111,100,101,115]).data.toList=nmN from rfl,h1])
 have hrow:=fun i=>rdS_row hd nmN (i * 40) 40
 clear hcs h
 obtain ⟨nb,hnb⟩ : ∃ l,now D nmN=l:=⟨_,rfl⟩
 rw [hnb] at hrow ⊢
 generalize nn (S.ends.length+1)=m1 at *
 generalize nn S.ends.length=m0 at *
 generalize S.ends.length=n at *
 generalize S.k=k at *
 have e1:IntKind.i64.wrap ((n:Int)+1)=(n:Int)+1:=by rw [IntKind.wrap_i64]; omega
 obtain ⟨m,hm⟩ : ∃ m,m1 - m0=m:=⟨_,rfl⟩
 have hm1:m1=m0+m:=by omega
 subst hm1
 rw [hm]
 clear hm
 go_enter Tryz.func244,Tryz.ntmps244
 go_wp2_with (go_at_call 245; (with_reducible refine (HN.out _).mono ?_); rintro e w1 ⟨rfl,rfl⟩)
 go_loopg [5,6] m (fun g v x wr => ∃ (j:Nat) (rows:List ByteArray),j≤m∧g=m - j∧x = .int .u64 ((m0+j:Nat):Int)∧Hid (rdN k nb m0 j=some rows)∧Hid (Rc.OwnS wr w1.heap.size v rows)∧Hid (Below w1.heap.size w1 wr))
 case atStart =>
  go_light
  exact ⟨0,[],Nat.zero_le _,rfl,rfl,rfl,Rc.owns_nil _ _,Below.refl _ _⟩
 case round =>
  obtain ⟨j,rows,hj,rfl,hx,HA,HO,HW⟩:=hrel
  obtain ⟨hrl,hrs⟩:=rdN_len k nb m0 HA.out
  obtain ⟨va,vc,rfl⟩:=own_slice HO.out
  rw [hrl] at HO
  obtain ⟨i,hi⟩ : ∃ i,m0+j=i:=⟨_,rfl⟩
  rw [hi] at hx
  subst hx
  by_cases hlt:j<m
  ·have hz1:((m0+j:Nat):Int)<((m0+m:Nat):Int):=by omega
   have ew1:IntKind.i64.wrap ((m0+j:Nat):Int)=((m0+j:Nat):Int):=by rw [IntKind.wrap_i64]; omega
   have ew2:IntKind.i64.wrap (((m0+j:Nat):Int) * 40)=((m0+j:Nat):Int) * 40:=by rw [IntKind.wrap_i64]; omega
   have ew3:IntKind.u64.wrap (((m0+j:Nat):Int)+1)=((m0+(j+1):Nat):Int):=by rw [wrap_u _ (by omega) (by omega)]; omega
   have hrow1:=hrow i
   rw [hi] at hz1 ew1 ew2 ew3
   have hstep:rdN k nb m0 (j+1)=if 40 * i+40≤nb.length∧(rnod k i (rowN nb i)).isSome then some (rows++[tx (rowN nb i)]) else none:=by rw [rdN,HA.out,hi]
   by_cases hin:i * 40+40≤nb.length
   ·rw [if_pos hin] at hrow1
    have er:(nb.drop (i * 40)).take 40=rowN nb i:=by rw [rowN,Nat.mul_comm]
    rw [er] at hrow1
    have HR1:=hide (HR.out wr HW.out i _ _ hrow1 (by omega))
    obtain ⟨row,hrw⟩ : ∃ l,rowN nb i=l:=⟨_,rfl⟩
    have hrz:row.length≤40:=by rw [← hrw,rowN,List.length_take]; omega
    rw [hrw] at HR1 hstep
    cases hq:rnod k i row with
    | none =>
     have hno:rdN k nb m0 m=none:=rdN_none (by rw [hstep,hq]; simp) m (by omega)
     have HN2:Hid (∀ W,Calls Tryz.prog 252 #[.int .i64 (k:Int),.int .u64 (i:Int),.string (tx row)] W fun e w'=>e = .returned (.tuple #[.string ⟨#[]⟩,.int .i64 180])∧Below W.heap.size W w'):=fun W=>rnode_any W (k:Int) i (by omega) (tx row) _ _ (rnT_no (by omega) (by show rnod (k:Int).toNat i row=none; simpa using hq))
     have HZ:Hid (∀ W W',Below wr.heap.size wr W→Below W.heap.size W W'→RnQ w1 (rdN k nb m0 m) (.returned (.tuple #[.slice none 0 0,.int .i64 190])) W'):=fun W W' h1 h2=>by
      rw [hno]
      exact ⟨bnext (bnext HW.out h1) h2,rfl⟩
     have CK:Hid (∀ W,Below wr.heap.size wr W→W.cell? ⟨q,1,none⟩=some (.int .i64 (k:Int))):=fun W h1=>HC.out W (bnext HW.out h1)
     generalize rdN k nb m0 m=rr at *
     generalize tx row=tr at *
     clear HA HO HW HC HR hrow hstep hno hq hi hrow1 hrs
     go_wp2_with (first
      | (go_at_call 245; (with_reducible refine (HN1.out _).mono ?_); rintro e w2 ⟨rfl,rfl⟩)
      | (go_at_call 143; (with_reducible refine HR1.out.mono ?_); rintro e w3 ⟨rfl,u3⟩; have c1:=CK.out _ u3)
      | (go_at_call 252; (with_reducible refine (HN2.out _).mono ?_); rintro e w4 ⟨rfl,u4⟩))
     go_ret2
     exact HZ.out _ _ u3 u4
    | some x =>
     have hyes:rdN k nb m0 (j+1)=some (rows++[tx row]):=by rw [hstep,hq,if_pos ⟨by omega,rfl⟩]
     have HN2:Hid (∀ W,Calls Tryz.prog 252 #[.int .i64 (k:Int),.int .u64 (i:Int),.string (tx row)] W fun e w'=>e = .returned (.tuple #[.string ⟨x.toArray⟩,.int .i64 0])∧Below W.heap.size W w'):=fun W=>rnode_any W (k:Int) i (by omega) (tx row) _ _ (rnT_yes (by omega) (by show rnod (k:Int).toNat i row=some x; simpa using hq))
     have CK:Hid (∀ W,Below wr.heap.size wr W→W.cell? ⟨q,1,none⟩=some (.int .i64 (k:Int))):=fun W h1=>HC.out W (bnext HW.out h1)
     have hts:(tx row).size≤9223372036854775807:=by rw [tx_size]; omega
     have HY:=hide hyes
     have HB2:Hid (∀ W W',Below wr.heap.size wr W→Below W.heap.size W W'→Rc.OwnS W' w1.heap.size (.slice va j vc) rows∧w1.heap.size≤W'.heap.size∧Below w1.heap.size w1 W'):=fun W W' h1 h2=>⟨Rc.own_next (Rc.own_next HO.out h1 (Nat.le_refl _)) h2 (Nat.le_refl _),(bnext (bnext HW.out h1) h2).size,bnext (bnext HW.out h1) h2⟩
     have hm40:=hmm.2.2
     clear HA HO HW HC HR hrow hstep hq hrow1 hrs hyes
     generalize tx row=tr at *
     go_wp2_with (first
      | (go_at_call 245; (with_reducible refine (HN1.out _).mono ?_); rintro e w2 ⟨rfl,rfl⟩)
      | (go_at_call 143; (with_reducible refine HR1.out.mono ?_); rintro e w3 ⟨rfl,u3⟩; have c1:=CK.out _ u3)
      | (go_at_call 252; (with_reducible refine (HN2.out _).mono ?_); rintro e w4 ⟨rfl,u4⟩)
      | (at_builtin; refine Rc.wpList_append_S _ rfl _ _ rfl w1.heap.size _ rows rfl (Rc.own_al (HB2.out _ _ u3 u4).1 _) (some ⟨w4.heap.size,0,none⟩) w4.heap.size 0 1 [tr] rfl (Rc.rds_one w4 tr hts) (fun h=>by cases h) (by rw [hrl]; show j+1≤_; omega) (by have:=(HB2.out _ _ u3 u4).2.1; rw [al_size]; omega) ?_))
     intro v5 w5 h5 u5
     have HZ:Hid (Rc.OwnS w5 w1.heap.size v5 (rows++[tr])∧Below w1.heap.size w1 w5):=⟨h5,(bal (HB2.out _ _ u3 u4).2.2 _).trans u5⟩
     clear h5 u5 HB2
     go_wp2
     go_roundg (m - (j+1))
     case rel =>
      go_light
      exact ⟨j+1,rows++[tr],by omega,rfl,by first | rfl | (congr 1; omega),HY.out,HZ.out.1,HZ.out.2⟩
     case measure=>go_light; omega
   ·rw [if_neg hin] at hrow1
    have HR1:=hide (HR.out wr HW.out i _ _ hrow1 (by omega))
    have hno:rdN k nb m0 m=none:=rdN_none (by rw [hstep,if_neg (fun h=>hin (by omega))]) m (by omega)
    have HZ:Hid (∀ W,Below wr.heap.size wr W→RnQ w1 (rdN k nb m0 m) (.returned (.tuple #[.slice none 0 0,.int .i64 190])) W):=fun W h1=>by
     rw [hno]
     exact ⟨bnext HW.out h1,rfl⟩
    generalize rdN k nb m0 m=rr at *
    clear HA HO HW HC HR hrow hstep hno hi hrow1 hrs
    go_wp2_with (first
     | (go_at_call 245; (with_reducible refine (HN1.out _).mono ?_); rintro e w2 ⟨rfl,rfl⟩)
     | (go_at_call 143; (with_reducible refine HR1.out.mono ?_); rintro e w3 ⟨rfl,u3⟩))
    go_ret2
    exact HZ.out _ u3
  ·have hz1 : ¬ (i:Int)<((m0+m:Nat):Int):=by omega
   obtain rfl:j=m:=by omega
   have HZ:Hid (RnQ w1 (rdN k nb m0 j) (.returned (.tuple #[.slice va j vc,.int .i64 0])) wr):=by
    rw [HA.out]
    exact ⟨HW.out,va,vc,by rw [hrl],by rw [hrl]; exact HO.out⟩
   generalize rdN k nb m0 j=rr at *
   clear HA HO HW HC HR hrow hrs
   go_wp2_with (go_at_call 245; (with_reducible refine (HN1.out _).mono ?_); rintro e w2 ⟨rfl,rfl⟩)
   go_ret2
   exact HZ.out
end Go.Proofs.YtoblgjledefdbaaGreatDoor.St
namespace Go.Proofs.YtoblgjledefdbaaGreatDoor.St.Rc
open Go.RowKit
attribute [local go_sem ↓] Go.wp_at_zero Go.wp_at_succ
def rmT (s:List UInt8):MV×Int:=match rmrk s with
 | some x=>(x,0)
 | none=>(MV.z,180)
theorem rmT_no {s:List UInt8} (h:rmrk s=none):rmT s=(MV.z,180):=by rw [rmT,h]
theorem rmT_yes {s:List UInt8} {x:MV} (h:rmrk s=some x):rmT s=(x,0):=by rw [rmT,h]
set_option maxRecDepth 100000 in
set_option maxHeartbeats 2000000 in
theorem rmark_any (w:World) (s:ByteArray) (rm:MV) (re:Int) (h:rmT s.data.toList=(rm,re)) :
  Calls Tryz.prog 243 #[.string s] w fun e w'=>e = .returned (.tuple #[.agg (mC rm),.int .i64 re])∧Below w.heap.size w w':=by
 by_cases h64:s.size=64
 ·have z1:((s.size:Int) == 64)=true:=by simp; omega
  obtain ⟨wz,hwz⟩ : ∃ wz,w.alloc (.cells #[.int .i64 0,.int .u64 0,.int .u64 0,.int .u64 0,.int .u32 0] 239)=wz:=⟨_,rfl⟩
  obtain ⟨c0,w1,kb,hc0,hy,hb1,hlt⟩:=bytes_of wz s 64 h64
  have HPP:Hid (∀ W g,Calls Tryz.prog 273 #[.slice (some ⟨g,0,none⟩) 64 c0] W fun e w'=>e = .returned (mP g)∧Below W.heap.size W w'):=fun W g=>mparts_any W g 64 c0 (by omega)
  have hsz:wz.heap.size=w.heap.size+1:=by rw [← hwz]; simp
  rw [hsz] at kb hy
  go_enter Tryz.func243,Tryz.ntmps243
  go_upto_region 4 with (first
   | (go_at_call 273; with_reducible refine (HPP.out _ _).mono ?_; rintro e w2 ⟨rfl,hb2⟩; unfold mP))
  obtain ⟨w3,hw3⟩ : ∃ w3,w2.alloc (.cells (pC (w.heap.size+1)) 339)=w3:=⟨_,rfl⟩
  obtain ⟨bp,hbp⟩ : ∃ bp,w2.heap.size=bp:=⟨_,rfl⟩
  have hs2:w.heap.size+2≤w2.heap.size:=by have:=hb1.size; have:=hb2.size; omega
  have HB:Hid (Byt w3 (w.heap.size+1) s.data.toList∧w3.heap[bp]? = some (.cells (pC (w.heap.size+1)) 339 (0,0))∧w3.heap[w.heap.size]? = some (.cells #[.int .i64 0,.int .u64 0,.int .u64 0,.int .u64 0,.int .u32 0] 239 (0,0))∧Below w.heap.size w w3∧w.heap.size+2≤bp∧bp<w3.heap.size):=by
   have hq:=(hy.next hb2 (by omega))
   have b2:Below wz.heap.size wz w2:=bnext hb1 hb2
   rw [← hw3,← hbp]
   refine ⟨hq.same ((MapKept.heap_alloc w2 _).2 _ (by omega)),new1 _ _,?_,bal (bnext (by rw [← hwz]; exact bal (Below.refl _ _) _) b2) _,hs2,by simp⟩
   rw [(MapKept.heap_alloc w2 _).2 _ (by omega),b2.block _ (by omega),← hwz]
   exact new1 _ _
  unfold pC at hw3
  rw [hw3,hbp]
  obtain ⟨g,hg⟩ : ∃ g,w.heap.size+1=g:=⟨_,rfl⟩
  rw [hg] at HB
  rw [hg]
  have HC:Hid (∀ W,Below w3.heap.size w3 W→W.cell? ⟨bp,1,none⟩=some (.slice (some ⟨g,4,none⟩) 1 1)∧W.cell? ⟨bp,2,none⟩=some (.slice (some ⟨g,8,none⟩) 8 8)∧W.cell? ⟨bp,3,none⟩=some (.slice (some ⟨g,16,none⟩) 8 8)∧W.cell? ⟨bp,4,none⟩=some (.slice (some ⟨g,24,none⟩) 8 8)∧W.cell? ⟨bp,5,none⟩=some (.slice (some ⟨g,32,none⟩) 4 4)):=fun W hb=>by
   have hh:W.heap[bp]? = some (.cells (pC g) 339 (0,0)):=(hb.block _ HB.out.2.2.2.2.2).trans HB.out.2.1
   refine ⟨?_,?_,?_,?_,?_⟩
   iterate 5 (rw [cell_of_row W bp _ _ _ (0,0) hh]; rfl)
  obtain ⟨n0,hn0⟩ : ∃ n,num ((s.data.toList.drop 4).take 1)=n:=⟨_,rfl⟩
  obtain ⟨n1,hn1⟩ : ∃ n,num ((s.data.toList.drop 8).take 8)=n:=⟨_,rfl⟩
  obtain ⟨n2,hn2⟩ : ∃ n,num ((s.data.toList.drop 16).take 8)=n:=⟨_,rfl⟩
  obtain ⟨n3,hn3⟩ : ∃ n,num ((s.data.toList.drop 24).take 8)=n:=⟨_,rfl⟩
  obtain ⟨n4,hn4⟩ : ∃ n,num ((s.data.toList.drop 32).take 4)=n:=⟨_,rfl⟩
  have hsl:s.data.toList.length=64:=by rw [size_list,h64]
  have gs:g<w3.heap.size:=by have:=HB.out.2.2.2.2; omega
  have H0:Hid (∀ W,Below w3.heap.size w3 W→Calls Tryz.prog 321 #[.slice (some ⟨g,4,none⟩) 1 1] W fun e w'=>e = .returned (.int .u64 (n0:Int))∧w'=W):=fun W hb=>number_any W g 4 1 1 _ (HB.out.1.next hb gs) (by omega) (by decide) n0 hn0
  have H1:Hid (∀ W,Below w3.heap.size w3 W→Calls Tryz.prog 321 #[.slice (some ⟨g,8,none⟩) 8 8] W fun e w'=>e = .returned (.int .u64 (n1:Int))∧w'=W):=fun W hb=>number_any W g 8 8 8 _ (HB.out.1.next hb gs) (by omega) (by decide) n1 hn1
  have H2:Hid (∀ W,Below w3.heap.size w3 W→Calls Tryz.prog 321 #[.slice (some ⟨g,16,none⟩) 8 8] W fun e w'=>e = .returned (.int .u64 (n2:Int))∧w'=W):=fun W hb=>number_any W g 16 8 8 _ (HB.out.1.next hb gs) (by omega) (by decide) n2 hn2
  have H3:Hid (∀ W,Below w3.heap.size w3 W→Calls Tryz.prog 321 #[.slice (some ⟨g,24,none⟩) 8 8] W fun e w'=>e = .returned (.int .u64 (n3:Int))∧w'=W):=fun W hb=>number_any W g 24 8 8 _ (HB.out.1.next hb gs) (by omega) (by decide) n3 hn3
  have H4:Hid (∀ W,Below w3.heap.size w3 W→Calls Tryz.prog 321 #[.slice (some ⟨g,32,none⟩) 4 4] W fun e w'=>e = .returned (.int .u64 (n4:Int))∧w'=W):=fun W hb=>number_any W g 32 4 4 _ (HB.out.1.next hb gs) (by omega) (by decide) n4 hn4
  have l0:n0<256:=by rw [← hn0]; exact num_le _ 1 (by simp; omega)
  have l1:n1<256^8:=by rw [← hn1]; exact num_le _ 8 (by simp; omega)
  have l2:n2<256^8:=by rw [← hn2]; exact num_le _ 8 (by simp; omega)
  have l3:n3<256^8:=by rw [← hn3]; exact num_le _ 8 (by simp; omega)
  have l4:n4<256^4:=by rw [← hn4]; exact num_le _ 4 (by simp; omega)
  have v0:IntKind.i64.wrap (n0:Int)=(n0:Int):=by rw [IntKind.wrap_i64]; omega
  have v4:IntKind.u32.wrap (n4:Int)=(n4:Int):=by rw [IntKind.wrap_u32]; omega
  have v4':(n4:Int) % 4294967296=(n4:Int):=by omega
  have hmO:mOf s.data.toList=⟨(n0:Int),n1,n2,n3,BitVec.ofNat 32 n4⟩:=by rw [mOf,hn0,hn1,hn2,hn3,hn4]
  have hD:=bdrew (Below.refl w3.heap.size w3)
  clear hw3 hbp hy hb1 hb2 kb hwz HPP hn0 hn1 hn2 hn3 hn4
  obtain ⟨t,ht⟩ : ∃ t:ByteArray,(⟨(mrk (mOf s.data.toList)).toArray⟩:ByteArray)=t:=⟨_,rfl⟩
  have HMK:Hid (Calls Tryz.prog 177 #[.agg #[.int .i64 (n0:Int),.int .u64 (n1:Int),.int .u64 (n2:Int),.int .u64 (n3:Int),.int .u32 (n4:Int)]] (w3.alloc (.cells #[.int .i64 (n0:Int),.int .u64 (n1:Int),.int .u64 (n2:Int),.int .u64 (n3:Int),.int .u32 (n4:Int)] 239)).drew fun e w'=>e = .returned (.string t)∧(w'.cell? ⟨w3.heap.size,0,none⟩=some (.int .i64 (n0:Int))∧w'.cell? ⟨w3.heap.size,1,none⟩=some (.int .u64 (n1:Int))∧w'.cell? ⟨w3.heap.size,2,none⟩=some (.int .u64 (n2:Int))∧w'.cell? ⟨w3.heap.size,3,none⟩=some (.int .u64 (n3:Int))∧w'.cell? ⟨w3.heap.size,4,none⟩=some (.int .u32 (n4:Int)))∧w'.heap[w.heap.size]? = some (.cells #[.int .i64 0,.int .u64 0,.int .u64 0,.int .u64 0,.int .u32 0] 239 (0,0))∧Below w.heap.size w w'):=by
   have e4:(BitVec.ofNat 32 n4).toNat=n4:=by rw [BitVec.toNat_ofNat]; omega
   obtain ⟨wa,hwa⟩ : ∃ wa,(w3.alloc (.cells #[.int .i64 (n0:Int),.int .u64 (n1:Int),.int .u64 (n2:Int),.int .u64 (n3:Int),.int .u32 (n4:Int)] 239)).drew=wa:=⟨_,rfl⟩
   have ha1:wa.heap[w3.heap.size]? = some (.cells #[.int .i64 (n0:Int),.int .u64 (n1:Int),.int .u64 (n2:Int),.int .u64 (n3:Int),.int .u32 (n4:Int)] 239 (0,0)):=by rw [← hwa]; exact new1 w3 _
   have ha2:wa.heap[w.heap.size]? = some (.cells #[.int .i64 0,.int .u64 0,.int .u64 0,.int .u64 0,.int .u32 0] 239 (0,0)):=by
    rw [← hwa]
    exact ((MapKept.heap_alloc w3 _).2 _ (by have:=HB.out.2.2.2.2; omega)).trans HB.out.2.2.1
   have ha3:Below w.heap.size w wa:=by rw [← hwa]; exact bdrew (bal HB.out.2.2.2.1 _)
   rw [hwa]
   have:=mark_any wa ⟨(n0:Int),n1,n2,n3,BitVec.ofNat 32 n4⟩ l1 l2 l3 t (by rw [← hmO]; exact ht)
   unfold mC at this
   simp only [e4] at this
   refine this.mono ?_
   rintro e w' ⟨rfl,hb⟩
   have hh:=(hb.block _ (Array.getElem?_eq_some_iff.1 ha1).1).trans ha1
   refine ⟨rfl,?_,(hb.block _ (Array.getElem?_eq_some_iff.1 ha2).1).trans ha2,bnext ha3 hb⟩
   refine ⟨?_,?_,?_,?_,?_⟩
   iterate 5 (rw [cell_of_row w' _ _ _ _ (0,0) hh]; rfl)
  have HRS:Hid (∀ W:World,W.heap[w.heap.size]? = some (.cells #[.int .i64 0,.int .u64 0,.int .u64 0,.int .u64 0,.int .u32 0] 239 (0,0))→(W.cell? ⟨w.heap.size,0,none⟩=some (.int .i64 0)∧W.cell? ⟨w.heap.size,1,none⟩=some (.int .u64 0)∧W.cell? ⟨w.heap.size,2,none⟩=some (.int .u64 0)∧W.cell? ⟨w.heap.size,3,none⟩=some (.int .u64 0)∧W.cell? ⟨w.heap.size,4,none⟩=some (.int .u32 0))∧W.frozen? ⟨w.heap.size,0,none⟩=false∧W.frozen? ⟨w.heap.size,1,none⟩=false∧W.frozen? ⟨w.heap.size,2,none⟩=false∧W.frozen? ⟨w.heap.size,3,none⟩=false∧W.frozen? ⟨w.heap.size,4,none⟩=false):=fun W hh=>by
   refine ⟨⟨?_,?_,?_,?_,?_⟩,?_,?_,?_,?_,?_⟩
   iterate 5 (rw [cell_of_row W _ _ _ _ (0,0) hh]; rfl)
   iterate 5 (exact frozen_of_row W _ _ _ _ hh)
  have HEN:Hid (∀ (W:World) (m:MV),W.heap[w.heap.size]? = some (.cells #[.int .i64 0,.int .u64 0,.int .u64 0,.int .u64 0,.int .u32 0] 239 (0,0))→Below w.heap.size w W → ∃ W',(((((W.setCell ⟨w.heap.size,0,none⟩ (.int .i64 m.k)).setCell ⟨w.heap.size,1,none⟩ (.int .u64 (m.size:Int))).setCell ⟨w.heap.size,2,none⟩ (.int .u64 (m.items:Int))).setCell ⟨w.heap.size,3,none⟩ (.int .u64 (m.nodes:Int))).setCell ⟨w.heap.size,4,none⟩ (.int .u32 (m.chain.toNat:Int)))=W'∧(W'.cell? ⟨w.heap.size,0,none⟩=some (.int .i64 m.k)∧W'.cell? ⟨w.heap.size,1,none⟩=some (.int .u64 (m.size:Int))∧W'.cell? ⟨w.heap.size,2,none⟩=some (.int .u64 (m.items:Int))∧W'.cell? ⟨w.heap.size,3,none⟩=some (.int .u64 (m.nodes:Int))∧W'.cell? ⟨w.heap.size,4,none⟩=some (.int .u32 (m.chain.toNat:Int)))∧Below w.heap.size w W'):=fun W m hh hb=>by
   have q1:=heap_setCell_same W w.heap.size 0 _ _ (.int .i64 m.k) hh
   have q2:=heap_setCell_same _ w.heap.size 1 _ _ (.int .u64 (m.size:Int)) q1
   have q3:=heap_setCell_same _ w.heap.size 2 _ _ (.int .u64 (m.items:Int)) q2
   have q4:=heap_setCell_same _ w.heap.size 3 _ _ (.int .u64 (m.nodes:Int)) q3
   have q5:=heap_setCell_same _ w.heap.size 4 _ _ (.int .u32 (m.chain.toNat:Int)) q4
   refine ⟨_,rfl,⟨?_,?_,?_,?_,?_⟩,((((hb.setCell (Nat.le_refl _) _).setCell (Nat.le_refl _) _).setCell (Nat.le_refl _) _).setCell (Nat.le_refl _) _).setCell (Nat.le_refl _) _⟩
   iterate 5 (rw [cell_of_row _ _ _ _ _ (0,0) q5]; rfl)
  have HT:Hid ((⟨(mrk (mOf s.data.toList)).toArray⟩:ByteArray)=t∧mOf s.data.toList=⟨(n0:Int),n1,n2,n3,BitVec.ofNat 32 n4⟩∧n4<256^4∧s.data.toList.length=64∧rmT s.data.toList=(rm,re)):=⟨ht,hmO,l4,hsl,h⟩
  clear ht hmO l0 l1 l2 l3 l4 hsl h
  go_cut [5] from 13 to 30 (fun x wx=>x = .pointer (some ⟨w3.heap.size,0,none⟩)∧wx=(w3.alloc (.cells #[.int .i64 (n0:Int),.int .u64 (n1:Int),.int .u64 (n2:Int),.int .u64 (n3:Int),.int .u32 (n4:Int)] 239)).drew)
  case first =>
   go_region_held3 (fun Z=>Z.cell? ⟨bp,1,none⟩=some (.slice (some ⟨g,4,none⟩) 1 1)∧Z.cell? ⟨bp,2,none⟩=some (.slice (some ⟨g,8,none⟩) 8 8)∧Z.cell? ⟨bp,3,none⟩=some (.slice (some ⟨g,16,none⟩) 8 8)∧Z.cell? ⟨bp,4,none⟩=some (.slice (some ⟨g,24,none⟩) 8 8)∧Z.cell? ⟨bp,5,none⟩=some (.slice (some ⟨g,32,none⟩) 4 4)) (first | assumption | (exact HC.out _ hD) | (exact HC.out _ (bdrew (bal (Below.refl _ _) _)))) (first
    | (go_at_call 321; (first
      | (with_reducible refine (H0.out _ hD).mono ?_) | (with_reducible refine (H0.out _ (bdrew (bal (Below.refl _ _) _))).mono ?_)
      | (with_reducible refine (H1.out _ hD).mono ?_) | (with_reducible refine (H1.out _ (bdrew (bal (Below.refl _ _) _))).mono ?_)
      | (with_reducible refine (H2.out _ hD).mono ?_) | (with_reducible refine (H2.out _ (bdrew (bal (Below.refl _ _) _))).mono ?_)
      | (with_reducible refine (H3.out _ hD).mono ?_) | (with_reducible refine (H3.out _ (bdrew (bal (Below.refl _ _) _))).mono ?_)
      | (with_reducible refine (H4.out _ hD).mono ?_) | (with_reducible refine (H4.out _ (bdrew (bal (Below.refl _ _) _))).mono ?_)); rintro e w4 ⟨rfl,rfl⟩))
   all_goals
    go_wp2_with fail
    go_meet
    case rel=>exact ⟨rfl,rfl⟩
  case rest =>
   obtain ⟨rfl,rfl⟩:=hcut
   clear HC H0 H1 H2 H3 H4 hD
   by_cases heq:t=s
   ·have hbq:=beq_yes heq
    obtain ⟨hT1,hT2,hT3,hT4,h⟩:=HT.out
    have e4:(BitVec.ofNat 32 n4).toNat=n4:=by rw [BitVec.toNat_ofNat]; omega
    rw [rmT_yes (x:=⟨(n0:Int),n1,n2,n3,BitVec.ofNat 32 n4⟩) (by rw [rmrk,hT2]; refine if_pos ⟨hT4,?_⟩; have:=congrArg (fun z:ByteArray=>z.data.toList) (hT1.trans heq); rw [hT2] at this; exact this)] at h
    obtain ⟨rfl,rfl⟩:(⟨(n0:Int),n1,n2,n3,BitVec.ofNat 32 n4⟩:MV)=rm∧0=re:=by simpa using h
    clear hT1 hT2 hT3 hT4 h heq
    go_wp2_with (go_at_call 177; with_reducible refine HMK.out.mono ?_; rintro e w5 ⟨rfl,⟨m0,m1,m2,m3,m4⟩,hh5,hb5⟩; obtain ⟨⟨r0,r1,r2,r3,r4⟩,f0,f1,f2,f3,f4⟩:=HRS.out _ hh5)
    obtain ⟨w6,hw6,⟨x0,x1,x2,x3,x4⟩,hb6⟩:=HEN.out w5 ⟨(n0:Int),n1,n2,n3,BitVec.ofNat 32 n4⟩ hh5 hb5
    simp only [e4] at hw6 x4
    rw [hw6]
    exact bodyPost_ret (v := .tuple #[.agg (mC ⟨(n0:Int),n1,n2,n3,BitVec.ofNat 32 n4⟩),.int .i64 0]) (by simp [results,Tryz.results243,go_sem,x0,x1,x2,x3,x4,mC]; omega) rfl ⟨rfl,hb6⟩
   ·have hbq:=beq_ne heq
    obtain ⟨hT1,_,_,_,h⟩:=HT.out
    rw [rmT_no (if_neg fun q=>heq (ba_ext (by rw [← hT1]; exact q.2)))] at h
    obtain ⟨rfl,rfl⟩:MV.z=rm∧180=re:=by simpa using h
    clear hT1 h heq
    go_wp2_with (go_at_call 177; with_reducible refine HMK.out.mono ?_; rintro e w5 ⟨rfl,⟨m0,m1,m2,m3,m4⟩,hh5,hb5⟩; obtain ⟨⟨r0,r1,r2,r3,r4⟩,f0,f1,f2,f3,f4⟩:=HRS.out _ hh5)
    obtain ⟨w6,hw6,⟨x0,x1,x2,x3,x4⟩,hb6⟩:=HEN.out w5 MV.z hh5 hb5
    simp only [MV.z,show (0#32).toNat=0 from rfl,show ((0:Nat):Int)=0 from rfl] at hw6 x0 x1 x2 x3 x4
    rw [hw6]
    exact bodyPost_ret (v := .tuple #[.agg (mC MV.z),.int .i64 180]) (by simp [results,Tryz.results243,go_sem,x0,x1,x2,x3,x4,mC,MV.z]) rfl ⟨rfl,hb6⟩
 ·have z1:((s.size:Int) == 64)=false:=by simp; omega
  rw [rmT_no (if_neg fun q=>h64 (by rw [← size_list]; exact q.1))] at h
  obtain ⟨rfl,rfl⟩:MV.z=rm∧180=re:=by simpa using h
  clear h
  go_enter Tryz.func243,Tryz.ntmps243
  go_wp2
  exact bodyPost_ret (v := .tuple #[.agg (mC MV.z),.int .i64 180]) (by simp [results,Tryz.results243,go_sem,mC,MV.z]) rfl ⟨rfl,bal (Below.refl _ _) _⟩
end Go.Proofs.YtoblgjledefdbaaGreatDoor.St.Rc
