/- Own work. -/
import Derived.Test.YtoblgjledefdbaaGreatDoorQa40
namespace Go.Proofs.YtoblgjledefdbaaGreatDoor
open Go.RowKit
attribute [local go_sem ↓] Go.wp_at_zero Go.wp_at_succ
def tl (n:Int):Nat→List Int
 | 0=>[]
 | j+1=>(n / 256^j % 256)::tl n j
theorem tl_len (n:Int) (j:Nat):(tl n j).length=j:=by
 induction j with
 | zero=>rfl
 | succ j ih=>simp [tl,ih]
theorem tl_bytes (n:Int) (j:Nat):Bytes (tl n j):=by
 induction j with
 | zero=>intro x hx; cases hx
 | succ j ih =>
  intro x hx
  rcases List.mem_cons.1 hx with rfl | hx
  ·omega
  ·exact ih x hx
structure Bg (w wr:World) (l:List Int) (K:Nat):Prop where
 len:l.length=K
 below:Below w.heap.size w wr
 out:wr.rangeAt w.heap.size 0 (cB l)
 outt:wr.there w.heap.size 0 K
theorem Bg.set {w wr:World} {l:List Int} {K:Nat} (h:Bg w wr l K) (m:Nat) (v:Int):Bg w (wr.setCell ⟨w.heap.size,m,none⟩ (.int .u8 v)) (l.set m v) K:=by
 refine ⟨by rw [List.length_set]; exact h.len,h.below.setCell (Nat.le_refl _) _,?_,there_set h.outt _ _⟩
 have:=range_set h.out m (.int .u8 v)
 rwa [Nat.zero_add,cB_set] at this
theorem rep_set (K j:Nat) (n v:Int) (h:j<K):(List.replicate (K - j) 0++tl n j).set (K - 1 - j) v=List.replicate (K - (j+1)) 0++v::tl n j:=by
 obtain ⟨m,rfl⟩ : ∃ m,K=j+1+m:=⟨K - (j+1),by omega⟩
 rw [show j+1+m - j=m+1 by omega,show j+1+m - 1 - j=m by omega,show j+1+m - (j+1)=m by omega,List.replicate_succ',List.append_assoc,List.set_append_right _ _ (by simp)]
 simp
theorem conv_strK (w:World) (b K:Nat) (l:List Int) (hl:l.length=K) (h:w.rangeAt b 0 (cB l)):(convert 127 9 (.slice (some ⟨b,0,none⟩) K K)).run Tryz.prog w = .ok (.string (strB l)) w:=conv_str w b l K hl h
set_option maxHeartbeats 1000000 in
set_option maxRecDepth 100000 in
theorem big_gen (n:Int) (h0:0≤n) (h64:n<18446744073709551616) (K:Nat) (hK:K≤8)
  (hmk : ∀ u:World,(Instr.makeSlice 127 (.int .i64 (K:Int)) (.int .i64 (K:Int))).run Tryz.prog u = .ok (.slice (some ⟨u.heap.size,0,none⟩) K K) (u.alloc (.cells (cB (List.replicate K 0)).toArray 5))) (w:World) :
  Calls Tryz.prog 281 #[.int .u64 n,.int .i64 (K:Int)] w fun e w'=>e = .returned (.string (strB (tl n K)))∧Below w.heap.size w w':=by
 have hB0:Bg w (w.alloc (.cells (cB (List.replicate K 0)).toArray 5)) (List.replicate K 0) K :=
  ⟨by simp,(Below.refl _ _).alloc (Nat.le_refl _) _,range_new _ _ _,there_new _ _ _ _ (by simp [cB_len])⟩
 have k0:(0:Int)≤(K:Int):=Int.natCast_nonneg _
 have k8:(K:Int)≤8:=by omega
 go_enter Tryz.func281,Tryz.ntmps281
 go_wp2
 generalize w.alloc (.cells (cB (List.replicate K 0)).toArray 5)=w1 at *
 clear hmk
 go_loopg [0,6] K (fun g x i wr => ∃ j:Nat,j≤K∧g=K - j∧x = .int .u64 (n / 256^j)∧i = .int .i64 ((K:Int) - 1 - (j:Int))∧Bg w wr (List.replicate (K - j) 0++tl n j) K)
 case atStart =>
  go_light
  refine ⟨0,Nat.zero_le _,rfl,?_,?_,?_⟩
  ·simp
  ·simp
  ·simpa [tl] using hB0
 case round =>
  clear hB0
  obtain ⟨j,hj,rfl,rfl,rfl,hs⟩:=hrel
  have hx0:0≤n / 256^j:=Int.ediv_nonneg h0 (Int.pow_nonneg (by decide))
  have hx1:n / 256^j≤n:=Int.ediv_le_self _ h0
  have hx2:n / 256^j<18446744073709551616:=by omega
  by_cases hlt:j<K
  ·obtain ⟨m,hm⟩ : ∃ m:Nat,j+m+1=K:=⟨K - 1 - j,by omega⟩
   have em:(K:Int) - 1 - (j:Int)=(m:Int):=by omega
   rw [em]
   have m0:(0:Int)≤(m:Int):=Int.natCast_nonneg _
   have mK:(m:Int)<(K:Int):=by omega
   have m8:(m:Int)≤8:=by omega
   have cm:=cell_cB0 hs.out (i:=m) (by rw [hs.len]; omega)
   have fm:wr.frozen? ⟨w.heap.size,m,none⟩=false:=by have:=(hs.outt m (by omega)).2; rwa [Nat.zero_add] at this
   have HF:Hid (Bg w (wr.setCell ⟨w.heap.size,m,none⟩ (.int .u8 (n / 256^j % 256))) (List.replicate (K - (j+1)) 0++tl n (j+1)) K):=by
    have:=hs.set m (n / 256^j % 256)
    rwa [show m=K - 1 - j by omega,rep_set K j n _ hlt,← show m=K - 1 - j by omega] at this
   have HD:Hid (n / 256^j / 256=n / 256^(j+1)):=by
    show _=_
    rw [Int.pow_succ,Int.ediv_ediv_of_nonneg (Int.pow_nonneg (by decide))]
   have HM:Hid (j+m+1=K):=hm
   clear hs hm em
   generalize n / 256^j=x at *
   generalize (List.replicate (K - j) 0++tl n j).getD m 0=z at *
   go_wp2
   go_roundg (K - (j+1))
   case rel =>
    go_light
    refine ⟨j+1,by omega,rfl,by rw [← HD.out],?_,HF.out⟩
    have:=HM.out; go_num
   case measure=>go_light; omega
  ·obtain rfl:j=K:=by omega
   have em:(j:Int) - 1 - (j:Int) = -1:=by omega
   rw [em]
   have hs2:=hs.out
   rw [Nat.sub_self,List.replicate_zero,List.nil_append] at hs2
   have hcv:=conv_strK wr w.heap.size j (tl n j) (tl_len _ _) hs2
   have HB:Hid (Below w.heap.size w wr):=hs.below
   clear hs hs2
   go_wp2
   go_ret
   exact ⟨rfl,HB.out⟩
theorem big8 (n:Int) (h0:0≤n) (h64:n<18446744073709551616) (w:World) :
  Calls Tryz.prog 281 #[.int .u64 n,.int .i64 8] w fun e w'=>e = .returned (.string (strB (tl n 8)))∧Below w.heap.size w w':=big_gen n h0 h64 8 (by decide) (fun u=>by kernel_rfl) w
theorem big4 (n:Int) (h0:0≤n) (h64:n<18446744073709551616) (w:World) :
  Calls Tryz.prog 281 #[.int .u64 n,.int .i64 4] w fun e w'=>e = .returned (.string (strB (tl n 4)))∧Below w.heap.size w w':=big_gen n h0 h64 4 (by decide) (fun u=>by kernel_rfl) w
end Go.Proofs.YtoblgjledefdbaaGreatDoor
namespace Go.Proofs.YtoblgjledefdbaaGreatDoor
open Go.RowKit
theorem fold_push (l:List Int) (acc:ByteArray):(l.foldl (fun r n=>r.push (UInt8.ofNat n.toNat)) acc).data.toList=acc.data.toList++l.map fun n=>UInt8.ofNat n.toNat:=by
 induction l generalizing acc with
 | nil=>simp
 | cons x r ih=>rw [List.foldl_cons,ih]; simp [ByteArray.push]
theorem strB_list (l:List Int):(strB l).data.toList=l.map fun n=>UInt8.ofNat n.toNat:=by
 rw [strB,fold_push]; rfl
theorem tB_strB {l:List Int} (h:Bytes l):tB (strB l)=l:=by
 rw [tB,strB_list,List.map_map]
 conv=>rhs; rw [← List.map_id l]
 apply List.map_congr_left
 intro x hx
 obtain ⟨h0,h1⟩:=h x hx
 obtain ⟨n,rfl⟩:=Int.eq_ofNat_of_zero_le h0
 simp
 omega
theorem strB_tB (s:ByteArray):strB (tB s)=s:=by
 have:(strB (tB s)).data.toList=s.data.toList:=by
  rw [strB_list,tB,List.map_map]
  conv=>rhs; rw [← List.map_id s.data.toList]
  apply List.map_congr_left
  intro x _
  simp
 cases s with
 | mk d =>
  cases h:strB (tB ⟨d⟩) with
  | mk d' =>
   rw [h] at this
   simp only at this
   rw [Array.toList_inj.1 this]
def msg (t:List Int) (z:Nat):List Int:=(t++(128::List.replicate z 0))++tl (8 * (t.length:Int)) 8
theorem lenAt_tl {l:List Int} (h:l.length=64) (b:Int):lenAt l b 8=l.take 56++tl b 8:=by
 obtain ⟨s0,s1,s2,s3,s4,s5,s6,s7,hd⟩:=list8 (st:=l.drop 56) (by simp [h])
 have e:l=l.take 56++[s0,s1,s2,s3,s4,s5,s6,s7]:=by rw [← hd,List.take_append_drop]
 have hA:(l.take 56).length=56:=by simp [h]
 generalize l.take 56=A at *
 subst e
 simp only [lenAt,tl,IntKind.wrap_u8']
 rw [List.set_append_right _ _ (by omega),List.set_append_right _ _ (by omega),List.set_append_right _ _ (by omega),List.set_append_right _ _ (by omega),List.set_append_right _ _ (by omega),List.set_append_right _ _ (by omega),List.set_append_right _ _ (by omega),List.set_append_right _ _ (by omega),hA]
 congr 1
theorem take56_tl (A:List Int) (h:A.length=56) (B:List Int):(A++B).take 56=A:=by
 rw [List.take_append_of_le_length (by omega),List.take_of_length_le (by omega)]
theorem msg_sum (rs t:List Int) (z:Nat) (hlt:t.length<1152921504606846976) (hz:(t.length+(z+1)+8) % 64=0) (hz2:z<64) :
  stN rs IV (msg t z) ((msg t z).length / 64)=closeI rs (stN rs IV t (t.length / 64)) (pad (t.drop (64 * (t.length / 64)))) t.length:=by
 have hml:(msg t z).length=t.length+(z+1)+8:=by simp [msg,tl_len]; omega
 have hb8:IntKind.u64.wrap ((t.length:Int) * 8)=8 * (t.length:Int):=by
  simp [IntKind.wrap,IntKind.bits,IntKind.signed]; omega
 have hdl:(t.drop (64 * (t.length / 64))).length=t.length % 64:=by rw [List.length_drop]; omega
 have hpl:(pad (t.drop (64 * (t.length / 64)))).length=64:=pad_len (by omega)
 have hpt:(pad (t.drop (64 * (t.length / 64)))).take (t.length % 64)=t.drop (64 * (t.length / 64)):=by
  rw [pad,List.take_append_of_le_length (by omega),List.take_of_length_le (by omega)]
 have hdrop : ∀ q,q=t.length / 64→(msg t z).drop (64 * q)=(t.drop (64 * q)++(128::List.replicate z 0))++tl (8 * (t.length:Int)) 8:=fun q hq=>by
  unfold msg
  rw [List.drop_append_of_le_length (by simp; omega),List.drop_append_of_le_length (by omega)]
 have hpre:stN rs IV (msg t z) (t.length / 64)=stN rs IV t (t.length / 64):=by
  unfold msg
  rw [List.append_assoc,stN_append _ _ _ _ _ (by omega)]
 unfold closeI
 rw [hb8]
 have hend:endL (pad (t.drop (64 * (t.length / 64)))) (t.length % 64)=(t.drop (64 * (t.length / 64))++[128])++List.replicate (64 - (t.length % 64+1)) 0:=by
  rw [endL_eq hpl (Nat.mod_lt _ (by decide)),hpt]
 by_cases h55:55<t.length % 64
 ·rw [if_pos h55]
  have hq:(msg t z).length / 64=t.length / 64+1+1:=by omega
  have hzz:z=(64 - (t.length % 64+1))+56:=by omega
  rw [hq,stN,stN,hpre,hdrop _ rfl,hend,lenAt_tl (by simp)]
  have e1:((t.drop (64 * (t.length / 64))++(128::List.replicate z 0))++tl (8 * (t.length:Int)) 8).take 64=(t.drop (64 * (t.length / 64))++[128])++List.replicate (64 - (t.length % 64+1)) 0:=by
   rw [hzz,← List.replicate_append_replicate]
   have:t.drop (64 * (t.length / 64))++(128::(List.replicate (64 - (t.length % 64+1)) 0++List.replicate 56 0))++tl (8 * (t.length:Int)) 8=((t.drop (64 * (t.length / 64))++[128])++List.replicate (64 - (t.length % 64+1)) 0)++(List.replicate 56 0++tl (8 * (t.length:Int)) 8):=by simp
   rw [this,List.take_append_of_le_length (by simp; omega),List.take_of_length_le (by simp; omega)]
  have e2:((msg t z).drop (64 * (t.length / 64+1))).take 64=(List.replicate 64 (0:Int)).take 56++tl (8 * (t.length:Int)) 8:=by
   have hd2:(msg t z).drop (64 * (t.length / 64+1))=((msg t z).drop (64 * (t.length / 64))).drop 64:=by rw [List.drop_drop]; congr 1
   rw [hd2,hdrop _ rfl,hzz,← List.replicate_append_replicate]
   have:t.drop (64 * (t.length / 64))++(128::(List.replicate (64 - (t.length % 64+1)) 0++List.replicate 56 0))++tl (8 * (t.length:Int)) 8=((t.drop (64 * (t.length / 64))++[128])++List.replicate (64 - (t.length % 64+1)) 0)++(List.replicate 56 0++tl (8 * (t.length:Int)) 8):=by simp
   rw [this,List.drop_append_of_le_length (by simp; omega),List.drop_eq_nil_of_le (by simp; omega),List.nil_append,List.take_of_length_le (by simp [tl_len])]
   simp
  rw [e1,e2]
 ·rw [if_neg h55]
  have hq:(msg t z).length / 64=t.length / 64+1:=by omega
  have hzz:z=55 - t.length % 64:=by omega
  rw [hq,stN,hpre,hdrop _ rfl,hend,lenAt_tl (by simp; omega)]
  congr 1
  rw [List.take_of_length_le (by simp [tl_len]; omega)]
  congr 1
  have:(t.drop (64 * (t.length / 64))++[128])++List.replicate (64 - (t.length % 64+1)) 0=(t.drop (64 * (t.length / 64))++(128::List.replicate z 0))++List.replicate 8 0:=by
   rw [show 64 - (t.length % 64+1)=z+8 by omega,← List.replicate_append_replicate]; simp
  rw [this,take56_tl _ (by simp; omega)]
def outR (H:List Int):Nat→List Int
 | 0=>[]
 | k+1=>outR H k++tl (H.getD k 0) 4
theorem outR_eq (H:List Int) (k:Nat):outR H k=outB H k:=by
 induction k with
 | zero=>rfl
 | succ k ih =>
  rw [outR,outB,ih]
  simp [tl,w4,IntKind.wrap_u8']
end Go.Proofs.YtoblgjledefdbaaGreatDoor
namespace Go.Proofs.YtoblgjledefdbaaGreatDoor
open Go.RowKit
attribute [local go_sem ↓] Go.wp_at_zero Go.wp_at_succ
theorem tB_append (a b:ByteArray):tB (a++b)=tB a++tB b:=by simp [tB]
theorem info5:(Tryz.prog.info? 5).map (fun i=>(i.zero,i.size,i.bytes))=some (some (.int .u8 0),1,1):=by kernel_rfl
theorem conv_cap (w:World) (b:Nat) (l:List Int) (n cap:Nat) (hl:l.length=n) (h:w.rangeAt b 0 (cB l)):(convert 127 9 (.slice (some ⟨b,0,none⟩) n cap)).run Tryz.prog w = .ok (.string (strB l)) w:=by
 subst hl
 rw [run_convert_bytes_string w 127 9 5 _ _ _ Tryz.underlying127 Tryz.underlying5 Tryz.underlying9]
 refine run_bytesToString w ⟨b,0,none⟩ l.length cap l ?_
 have:=run_loadCells_list (P:=Tryz.prog) w ⟨b,0,none⟩ (cB l) (fun j v hv=>by rw [Addr.add_mid]; exact h j v hv)
 rwa [cB_len] at this
theorem owns_range {w:World} {base g n cap:Nat} {l:List Int} (h:w.ownsRow base 5 1 (.slice (some ⟨g,0,none⟩) n cap) n (cB l)):w.rangeAt g 0 (cB l)∧base≤g:=by
 obtain ⟨h1,h2⟩:=h
 rcases h2 with ⟨h2,_⟩ | ⟨g',cap',cur,hv,hg,hh,hn,hc,hs,ht⟩
 ·cases h2
 ·injection hv with e1 e2 e3
  injection e1 with e1
  injection e1 with e1
  subst e1
  refine ⟨fun j v hj => ?_,hg⟩
  rw [Nat.zero_add,cell_of_row w g j cur 5 (0,0) hh]
  rw [← ht,List.getElem?_take] at hj
  split at hj
  ·simpa using hj
  ·cases hj
theorem owns_form {w:World} {base n:Nat} {v:Value} {xs:List Value} (h:w.ownsRow base 5 1 v n xs) (hn:0<n) : ∃ g cap,v = .slice (some ⟨g,0,none⟩) n cap∧base≤g:=by
 obtain ⟨h1,h2⟩:=h
 rcases h2 with ⟨_,h2⟩ | ⟨g,cap,cur,hv,hg,_⟩
 ·omega
 ·exact ⟨g,cap,hv,hg⟩
theorem end_bytes (z:Nat):Bytes (128::List.replicate z 0):=by
 intro x hx
 rcases List.mem_cons.1 hx with rfl | hx
 ·omega
 ·rw [List.eq_of_mem_replicate hx]; omega
theorem below_of_drew {w w2:World} {B:Nat} (h:Below w.drew.heap.size w.drew w2) (hB:B≤w.heap.size):Below B w w2 :=
 ⟨h.os,h.tape,h.output,h.size,fun k hk=>h.block k (Nat.lt_of_lt_of_le hk hB)⟩
theorem tB_slice (r:ByteArray) (p q:Nat):tB (r.extract p q)=((tB r).drop p).take (q - p):=by
 have:(r.extract p q).data.toList=(r.data.toList.drop p).take (q - p):=by
  rw [ByteArray.data_extract]
  simp [Array.toList_extract,List.extract]
 rw [tB,this,tB,List.map_take,List.map_drop]
theorem outR_len (H:List Int) (m:Nat):(outR H m).length=4 * m:=by
 induction m with
 | zero=>rfl
 | succ m ih=>rw [outR,List.length_append,ih,tl_len]; omega
theorem wrap_w32 (x:Int):0≤IntKind.u32.wrap x∧IntKind.u32.wrap x<4294967296:=by rw [IntKind.wrap_u32']; omega
theorem w32_getD {l:List Int} (h : ∀ x∈l,0≤x∧x<4294967296) (i:Nat):0≤l.getD i 0∧l.getD i 0<4294967296:=by
 rw [List.getD_eq_getElem?_getD]
 cases e:l[i]? with
 | none=>exact ⟨by decide,by decide⟩
 | some x=>exact h x (List.mem_of_getElem? e)
theorem stN_w32 (rs t:List Int) (k i:Nat):0≤(stN rs IV t k).getD i 0∧(stN rs IV t k).getD i 0<4294967296:=by
 refine w32_getD (fun x hx => ?_) i
 cases k with
 | zero=>simp [stN,IV] at hx; omega
 | succ k =>
  rw [stN,foldI,sumI] at hx
  simp only [List.mem_cons,List.not_mem_nil,or_false] at hx
  rcases hx with rfl | rfl | rfl | rfl | rfl | rfl | rfl | rfl <;> exact wrap_w32 _
theorem wrap_u64_id {x:Int} (h0:0≤x) (h1:x<4294967296):IntKind.u64.wrap x=x:=by
 simp [IntKind.wrap,IntKind.bits,IntKind.signed]; omega
theorem row_lt {w:World} {g:Nat} {o:Obj} (h:w.heap[g]? = some o):g<w.heap.size:=by
 rcases Nat.lt_or_ge g w.heap.size with h' | h'
 ·exact h'
 ·rw [Array.getElem?_eq_none h'] at h; cases h
theorem endz (L:Nat) : ∃ z,z<64∧(L+(z+1)+8) % 64=0:=⟨(64 - (L+9) % 64) % 64,by omega,by omega⟩
set_option maxHeartbeats 2000000 in
set_option maxRecDepth 100000 in
theorem refOf_any (w:World) (ao:Option Addr) (b off len cap:Nat) (ss:List ByteArray) (hl:ss.length=len) (hao:0<len→ao=some ⟨b,off,none⟩) (hs:w.rangeAt b off (ss.map Value.string))
  (hmx:len≤1048576) (rs:List Int) (hrl:rs.length=64) (hr:w.rangeAt 1 0 (cW rs)) (hiv:w.rangeAt 0 0 (cW IV)) (hlen:(flat ss).length<1152921504606846976) :
  Calls Tryz.prog 186 #[.slice ao len cap] w fun e w'=>e = .returned (.string (shaS rs (flat ss)))∧Below w.heap.size w w':=by
 have h2w:1<w.heap.size:=range_lt hr (by intro h; have:=congrArg List.length h; simp [cW_len,hrl] at this)
 have h0w:Hid (0<w.heap.size):=range_lt hiv (by intro h; cases h)
 go_enter Tryz.func186,Tryz.ntmps186
 go_wp2
 go_loopg [3,4] len (fun g x i wx=>w=wx ∧ ∃ (k:Nat) (text:ByteArray),k≤len∧g=len - k∧x = .string text∧i = .int .i64 k∧Hid (tB text=flat (ss.take k)))
 case atStart =>
  go_light
  exact ⟨rfl,0,_,Nat.zero_le _,rfl,rfl,rfl,rfl⟩
 case round =>
  obtain ⟨rfl,k,text,hk,rfl,rfl,rfl,HT⟩:=hrel
  by_cases hlt:k<len
  ·obtain rfl:=hao (by omega)
   have hk':k<ss.length:=by omega
   have ck:w.cell? ⟨b,off+k,none⟩=some (.string (ss.getD k ByteArray.empty)) :=
    hs k _ (by simp [List.getElem?_eq_getElem hk',List.getD_eq_getElem?_getD])
   have hz:(k:Int)<(len:Int):=by omega
   have hfs:=flat_snoc ss k hk'
   have hsz:(flat (ss.take (k+1))).length≤(flat ss).length:=flat_take_le _ _
   have hts:text.size=(flat (ss.take k)).length:=by rw [← tB_len,HT.out]
   have hns : ¬ (9223372036854775807<text.size+(ss.getD k ByteArray.empty).size):=by
    rw [hfs,List.length_append,tB_len] at hsz; omega
   have HF:Hid (tB (text++ss.getD k ByteArray.empty)=flat (ss.take (k+1))):=by
    show _=_
    rw [tB_append,HT.out,hfs]
   clear hfs hsz hts
   generalize ss.getD k ByteArray.empty=part at *
   go_wp2
   go_roundg (len - (k+1))
   case rel =>
    go_light
    exact ⟨rfl,k+1,_,by omega,rfl,rfl,by go_num,HF.out⟩
   case measure=>go_light; omega
  ·obtain rfl:k=len:=by omega
   have hz : ¬ (k:Int)<(k:Int):=by omega
   have hT:=HT.out
   rw [List.take_of_length_le (by omega)] at hT
   have hts:text.size=(flat ss).length:=by rw [← tB_len,hT]
   have HTT:Hid (tB text=flat ss):=hT
   clear hT HT hs hao hl
   obtain ⟨zN,hz1,hz2⟩:=endz text.size
   obtain ⟨i0,hi,hz0,hzz1,hzz2⟩:=info_parts info5
   have hO0:(w.alloc (.cells #[.int .u8 128] 5)).ownsRow w.heap.size 5 1 (.slice (some ⟨w.heap.size,0,none⟩) 1 1) 1 (cB (128::List.replicate 0 0)) :=
    ⟨rfl,Or.inr ⟨w.heap.size,1,#[.int .u8 128],rfl,Nat.le_refl _,heap_alloc_new _ _,Nat.le_refl _,by unfold maxLen; omega,rfl,rfl⟩⟩
   have hb0:Below w.heap.size w (w.alloc (.cells #[.int .u8 128] 5)):=(Below.refl _ _).alloc (Nat.le_refl _) _
   have HZ:Hid (zN<64∧(text.size+(zN+1)+8) % 64=0):=⟨hz1,hz2⟩
   have ht63:(text.size:Int)<1152921504606846976:=by omega
   have ht0:(0:Int)≤(text.size:Int):=Int.natCast_nonneg _
   have HTS:Hid (text.size=(flat ss).length):=hts
   clear hz1 hz2 hts
   go_upto_region 7 with (fail)
   generalize w.alloc (.cells #[.int .u8 128] 5)=w1 at *
   go_loopg [5] zN (fun g v wi => ∃ (z n g' cap':Nat),n=z+1∧z≤zN∧g=zN - z∧v = .slice (some ⟨g',0,none⟩) n cap'∧wi.ownsRow w.heap.size 5 1 v n (cB (128::List.replicate z 0))∧Below w.heap.size w wi)
   case atStart =>
    go_light
    exact ⟨0,1,_,_,rfl,Nat.zero_le _,rfl,rfl,hO0,hb0⟩
   case round =>
    clear hO0 hb0
    obtain ⟨z,n,g',cap',hnz,hzl,rfl,rfl,hO,hb⟩:=hrel
    obtain ⟨s1,hs1⟩ : ∃ s1:Nat,text.size+n=s1:=⟨_,rfl⟩
    obtain ⟨s2,hs2⟩ : ∃ s2:Nat,s1+8=s2:=⟨_,rfl⟩
    have hZ:=HZ.out
    have e1:IntKind.i64.wrap ((text.size:Int)+(n:Int))=(s1:Int):=by rw [wrap_id _ (by omega) (by omega)]; omega
    have e2:IntKind.i64.wrap ((s1:Int)+8)=(s2:Int):=by rw [wrap_id _ (by omega) (by omega)]; omega
    have b2:(0:Int)≤(s2:Int):=Int.natCast_nonneg _
    have HN:Hid (n=z+1∧z≤zN∧text.size+n=s1∧s1+8=s2):=⟨hnz,hzl,hs1,hs2⟩
    have hn64:n≤64:=by omega
    by_cases hne:z<zN
    ·have hm:((s2:Int) % 64 == 0)=false:=by rw [beq_eq_false_iff_ne]; omega
     have HLT:Hid (z<zN):=hne
     have HG:Hid (w.heap.size≤g'):=(owns_range hO).2
     clear hZ hnz hzl hs1 hs2 ht63 ht0 hne
     have hbs:w.heap.size≤wr.heap.size:=hb.size
     have HO:Hid (∀ o,(wr.alloc o).ownsRow w.heap.size 5 1 (.slice (some ⟨g',0,none⟩) n cap') n (cB (128::List.replicate z 0))):=fun o=>by
      obtain ⟨h1,h2⟩:=hO
      refine ⟨h1,?_⟩
      rcases h2 with ⟨h2,_⟩ | ⟨g,cp,cur,hv,hg,hh,r⟩
      ·cases h2
      ·exact Or.inr ⟨g,cp,cur,hv,hg,by rw [Below.heap_alloc _ _ _ (row_lt hh)]; exact hh,r⟩
     have Hb:Hid (∀ o,Below w.heap.size w (wr.alloc o)):=fun o=>hb.alloc hb.size o
     have hby:Hid ((n+1) * 1≤140737488355328):=by show _≤_; omega
     have hmx2:Hid (n+1≤maxLen):=by show _≤_; unfold maxLen; omega
     clear hO hb
     go_upto_region 8 with (fail)
     go_wp2_with (at_builtin; (refine wpList_append_own _ rfl _ _ 127 rfl w.heap.size 5 i0 (.int .u8 0) 1 1 Tryz.underlying127 hi hz0 hzz1 hzz2 rfl (by decide) _ _ _ rfl (HO.out _) ⟨wr.heap.size,0,none⟩ 1 1 [.int .u8 0] rfl rfl (cell_one_new _ _ _) (fun x hx=>by simp at hx; subst hx; rfl) hmx2.out hby.out (by simp; omega) ?_); intro v' w2 hown' hg' hne')
     obtain ⟨g2,cap2,hv2,hgb⟩:=owns_form hown' (Nat.succ_pos _)
     rw [hv2] at hown' ⊢
     have HR:Hid (w2.ownsRow w.heap.size 5 1 (.slice (some ⟨g2,0,none⟩) (n+1) cap2) (n+1) (cB (128::List.replicate (z+1) 0))):=by
      have e:cB (128::List.replicate z 0)++[Value.int IntKind.u8 0]=cB (128::List.replicate (z+1) 0):=by
       rw [List.replicate_succ']; simp [cB]
      rw [← e]; exact hown'
     have HB2:Hid (Below w.heap.size w w2):=(Hb.out _).grown hg' (by simp; omega) (fun j hj=>by cases hj; exact HG.out)
     clear hown' hg' hne' hv2
     go_roundg (zN - (z+1))
     case rel =>
      go_light
      have:=HN.out
      have:=HZ.out
      exact ⟨z+1,n+1,g2,cap2,by omega,by have:=HLT.out; omega,rfl,rfl,HR.out,HB2.out⟩
     case measure=>go_light; have:=HLT.out; omega
    ·have hzz:z=zN:=by omega
     subst hzz
     have hm:((s2:Int) % 64 == 0)=true:=by rw [beq_iff_eq]; omega
     obtain ⟨hrg,hgb⟩:=owns_range hO
     have hglt:g'<wr.heap.size:=range_lt hrg (by simp [cB])
     have HGB:Hid (w.heap.size≤g'):=hgb
     have HBL:Hid (Below w.heap.size w wr):=hb
     have hsz1:(strB (128::List.replicate z 0)).size=n:=by rw [← tB_len,tB_strB (end_bytes z)]; simp; omega
     have hcv:=fun w' h=>conv_cap w' g' (128::List.replicate z 0) n cap' (by simp; omega) h
     have hns : ¬ (9223372036854775807<text.size+n):=by omega
     have HKP:Hid (∀ w',Below wr.drew.heap.size wr.drew w'→w'.rangeAt g' 0 (cB (128::List.replicate z 0))):=fun w' h=>range_below h hglt (by rw [World.rangeAt_drew]; exact hrg)
     have hL8:IntKind.u64.wrap (8 * IntKind.u64.wrap (text.size:Int))=8 * (text.size:Int):=by
      simp [IntKind.wrap,IntKind.bits,IntKind.signed]; omega
     have hbig:=fun w'=>big8 (8 * (text.size:Int)) (by omega) (by omega) w'
     have hsz3:(strB (tl (8 * (text.size:Int)) 8)).size=8:=by rw [← tB_len,tB_strB (tl_bytes _ _),tl_len]
     have hns2 : ¬ (9223372036854775807<text.size+n+8):=by omega
     clear hO hb hgb hZ hnz hzl hs1 hs2 ht63 ht0 hne
     go_upto_region 9 with (fail)
     go_region_held3 (fun w'=>w'.rangeAt g' 0 (cB (128::List.replicate z 0))) (first | assumption | (rw [World.rangeAt_drew]; assumption) | (exact HKP.out _ (by assumption))) (first | (go_at_call 281; refine (hbig _).mono ?_; rintro e w2 ⟨rfl,hbw⟩))
     have HBA:Hid (Below w.heap.size w w2):=HBL.out.trans (below_of_drew hbw HBL.out.size)
     generalize hall:(text++strB (128::List.replicate z 0))++strB (tl (8 * (text.size:Int)) 8)=all at *
     have HALL:Hid (tB all=msg (flat ss) z):=by
      show _=_
      have e:=HTT.out
      rw [← hall,tB_append,tB_append,tB_strB (end_bytes z),tB_strB (tl_bytes _ _),msg,e,HTS.out]
     clear hall hbw hbig hcv HKP hL8 hns hns2 hsz1 hsz3
     have v0:w2.cell? ⟨0,0,none⟩=some (.int .u32 1779033703):=by rw [HBA.out.cell (p:=⟨0,0,none⟩) h0w.out]; exact cell_cW0 hiv (i:=0) (by decide)
     have v1:w2.cell? ⟨0,1,none⟩=some (.int .u32 3144134277):=by rw [HBA.out.cell (p:=⟨0,1,none⟩) h0w.out]; exact cell_cW0 hiv (i:=1) (by decide)
     have v2:w2.cell? ⟨0,2,none⟩=some (.int .u32 1013904242):=by rw [HBA.out.cell (p:=⟨0,2,none⟩) h0w.out]; exact cell_cW0 hiv (i:=2) (by decide)
     have v3:w2.cell? ⟨0,3,none⟩=some (.int .u32 2773480762):=by rw [HBA.out.cell (p:=⟨0,3,none⟩) h0w.out]; exact cell_cW0 hiv (i:=3) (by decide)
     have v4:w2.cell? ⟨0,4,none⟩=some (.int .u32 1359893119):=by rw [HBA.out.cell (p:=⟨0,4,none⟩) h0w.out]; exact cell_cW0 hiv (i:=4) (by decide)
     have v5:w2.cell? ⟨0,5,none⟩=some (.int .u32 2600822924):=by rw [HBA.out.cell (p:=⟨0,5,none⟩) h0w.out]; exact cell_cW0 hiv (i:=5) (by decide)
     have v6:w2.cell? ⟨0,6,none⟩=some (.int .u32 528734635):=by rw [HBA.out.cell (p:=⟨0,6,none⟩) h0w.out]; exact cell_cW0 hiv (i:=6) (by decide)
     have v7:w2.cell? ⟨0,7,none⟩=some (.int .u32 1541459225):=by rw [HBA.out.cell (p:=⟨0,7,none⟩) h0w.out]; exact cell_cW0 hiv (i:=7) (by decide)
     have HS0:Hid ((w2.alloc (.cells #[.int .u32 1779033703,.int .u32 3144134277,.int .u32 1013904242,.int .u32 2773480762,.int .u32 1359893119,.int .u32 2600822924,.int .u32 528734635,.int .u32 1541459225] 346)).rangeAt w2.heap.size 0 (cW (stN rs IV (tB all) 0))∧(w2.alloc (.cells #[.int .u32 1779033703,.int .u32 3144134277,.int .u32 1013904242,.int .u32 2773480762,.int .u32 1359893119,.int .u32 2600822924,.int .u32 528734635,.int .u32 1541459225] 346)).there w2.heap.size 0 8∧Below w.heap.size w (w2.alloc (.cells #[.int .u32 1779033703,.int .u32 3144134277,.int .u32 1013904242,.int .u32 2773480762,.int .u32 1359893119,.int .u32 2600822924,.int .u32 528734635,.int .u32 1541459225] 346))) :=
      ⟨range_new w2 (cW IV) 346,there_new w2 #[.int .u32 1779033703,.int .u32 3144134277,.int .u32 1013904242,.int .u32 2773480762,.int .u32 1359893119,.int .u32 2600822924,.int .u32 528734635,.int .u32 1541459225] 346 8 (by simp),HBA.out.alloc HBA.out.size _⟩
     have HSG:Hid (w.heap.size≤w2.heap.size):=HBA.out.size
     go_upto_region 11 with (fail)
     clear v0 v1 v2 v3 v4 v5 v6 v7
     generalize w2.alloc (.cells #[.int .u32 1779033703,.int .u32 3144134277,.int .u32 1013904242,.int .u32 2773480762,.int .u32 1359893119,.int .u32 2600822924,.int .u32 528734635,.int .u32 1541459225] 346)=w3 at *
     generalize w2.heap.size=Sg at *
     obtain ⟨nb,hnb⟩ : ∃ nb,all.size=64 * nb:=by
      have e:=congrArg List.length HALL.out
      rw [tB_len] at e
      have hml:(msg (flat ss) z).length=(flat ss).length+(z+1)+8:=by simp [msg,tl_len]; omega
      have:=HZ.out.2
      have:=HTS.out
      exact ⟨all.size / 64,by omega⟩
     have hasz:all.size<2305843009213693952:=by
      have e:=congrArg List.length HALL.out
      rw [tB_len] at e
      have hml:(msg (flat ss) z).length=(flat ss).length+(z+1)+8:=by simp [msg,tl_len]; omega
      have:=HZ.out.1
      omega
     have HNB:Hid (all.size=64 * nb∧all.size<2305843009213693952):=⟨hnb,hasz⟩
     have HX:Hid (w.heap.size≤g'∧g'<wr.heap.size):=⟨HGB.out,hglt⟩
     clear hnb hasz hglt hrg HBL HBA HGB e1 e2 b2 hn64 hm HN
     go_wp2
     go_loopg [8] nb (fun g i wi => ∃ (j p:Nat),p=64 * j∧j≤nb∧g=nb - j∧i = .int .i64 (p:Int)∧wi.rangeAt Sg 0 (cW (stN rs IV (tB all) j))∧wi.there Sg 0 8∧Below w.heap.size w wi)
     case atStart =>
      go_light
      exact ⟨0,0,rfl,Nat.zero_le _,rfl,rfl,HS0.out.1,HS0.out.2.1,HS0.out.2.2⟩
     case round =>
      clear HS0 HX
      obtain ⟨j,p,hp,hj,rfl,rfl,hst,htt,hb⟩:=hrel
      have hN:=HNB.out
      by_cases hjl:j<nb
      ·obtain ⟨q,hq⟩ : ∃ q:Nat,p+64=q:=⟨_,rfl⟩
       have eq1:IntKind.i64.wrap ((p:Int)+64)=(q:Int):=by rw [wrap_id _ (by omega) (by omega)]; omega
       have b0:(0:Int)≤(p:Int):=Int.natCast_nonneg _
       have b1:(p:Int)≤(q:Int):=by omega
       have b2:(q:Int)≤(all.size:Int):=by omega
       have b3:(p:Int)<(all.size:Int):=by omega
       have hex:(all.extract p q).size=64:=by rw [ByteArray.size_extract]; omega
       have hrr:wr.rangeAt 1 0 (cW rs):=range_below hb h2w hr
       have hrd:wr.drew.rangeAt 1 0 (cW rs):=by rw [World.rangeAt_drew]; exact hrr
       have hsl8:(stN rs IV (tB all) j).length=8:=stN_len rfl j
       have HST:Hid (foldI rs (stN rs IV (tB all) j) (tB (all.extract p q))=stN rs IV (tB all) (j+1)):=by
        show _=_
        rw [stN,tB_slice,hp]
        congr 2
        omega
       obtain ⟨st,hste⟩ : ∃ st,st=stN rs IV (tB all) j:=⟨_,rfl⟩
       rw [← hste] at hst hsl8 HST
       clear hste
       obtain ⟨s0,s1,s2,s3,s4,s5,s6,s7,rfl⟩:=list8 hsl8
       have c0:wr.cell? ⟨Sg,0,none⟩=some (.int .u32 s0):=cell_cW0 hst (i:=0) (by simp)
       have c1:wr.cell? ⟨Sg,1,none⟩=some (.int .u32 s1):=cell_cW0 hst (i:=1) (by simp)
       have c2:wr.cell? ⟨Sg,2,none⟩=some (.int .u32 s2):=cell_cW0 hst (i:=2) (by simp)
       have c3:wr.cell? ⟨Sg,3,none⟩=some (.int .u32 s3):=cell_cW0 hst (i:=3) (by simp)
       have c4:wr.cell? ⟨Sg,4,none⟩=some (.int .u32 s4):=cell_cW0 hst (i:=4) (by simp)
       have c5:wr.cell? ⟨Sg,5,none⟩=some (.int .u32 s5):=cell_cW0 hst (i:=5) (by simp)
       have c6:wr.cell? ⟨Sg,6,none⟩=some (.int .u32 s6):=cell_cW0 hst (i:=6) (by simp)
       have c7:wr.cell? ⟨Sg,7,none⟩=some (.int .u32 s7):=cell_cW0 hst (i:=7) (by simp)
       have hmix:=fun w' h=>mixed_any [s0,s1,s2,s3,s4,s5,s6,s7] rfl (all.extract p q) hex w' rs hrl h
       rw [HST.out] at hmix
       have hFl:(stN rs IV (tB all) (j+1)).length=8:=stN_len rfl _
       generalize hFE:stN rs IV (tB all) (j+1)=F at *
       have HFE:Hid (stN rs IV (tB all) (j+1)=F):=hFE
       clear hFE
       have hst34 : ∀ w':World,w'.there Sg 0 8→(storeCells ⟨Sg,0,none⟩ (cW F)).run Tryz.prog w' = .ok () (w'.setCells Sg 0 (cW F)):=fun w' h=>by
        have hl8:(cW F).length=8:=by rw [cW_len,hFl]
        have:=run_storeCells_cells (P:=Tryz.prog) Sg 0 (cW F) 0 w' (by rw [hl8]; intro j hj; simpa using (h j hj).1) (by rw [hl8]; intro j hj; simpa using (h j hj).2) (cW_one F)
        simpa using this
       have hcl:(cW F).length=8:=by rw [cW_len,hFl]
       have HK:Hid (∀ w',Below wr.drew.heap.size wr.drew w'→w'.there Sg 0 8∧Below w.heap.size w w'):=fun w' h=>⟨there_below h (there_lt htt (by decide)) (by rw [World.there_drew]; exact htt),hb.trans (below_of_drew h hb.size)⟩
       have HP:Hid (p=64 * j∧p+64=q):=⟨hp,hq⟩
       clear hp hq hst htt hb HST hN hsl8
       go_upto_region 14 with (fail)
       go_region_with (go_at_call 282; refine (hmix _ hrd).mono ?_; rintro e w4 ⟨rfl,hbw⟩; have hth4:=(HK.out _ hbw).1)
       have HW4:Hid (Below w.heap.size w w4):=(HK.out _ hbw).2
       clear HK hbw
       go_wp2
       go_roundg (nb - (j+1))
       case rel =>
        go_light
        have:=HP.out
        have:=HSG.out
        refine ⟨j+1,q,by omega,by omega,rfl,?_,?_,World.there_setCells hth4 _ _ _,below_setCells HW4.out HSG.out _ _⟩
        ·have:(p:Int)+64=(q:Int):=by omega
         first | rw [this] | rfl
        ·rw [HFE.out]; exact World.rangeAt_setCells_same _ _ _ _ (by rw [hcl]; exact hth4)
       case measure=>go_light; omega
      ·have hjn:j=nb:=by omega
       subst hjn
       have hpa : ¬ ((p:Int)<(all.size:Int)):=by omega
       have hHl:(stN rs IV (tB all) j).length=8:=stN_len rfl j
       have hW32 : ∀ i,0≤(stN rs IV (tB all) j).getD i 0∧(stN rs IV (tB all) j).getD i 0<4294967296:=fun i=>stN_w32 rs _ j i
       have HSUM:Hid (strB (outB (stN rs IV (tB all) j) 8)=shaS rs (flat ss)):=by
        show _=_
        have e:=HALL.out
        have hml:(msg (flat ss) z).length=all.size:=by rw [← e,tB_len]
        have hz:=HZ.out
        rw [HTS.out] at hz
        have:=msg_sum rs (flat ss) z hlen hz.2 hz.1
        rw [hml,show all.size / 64=j by omega] at this
        rw [e,this,shaS,shaT]
       have HP:Hid (Sg<wr.heap.size):=there_lt htt (by decide)
       clear hp hj hN htt HNB HALL hjl
       generalize stN rs IV (tB all) j=H at *
       go_wp2
       go_loopg [9,10] 8 (fun g x i wi => ∃ (m:Nat) (out:ByteArray),m≤8∧g=8 - m∧x = .string out∧i = .int .i64 m∧Hid (tB out=outR H m)∧wi.rangeAt Sg 0 (cW H)∧Below w.heap.size w wi)
       case atStart =>
        go_light
        exact ⟨0,_,Nat.zero_le _,rfl,rfl,rfl,rfl,hst,hb⟩
       case round =>
        clear hst hb HP
        obtain ⟨m,out,hm,rfl,rfl,rfl,HO,hst,hb⟩:=hrel
        have hos:out.size=4 * m:=by rw [← tB_len,HO.out,outR_len]
        by_cases hml:m<8
        ·have m0:(0:Int)≤(m:Int):=Int.natCast_nonneg _
         have m8:(m:Int)<8:=by omega
         have cm:=cell_cW0 hst (i:=m) (by omega)
         have hx:=hW32 m
         have hwx:IntKind.u64.wrap (H.getD m 0)=H.getD m 0:=wrap_u64_id hx.1 hx.2
         have hbig:=fun w'=>big4 (H.getD m 0) hx.1 (by omega) w'
         have hsz3:(strB (tl (H.getD m 0) 4)).size=4:=by rw [← tB_len,tB_strB (tl_bytes _ _),tl_len]
         have hns : ¬ (9223372036854775807<out.size+4):=by omega
         have HF:Hid (tB (out++strB (tl (H.getD m 0) 4))=outR H (m+1)):=by
          show _=_
          rw [tB_append,HO.out,tB_strB (tl_bytes _ _),outR]
         have hlt':Sg<wr.heap.size:=range_lt hst (by intro h; have:=congrArg List.length h; rw [cW_len,hHl] at this; cases this)
         have HK:Hid (∀ w',Below wr.heap.size wr w'→w'.rangeAt Sg 0 (cW H)∧Below w.heap.size w w'):=fun w' h=>⟨range_below h hlt' hst,hb.trans (h.mono hb.size)⟩
         clear hst hb hW32 hos hlt'
         generalize H.getD m 0=x at *
         go_wp2_with (go_at_call 281; refine (hbig _).mono ?_; rintro e w5 ⟨rfl,hbw⟩)
         go_roundg (8 - (m+1))
         case rel =>
          go_light
          exact ⟨m+1,_,by omega,rfl,rfl,by go_num,HF.out,(HK.out _ hbw).1,(HK.out _ hbw).2⟩
         case measure=>go_light; omega
        ·obtain rfl:m=8:=by omega
         have HOUT:Hid (out=shaS rs (flat ss)):=by
          show _=_
          rw [← HSUM.out,← outR_eq,← HO.out,strB_tB]
         have Hb:Hid (Below w.heap.size w wr):=hb
         clear hst hb hos
         go_wp2
         go_ret
         exact ⟨by rw [← HOUT.out]; rfl,Hb.out⟩
end Go.Proofs.YtoblgjledefdbaaGreatDoor
