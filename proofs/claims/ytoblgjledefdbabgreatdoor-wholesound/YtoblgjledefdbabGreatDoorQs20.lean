/- Own work. -/
import Derived.Test.YtoblgjledefdbabGreatDoorQs19
set_option maxRecDepth 100000
set_option maxHeartbeats 2000000
namespace Go.Proofs.YtoblgjledefdbabGreatDoor
open Go.RowKit
attribute [local go_sem ↓] Go.wp_at_zero Go.wp_at_succ
open Go.Proofs.Tryz
def tl(n:Int):Nat->List Int
 | 0=>[]
 | j+1=>(n/256^j%256)::tl n j
theorem Jh(n:Int)(j:Nat):(tl n j).length=j:=by
 induction j with
 | zero=>rfl
 | succ j ih=>simp[tl,ih]
theorem O2(n:Int)(j:Nat):Bytes (tl n j):=by
 induction j with
 | zero=>intro x hx;cases hx
 | succ j ih=>
  intro x hx
  rcases List.mem_cons.1 hx with rfl|hx
  ·omega
  ·exact ih x hx
structure Bg(w wr:World)(l:List Int)(K:Nat):Prop where
 len:l.length=K
 below:Below w.heap.size w wr
 out:wr.rangeAt w.heap.size 0 (cB l)
 outt:wr.there w.heap.size 0 K
theorem Bg.set{w wr:World}{l:List Int}{K:Nat}(h:Bg w wr l K)(m:Nat)(v:Int):Bg w (wr.setCell ⟨w.heap.size,m,none⟩ (.int .u8 v)) (l.set m v) K:=by
 refine⟨by rw[IK];exact h.len,h.below.setCell (Lb _) _,?_,QL h.outt _ _⟩
 have:=YC h.out m (.int .u8 v)
 rwa [Lp,Qfm] at this
theorem QmX(K j:Nat)(n v:Int)(h:j<K):(List.replicate (K-j) 0++tl n j).set (K-1-j) v=List.replicate (K-(j+1)) 0++v::tl n j:=by
 obtain⟨m,rfl⟩:∃m,K=j+1+m:=⟨K-(j+1),by omega⟩
 rw[show j+1+m-j=m+1 by omega,show j+1+m-1-j=m by omega,show j+1+m-(j+1)=m by omega,List.replicate_succ',LP,Nh _ _ (by simp)]
 simp
theorem QhA(w:World)(b K:Nat)(l:List Int)(hl:l.length=K)(h:w.rangeAt b 0 (cB l)):(convert 83 9 (.slice (Zp b) K K)).run prog w= .ok (.string (QT l)) w:=Qbc w b l K hl h
theorem Qgr(n:Int)(h0:0<=n)(h64:n<18446744073709551616)(K:Nat)(hK:K<=8)
  (hmk:∀u:World,(Instr.makeSlice 83 (.int .i64 K) (.int .i64 K)).run prog u= .ok (.slice (Zp u.heap.size) K K) (u.alloc (.cells (cB (List.replicate K 0)).toArray 5))) (w:World) :
  Calls prog 30 #[.int .u64 n,.int .i64 K] w fun e w'=>e= .returned (.string (QT (tl n K)))∧Below w.heap.size w w':=by
 have hB0:Bg w (w.alloc (.cells (cB (List.replicate K 0)).toArray 5)) (List.replicate K 0) K :=
  ⟨by simp,(Lc _ _).alloc (Lb _) _,Qq _ _ _,Qm _ _ _ _ (by simp[Qu])⟩
 have k0:(0:Int)<=(K:Int):=Lf _;have k8:(K:Int)<=8:=by omega
 go_enter func30,ntmps30;go_wp2;generalize w.alloc (.cells (cB (List.replicate K 0)).toArray 5)=w1 at *;clear hmk
 go_loopg [0,6] K (fun g x i wr=> ∃j:Nat,j<=K∧g=K-j∧x= .int .u64 (n/256^j)∧i= .int .i64 ((K:Int)-1-(j:Int))∧Bg w wr (List.replicate (K-j) 0++tl n j) K)
 case atStart=>
  go_light;refine⟨0,Lm _,rfl,?_,?_,?_⟩
  ·simp
  ·simp
  ·simpa [tl] using hB0
 case round=>
  clear hB0;obtain⟨j,hj,rfl,rfl,rfl,hs⟩:=hrel;have hx0:0<=n/256^j:=Int.ediv_nonneg h0 (Int.pow_nonneg (by decide))
  have hx1:n/256^j<=n:=Int.ediv_le_self _ h0;have hx2:n/256^j<18446744073709551616:=by omega
  by_cases hlt:j<K
  ·obtain⟨m,hm⟩:∃m:Nat,j+m+1=K:=⟨K-1-j,by omega⟩
   have em:(K:Int)-1-(j:Int)=(m:Int):=by omega
   rw[em];have m0:(0:Int)<=(m:Int):=Lf _;have mK:(m:Int)<(K:Int):=by omega
   have m8:(m:Int)<=8:=by omega
   have cm:=Yg hs.out (i:=m) (by rw[hs.len];omega)
   have fm:wr.frozen? ⟨w.heap.size,m,none⟩=false:=by have:=(hs.outt m (by omega)).2;rwa [Lp] at this
   have HF:Hid (Bg w (wr.setCell ⟨w.heap.size,m,none⟩ (.int .u8 (n/256^j%256))) (List.replicate (K-(j+1)) 0++tl n (j+1)) K):=by
    have:=hs.set m (n/256^j%256)
    rwa [show m=K-1-j by omega,QmX K j n _ hlt,<-show m=K-1-j by omega] at this
   have HD:Hid (n/256^j/256=n/256^(j+1)):=by
    show _=_
    rw[Int.pow_succ,Int.ediv_ediv_of_nonneg (Int.pow_nonneg (by decide))]
   have HM:Hid (j+m+1=K):=hm;clear hs hm em;generalize n/256^j=x at *;generalize (List.replicate (K-j) 0++tl n j).getD m 0=z at *;go_wp2
   go_roundg (K-(j+1))
   case rel=>
    go_light;refine⟨j+1,by omega,rfl,by rw[<-HD.out],?_,HF.out⟩
    have:=HM.out;go_num
   case measure=>go_light;omega
  ·obtain rfl:j=K:=by omega
   have em:(j:Int)-1-(j:Int) = -1:=by omega
   rw[em];have hs2:=hs.out;rw[NK,List.replicate_zero,NE] at hs2;have hcv:=QhA wr w.heap.size j (tl n j) (Jh _ _) hs2;have HB:Hid (Below w.heap.size w wr):=hs.below;clear hs hs2;go_wp2
   go_ret
   exact⟨rfl,HB.out⟩
theorem big8(n:Int)(h0:0<=n)(h64:n<18446744073709551616)(w:World) :
  Calls prog 30 #[.int .u64 n,.int .i64 8] w fun e w'=>e= .returned (.string (QT (tl n 8)))∧Below w.heap.size w w':=Qgr n h0 h64 8 (by decide) (fun u=>by kernel_rfl) w
theorem big4(n:Int)(h0:0<=n)(h64:n<18446744073709551616)(w:World) :
  Calls prog 30 #[.int .u64 n,.int .i64 4] w fun e w'=>e= .returned (.string (QT (tl n 4)))∧Below w.heap.size w w':=Qgr n h0 h64 4 (by decide) (fun u=>by kernel_rfl) w
theorem QhH(l:List Int)(acc:BA):(l.foldl (fun r n=>r.push (UInt8.ofNat n.toNat)) acc).data.toList=acc.data.toList++l.map fun n=>UInt8.ofNat n.toNat:=by
 induction l generalizing acc with
 | nil=>simp
 | cons x r ih=>rw[List.foldl_cons,ih];simp[ByteArray.push]
theorem UQ(l:List Int):(QT l).data.toList=l.map fun n=>UInt8.ofNat n.toNat:=by
 rw[QT,QhH];rfl
theorem J0{l:List Int}(h:Bytes l):tB (QT l)=l:=by
 rw[tB,UQ,List.map_map]
 conv=>rhs;rw[<-List.map_id l]
 apply NL
 intro x hx;obtain⟨h0,h1⟩:=h x hx;obtain⟨n,rfl⟩:=NX h0;simp;omega
theorem Qne(s:BA):QT (tB s)=s:=by
 have:(QT (tB s)).data.toList=s.data.toList:=by
  rw[UQ,tB,List.map_map]
  conv=>rhs;rw[<-List.map_id s.data.toList]
  apply NL
  intro x _;simp
 cases s with
 | mk d=>
  cases h:QT (tB ⟨d⟩) with
  | mk d'=>
   rw[h] at this;simp only at this;rw[Array.toList_inj.1 this]
def msg(t:List Int)(z:Nat):List Int:=(t++(128::List.replicate z 0))++tl (8*(t.length:Int)) 8
theorem Qew{l:List Int}(h:l.length=64)(b:Int):Y3 l b 8=l.take 56++tl b 8:=by
 obtain⟨s0,s1,s2,s3,s4,s5,s6,s7,hd⟩:=Qbz (st:=l.drop 56) (by simp[h])
 have e:l=l.take 56++[s0,s1,s2,s3,s4,s5,s6,s7]:=by rw[<-hd,Nu]
 have hA:(l.take 56).length=56:=by simp[h]
 generalize l.take 56=A at *;subst e;simp only[Y3,tl,IntKind.wrap_u8'];rw[Nh _ _ (by omega),Nh _ _ (by omega),Nh _ _ (by omega),Nh _ _ (by omega),Nh _ _ (by omega),Nh _ _ (by omega),Nh _ _ (by omega),Nh _ _ (by omega),hA]
 congr 1
theorem Qil(A:List Int)(h:A.length=56)(B:List Int):(A++B).take 56=A:=by
 rw[LH (by omega),Lu (by omega)]
theorem Qmq(rs t:List Int)(z:Nat)(hlt:t.length<1152921504606846976)(hz:(t.length+(z+1)+8)%64=0)(hz2:z<64) :
  stN rs IV (msg t z) ((msg t z).length/64)=QX rs (stN rs IV t (t.length/64)) (pad (t.drop (64*(t.length/64)))) t.length:=by
 have hml:(msg t z).length=t.length+(z+1)+8:=by simp[msg,Jh];omega
 have hb8:IntKind.u64.wrap ((t.length:Int)*8)=8*(t.length:Int):=by
  simp[IntKind.wrap,IntKind.bits,IntKind.signed];omega
 have hdl:(t.drop (64*(t.length/64))).length=t.length%64:=by rw[LD];omega
 have hpl:(pad (t.drop (64*(t.length/64)))).length=64:=Y8 (by omega)
 have hpt:(pad (t.drop (64*(t.length/64)))).take (t.length%64)=t.drop (64*(t.length/64)):=by
  rw[pad,LH (by omega),Lu (by omega)]
 have hdrop:∀q,q=t.length/64->(msg t z).drop (64*q)=(t.drop (64*q)++(128::List.replicate z 0))++tl (8*(t.length:Int)) 8:=fun q hq=>by
  unfold msg;rw[L9 (by simp;omega),L9 (by omega)]
 have hpre:stN rs IV (msg t z) (t.length/64)=stN rs IV t (t.length/64):=by
  unfold msg;rw[LP,Ok _ _ _ _ _ (by omega)]
 unfold QX;rw[hb8];have hend:Jo (pad (t.drop (64*(t.length/64)))) (t.length%64)=(t.drop (64*(t.length/64))++[128])++List.replicate (64-(t.length%64+1)) 0:=by
  rw[Qc2 hpl (ID _ (by decide)),hpt]
 by_cases h55:55<t.length%64
 ·rw[Lo h55];have hq:(msg t z).length/64=t.length/64+1+1:=by omega
  have hzz:z=(64-(t.length%64+1))+56:=by omega
  rw[hq,stN,stN,hpre,hdrop _ rfl,hend,Qew (by simp)]
  have e1:((t.drop (64*(t.length/64))++(128::List.replicate z 0))++tl (8*(t.length:Int)) 8).take 64=(t.drop (64*(t.length/64))++[128])++List.replicate (64-(t.length%64+1)) 0:=by
   rw[hzz,<-NT];have:t.drop (64*(t.length/64))++(128::(List.replicate (64-(t.length%64+1)) 0++List.replicate 56 0))++tl (8*(t.length:Int)) 8=((t.drop (64*(t.length/64))++[128])++List.replicate (64-(t.length%64+1)) 0)++(List.replicate 56 0++tl (8*(t.length:Int)) 8):=by simp
   rw[this,LH (by simp;omega),Lu (by simp;omega)]
  have e2:((msg t z).drop (64*(t.length/64+1))).take 64=(List.replicate 64 (0:Int)).take 56++tl (8*(t.length:Int)) 8:=by
   have hd2:(msg t z).drop (64*(t.length/64+1))=((msg t z).drop (64*(t.length/64))).drop 64:=by rw[Ww];congr 1
   rw[hd2,hdrop _ rfl,hzz,<-NT];have:t.drop (64*(t.length/64))++(128::(List.replicate (64-(t.length%64+1)) 0++List.replicate 56 0))++tl (8*(t.length:Int)) 8=((t.drop (64*(t.length/64))++[128])++List.replicate (64-(t.length%64+1)) 0)++(List.replicate 56 0++tl (8*(t.length:Int)) 8):=by simp
   rw[this,L9 (by simp;omega),Nc (by simp;omega),NE,Lu (by simp[Jh])]
   simp
  rw[e1,e2]
 ·rw[Le h55];have hq:(msg t z).length/64=t.length/64+1:=by omega
  have hzz:z=55-t.length%64:=by omega
  rw[hq,stN,hpre,hdrop _ rfl,hend,Qew (by simp;omega)]
  congr 1
  rw[Lu (by simp[Jh];omega)]
  congr 1
  have:(t.drop (64*(t.length/64))++[128])++List.replicate (64-(t.length%64+1)) 0=(t.drop (64*(t.length/64))++(128::List.replicate z 0))++List.replicate 8 0:=by
   rw[show 64-(t.length%64+1)=z+8 by omega,<-NT];simp
  rw[this,Qil _ (by simp;omega)]
def outR(H:List Int):Nat->List Int
 | 0=>[]
 | k+1=>outR H k++tl (H.getD k 0) 4
theorem QmG(H:List Int)(k:Nat):outR H k=UJ H k:=by
 induction k with
 | zero=>rfl
 | succ k ih=>
  rw[outR,UJ,ih];simp[tl,w4,IntKind.wrap_u8']
theorem JZ(a b:BA):tB (a++b)=tB a++tB b:=by simp[tB]
theorem QpC:(prog.info? 5).map (fun i=>(i.zero,i.size,i.bytes))=some (some (.int .u8 0),1,1):=by kernel_rfl
theorem QiZ(w:World)(b:Nat)(l:List Int)(n cap:Nat)(hl:l.length=n)(h:w.rangeAt b 0 (cB l)):(convert 83 9 (.slice (Zp b) n cap)).run prog w= .ok (.string (QT l)) w:=by
 subst hl;rw[run_convert_bytes_string w 83 9 5 _ _ _ underlying83 underlying5 underlying9];refine run_bytesToString w ⟨b,0,none⟩ l.length cap l ?_
 have:=run_loadCells_list (P:=prog) w ⟨b,0,none⟩ (cB l) (fun j v hv=>by rw[Addr.add_mid];exact h j v hv)
 rwa [Qu] at this
theorem QbL{w:World}{base g n cap:Nat}{l:List Int}(h:w.ownsRow base 5 1 (.slice (Zp g) n cap) n (cB l)):w.rangeAt g 0 (cB l)∧base<=g:=by
 obtain⟨h1,h2⟩:=h
 rcases h2 with ⟨h2,_⟩|⟨g',cap',cur,hv,hg,hh,hn,hc,hs,ht⟩
 ·cases h2
 ·injection hv with e1 e2 e3
  injection e1 with e1
  injection e1 with e1
  subst e1;refine⟨fun j v hj=> ?_,hg⟩
  rw[Lp,cell_of_row w g j cur 5 (0,0) hh];rw[<-ht,Nf] at hj
  split at hj
  ·simpa using hj
  ·cases hj
theorem Qh2{w:World}{base n:Nat}{v:Value}{xs:List Value}(h:w.ownsRow base 5 1 v n xs)(hn:0<n):∃g cap,v= .slice (Zp g) n cap∧base<=g:=by
 obtain⟨h1,h2⟩:=h
 rcases h2 with ⟨_,h2⟩|⟨g,cap,cur,hv,hg,_⟩
 ·omega
 ·exact⟨g,cap,hv,hg⟩
theorem Qcn(z:Nat):Bytes (128::List.replicate z 0):=by
 intro x hx
 rcases List.mem_cons.1 hx with rfl|hx
 ·omega
 ·rw[List.eq_of_mem_replicate hx];omega
theorem Oa{w w2:World}{B:Nat}(h:Below w.drew.heap.size w.drew w2)(hB:B<=w.heap.size):Below B w w2 :=
 ⟨h.os,h.tape,h.output,h.size,fun k hk=>h.block k (LL hk hB)⟩
theorem QkT(r:BA)(p q:Nat):tB (r.extract p q)=((tB r).drop p).take (q-p):=by
 have:(r.extract p q).data.toList=(r.data.toList.drop p).take (q-p):=by
  rw[Il];simp[Array.toList_extract,List.extract]
 rw[tB,this,tB,N8,IJ]
theorem Qj9(H:List Int)(m:Nat):(outR H m).length=4*m:=by
 induction m with
 | zero=>rfl
 | succ m ih=>rw[outR,Lh,ih,Jh];omega
theorem Qlg(x:Int):0<=IntKind.u32.wrap x∧IntKind.u32.wrap x<4294967296:=by rw[IntKind.wrap_u32'];omega
theorem Qlc{l:List Int}(h:∀x∈l,0<=x∧x<4294967296)(i:Nat):0<=l.getD i 0∧l.getD i 0<4294967296:=by
 rw[La]
 cases e:l[i]? with
 | none=>exact⟨by decide,by decide⟩
 | some x=>exact h x (Nk e)
theorem Qnb(rs t:List Int)(k i:Nat):0<=(stN rs IV t k).getD i 0∧(stN rs IV t k).getD i 0<4294967296:=by
 refine Qlc (fun x hx=> ?_) i
 cases k with
 | zero=>simp[stN,IV] at hx;omega
 | succ k=>
  rw[stN,YJ,sumI] at hx;simp only[List.mem_cons,List.not_mem_nil,or_false] at hx
  rcases hx with rfl|rfl|rfl|rfl|rfl|rfl|rfl|rfl <;> exact Qlg _
theorem Qfb{x:Int}(h0:0<=x)(h1:x<4294967296):IntKind.u64.wrap x=x:=by
 simp[IntKind.wrap,IntKind.bits,IntKind.signed];omega
theorem Qo0{w:World}{g:Nat}{o:Obj}(h:w.heap[g]? = some o):g<w.heap.size:=by
 rcases Ws g w.heap.size with h'|h'
 ·exact h'
 ·rw[Array.getElem?_eq_none h'] at h;cases h
theorem endz(L:Nat):∃z,z<64∧(L+(z+1)+8)%64=0:=⟨(64-(L+9)%64)%64,by omega,by omega⟩
theorem QcD(w:World)(ao:OA)(b off len cap:Nat)(ss:LB)(hl:ss.length=len)(hao:0<len->ao=some ⟨b,off,none⟩)(hs:w.rangeAt b off (ss.map Value.string))
  (hmx:len<=1048576) (rs:List Int) (hrl:rs.length=64) (hr:w.rangeAt 1 0 (cW rs)) (hiv:w.rangeAt 0 0 (cW IV)) (hlen:(Qj ss).length<1152921504606846976) :
  Calls prog 10 #[.slice ao len cap] w fun e w'=>e= .returned (.string (JG rs (Qj ss)))∧Below w.heap.size w w':=by
 have h2w:1<w.heap.size:=QH hr (by intro h;have:=LZ List.length h;simp[Ql,hrl] at this)
 have h0w:Hid (0<w.heap.size):=QH hiv (by intro h;cases h)
 go_enter func10,ntmps10;go_wp2
 go_loopg [3,4] len (fun g x i wx=>w=wx ∧ ∃(k:Nat) (text:BA),k<=len∧g=len-k∧x= .string text∧i= .int .i64 k∧Hid (tB text=Qj (ss.take k)))
 case atStart=>go_light;exact⟨rfl,0,_,Lm _,rfl,rfl,rfl,rfl⟩
 case round=>
  obtain⟨rfl,k,text,hk,rfl,rfl,rfl,HT⟩:=hrel
  by_cases hlt:k<len
  ·obtain rfl:=hao (by omega)
   have hk':k<ss.length:=by omega
   have ck:w.cell? ⟨b,off+k,none⟩=some (.string (ss.getD k ByteArray.empty)) :=
    hs k _ (by simp[List.getElem?_eq_getElem hk',List.getD_eq_getElem?_getD])
   have hz:(k:Int)<(len:Int):=by omega
   have hfs:=UB ss k hk';have hsz:(Qj (ss.take (k+1))).length<=(Qj ss).length:=Oy _ _;have hts:text.size=(Qj (ss.take k)).length:=by rw[<-Yc,HT.out]
   have hns:¬(9223372036854775807<text.size+(ss.getD k ByteArray.empty).size):=by
    rw[hfs,Lh,Yc] at hsz;omega
   have HF:Hid (tB (text++ss.getD k ByteArray.empty)=Qj (ss.take (k+1))):=by
    show _=_
    rw[JZ,HT.out,hfs]
   clear hfs hsz hts;generalize ss.getD k ByteArray.empty=part at *;go_wp2
   go_roundg (len-(k+1))
   case rel=>go_light;exact⟨rfl,k+1,_,by omega,rfl,rfl,by go_num,HF.out⟩
   case measure=>go_light;omega
  ·obtain rfl:k=len:=by omega
   have hz:¬(k:Int)<(k:Int):=by omega
   have hT:=HT.out;rw[Lu (by omega)] at hT
   have hts:text.size=(Qj ss).length:=by rw[<-Yc,hT]
   have HTT:Hid (tB text=Qj ss):=hT;clear hT HT hs hao hl;obtain⟨zN,hz1,hz2⟩:=endz text.size;obtain⟨i0,hi,hz0,hzz1,hzz2⟩:=info_parts QpC;have hO0:(w.alloc (.cells #[.int .u8 128] 5)).ownsRow w.heap.size 5 1 (.slice (Zp w.heap.size) 1 1) 1 (cB (128::List.replicate 0 0)) :=
    ⟨rfl,Or.inr ⟨w.heap.size,1,#[.int .u8 128],rfl,Lb _,Lr _ _,Lb _,by unfold maxLen;omega,rfl,rfl⟩⟩
   have hb0:Below w.heap.size w (w.alloc (.cells #[.int .u8 128] 5)):=(Lc _ _).alloc (Lb _) _;have HZ:Hid (zN<64∧(text.size+(zN+1)+8)%64=0):=⟨hz1,hz2⟩;have ht63:(text.size:Int)<1152921504606846976:=by omega
   have ht0:(0:Int)<=(text.size:Int):=Lf _;have HTS:Hid (text.size=(Qj ss).length):=hts;clear hz1 hz2 hts
   go_upto_region 7 with (fail)
   generalize w.alloc (.cells #[.int .u8 128] 5)=w1 at *
   go_loopg [5] zN (fun g v wi=> ∃(z n g' cap':Nat),n=z+1∧z<=zN∧g=zN-z∧v= .slice (Zp g') n cap'∧wi.ownsRow w.heap.size 5 1 v n (cB (128::List.replicate z 0))∧Below w.heap.size w wi)
   case atStart=>go_light;exact⟨0,1,_,_,rfl,Lm _,rfl,rfl,hO0,hb0⟩
   case round=>
    clear hO0 hb0;obtain⟨z,n,g',cap',hnz,hzl,rfl,rfl,hO,hb⟩:=hrel;obtain⟨s1,hs1⟩:∃s1:Nat,text.size+n=s1:=⟨_,rfl⟩;obtain⟨s2,hs2⟩:∃s2:Nat,s1+8=s2:=⟨_,rfl⟩;have hZ:=HZ.out;have e1:IntKind.i64.wrap ((text.size:Int)+(n:Int))=(s1:Int):=by rw[QV _ (by omega) (by omega)];omega
    have e2:IntKind.i64.wrap ((s1:Int)+8)=(s2:Int):=by rw[QV _ (by omega) (by omega)];omega
    have b2:(0:Int)<=(s2:Int):=Lf _;have HN:Hid (n=z+1∧z<=zN∧text.size+n=s1∧s1+8=s2):=⟨hnz,hzl,hs1,hs2⟩;have hn64:n<=64:=by omega
    by_cases hne:z<zN
    ·have hm:((s2:Int)%64 == 0)=false:=by rw[beq_eq_false_iff_ne];omega
     have HLT:Hid (z<zN):=hne;have HG:Hid (w.heap.size<=g'):=(QbL hO).2;clear hZ hnz hzl hs1 hs2 ht63 ht0 hne;have hbs:w.heap.size<=wr.heap.size:=hb.size;have HO:Hid (∀o,(wr.alloc o).ownsRow w.heap.size 5 1 (.slice (Zp g') n cap') n (cB (128::List.replicate z 0))):=fun o=>by
      obtain⟨h1,h2⟩:=hO;refine⟨h1,?_⟩
      rcases h2 with ⟨h2,_⟩|⟨g,cp,cur,hv,hg,hh,r⟩
      ·cases h2
      ·exact Or.inr ⟨g,cp,cur,hv,hg,by rw[Below.heap_alloc _ _ _ (Qo0 hh)];exact hh,r⟩
     have Hb:Hid (∀o,Below w.heap.size w (wr.alloc o)):=fun o=>hb.alloc hb.size o
     have hby:Hid ((n+1)*1<=140737488355328):=by show _<=_;omega
     have hmx2:Hid (n+1<=maxLen):=by show _<=_;unfold maxLen;omega
     clear hO hb
     go_upto_region 8 with (fail)
     go_wp2_with (at_builtin;(refine wpList_append_own _ rfl _ _ 83 rfl w.heap.size 5 i0 (.int .u8 0) 1 1 underlying83 hi hz0 hzz1 hzz2 rfl (by decide) _ _ _ rfl (HO.out _) ⟨wr.heap.size,0,none⟩ 1 1 [.int .u8 0] rfl rfl (cell_one_new _ _ _) (fun x hx=>by simp at hx;subst hx;rfl) hmx2.out hby.out (by simp;omega) ?_);intro v' w2 hown' hg' hne')
     obtain⟨g2,cap2,hv2,hgb⟩:=Qh2 hown' (Nat.succ_pos _);rw[hv2] at hown' ⊢;have HR:Hid (w2.ownsRow w.heap.size 5 1 (.slice (Zp g2) (n+1) cap2) (n+1) (cB (128::List.replicate (z+1) 0))):=by
      have e:cB (128::List.replicate z 0)++[Value.int IntKind.u8 0]=cB (128::List.replicate (z+1) 0):=by
       rw[List.replicate_succ'];simp[cB]
      rw[<-e];exact hown'
     have HB2:Hid (Below w.heap.size w w2):=(Hb.out _).grown hg' (by simp;omega) (fun j hj=>by cases hj;exact HG.out)
     clear hown' hg' hne' hv2
     go_roundg (zN-(z+1))
     case rel=>go_light;have:=HN.out;have:=HZ.out;exact⟨z+1,n+1,g2,cap2,by omega,by have:=HLT.out;omega,rfl,rfl,HR.out,HB2.out⟩
     case measure=>go_light;have:=HLT.out;omega
    ·have hzz:z=zN:=by omega
     subst hzz;have hm:((s2:Int)%64 == 0)=true:=by rw[beq_iff_eq];omega
     obtain⟨hrg,hgb⟩:=QbL hO;have hglt:g'<wr.heap.size:=QH hrg (by simp[cB])
     have HGB:Hid (w.heap.size<=g'):=hgb;have HBL:Hid (Below w.heap.size w wr):=hb;have hsz1:(QT (128::List.replicate z 0)).size=n:=by rw[<-Yc,J0 (Qcn z)];simp;omega
     have hcv:=fun w' h=>QiZ w' g' (128::List.replicate z 0) n cap' (by simp;omega) h
     have hns:¬(9223372036854775807<text.size+n):=by omega
     have HKP:Hid (∀w',Below wr.drew.heap.size wr.drew w'->w'.rangeAt g' 0 (cB (128::List.replicate z 0))):=fun w' h=>Qk h hglt (by rw[World.rangeAt_drew];exact hrg)
     have hL8:IntKind.u64.wrap (8*IntKind.u64.wrap (text.size:Int))=8*(text.size:Int):=by
      simp[IntKind.wrap,IntKind.bits,IntKind.signed];omega
     have hbig:=fun w'=>big8 (8*(text.size:Int)) (by omega) (by omega) w'
     have hsz3:(QT (tl (8*(text.size:Int)) 8)).size=8:=by rw[<-Yc,J0 (O2 _ _),Jh]
     have hns2:¬(9223372036854775807<text.size+n+8):=by omega
     clear hO hb hgb hZ hnz hzl hs1 hs2 ht63 ht0 hne
     go_upto_region 9 with (fail)
     go_region_held3 (fun w'=>w'.rangeAt g' 0 (cB (128::List.replicate z 0))) (first|assumption|(rw[World.rangeAt_drew];assumption)|(exact HKP.out _ (by assumption))) (first|(go_at_call 30;refine(hbig _).mono ?_;rintro e w2 ⟨rfl,hbw⟩))
     have HBA:Hid (Below w.heap.size w w2):=HBL.out.trans (Oa hbw HBL.out.size);generalize hall:(text++QT (128::List.replicate z 0))++QT (tl (8*(text.size:Int)) 8)=all at *;have HALL:Hid (tB all=msg (Qj ss) z):=by
      show _=_
      have e:=HTT.out;rw[<-hall,JZ,JZ,J0 (Qcn z),J0 (O2 _ _),msg,e,HTS.out]
     clear hall hbw hbig hcv HKP hL8 hns hns2 hsz1 hsz3;have v0:w2.cell? ⟨0,0,none⟩=some (.int .u32 1779033703):=by rw[HBA.out.cell (p:=⟨0,0,none⟩) h0w.out];exact Qd hiv (i:=0) (by decide)
     have v1:w2.cell? ⟨0,1,none⟩=some (.int .u32 3144134277):=by rw[HBA.out.cell (p:=⟨0,1,none⟩) h0w.out];exact Qd hiv (i:=1) (by decide)
     have v2:w2.cell? ⟨0,2,none⟩=some (.int .u32 1013904242):=by rw[HBA.out.cell (p:=⟨0,2,none⟩) h0w.out];exact Qd hiv (i:=2) (by decide)
     have v3:w2.cell? ⟨0,3,none⟩=some (.int .u32 2773480762):=by rw[HBA.out.cell (p:=⟨0,3,none⟩) h0w.out];exact Qd hiv (i:=3) (by decide)
     have v4:w2.cell? ⟨0,4,none⟩=some (.int .u32 1359893119):=by rw[HBA.out.cell (p:=⟨0,4,none⟩) h0w.out];exact Qd hiv (i:=4) (by decide)
     have v5:w2.cell? ⟨0,5,none⟩=some (.int .u32 2600822924):=by rw[HBA.out.cell (p:=⟨0,5,none⟩) h0w.out];exact Qd hiv (i:=5) (by decide)
     have v6:w2.cell? ⟨0,6,none⟩=some (.int .u32 528734635):=by rw[HBA.out.cell (p:=⟨0,6,none⟩) h0w.out];exact Qd hiv (i:=6) (by decide)
     have v7:w2.cell? ⟨0,7,none⟩=some (.int .u32 1541459225):=by rw[HBA.out.cell (p:=⟨0,7,none⟩) h0w.out];exact Qd hiv (i:=7) (by decide)
     have HS0:Hid ((w2.alloc (.cells #[.int .u32 1779033703,.int .u32 3144134277,.int .u32 1013904242,.int .u32 2773480762,.int .u32 1359893119,.int .u32 2600822924,.int .u32 528734635,.int .u32 1541459225] 85)).rangeAt w2.heap.size 0 (cW (stN rs IV (tB all) 0))∧(w2.alloc (.cells #[.int .u32 1779033703,.int .u32 3144134277,.int .u32 1013904242,.int .u32 2773480762,.int .u32 1359893119,.int .u32 2600822924,.int .u32 528734635,.int .u32 1541459225] 85)).there w2.heap.size 0 8∧Below w.heap.size w (w2.alloc (.cells #[.int .u32 1779033703,.int .u32 3144134277,.int .u32 1013904242,.int .u32 2773480762,.int .u32 1359893119,.int .u32 2600822924,.int .u32 528734635,.int .u32 1541459225] 85))) :=
      ⟨Qq w2 (cW IV) 85,Qm w2 #[.int .u32 1779033703,.int .u32 3144134277,.int .u32 1013904242,.int .u32 2773480762,.int .u32 1359893119,.int .u32 2600822924,.int .u32 528734635,.int .u32 1541459225] 85 8 (by simp),HBA.out.alloc HBA.out.size _⟩
     have HSG:Hid (w.heap.size<=w2.heap.size):=HBA.out.size
     go_upto_region 11 with (fail)
     clear v0 v1 v2 v3 v4 v5 v6 v7;generalize w2.alloc (.cells #[.int .u32 1779033703,.int .u32 3144134277,.int .u32 1013904242,.int .u32 2773480762,.int .u32 1359893119,.int .u32 2600822924,.int .u32 528734635,.int .u32 1541459225] 85)=w3 at *;generalize w2.heap.size=Sg at *;obtain⟨nb,hnb⟩:∃nb,all.size=64*nb:=by
      have e:=LZ List.length HALL.out;rw[Yc] at e;have hml:(msg (Qj ss) z).length=(Qj ss).length+(z+1)+8:=by simp[msg,Jh];omega
      have:=HZ.out.2;have:=HTS.out;exact⟨all.size/64,by omega⟩
     have hasz:all.size<2305843009213693952:=by
      have e:=LZ List.length HALL.out;rw[Yc] at e;have hml:(msg (Qj ss) z).length=(Qj ss).length+(z+1)+8:=by simp[msg,Jh];omega
      have:=HZ.out.1;omega
     have HNB:Hid (all.size=64*nb∧all.size<2305843009213693952):=⟨hnb,hasz⟩;have HX:Hid (w.heap.size<=g'∧g'<wr.heap.size):=⟨HGB.out,hglt⟩;clear hnb hasz hglt hrg HBL HBA HGB e1 e2 b2 hn64 hm HN;go_wp2
     go_loopg [8] nb (fun g i wi=> ∃(j p:Nat),p=64*j∧j<=nb∧g=nb-j∧i= .int .i64 p∧wi.rangeAt Sg 0 (cW (stN rs IV (tB all) j))∧wi.there Sg 0 8∧Below w.heap.size w wi)
     case atStart=>go_light;exact⟨0,0,rfl,Lm _,rfl,rfl,HS0.out.1,HS0.out.2.1,HS0.out.2.2⟩
     case round=>
      clear HS0 HX;obtain⟨j,p,hp,hj,rfl,rfl,hst,htt,hb⟩:=hrel;have hN:=HNB.out
      by_cases hjl:j<nb
      ·obtain⟨q,hq⟩:∃q:Nat,p+64=q:=⟨_,rfl⟩;have eq1:IntKind.i64.wrap ((p:Int)+64)=(q:Int):=by rw[QV _ (by omega) (by omega)];omega
       have b0:(0:Int)<=(p:Int):=Lf _;have b1:(p:Int)<=(q:Int):=by omega
       have b2:(q:Int)<=(all.size:Int):=by omega
       have b3:(p:Int)<(all.size:Int):=by omega
       have hex:(all.extract p q).size=64:=by rw[ByteArray.size_extract];omega
       have hrr:wr.rangeAt 1 0 (cW rs):=Qk hb h2w hr;have hrd:wr.drew.rangeAt 1 0 (cW rs):=by rw[World.rangeAt_drew];exact hrr
       have hsl8:(stN rs IV (tB all) j).length=8:=QdP rfl j;have HST:Hid (YJ rs (stN rs IV (tB all) j) (tB (all.extract p q))=stN rs IV (tB all) (j+1)):=by
        show _=_
        rw[stN,QkT,hp]
        congr 2
        omega
       obtain⟨st,hste⟩:∃st,st=stN rs IV (tB all) j:=⟨_,rfl⟩;rw[<-hste] at hst hsl8 HST;clear hste;obtain⟨s0,s1,s2,s3,s4,s5,s6,s7,rfl⟩:=Qbz hsl8;have c0:wr.cell? ⟨Sg,0,none⟩=some (.int .u32 s0):=Qd hst (i:=0) (by simp)
       have c1:wr.cell? ⟨Sg,1,none⟩=some (.int .u32 s1):=Qd hst (i:=1) (by simp)
       have c2:wr.cell? ⟨Sg,2,none⟩=some (.int .u32 s2):=Qd hst (i:=2) (by simp)
       have c3:wr.cell? ⟨Sg,3,none⟩=some (.int .u32 s3):=Qd hst (i:=3) (by simp)
       have c4:wr.cell? ⟨Sg,4,none⟩=some (.int .u32 s4):=Qd hst (i:=4) (by simp)
       have c5:wr.cell? ⟨Sg,5,none⟩=some (.int .u32 s5):=Qd hst (i:=5) (by simp)
       have c6:wr.cell? ⟨Sg,6,none⟩=some (.int .u32 s6):=Qd hst (i:=6) (by simp)
       have c7:wr.cell? ⟨Sg,7,none⟩=some (.int .u32 s7):=Qd hst (i:=7) (by simp)
       have hmix:=fun w' h=>QhU [s0,s1,s2,s3,s4,s5,s6,s7] rfl (all.extract p q) hex w' rs hrl h
       rw[HST.out] at hmix;have hFl:(stN rs IV (tB all) (j+1)).length=8:=QdP rfl _;generalize hFE:stN rs IV (tB all) (j+1)=F at *;have HFE:Hid (stN rs IV (tB all) (j+1)=F):=hFE;clear hFE;have hst34:∀w':World,w'.there Sg 0 8->(storeCells ⟨Sg,0,none⟩ (cW F)).run prog w'= .ok () (w'.setCells Sg 0 (cW F)):=fun w' h=>by
        have hl8:(cW F).length=8:=by rw[Ql,hFl]
        have:=run_storeCells_cells (P:=prog) Sg 0 (cW F) 0 w' (by rw[hl8];intro j hj;simpa using (h j hj).1) (by rw[hl8];intro j hj;simpa using (h j hj).2) (Ua F)
        simpa using this
       have hcl:(cW F).length=8:=by rw[Ql,hFl]
       have HK:Hid (∀w',Below wr.drew.heap.size wr.drew w'->w'.there Sg 0 8∧Below w.heap.size w w'):=fun w' h=>⟨QS h (JI htt (by decide)) (by rw[World.there_drew];exact htt),hb.trans (Oa h hb.size)⟩
       have HP:Hid (p=64*j∧p+64=q):=⟨hp,hq⟩;clear hp hq hst htt hb HST hN hsl8
       go_upto_region 14 with (fail)
       go_region_with (go_at_call 31;refine(hmix _ hrd).mono ?_;rintro e w4 ⟨rfl,hbw⟩;have hth4:=(HK.out _ hbw).1)
       have HW4:Hid (Below w.heap.size w w4):=(HK.out _ hbw).2;clear HK hbw;go_wp2
       go_roundg (nb-(j+1))
       case rel=>
        go_light;have:=HP.out;have:=HSG.out;refine⟨j+1,q,by omega,by omega,rfl,?_,?_,World.there_setCells hth4 _ _ _,Qo HW4.out HSG.out _ _⟩
        ·have:(p:Int)+64=(q:Int):=by omega
         first|rw[this]|rfl
        ·rw[HFE.out];exact World.rangeAt_setCells_same _ _ _ _ (by rw[hcl];exact hth4)
       case measure=>go_light;omega
      ·have hjn:j=nb:=by omega
       subst hjn;have hpa:¬((p:Int)<(all.size:Int)):=by omega
       have hHl:(stN rs IV (tB all) j).length=8:=QdP rfl j;have hW32:∀i,0<=(stN rs IV (tB all) j).getD i 0∧(stN rs IV (tB all) j).getD i 0<4294967296:=fun i=>Qnb rs _ j i
       have HSUM:Hid (QT (UJ (stN rs IV (tB all) j) 8)=JG rs (Qj ss)):=by
        show _=_
        have e:=HALL.out;have hml:(msg (Qj ss) z).length=all.size:=by rw[<-e,Yc]
        have hz:=HZ.out;rw[HTS.out] at hz;have:=Qmq rs (Qj ss) z hlen hz.2 hz.1;rw[hml,show all.size/64=j by omega] at this
        rw[e,this,JG,shaT]
       have HP:Hid (Sg<wr.heap.size):=JI htt (by decide)
       clear hp hj hN htt HNB HALL hjl;generalize stN rs IV (tB all) j=H at *;go_wp2
       go_loopg [9,10] 8 (fun g x i wi=> ∃(m:Nat) (out:BA),m<=8∧g=8-m∧x= .string out∧i= .int .i64 m∧Hid (tB out=outR H m)∧wi.rangeAt Sg 0 (cW H)∧Below w.heap.size w wi)
       case atStart=>go_light;exact⟨0,_,Lm _,rfl,rfl,rfl,rfl,hst,hb⟩
       case round=>
        clear hst hb HP;obtain⟨m,out,hm,rfl,rfl,rfl,HO,hst,hb⟩:=hrel;have hos:out.size=4*m:=by rw[<-Yc,HO.out,Qj9]
        by_cases hml:m<8
        ·have m0:(0:Int)<=(m:Int):=Lf _;have m8:(m:Int)<8:=by omega
         have cm:=Qd hst (i:=m) (by omega)
         have hx:=hW32 m;have hwx:IntKind.u64.wrap (H.getD m 0)=H.getD m 0:=Qfb hx.1 hx.2;have hbig:=fun w'=>big4 (H.getD m 0) hx.1 (by omega) w'
         have hsz3:(QT (tl (H.getD m 0) 4)).size=4:=by rw[<-Yc,J0 (O2 _ _),Jh]
         have hns:¬(9223372036854775807<out.size+4):=by omega
         have HF:Hid (tB (out++QT (tl (H.getD m 0) 4))=outR H (m+1)):=by
          show _=_
          rw[JZ,HO.out,J0 (O2 _ _),outR]
         have hlt':Sg<wr.heap.size:=QH hst (by intro h;have:=LZ List.length h;rw[Ql,hHl] at this;cases this)
         have HK:Hid (∀w',Below wr.heap.size wr w'->w'.rangeAt Sg 0 (cW H)∧Below w.heap.size w w'):=fun w' h=>⟨Qk h hlt' hst,hb.trans (h.mono hb.size)⟩
         clear hst hb hW32 hos hlt';generalize H.getD m 0=x at *
         go_wp2_with (go_at_call 30;refine(hbig _).mono ?_;rintro e w5 ⟨rfl,hbw⟩)
         go_roundg (8-(m+1))
         case rel=>go_light;exact⟨m+1,_,by omega,rfl,rfl,by go_num,HF.out,(HK.out _ hbw).1,(HK.out _ hbw).2⟩
         case measure=>go_light;omega
        ·obtain rfl:m=8:=by omega
         have HOUT:Hid (out=JG rs (Qj ss)):=by
          show _=_
          rw[<-HSUM.out,<-QmG,<-HO.out,Qne]
         have Hb:Hid (Below w.heap.size w wr):=hb;clear hst hb hos;go_wp2
         go_ret
         exact⟨by rw[<-HOUT.out];rfl,Hb.out⟩
structure Tr(w:World):Prop where
 rr:w.rangeAt 1 0 (cW RS)
 iv:w.rangeAt 0 0 (cW IV)
theorem Tr.next{w W:World}(h:Tr w)(hb:Below w.heap.size w W):Tr W :=
 ⟨Qk hb (QH h.rr (Qee (by rw[Jp];decide))) h.rr,Qk hb (QH h.iv (Qee (by decide))) h.iv⟩
theorem QmV(w:World)(ht:Tr w)(t:BA)(hs:t.size<1152921504606846976)(r:BA)(hr:JG RS (tB t)=r) :
  Calls prog 10 #[.slice (Zp w.heap.size) 1 1] (w.alloc (.cells #[.string t] 9)) fun e w'=>e= .returned (.string r)∧Below w.heap.size w w':=by
 subst hr;have e:Qj [t]=tB t:=by simp[Qj]
 refine(QcD _ (Zp w.heap.size) w.heap.size 0 1 1 [t] rfl (fun _=>rfl) (Qq w [.string t] 9) (by decide) RS Jp (World.rangeAt_alloc ht.rr _) (World.rangeAt_alloc ht.iv _) (by rw[e,Yc];exact hs)).mono fun e' w' ⟨he,hb'⟩=>⟨?_,?_⟩
 ·rw[he,e]
 ·exact((Lc _ _).alloc (Lb _) _).trans (hb'.mono (by simp))
theorem JX(w:World)(ht:Tr w)(k:Int)(t:BA)(hs:t.size<1152921504606846976)(r:BA)(hr:dg (clk k) t=r) :
  Calls prog 64 #[.int .i64 k,.string t] w fun e w'=>e= .returned (.string r)∧Below w.heap.size w w':=by
 subst hr;have HS:=QmV w ht t hs _ rfl;unfold dg;have hz:=UP RS (tB t);generalize JG RS (tB t)=z at *;clear ht hs;unfold clk
 go_enter func64,ntmps64
 by_cases h1:k<1
 ·rw[Lo h1]
  go_wp2_with (go_at_call 10;with_reducible refine HS.mono ?_;rintro e w1 ⟨rfl,hb1⟩)
  go_ret
  exact⟨rfl,hb1⟩
 ·by_cases h2:32<k
  ·rw[Le h1,Lo h2]
   go_wp2_with (go_at_call 10;with_reducible refine HS.mono ?_;rintro e w1 ⟨rfl,hb1⟩)
   go_ret
   exact⟨rfl,hb1⟩
  ·rw[Le h1,Le h2];obtain⟨c,rfl⟩:∃c:Nat,k=(c:Int):=⟨k.toNat,by omega⟩
   have h3:(0:Int)<=(c:Int):=by omega
   have h4:(c:Int)<=32:=by omega
   rw[Ni]
   go_wp2_with (go_at_call 10;with_reducible refine HS.mono ?_;rintro e w1 ⟨rfl,hb1⟩)
   go_ret
   exact⟨rfl,hb1⟩
theorem QdB(w:World)(k:Int):Calls prog 32 #[.int .i64 k] w fun e w'=>e= .returned (.int .i64 (chk k))∧w'=w:=by
 unfold chk
 go_enter func32,ntmps32
 by_cases h1:k<1
 ·rw[Lo (.inl h1)];go_wp2
  go_ret
  simp
 ·by_cases h2:32<k
  ·rw[Lo (.inr h2)];go_wp2
   go_ret
   simp
  ·rw[Le (by omega)]
   go_wp2
   go_ret
   simp
theorem Up(w:World)(f:Int)(a b:BA)(hs:a.size<2305843009213693952)(hs2:b.size<2305843009213693952)(r:BA)(hr:(QT [f]++a)++b=r) :
  Calls prog 110 #[.int .u8 f,.string a,.string b] w fun e w'=>e= .returned (.string r)∧Below w.heap.size w w':=by
 subst hr;have cv:=Js w f;have hz:=YW f;generalize QT [f]=z at *;have hns:¬(9223372036854775807<1+a.size):=by omega
 have hns2:¬(9223372036854775807<1+a.size+b.size):=by omega
 go_enter func110,ntmps110;go_wp2
 go_ret
 exact⟨rfl,bal (Lc _ _) _⟩
theorem Qlo(a:BA):a++(⟨#[]⟩:BA)=a:=by
 have:=ByteArray.append_empty (b:=a);exact this
theorem QdC(w:World)(s:BA)(hs:s.size<2305843009213693952) :
  Calls prog 179 #[.string s] w fun e w'=>e= .returned (.string (Qw s))∧Below w.heap.size w w':=by
 have HT:=Up w 0 s ⟨#[]⟩ hs (by decide) (Qw s) (by rw[Qlo];rfl)
 generalize Qw s=r at *
 go_enter func179,ntmps179
 go_wp2_with (go_at_call 110;with_reducible refine HT.mono ?_;rintro e w1 ⟨rfl,hb1⟩)
 go_ret
 exact⟨rfl,hb1⟩
theorem QdD(w:World)(a b:BA)(hs:a.size<2305843009213693952)(hs2:b.size<2305843009213693952) :
  Calls prog 180 #[.string a,.string b] w fun e w'=>e= .returned (.string (Qz a b))∧Below w.heap.size w w':=by
 have HT:=Up w 1 a b hs hs2 (Qz a b) rfl;generalize Qz a b=r at *
 go_enter func180,ntmps180
 go_wp2_with (go_at_call 110;with_reducible refine HT.mono ?_;rintro e w1 ⟨rfl,hb1⟩)
 go_ret
 exact⟨rfl,hb1⟩
theorem QeS(w:World)(a b:BA)(hs:a.size<2305843009213693952)(hs2:b.size<2305843009213693952)(r:BA)(hr:Jn a b=r) :
  Calls prog 111 #[.string a,.string b] w fun e w'=>e= .returned (.string r)∧Below w.heap.size w w':=by
 have HT:=Up w 2 a b hs hs2 r hr
 go_enter func111,ntmps111
 go_wp2_with (go_at_call 110;with_reducible refine HT.mono ?_;rintro e w1 ⟨rfl,hb1⟩)
 go_ret
 exact⟨rfl,hb1⟩
theorem QeT(w:World)(ht:Tr w)(k:Int)(s:BA)(hs:s.size<140737488355328)(r:BA)(hr:dg (clk k) (Qw s)=r) :
  Calls prog 112 #[.int .i64 k,.string s] w fun e w'=>e= .returned (.string r)∧Below w.heap.size w w':=by
 have HL:=QdC w s (by omega)
 have HO:Hid (∀W,Below w.heap.size w W->Calls prog 64 #[.int .i64 k,.string (Qw s)] W fun e w'=>e= .returned (.string r)∧Below W.heap.size W w'):=fun W hb=>JX W (ht.next hb) k _ (by rw[YN];omega) r hr
 clear hr ht hs;generalize Qw s=t at *
 go_enter func112,ntmps112
 go_wp2_with (first
  | (go_at_call 179;with_reducible refine HL.mono ?_;rintro e w1 ⟨rfl,hb1⟩)
  | (go_at_call 64;with_reducible refine(HO.out _ hb1).mono ?_;rintro e w2 ⟨rfl,hb2⟩))
 go_ret
 exact⟨rfl,Qa hb1 hb2⟩
theorem QeU(w:World)(ht:Tr w)(k:Int)(a b:BA)(hs:a.size<140737488355328)(hs2:b.size<140737488355328)(r:BA)(hr:dg (clk k) (Qz a b)=r) :
  Calls prog 113 #[.int .i64 k,.string a,.string b] w fun e w'=>e= .returned (.string r)∧Below w.heap.size w w':=by
 have HL:=QdD w a b (by omega) (by omega)
 have HO:Hid (∀W,Below w.heap.size w W->Calls prog 64 #[.int .i64 k,.string (Qz a b)] W fun e w'=>e= .returned (.string r)∧Below W.heap.size W w'):=fun W hb=>JX W (ht.next hb) k _ (by rw[YO];omega) r hr
 clear hr ht hs hs2;generalize Qz a b=t at *
 go_enter func113,ntmps113
 go_wp2_with (first
  | (go_at_call 180;with_reducible refine HL.mono ?_;rintro e w1 ⟨rfl,hb1⟩)
  | (go_at_call 64;with_reducible refine(HO.out _ hb1).mono ?_;rintro e w2 ⟨rfl,hb2⟩))
 go_ret
 exact⟨rfl,Qa hb1 hb2⟩
theorem QcM(x:Int)(l:List Int):QT [x]++QT l=QT (x::l):=by
 apply II
 rw[ByteArray.data_append]
 apply Array.toList_inj.1
 rw[Array.toList_append,UQ,UQ,UQ]
 rfl
def tlL(n k:Nat):List Int:=(nbL n 8).drop (8-k)
theorem QkW(n k:Nat)(h:k<8):((n/256^k%256:Nat):Int)::tlL n k=tlL n (k+1):=by
 unfold tlL;have hl:8-(k+1)<(nbL n 8).length:=by rw[Qdh];omega
 rw[LV hl,show 8-(k+1)+1=8-k by omega]
 congr 1
 have:(nbL n 8)[8-(k+1)]=((n/256^(7-(8-(k+1)))%256:Nat):Int):=by simp[nbL]
 rw[this,show 7-(8-(k+1))=k by omega]
theorem Qnx(x:Int)(h0:0<=x)(h1:x<18446744073709551616):IntKind.u64.wrap x=x:=by
 simp[IntKind.wrap,IntKind.signed,IntKind.bits];omega
theorem QdE(w:World)(n:Nat)(hn:n<18446744073709551616)(d:BA)(hs:d.size<2305843009213693952)(r:BA)(hr:QO n d=r) :
  Calls prog 65 #[.int .u64 n,.string d] w fun e w'=>e= .returned (.string r)∧Below w.heap.size w w':=by
 have hB:=Lc w.heap.size w
 go_enter func65,ntmps65;go_wp2
 go_loopg [0,5,6] 8 (fun g a s i wr=> ∃(k N:Nat) (z:BA),k<=8∧g=8-k∧a= .int .u64 N∧s= .string z∧i= .int .i64 k∧Hid (N=n/256^k∧z=QT (tlL n k))∧z.size=k∧Below w.heap.size w wr)
 case atStart=>go_light;exact⟨0,n,⟨#[]⟩,Lm _,rfl,rfl,rfl,rfl,⟨by simp,rfl⟩,rfl,hB⟩
 case round=>
  clear hB;obtain⟨k,N,z,hk,rfl,rfl,rfl,rfl,HE,hz,hb⟩:=hrel
  by_cases hlt:k<8
  ·have h1:(k:Int)<8:=by omega
   obtain⟨y,hy⟩:∃y,QT [(N:Int)%256]=y:=⟨_,rfl⟩;have cv:=fun W=>Js W ((N:Int)%256)
   have zy:=YW ((N:Int)%256);rw[hy] at zy;simp only[hy] at cv;have HN:Hid ((N:Int)/256=((n/256^(k+1):Nat):Int)∧y++z=QT (tlL n (k+1))):=by
    have h:=HE.out;refine⟨?_,?_⟩
    ·rw[h.1,LO,<-LY];omega
    ·rw[<-hy,h.2,QcM,<-QkW n k hlt,h.1];congr 2
   have hns:¬(9223372036854775807<1+k):=by omega
   have ew:IntKind.u64.wrap ((N:Int)/256)=(N:Int)/256:=by
    have h:=HE.out.1;have:N<=n:=by rw[h];exact NI _ _
    exact Qnx _ (by omega) (by omega)
   have hsz:(y++z).size=k+1:=by rw[Np,zy,hz];omega
   have HZ:=Qc hsz;clear hy HE hsz;go_wp2
   go_roundg (8-(k+1))
   case rel=>go_light;exact⟨k+1,n/256^(k+1),y++z,by omega,rfl,by rw[<-HN.out.1],rfl,by go_num,⟨rfl,HN.out.2⟩,HZ.out,bal hb _⟩
   case measure=>go_light;omega
  ·obtain rfl:k=8:=by omega
   have hzz:¬((8:Int)<8):=by decide
   have HT:=fun W=>Up W 3 z d (by omega) hs r (by
    rw[<-hr,HE.out.2,QO,QcM];rfl)
   rw[show((8:Nat):Int)=8 from rfl]
   clear HE hlt hk
   go_wp2_with (go_at_call 110;with_reducible refine(HT _).mono ?_;rintro e w1 ⟨rfl,hb1⟩)
   go_ret
   exact⟨rfl,Qa hb hb1⟩
theorem Qb5(w:World)(ht:Tr w)(k:Int)(ao:OA)(b off len cap:Nat)(ss:LB)(hr:RdS w ao b off len ss)(hsz:∀s∈ss,s.size<=140737488351232)(hmx:len<=8796093022208)(r:BA)(hq:Qx (clk k) ss=r) :
  Calls prog 66 #[.int .i64 k,.slice ao len cap] w fun e w'=>e= .returned (.string r)∧Below w.heap.size w w':=by
 by_cases h0:len=0
 ·subst h0;have:ss=[]:=List.length_eq_zero_iff.1 hr.hl;subst this;subst hq
  go_enter func66,ntmps66;go_wp2
  go_ret
  exact⟨rfl,Lc _ _⟩
 ·have hlen:0<len:=by omega
  obtain rfl:=hr.ptr hlen;obtain⟨m,rfl⟩:∃m,len=m+1:=⟨len-1,by omega⟩
  have hc:=Qn k;have hne:¬((m:Int)+1=0):=by omega
  have cm:=hr.at (k:=m) (by omega)
  have HL:Hid (Qx (clk k) (ss.drop m)=ss.getD m ByteArray.empty):=by
   have:=Qcc (clk k) ss (by rw[hr.hl];omega)
   rw[hr.hl] at this;exact this
  have HSZ:Hid (∀d,d=Qx (clk k) ss->True):=fun _ _=>trivial
  have HM:Hid (∀j,j<m+1->(ss.getD j ByteArray.empty).size<=140737488351232):=fun j hj=>hsz _ (QI (by rw[hr.hl];exact hj))
  have HD:Hid (∀j,(Qx (clk k) (ss.drop j)).size<=140737488351232):=fun j=>QW hc (by decide) _ (fun s hs=>hsz s (Nm hs))
  have HN:Hid (∀j,j<m->Qx (clk k) (ss.drop j)=dg (clk k) (Jn (ss.getD j ByteArray.empty) (Qx (clk k) (ss.drop (j+1))))):=fun j hj=>Qcb _ _ _ (by rw[hr.hl];omega)
  have HT:Hid (Tr w):=ht;have HR:Hid (RdS w (some ⟨b,off,none⟩) b off (m+1) ss):=hr;have HQ:Hid (Qx (clk k) (ss.drop 0)=r):=hq;obtain⟨d0,hd0⟩:∃d0,ss.getD m ByteArray.empty=d0:=⟨_,rfl⟩;rw[hd0] at cm;have HL2:Hid (Qx (clk k) (ss.drop m)=d0):=by rw[<-hd0];exact HL
  clear hd0 HL ht hr hq hsz HSZ h0 hlen
  go_enter func66,ntmps66;go_wp2
  go_loopg [5,6] m (fun g x i wr=> ∃(j:Nat) (d:BA),j=g∧x= .string d∧i= .int .i64 ((j:Int)-1)∧j<=m∧Hid (Qx (clk k) (ss.drop j)=d)∧Below w.heap.size w wr)
  case atStart=>go_light;exact⟨m,d0,rfl,rfl,by go_num,Lb _,HL2,Lc _ _⟩
  case round=>
   obtain⟨j,d,hg,rfl,rfl,hj,HE,hb⟩:=hrel;subst hg
   cases j with
   | zero=>
    have hz:¬((0:Int) <= -1):=by decide
    rw[show((0:Nat):Int)-1 = -1 from rfl]
    have HF:Hid (d=r):=HE.out.symm.trans HQ.out;clear HE HN HQ HM HD HR HT cm;obtain rfl:=HF.out;go_wp2
    go_ret
    exact⟨rfl,hb⟩
   | succ j=>
    have e1:((j+1:Nat):Int)-1=(j:Int):=by omega
    have hz:(0:Int)<=(j:Int):=by omega
    have hz2:(j:Int)<(m:Int)+1:=by omega
    have hjm:j<m:=by omega
    have cj:=(HR.out.next hb (Lb _)).at (k:=j) (by omega)
    have z1:=HM.out j (by omega)
    have z2:=HD.out (j+1);have hn:=HN.out j hjm;rw[HE.out] at z2 hn;generalize ss.getD j ByteArray.empty=p at *;have HG:=fun W=>QeS W p d (by omega) (by omega) _ rfl
    obtain⟨t,ht⟩:∃t,Jn p d=t:=⟨_,rfl⟩;have zt:=JK p d;rw[ht] at zt;simp only[ht] at HG hn;obtain⟨d',hd'⟩:∃d',dg (clk k) t=d':=⟨_,rfl⟩;have HO:Hid (∀W,Below w.heap.size w W->Calls prog 64 #[.int .i64 k,.string t] W fun e w'=>e= .returned (.string d')∧Below W.heap.size W w'):=fun W hb=>JX W (HT.out.next hb) k t (by omega) d' hd'
    have HE2:Hid (Qx (clk k) (ss.drop j)=d'):=hn.trans hd';rw[e1];clear HE hn hd' ht zt z1 z2 e1 cm HL2
    go_wp2_with (first
     | (go_at_call 111;with_reducible refine(HG _).mono ?_;rintro e w1 ⟨rfl,hb1⟩;replace hb:=Qa hb hb1;clear hb1)
     | (go_at_call 64;with_reducible refine(HO.out _ hb).mono ?_;rintro e w2 ⟨rfl,hb2⟩;replace hb:=Qa hb hb2;clear hb2))
    go_roundg j
    case rel=>go_light;exact⟨j,d',rfl,rfl,by go_num,by omega,HE2.out,hb⟩
    case measure=>go_light;omega
theorem QeV(w:World)(ht:Tr w)(k:Int)(n:Nat)(hn:n<18446744073709551616)(ao:OA)(b off len cap:Nat)(ss:LB)(hr:RdS w ao b off len ss)(hsz:∀s∈ss,s.size<=140737488351232)(hmx:len<=8796093022208)(r:BA)(hq:dg (clk k) (QO n (Qx (clk k) ss))=r) :
  Calls prog 33 #[.int .i64 k,.int .u64 n,.slice ao len cap] w fun e w'=>e= .returned (.string r)∧Below w.heap.size w w':=by
 have hz:(Qx (clk k) ss).size<=140737488351232:=QW (Qn k) (by decide) _ hsz
 obtain⟨d,hd⟩:∃d,Qx (clk k) ss=d:=⟨_,rfl⟩;have HBg:=Qb5 w ht k ao b off len cap ss hr hsz hmx d hd;rw[hd] at hq hz;obtain⟨t,hrt⟩:∃t,QO n d=t:=⟨_,rfl⟩;have HRt:=fun W=>QdE W n hn d (by omega) t hrt
 have zt:=Jc n d;rw[hrt] at hq zt;have HO:Hid (∀W,Below w.heap.size w W->Calls prog 64 #[.int .i64 k,.string t] W fun e w'=>e= .returned (.string r)∧Below W.heap.size W w'):=fun W hb=>JX W (ht.next hb) k t (by omega) r hq
 have hb:=Lc w.heap.size w;clear hq ht hd hrt zt hz hr hsz hmx
 go_enter func33,ntmps33
 go_wp2_with (first
  | (go_at_call 66;with_reducible refine HBg.mono ?_;rintro e w1 ⟨rfl,hb1⟩;replace hb:=Qa hb hb1;clear hb1)
  | (go_at_call 65;with_reducible refine(HRt _).mono ?_;rintro e w1 ⟨rfl,hb1⟩;replace hb:=Qa hb hb1;clear hb1)
  | (go_at_call 64;with_reducible refine(HO.out _ hb).mono ?_;rintro e w2 ⟨rfl,hb2⟩;replace hb:=Qa hb hb2;clear hb2))
 go_ret
 exact⟨rfl,hb⟩
end Go.Proofs.YtoblgjledefdbabGreatDoor
