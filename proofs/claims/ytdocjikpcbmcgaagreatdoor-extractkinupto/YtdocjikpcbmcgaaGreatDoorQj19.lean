/- Own work. -/
import Derived.Test.YtdocjikpcbmcgaaGreatDoorQj18
set_option maxRecDepth 100000
set_option maxHeartbeats 2000000
namespace Go.Proofs.YtdocjikpcbmcgaaGreatDoor
open Go.RowKit
attribute [local go_sem ↓] Go.wp_at_zero Go.wp_at_succ
theorem Ol(a b:BA):tB (a++b)=tB a++tB b:=by simp[tB]
theorem Qnr:(Tryz.prog.info? 5).map (fun i=>(i.zero,i.size,i.bytes))=some (some (.int .u8 0),1,1):=by kernel_rfl
theorem Qie(w:World)(b:Nat)(l:List Int)(n cap:Nat)(hl:l.length=n)(h:w.rangeAt b 0 (cB l)):(convert 95 9 (.slice (some ⟨b,0,none⟩) n cap)).run Tryz.prog w = .ok (.string (Q7 l)) w:=by
 subst hl;rw[run_convert_bytes_string w 95 9 5 _ _ _ Tryz.underlying95 Tryz.underlying5 Tryz.underlying9];refine run_bytesToString w ⟨b,0,none⟩ l.length cap l ?_
 have:=run_loadCells_list (P:=Tryz.prog) w ⟨b,0,none⟩ (cB l) (fun j v hv=>by rw[Addr.add_mid];exact h j v hv)
 rwa [Qw] at this
theorem QbZ{w:World}{base g n cap:Nat}{l:List Int}(h:w.ownsRow base 5 1 (.slice (some ⟨g,0,none⟩) n cap) n (cB l)):w.rangeAt g 0 (cB l)∧base<=g:=by
 obtain⟨h1,h2⟩:=h
 rcases h2 with ⟨h2,_⟩|⟨g',cap',cur,hv,hg,hh,hn,hc,hs,ht⟩
 ·cases h2
 ·injection hv with e1 e2 e3
  injection e1 with e1
  injection e1 with e1
  subst e1;refine⟨fun j v hj => ?_,hg⟩
  rw[Ll,cell_of_row w g j cur 5 (0,0) hh];rw[<-ht,Nf] at hj
  split at hj
  ·simpa using hj
  ·cases hj
theorem Qhr{w:World}{base n:Nat}{v:Value}{xs:List Value}(h:w.ownsRow base 5 1 v n xs)(hn:0<n) : ∃g cap,v = .slice (some ⟨g,0,none⟩) n cap∧base<=g:=by
 obtain⟨h1,h2⟩:=h
 rcases h2 with ⟨_,h2⟩|⟨g,cap,cur,hv,hg,_⟩
 ·omega
 ·exact⟨g,cap,hv,hg⟩
theorem Qcu(z:Nat):Bytes (128::List.replicate z 0):=by
 intro x hx
 rcases LH.1 hx with rfl|hx
 ·omega
 ·rw[List.eq_of_mem_replicate hx];omega
theorem Oo{w w2:World}{B:Nat}(h:Below w.drew.heap.size w.drew w2)(hB:B<=w.heap.size):Below B w w2 :=
 ⟨h.os,h.tape,h.output,h.size,fun k hk=>h.block k (LS hk hB)⟩
theorem QjI(r:BA)(p q:Nat):tB (r.extract p q)=((tB r).drop p).take (q - p):=by
 have:(r.extract p q).data.toList=(r.data.toList.drop p).take (q - p):=by
  rw[Nw];simp[Array.toList_extract,List.extract]
 rw[tB,this,tB,I4,I3]
theorem Qi9(H:List Int)(m:Nat):(outR H m).length=4*m:=by
 induction m with
 | zero=>rfl
 | succ m ih=>rw[outR,Ld,ih,Jv];omega
theorem QjY(x:Int):0<=IntKind.u32.wrap x∧IntKind.u32.wrap x<4294967296:=by rw[IntKind.wrap_u32'];omega
theorem QjV{l:List Int}(h : ∀x∈l,0<=x∧x<4294967296)(i:Nat):0<=l.getD i 0∧l.getD i 0<4294967296:=by
 rw[La]
 cases e:l[i]? with
 | none=>exact⟨by decide,by decide⟩
 | some x=>exact h x (Ik e)
theorem Qlj(rs t:List Int)(k i:Nat):0<=(stN rs IV t k).getD i 0∧(stN rs IV t k).getD i 0<4294967296:=by
 refine QjV (fun x hx => ?_) i
 cases k with
 | zero=>simp[stN,IV] at hx;omega
 | succ k =>
  rw[stN,YO,sumI] at hx;simp only[List.mem_cons,List.not_mem_nil,or_false] at hx
  rcases hx with rfl|rfl|rfl|rfl|rfl|rfl|rfl|rfl <;> exact QjY _
theorem Qe3{x:Int}(h0:0<=x)(h1:x<4294967296):IntKind.u64.wrap x=x:=by
 simp[IntKind.wrap,IntKind.bits,IntKind.signed];omega
theorem QmO{w:World}{g:Nat}{o:Obj}(h:w.heap[g]? = some o):g<w.heap.size:=by
 rcases IR g w.heap.size with h'|h'
 ·exact h'
 ·rw[Array.getElem?_eq_none h'] at h;cases h
theorem endz(L:Nat) : ∃z,z<64∧(L+(z+1)+8) % 64=0:=⟨(64 - (L+9) % 64) % 64,by omega,by omega⟩
theorem QhD(w:World)(ao:OA)(b off len cap:Nat)(ss:LB)(hl:ss.length=len)(hao:0<len->ao=some ⟨b,off,none⟩)(hs:w.rangeAt b off (ss.map Value.string))
  (hmx:len<=1048576) (rs:List Int) (hrl:rs.length=64) (hr:w.rangeAt 1 0 (cW rs)) (hiv:w.rangeAt 0 0 (cW IV)) (hlen:(Yi ss).length<1152921504606846976) :
  Zr 31 #[.slice ao len cap] w (.string (Jt rs (Yi ss))):=by
 have h2w:1<w.heap.size:=QM hr (by intro h;have:=congrArg List.length h;simp[Qp,hrl] at this)
 have h0w:Hid (0<w.heap.size):=QM hiv (by intro h;cases h)
 go_enter Tryz.func31,Tryz.ntmps31;go_wp2
 go_loopg [3,4] len (fun g x i wx=>w=wx ∧ ∃(k:Nat) (text:BA),k<=len∧g=len - k∧x = .string text∧i = .int .i64 k∧Hid (tB text=Yi (ss.take k)))
 case atStart =>
  go_light;exact⟨rfl,0,_,Lf _,rfl,rfl,rfl,rfl⟩
 case round =>
  obtain⟨rfl,k,text,hk,rfl,rfl,rfl,HT⟩:=hrel
  by_cases hlt:k<len
  ·obtain rfl:=hao (by omega)
   have hk':k<ss.length:=by omega
   have ck:w.cell? ⟨b,off+k,none⟩=some (.string (ss.getD k ByteArray.empty)) :=
    hs k _ (by simp[List.getElem?_eq_getElem hk',List.getD_eq_getElem?_getD])
   have hz:(k:Int)<(len:Int):=by omega
   have hfs:=Qcv ss k hk';have hsz:(Yi (ss.take (k+1))).length<=(Yi ss).length:=OW _ _;have hts:text.size=(Yi (ss.take k)).length:=by rw[<-Yz,HT.out]
   have hns : ¬(9223372036854775807<text.size+(ss.getD k ByteArray.empty).size):=by
    rw[hfs,Ld,Yz] at hsz;omega
   have HF:Hid (tB (text++ss.getD k ByteArray.empty)=Yi (ss.take (k+1))):=by
    show _=_
    rw[Ol,HT.out,hfs]
   clear hfs hsz hts;generalize ss.getD k ByteArray.empty=part at *;go_wp2
   go_roundg (len - (k+1))
   case rel =>
    go_light;exact⟨rfl,k+1,_,by omega,rfl,rfl,by go_num,HF.out⟩
   case measure=>go_light;omega
  ·obtain rfl:k=len:=by omega
   have hz : ¬(k:Int)<(k:Int):=by omega
   have hT:=HT.out;rw[Lx (by omega)] at hT
   have hts:text.size=(Yi ss).length:=by rw[<-Yz,hT]
   have HTT:Hid (tB text=Yi ss):=hT;clear hT HT hs hao hl;obtain⟨zN,hz1,hz2⟩:=endz text.size;obtain⟨i0,hi,hz0,hzz1,hzz2⟩:=info_parts Qnr;have hO0:(w.alloc (.cells #[.int .u8 128] 5)).ownsRow w.heap.size 5 1 (.slice (some ⟨w.heap.size,0,none⟩) 1 1) 1 (cB (128::List.replicate 0 0)) :=
    ⟨rfl,Or.inr ⟨w.heap.size,1,#[.int .u8 128],rfl,Lb _,heap_alloc_new _ _,Lb _,by unfold maxLen;omega,rfl,rfl⟩⟩
   have hb0:Zb w (w.alloc (.cells #[.int .u8 128] 5)):=(Below.refl _ _).alloc (Lb _) _;have HZ:Hid (zN<64∧(text.size+(zN+1)+8) % 64=0):=⟨hz1,hz2⟩;have ht63:(text.size:Int)<1152921504606846976:=by omega
   have ht0:(0:Int)<=(text.size:Int):=Le _;have HTS:Hid (text.size=(Yi ss).length):=hts;clear hz1 hz2 hts
   go_upto_region 7 with (fail)
   generalize w.alloc (.cells #[.int .u8 128] 5)=w1 at *
   go_loopg [5] zN (fun g v wi => ∃(z n g' cap':Nat),n=z+1∧z<=zN∧g=zN - z∧v = .slice (some ⟨g',0,none⟩) n cap'∧wi.ownsRow w.heap.size 5 1 v n (cB (128::List.replicate z 0))∧Zb w wi)
   case atStart =>
    go_light;exact⟨0,1,_,_,rfl,Lf _,rfl,rfl,hO0,hb0⟩
   case round =>
    clear hO0 hb0;obtain⟨z,n,g',cap',hnz,hzl,rfl,rfl,hO,hb⟩:=hrel;obtain⟨s1,hs1⟩ : ∃s1:Nat,text.size+n=s1:=⟨_,rfl⟩;obtain⟨s2,hs2⟩ : ∃s2:Nat,s1+8=s2:=⟨_,rfl⟩;have hZ:=HZ.out;have e1:IntKind.i64.wrap ((text.size:Int)+(n:Int))=(s1:Int):=by rw[Yb _ (by omega) (by omega)];omega
    have e2:IntKind.i64.wrap ((s1:Int)+8)=(s2:Int):=by rw[Yb _ (by omega) (by omega)];omega
    have b2:(0:Int)<=(s2:Int):=Le _;have HN:Hid (n=z+1∧z<=zN∧text.size+n=s1∧s1+8=s2):=⟨hnz,hzl,hs1,hs2⟩;have hn64:n<=64:=by omega
    by_cases hne:z<zN
    ·have hm:((s2:Int) % 64 == 0)=false:=by rw[beq_eq_false_iff_ne];omega
     have HLT:Hid (z<zN):=hne;have HG:Hid (w.heap.size<=g'):=(QbZ hO).2;clear hZ hnz hzl hs1 hs2 ht63 ht0 hne;have hbs:w.heap.size<=wr.heap.size:=hb.size;have HO:Hid (∀o,(wr.alloc o).ownsRow w.heap.size 5 1 (.slice (some ⟨g',0,none⟩) n cap') n (cB (128::List.replicate z 0))):=fun o=>by
      obtain⟨h1,h2⟩:=hO;refine⟨h1,?_⟩
      rcases h2 with ⟨h2,_⟩|⟨g,cp,cur,hv,hg,hh,r⟩
      ·cases h2
      ·exact Or.inr ⟨g,cp,cur,hv,hg,by rw[Below.heap_alloc _ _ _ (QmO hh)];exact hh,r⟩
     have Hb:Hid (∀o,Zb w (wr.alloc o)):=fun o=>hb.alloc hb.size o
     have hby:Hid ((n+1)*1<=140737488355328):=by show _<=_;omega
     have hmx2:Hid (n+1<=maxLen):=by show _<=_;unfold maxLen;omega
     clear hO hb
     go_upto_region 8 with (fail)
     go_wp2_with (at_builtin;(refine wpList_append_own _ rfl _ _ 95 rfl w.heap.size 5 i0 (.int .u8 0) 1 1 Tryz.underlying95 hi hz0 hzz1 hzz2 rfl (by decide) _ _ _ rfl (HO.out _) ⟨wr.heap.size,0,none⟩ 1 1 [.int .u8 0] rfl rfl (cell_one_new _ _ _) (fun x hx=>by simp at hx;subst hx;rfl) hmx2.out hby.out (by simp;omega) ?_);intro v' w2 hown' hg' hne')
     obtain⟨g2,cap2,hv2,hgb⟩:=Qhr hown' (Nat.succ_pos _);rw[hv2] at hown' ⊢;have HR:Hid (w2.ownsRow w.heap.size 5 1 (.slice (some ⟨g2,0,none⟩) (n+1) cap2) (n+1) (cB (128::List.replicate (z+1) 0))):=by
      have e:cB (128::List.replicate z 0)++[Value.int IntKind.u8 0]=cB (128::List.replicate (z+1) 0):=by
       rw[List.replicate_succ'];simp[cB]
      rw[<-e];exact hown'
     have HB2:Hid (Zb w w2):=(Hb.out _).grown hg' (by simp;omega) (fun j hj=>by cases hj;exact HG.out)
     clear hown' hg' hne' hv2
     go_roundg (zN - (z+1))
     case rel =>
      go_light;have:=HN.out;have:=HZ.out;exact⟨z+1,n+1,g2,cap2,by omega,by have:=HLT.out;omega,rfl,rfl,HR.out,HB2.out⟩
     case measure=>go_light;have:=HLT.out;omega
    ·have hzz:z=zN:=by omega
     subst hzz;have hm:((s2:Int) % 64 == 0)=true:=by rw[beq_iff_eq];omega
     obtain⟨hrg,hgb⟩:=QbZ hO;have hglt:g'<wr.heap.size:=QM hrg (by simp[cB])
     have HGB:Hid (w.heap.size<=g'):=hgb;have HBL:Hid (Zb w wr):=hb;have hsz1:(Q7 (128::List.replicate z 0)).size=n:=by rw[<-Yz,Om (Qcu z)];simp;omega
     have hcv:=fun w' h=>Qie w' g' (128::List.replicate z 0) n cap' (by simp;omega) h
     have hns : ¬(9223372036854775807<text.size+n):=by omega
     have HKP:Hid (∀w',Below wr.drew.heap.size wr.drew w'->w'.rangeAt g' 0 (cB (128::List.replicate z 0))):=fun w' h=>Ql h hglt (by rw[World.rangeAt_drew];exact hrg)
     have hL8:IntKind.u64.wrap (8*IntKind.u64.wrap (text.size:Int))=8*(text.size:Int):=by
      simp[IntKind.wrap,IntKind.bits,IntKind.signed];omega
     have hbig:=fun w'=>big8 (8*(text.size:Int)) (by omega) (by omega) w'
     have hsz3:(Q7 (tl (8*(text.size:Int)) 8)).size=8:=by rw[<-Yz,Om (Qam _ _),Jv]
     have hns2 : ¬(9223372036854775807<text.size+n+8):=by omega
     clear hO hb hgb hZ hnz hzl hs1 hs2 ht63 ht0 hne
     go_upto_region 9 with (fail)
     go_region_held3 (fun w'=>w'.rangeAt g' 0 (cB (128::List.replicate z 0))) (first|assumption|(rw[World.rangeAt_drew];assumption)|(exact HKP.out _ (by assumption))) (first|(go_at_call 65;refine(hbig _).mono ?_;rintro e w2 ⟨rfl,hbw⟩))
     have HBA:Hid (Zb w w2):=HBL.out.trans (Oo hbw HBL.out.size);generalize hall:(text++Q7 (128::List.replicate z 0))++Q7 (tl (8*(text.size:Int)) 8)=all at *;have HALL:Hid (tB all=msg (Yi ss) z):=by
      show _=_
      have e:=HTT.out;rw[<-hall,Ol,Ol,Om (Qcu z),Om (Qam _ _),msg,e,HTS.out]
     clear hall hbw hbig hcv HKP hL8 hns hns2 hsz1 hsz3;have v0:w2.cell? ⟨0,0,none⟩=some (.int .u32 1779033703):=by rw[HBA.out.cell (p:=⟨0,0,none⟩) h0w.out];exact Qe hiv (i:=0) (by decide)
     have v1:w2.cell? ⟨0,1,none⟩=some (.int .u32 3144134277):=by rw[HBA.out.cell (p:=⟨0,1,none⟩) h0w.out];exact Qe hiv (i:=1) (by decide)
     have v2:w2.cell? ⟨0,2,none⟩=some (.int .u32 1013904242):=by rw[HBA.out.cell (p:=⟨0,2,none⟩) h0w.out];exact Qe hiv (i:=2) (by decide)
     have v3:w2.cell? ⟨0,3,none⟩=some (.int .u32 2773480762):=by rw[HBA.out.cell (p:=⟨0,3,none⟩) h0w.out];exact Qe hiv (i:=3) (by decide)
     have v4:w2.cell? ⟨0,4,none⟩=some (.int .u32 1359893119):=by rw[HBA.out.cell (p:=⟨0,4,none⟩) h0w.out];exact Qe hiv (i:=4) (by decide)
     have v5:w2.cell? ⟨0,5,none⟩=some (.int .u32 2600822924):=by rw[HBA.out.cell (p:=⟨0,5,none⟩) h0w.out];exact Qe hiv (i:=5) (by decide)
     have v6:w2.cell? ⟨0,6,none⟩=some (.int .u32 528734635):=by rw[HBA.out.cell (p:=⟨0,6,none⟩) h0w.out];exact Qe hiv (i:=6) (by decide)
     have v7:w2.cell? ⟨0,7,none⟩=some (.int .u32 1541459225):=by rw[HBA.out.cell (p:=⟨0,7,none⟩) h0w.out];exact Qe hiv (i:=7) (by decide)
     have HS0:Hid ((w2.alloc (.cells #[.int .u32 1779033703,.int .u32 3144134277,.int .u32 1013904242,.int .u32 2773480762,.int .u32 1359893119,.int .u32 2600822924,.int .u32 528734635,.int .u32 1541459225] 113)).rangeAt w2.heap.size 0 (cW (stN rs IV (tB all) 0))∧(w2.alloc (.cells #[.int .u32 1779033703,.int .u32 3144134277,.int .u32 1013904242,.int .u32 2773480762,.int .u32 1359893119,.int .u32 2600822924,.int .u32 528734635,.int .u32 1541459225] 113)).there w2.heap.size 0 8∧Zb w (w2.alloc (.cells #[.int .u32 1779033703,.int .u32 3144134277,.int .u32 1013904242,.int .u32 2773480762,.int .u32 1359893119,.int .u32 2600822924,.int .u32 528734635,.int .u32 1541459225] 113))) :=
      ⟨Qv w2 (cW IV) 113,Qy w2 #[.int .u32 1779033703,.int .u32 3144134277,.int .u32 1013904242,.int .u32 2773480762,.int .u32 1359893119,.int .u32 2600822924,.int .u32 528734635,.int .u32 1541459225] 113 8 (by simp),HBA.out.alloc HBA.out.size _⟩
     have HSG:Hid (w.heap.size<=w2.heap.size):=HBA.out.size
     go_upto_region 11 with (fail)
     clear v0 v1 v2 v3 v4 v5 v6 v7;generalize w2.alloc (.cells #[.int .u32 1779033703,.int .u32 3144134277,.int .u32 1013904242,.int .u32 2773480762,.int .u32 1359893119,.int .u32 2600822924,.int .u32 528734635,.int .u32 1541459225] 113)=w3 at *;generalize w2.heap.size=Sg at *;obtain⟨nb,hnb⟩ : ∃nb,all.size=64*nb:=by
      have e:=congrArg List.length HALL.out;rw[Yz] at e;have hml:(msg (Yi ss) z).length=(Yi ss).length+(z+1)+8:=by simp[msg,Jv];omega
      have:=HZ.out.2;have:=HTS.out;exact⟨all.size / 64,by omega⟩
     have hasz:all.size<2305843009213693952:=by
      have e:=congrArg List.length HALL.out;rw[Yz] at e;have hml:(msg (Yi ss) z).length=(Yi ss).length+(z+1)+8:=by simp[msg,Jv];omega
      have:=HZ.out.1;omega
     have HNB:Hid (all.size=64*nb∧all.size<2305843009213693952):=⟨hnb,hasz⟩;have HX:Hid (w.heap.size<=g'∧g'<wr.heap.size):=⟨HGB.out,hglt⟩;clear hnb hasz hglt hrg HBL HBA HGB e1 e2 b2 hn64 hm HN;go_wp2
     go_loopg [8] nb (fun g i wi => ∃(j p:Nat),p=64*j∧j<=nb∧g=nb - j∧i = .int .i64 (p:Int)∧wi.rangeAt Sg 0 (cW (stN rs IV (tB all) j))∧wi.there Sg 0 8∧Zb w wi)
     case atStart =>
      go_light;exact⟨0,0,rfl,Lf _,rfl,rfl,HS0.out.1,HS0.out.2.1,HS0.out.2.2⟩
     case round =>
      clear HS0 HX;obtain⟨j,p,hp,hj,rfl,rfl,hst,htt,hb⟩:=hrel;have hN:=HNB.out
      by_cases hjl:j<nb
      ·obtain⟨q,hq⟩ : ∃q:Nat,p+64=q:=⟨_,rfl⟩;have eq1:IntKind.i64.wrap ((p:Int)+64)=(q:Int):=by rw[Yb _ (by omega) (by omega)];omega
       have b0:(0:Int)<=(p:Int):=Le _;have b1:(p:Int)<=(q:Int):=by omega
       have b2:(q:Int)<=(all.size:Int):=by omega
       have b3:(p:Int)<(all.size:Int):=by omega
       have hex:(all.extract p q).size=64:=by rw[It];omega
       have hrr:wr.rangeAt 1 0 (cW rs):=Ql hb h2w hr;have hrd:wr.drew.rangeAt 1 0 (cW rs):=by rw[World.rangeAt_drew];exact hrr
       have hsl8:(stN rs IV (tB all) j).length=8:=QdN rfl j;have HST:Hid (YO rs (stN rs IV (tB all) j) (tB (all.extract p q))=stN rs IV (tB all) (j+1)):=by
        show _=_
        rw[stN,QjI,hp]
        congr 2
        omega
       obtain⟨st,hste⟩ : ∃st,st=stN rs IV (tB all) j:=⟨_,rfl⟩;rw[<-hste] at hst hsl8 HST;clear hste;obtain⟨s0,s1,s2,s3,s4,s5,s6,s7,rfl⟩:=QbR hsl8;have c0:wr.cell? ⟨Sg,0,none⟩=some (.int .u32 s0):=Qe hst (i:=0) (by simp)
       have c1:wr.cell? ⟨Sg,1,none⟩=some (.int .u32 s1):=Qe hst (i:=1) (by simp)
       have c2:wr.cell? ⟨Sg,2,none⟩=some (.int .u32 s2):=Qe hst (i:=2) (by simp)
       have c3:wr.cell? ⟨Sg,3,none⟩=some (.int .u32 s3):=Qe hst (i:=3) (by simp)
       have c4:wr.cell? ⟨Sg,4,none⟩=some (.int .u32 s4):=Qe hst (i:=4) (by simp)
       have c5:wr.cell? ⟨Sg,5,none⟩=some (.int .u32 s5):=Qe hst (i:=5) (by simp)
       have c6:wr.cell? ⟨Sg,6,none⟩=some (.int .u32 s6):=Qe hst (i:=6) (by simp)
       have c7:wr.cell? ⟨Sg,7,none⟩=some (.int .u32 s7):=Qe hst (i:=7) (by simp)
       have hmix:=fun w' h=>Qhk [s0,s1,s2,s3,s4,s5,s6,s7] rfl (all.extract p q) hex w' rs hrl h
       rw[HST.out] at hmix;have hFl:(stN rs IV (tB all) (j+1)).length=8:=QdN rfl _;generalize hFE:stN rs IV (tB all) (j+1)=F at *;have HFE:Hid (stN rs IV (tB all) (j+1)=F):=hFE;clear hFE;have hst34 : ∀w':World,w'.there Sg 0 8->(storeCells ⟨Sg,0,none⟩ (cW F)).run Tryz.prog w' = .ok () (w'.setCells Sg 0 (cW F)):=fun w' h=>by
        have hl8:(cW F).length=8:=by rw[Qp,hFl]
        have:=run_storeCells_cells (P:=Tryz.prog) Sg 0 (cW F) 0 w' (by rw[hl8];intro j hj;simpa using (h j hj).1) (by rw[hl8];intro j hj;simpa using (h j hj).2) (Uz F)
        simpa using this
       have hcl:(cW F).length=8:=by rw[Qp,hFl]
       have HK:Hid (∀w',Below wr.drew.heap.size wr.drew w'->w'.there Sg 0 8∧Zb w w'):=fun w' h=>⟨Q8 h (J3 htt (by decide)) (by rw[World.there_drew];exact htt),hb.trans (Oo h hb.size)⟩
       have HP:Hid (p=64*j∧p+64=q):=⟨hp,hq⟩;clear hp hq hst htt hb HST hN hsl8
       go_upto_region 14 with (fail)
       go_region_with (go_at_call 66;refine(hmix _ hrd).mono ?_;rintro e w4 ⟨rfl,hbw⟩;have hth4:=(HK.out _ hbw).1)
       have HW4:Hid (Zb w w4):=(HK.out _ hbw).2;clear HK hbw;go_wp2
       go_roundg (nb - (j+1))
       case rel =>
        go_light;have:=HP.out;have:=HSG.out;refine⟨j+1,q,by omega,by omega,rfl,?_,?_,World.there_setCells hth4 _ _ _,Qt HW4.out HSG.out _ _⟩
        ·have:(p:Int)+64=(q:Int):=by omega
         first|rw[this]|rfl
        ·rw[HFE.out];exact World.rangeAt_setCells_same _ _ _ _ (by rw[hcl];exact hth4)
       case measure=>go_light;omega
      ·have hjn:j=nb:=by omega
       subst hjn;have hpa : ¬((p:Int)<(all.size:Int)):=by omega
       have hHl:(stN rs IV (tB all) j).length=8:=QdN rfl j;have hW32 : ∀i,0<=(stN rs IV (tB all) j).getD i 0∧(stN rs IV (tB all) j).getD i 0<4294967296:=fun i=>Qlj rs _ j i
       have HSUM:Hid (Q7 (UV (stN rs IV (tB all) j) 8)=Jt rs (Yi ss)):=by
        show _=_
        have e:=HALL.out;have hml:(msg (Yi ss) z).length=all.size:=by rw[<-e,Yz]
        have hz:=HZ.out;rw[HTS.out] at hz;have:=QkJ rs (Yi ss) z hlen hz.2 hz.1;rw[hml,show all.size / 64=j by omega] at this
        rw[e,this,Jt,shaT]
       have HP:Hid (Sg<wr.heap.size):=J3 htt (by decide)
       clear hp hj hN htt HNB HALL hjl;generalize stN rs IV (tB all) j=H at *;go_wp2
       go_loopg [9,10] 8 (fun g x i wi => ∃(m:Nat) (out:BA),m<=8∧g=8 - m∧x = .string out∧i = .int .i64 m∧Hid (tB out=outR H m)∧wi.rangeAt Sg 0 (cW H)∧Zb w wi)
       case atStart =>
        go_light;exact⟨0,_,Lf _,rfl,rfl,rfl,rfl,hst,hb⟩
       case round =>
        clear hst hb HP;obtain⟨m,out,hm,rfl,rfl,rfl,HO,hst,hb⟩:=hrel;have hos:out.size=4*m:=by rw[<-Yz,HO.out,Qi9]
        by_cases hml:m<8
        ·have m0:(0:Int)<=(m:Int):=Le _;have m8:(m:Int)<8:=by omega
         have cm:=Qe hst (i:=m) (by omega)
         have hx:=hW32 m;have hwx:IntKind.u64.wrap (H.getD m 0)=H.getD m 0:=Qe3 hx.1 hx.2;have hbig:=fun w'=>big4 (H.getD m 0) hx.1 (by omega) w'
         have hsz3:(Q7 (tl (H.getD m 0) 4)).size=4:=by rw[<-Yz,Om (Qam _ _),Jv]
         have hns : ¬(9223372036854775807<out.size+4):=by omega
         have HF:Hid (tB (out++Q7 (tl (H.getD m 0) 4))=outR H (m+1)):=by
          show _=_
          rw[Ol,HO.out,Om (Qam _ _),outR]
         have hlt':Sg<wr.heap.size:=QM hst (by intro h;have:=congrArg List.length h;rw[Qp,hHl] at this;cases this)
         have HK:Hid (∀w',Zb wr w'->w'.rangeAt Sg 0 (cW H)∧Zb w w'):=fun w' h=>⟨Ql h hlt' hst,hb.trans (h.mono hb.size)⟩
         clear hst hb hW32 hos hlt';generalize H.getD m 0=x at *
         go_wp2_with (go_at_call 65;refine(hbig _).mono ?_;rintro e w5 ⟨rfl,hbw⟩)
         go_roundg (8 - (m+1))
         case rel =>
          go_light;exact⟨m+1,_,by omega,rfl,rfl,by go_num,HF.out,(HK.out _ hbw).1,(HK.out _ hbw).2⟩
         case measure=>go_light;omega
        ·obtain rfl:m=8:=by omega
         have HOUT:Hid (out=Jt rs (Yi ss)):=by
          show _=_
          rw[<-HSUM.out,<-QkT,<-HO.out,Qlk]
         have Hb:Hid (Zb w wr):=hb;clear hst hb hos;go_wp2
         go_ret
         exact⟨by rw[<-HOUT.out];rfl,Hb.out⟩
structure Tr(w:World):Prop where
 rr:w.rangeAt 1 0 (cW RS)
 iv:w.rangeAt 0 0 (cW IV)
theorem Tr.next{w W:World}(h:Tr w)(hb:Zb w W):Tr W :=
 ⟨Ql hb (QM h.rr (Qh5 (by rw[Qc6];decide))) h.rr,Ql hb (QM h.iv (Qh5 (by decide))) h.iv⟩
theorem Qgo(w:World)(ht:Tr w)(t:BA)(hs:t.size<1152921504606846976)(r:BA)(hr:Jt RS (tB t)=r) :
  Calls Tryz.prog 31 #[.slice (some ⟨w.heap.size,0,none⟩) 1 1] (w.alloc (.cells #[.string t] 9)) fun e w'=>e = .returned (.string r)∧Zb w w':=by
 subst hr;have e:Yi [t]=tB t:=by simp[Yi]
 refine(QhD _ (some ⟨w.heap.size,0,none⟩) w.heap.size 0 1 1 [t] rfl (fun _=>rfl) (Qv w [.string t] 9) (by decide) RS Qc6 (World.rangeAt_alloc ht.rr _) (World.rangeAt_alloc ht.iv _) (by rw[e,Yz];exact hs)).mono fun e' w' ⟨he,hb'⟩=>⟨?_,?_⟩
 ·rw[he,e]
 ·exact((Below.refl _ _).alloc (Lb _) _).trans (hb'.mono (by simp))
theorem Oj(w:World)(ht:Tr w)(k:Int)(t:BA)(hs:t.size<1152921504606846976)(r:BA)(hr:dg (clk k) t=r) :
  Zr 51 #[.int .i64 k,.string t] w (.string r):=by
 subst hr;have HS:=Qgo w ht t hs _ rfl;unfold dg;have hz:=Ok RS (tB t);generalize Jt RS (tB t)=z at *;clear ht hs;unfold clk
 go_enter Tryz.func51,Tryz.ntmps51
 by_cases h1:k<1
 ·rw[if_pos h1]
  go_wp2_with (go_at_call 31;with_reducible refine HS.mono ?_;rintro e w1 ⟨rfl,hb1⟩)
  go_ret
  exact⟨rfl,hb1⟩
 ·by_cases h2:32<k
  ·rw[if_neg h1,if_pos h2]
   go_wp2_with (go_at_call 31;with_reducible refine HS.mono ?_;rintro e w1 ⟨rfl,hb1⟩)
   go_ret
   exact⟨rfl,hb1⟩
  ·rw[if_neg h1,if_neg h2];obtain⟨c,rfl⟩ : ∃c:Nat,k=(c:Int):=⟨k.toNat,by omega⟩
   have h3:(0:Int)<=(c:Int):=by omega
   have h4:(c:Int)<=32:=by omega
   rw[Iu]
   go_wp2_with (go_at_call 31;with_reducible refine HS.mono ?_;rintro e w1 ⟨rfl,hb1⟩)
   go_ret
   exact⟨rfl,hb1⟩
theorem Yn(w:World)(k:Int):Calls Tryz.prog 20 #[.int .i64 k] w fun e w'=>e = .returned (.int .i64 (chk k))∧w'=w:=by
 unfold chk
 go_enter Tryz.func20,Tryz.ntmps20
 by_cases h1:k<1
 ·rw[if_pos (.inl h1)];go_wp2
  go_ret
  simp
 ·by_cases h2:32<k
  ·rw[if_pos (.inr h2)];go_wp2
   go_ret
   simp
  ·rw[if_neg (by omega)]
   go_wp2
   go_ret
   simp
theorem UP(w:World)(f:Int)(a b:BA)(hs:a.size<2305843009213693952)(hs2:b.size<2305843009213693952)(r:BA)(hr:(Q7 [f]++a)++b=r) :
  Zr 100 #[.int .u8 f,.string a,.string b] w (.string r):=by
 subst hr;have cv:=JE w f;have hz:=Uh f;generalize Q7 [f]=z at *;have hns : ¬(9223372036854775807<1+a.size):=by omega
 have hns2 : ¬(9223372036854775807<1+a.size+b.size):=by omega
 go_enter Tryz.func100,Tryz.ntmps100;go_wp2
 go_ret
 exact⟨rfl,bal (Below.refl _ _) _⟩
theorem Qj2(a:BA):a++(⟨#[]⟩:BA)=a:=by
 have:=ByteArray.append_empty (b:=a);exact this
theorem Jr(w:World)(s:BA)(hs:s.size<2305843009213693952) :
  Zr 93 #[.string s] w (.string (Qm s)):=by
 have HT:=UP w 0 s ⟨#[]⟩ hs (by decide) (Qm s) (by rw[Qj2];rfl)
 generalize Qm s=r at *
 go_enter Tryz.func93,Tryz.ntmps93
 go_wp2_with (go_at_call 100;with_reducible refine HT.mono ?_;rintro e w1 ⟨rfl,hb1⟩)
 go_ret
 exact⟨rfl,hb1⟩
theorem YX(w:World)(a b:BA)(hs:a.size<2305843009213693952)(hs2:b.size<2305843009213693952) :
  Zr 91 #[.string a,.string b] w (.string (QE a b)):=by
 have HT:=UP w 1 a b hs hs2 (QE a b) rfl;generalize QE a b=r at *
 go_enter Tryz.func91,Tryz.ntmps91
 go_wp2_with (go_at_call 100;with_reducible refine HT.mono ?_;rintro e w1 ⟨rfl,hb1⟩)
 go_ret
 exact⟨rfl,hb1⟩
theorem QaQ(w:World)(a b:BA)(hs:a.size<2305843009213693952)(hs2:b.size<2305843009213693952)(r:BA)(hr:UG a b=r) :
  Zr 88 #[.string a,.string b] w (.string r):=by
 have HT:=UP w 2 a b hs hs2 r hr
 go_enter Tryz.func88,Tryz.ntmps88
 go_wp2_with (go_at_call 100;with_reducible refine HT.mono ?_;rintro e w1 ⟨rfl,hb1⟩)
 go_ret
 exact⟨rfl,hb1⟩
theorem QeF(w:World)(ht:Tr w)(k:Int)(s:BA)(hs:s.size<140737488355328)(r:BA)(hr:dg (clk k) (Qm s)=r) :
  Zr 98 #[.int .i64 k,.string s] w (.string r):=by
 have HL:=Jr w s (by omega)
 have HO:Hid (∀W,Zb w W->Zr 51 #[.int .i64 k,.string (Qm s)] W (.string r)):=fun W hb=>Oj W (ht.next hb) k _ (by rw[Yk];omega) r hr
 clear hr ht hs;generalize Qm s=t at *
 go_enter Tryz.func98,Tryz.ntmps98
 go_wp2_with (first
  | (go_at_call 93;with_reducible refine HL.mono ?_;rintro e w1 ⟨rfl,hb1⟩)
  | (go_at_call 51;with_reducible refine(HO.out _ hb1).mono ?_;rintro e w2 ⟨rfl,hb2⟩))
 go_ret
 exact⟨rfl,Qa hb1 hb2⟩
theorem JX(w:World)(ht:Tr w)(k:Int)(a b:BA)(hs:a.size<140737488355328)(hs2:b.size<140737488355328)(r:BA)(hr:dg (clk k) (QE a b)=r) :
  Zr 101 #[.int .i64 k,.string a,.string b] w (.string r):=by
 have HL:=YX w a b (by omega) (by omega)
 have HO:Hid (∀W,Zb w W->Zr 51 #[.int .i64 k,.string (QE a b)] W (.string r)):=fun W hb=>Oj W (ht.next hb) k _ (by rw[Yx];omega) r hr
 clear hr ht hs hs2;generalize QE a b=t at *
 go_enter Tryz.func101,Tryz.ntmps101
 go_wp2_with (first
  | (go_at_call 91;with_reducible refine HL.mono ?_;rintro e w1 ⟨rfl,hb1⟩)
  | (go_at_call 51;with_reducible refine(HO.out _ hb1).mono ?_;rintro e w2 ⟨rfl,hb2⟩))
 go_ret
 exact⟨rfl,Qa hb1 hb2⟩
theorem Qb2(w:World)(n:Nat)(hn:n<18446744073709551616) :
  Calls Tryz.prog 140 #[.int .u64 (n:Int)] w fun x w'=>x = .returned (.string ⟨(num n).toArray⟩)∧Zb w w':=by
 have HL:=Qg (Yl (n:=n) hn)
 go_enter Tryz.func140,Tryz.ntmps140;go_wp2
 go_loopg [0,3] n (fun g x v wr => ∃(m:Nat) (pre:List UInt8),m=g∧x = .int .u64 (m:Int)∧OwnY wr w.heap.size v pre∧Hid (pre++num m=num n∧m<=n)∧Zb w wr)
 case atStart =>
  go_light;exact⟨n,[],rfl,rfl,Lz _ _ _ _,⟨rfl,Lb _⟩,Below.refl _ _⟩
 case round =>
  obtain⟨m,pre,hg,rfl,hown,HP,hb⟩:=hrel;subst hg;have HS:Hid (pre.length<=10∧w.heap.size<=wr.heap.size):=by
   have:=congrArg List.length HP.out.1;rw[Ld] at this;have:=HL.out;exact⟨by omega,hb.size⟩
  by_cases hm:m<128
  ·have hm':(m:Int)<128:=by omega
   have HY:=Qg (QF (x:=m) (by omega)).symm
   have HR:Hid (pre++[UInt8.ofNat m]=num n):=by
    have:=HP.out.1;rw[QaZ hm] at this;exact this
   go_wp2_with (at_builtin;refine JB _ rfl _ _ rfl w.heap.size _ pre rfl hown m (UInt8.ofNat m) HY.out rfl ?c1 ?c2 ?_)
   case c1=>have:=HS.out;omega
   case c2=>exact HS.out.2
   intro v' w2 r1 r2;have hcv:=Qhs r1;rw[HR.out] at hcv;go_wp2
   go_ret
   exact⟨rfl,hb.trans r2⟩
  ·have hm' : ¬(m:Int)<128:=by omega
   have hm2:(128:Int)<=(m:Int):=by omega
   obtain⟨c,hc⟩ : ∃c,c=UInt8.ofNat (m % 128+128):=⟨_,rfl⟩;obtain⟨y,hy⟩ : ∃y,y=c.toNat:=⟨_,rfl⟩;have ey:(m:Int) % 128+128=(y:Int):=by rw[hy,hc,QF (by omega)];omega
   have HY:=Qg hy;clear hy;have HR:Hid ((pre++[c])++num (m / 128)=num n∧m / 128<=n):=by
    have:=HP.out;rw[O5 (by omega),<-hc] at this
    exact⟨by rw[<-this.1];simp,by omega⟩
   clear hc;have ew:IntKind.u64.wrap ((m:Int) / 128)=(m:Int) / 128:=by
    have:=HP.out.2;rw[IntKind.wrap_u64];omega
   have HQ:Hid ((m:Int) / 128=((m / 128:Nat):Int)∧m / 128<m):=⟨by omega,by omega⟩
   go_wp2_with (at_builtin;refine JB _ rfl _ _ rfl w.heap.size _ pre rfl hown y c HY.out rfl ?c1 ?c2 ?_)
   case c1=>have:=HS.out;omega
   case c2=>exact HS.out.2
   intro v' w2 r1 r2;have hb2:=hb.trans r2;clear r2 hb hown;go_wp2
   go_roundg (m / 128)
   case rel =>
    go_light;exact⟨m / 128,_,rfl,by rw[<-HQ.out.1],r1,HR.out,hb2⟩
   case measure=>go_light;exact HQ.out.2
abbrev rv(T:BA)(a e:Nat):Value := .agg #[.string T,.int .i64 (a:Int),.int .i64 (e:Int)]
theorem Yv{B:Nat}{a w:World}(h:Below B a w):Below B a w.drew:=⟨h.os,h.tape,h.output,h.size,h.block⟩
theorem QR(w:World)(o o':Obj):Zb w ((w.alloc o).alloc o'):=bal (bal (Below.refl _ _) o) o'
theorem JW(w:World)(T:BA)(a e n:Nat)(ha:a<=T.size)(hn:n=if e=0 then T.size - a else 0)(hT:T.size<=9223372036854775807) :
  Calls Tryz.prog 137 #[rv T a e] w fun x w'=>x = .returned (.int .i64 (n:Int))∧Zb w w':=by
 by_cases he:e=0
 ·subst he;rw[if_pos rfl] at hn;have eq:(T.size:Int) - (a:Int)=(n:Int):=by omega
  clear hn
  go_enter Tryz.func137,Tryz.ntmps137;go_wp2
  go_ret
  exact⟨rfl,(Below.refl _ _).alloc (Lb _) _⟩
 ·rw[if_neg he] at hn;subst hn;have hz : ¬(e:Int)=0:=by omega
  go_enter Tryz.func137,Tryz.ntmps137;go_wp2
  go_ret
  exact⟨rfl,(Below.refl _ _).alloc (Lb _) _⟩
def rtk(T:BA)(a e:Nat)(n:Int):Nat×Nat×BA :=
 if e≠0 then (a,e,ByteArray.empty) else if n<0∨((T.size - a:Nat):Int)<n then (a,60,ByteArray.empty) else (a+n.toNat,0,T.extract a (a+n.toNat))
theorem QeG(w:World)(T:BA)(a e:Nat)(n:Int)(ha:a<=T.size)(hT:T.size<=9223372036854775807) :
  Calls Tryz.prog 138 #[rv T a e,.int .i64 n] w fun x w'=>x = .returned (.tuple #[rv T (rtk T a e n).1 (rtk T a e n).2.1,.string (rtk T a e n).2.2,.int .i64 ((rtk T a e n).2.1:Int)])∧Zb w w':=by
 by_cases he:e=0
 ·subst he
  by_cases hn:n<0∨((T.size - a:Nat):Int)<n
  ·have ht:rtk T a 0 n=(a,60,ByteArray.empty):=by rw[rtk,if_neg (by simp),if_pos hn]
   rw[ht];have hd:(T.size:Int) - (a:Int)=((T.size - a:Nat):Int):=by omega
   generalize T.size - a=q at *
   by_cases h0:n<0
   ·go_enter Tryz.func138,Tryz.ntmps138;go_wp2
    go_region
    go_wp2;refine bodyPost_ret (v := .tuple #[rv T a 60,.string ByteArray.empty,.int .i64 60]) (by simp[results,Tryz.results138,go_sem];rfl) rfl ⟨rfl,?_⟩
    exact Yv (QR w _ _)
   ·have h1:(q:Int)<n:=by omega
    go_enter Tryz.func138,Tryz.ntmps138;go_wp2
    go_region
    go_wp2;refine bodyPost_ret (v := .tuple #[rv T a 60,.string ByteArray.empty,.int .i64 60]) (by simp[results,Tryz.results138,go_sem];rfl) rfl ⟨rfl,?_⟩
    exact Yv (QR w _ _)
  ·obtain⟨k,rfl⟩ : ∃k:Nat,n=k:=⟨n.toNat,by omega⟩
   have ht:rtk T a 0 (k:Int)=(a+k,0,T.extract a (a+k)):=by rw[rtk,if_neg (by simp),if_neg hn];simp
   rw[ht];have hd:(T.size:Int) - (a:Int)=((T.size - a:Nat):Int):=by omega
   have h0 : ¬(k:Int)<0:=by omega
   have h1 : ¬((T.size - a:Nat):Int)<(k:Int):=by omega
   obtain⟨b,hb⟩ : ∃b,b=a+k:=⟨_,rfl⟩;have e1:(a:Int)+(k:Int)=(b:Int):=by omega
   have e2:(a:Int)<=(b:Int):=by omega
   have e3:(b:Int)<=(T.size:Int):=by omega
   rw[<-hb];clear ht hn hb;generalize T.size - a=q at *
   go_enter Tryz.func138,Tryz.ntmps138;go_wp2;refine bodyPost_ret (v := .tuple #[rv T b 0,.string (T.extract a b),.int .i64 0]) (by simp[results,Tryz.results138,go_sem]) rfl ⟨rfl,?_⟩
   exact QR w _ _
 ·have ht:rtk T a e n=(a,e,ByteArray.empty):=by rw[rtk,if_pos he]
  rw[ht];have hz : ¬(e:Int)=0:=by omega
  go_enter Tryz.func138,Tryz.ntmps138;go_wp2
  go_region
  go_wp2;refine bodyPost_ret (v := .tuple #[rv T a e,.string ByteArray.empty,.int .i64 e]) (by simp[results,Tryz.results138,go_sem];rfl) rfl ⟨rfl,?_⟩
  exact Yv (QR w _ _)
end Go.Proofs.YtdocjikpcbmcgaaGreatDoor
