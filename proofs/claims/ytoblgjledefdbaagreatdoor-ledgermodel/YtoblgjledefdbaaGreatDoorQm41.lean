/- Own work. -/
import Derived.Test.YtoblgjledefdbaaGreatDoorQm40
set_option maxRecDepth 100000
set_option maxHeartbeats 2000000
namespace Go.Proofs.YtoblgjledefdbaaGreatDoor
open Go.RowKit
attribute [local go_sem ↓] Go.wp_at_zero Go.wp_at_succ
open Go.Proofs.Tryz
theorem JX(a b:BA):tB (a++b)=tB a++tB b:=by simp[tB]
theorem Qo2:(prog.info? 5).map (fun i=>(i.zero,i.size,i.bytes))=some (some (.int .u8 0),1,1):=by kernel_rfl
theorem Qjv(w:World)(b:Nat)(l:List Int)(n cap:Nat)(hl:l.length=n)(h:w.rangeAt b 0 (cB l)):(convert 127 9 (.slice (some ⟨b,0,none⟩) n cap)).run prog w = .ok (.string (QU l)) w:=by
 subst hl;rw[run_convert_bytes_string w 127 9 5 _ _ _ underlying127 underlying5 underlying9];refine run_bytesToString w ⟨b,0,none⟩ l.length cap l ?_
 have:=run_loadCells_list (P:=prog) w ⟨b,0,none⟩ (cB l) (fun j v hv=>by rw[Addr.add_mid];exact h j v hv)
 rwa [QA] at this
theorem QbM{w:World}{base g n cap:Nat}{l:List Int}(h:w.ownsRow base 5 1 (.slice (some ⟨g,0,none⟩) n cap) n (cB l)):w.rangeAt g 0 (cB l)∧base<=g:=by
 obtain⟨h1,h2⟩:=h
 rcases h2 with ⟨h2,_⟩|⟨g',cap',cur,hv,hg,hh,hn,hc,hs,ht⟩
 ·cases h2
 ·injection hv with e1 e2 e3
  injection e1 with e1
  injection e1 with e1
  subst e1;refine⟨fun j v hj => ?_,hg⟩
  rw[Lm,cell_of_row w g j cur 5 (0,0) hh];rw[<-ht,LQ] at hj
  split at hj
  ·simpa using hj
  ·cases hj
theorem Qit{w:World}{base n:Nat}{v:Value}{xs:List Value}(h:w.ownsRow base 5 1 v n xs)(hn:0<n) : ∃g cap,v = .slice (some ⟨g,0,none⟩) n cap∧base<=g:=by
 obtain⟨h1,h2⟩:=h
 rcases h2 with ⟨_,h2⟩|⟨g,cap,cur,hv,hg,_⟩
 ·omega
 ·exact⟨g,cap,hv,hg⟩
theorem Qcs(z:Nat):Bytes (128::List.replicate z 0):=by
 intro x hx
 rcases List.mem_cons.1 hx with rfl|hx
 ·omega
 ·rw[List.eq_of_mem_replicate hx];omega
theorem J8{w w2:World}{B:Nat}(h:Below w.drew.heap.size w.drew w2)(hB:B<=w.heap.size):Below B w w2 :=
 ⟨h.os,h.tape,h.output,h.size,fun k hk=>h.block k (Lx hk hB)⟩
theorem Qlb(r:BA)(p q:Nat):tB (r.extract p q)=((tB r).drop p).take (q - p):=by
 have:(r.extract p q).data.toList=(r.data.toList.drop p).take (q - p):=by
  rw[Nz];simp[Array.toList_extract,List.extract]
 rw[tB,this,tB,NO,IJ]
theorem Qkt(H:List Int)(m:Nat):(outR H m).length=4*m:=by
 induction m with
 | zero=>rfl
 | succ m ih=>rw[outR,Lc,ih,Jb];omega
theorem Qlp(x:Int):0<=IntKind.u32.wrap x∧IntKind.u32.wrap x<4294967296:=by rw[IntKind.wrap_u32'];omega
theorem Qlm{l:List Int}(h : ∀x∈l,0<=x∧x<4294967296)(i:Nat):0<=l.getD i 0∧l.getD i 0<4294967296:=by
 rw[Ld]
 cases e:l[i]? with
 | none=>exact⟨by decide,by decide⟩
 | some x=>exact h x (NX e)
theorem Qnc(rs t:List Int)(k i:Nat):0<=(stN rs IV t k).getD i 0∧(stN rs IV t k).getD i 0<4294967296:=by
 refine Qlm (fun x hx => ?_) i
 cases k with
 | zero=>simp[stN,IV] at hx;omega
 | succ k =>
  rw[stN,YM,sumI] at hx;simp only[List.mem_cons,List.not_mem_nil,or_false] at hx
  rcases hx with rfl|rfl|rfl|rfl|rfl|rfl|rfl|rfl <;> exact Qlp _
theorem Qfs{x:Int}(h0:0<=x)(h1:x<4294967296):IntKind.u64.wrap x=x:=by
 simp[IntKind.wrap,IntKind.bits,IntKind.signed];omega
theorem Qox{w:World}{g:Nat}{o:Obj}(h:w.heap[g]? = some o):g<w.heap.size:=by
 rcases Ij g w.heap.size with h'|h'
 ·exact h'
 ·rw[Array.getElem?_eq_none h'] at h;cases h
theorem endz(L:Nat) : ∃z,z<64∧(L+(z+1)+8) % 64=0:=⟨(64 - (L+9) % 64) % 64,by omega,by omega⟩
theorem QiB(w:World)(ao:OA)(b off len cap:Nat)(ss:LB)(hl:ss.length=len)(hao:0<len->ao=some ⟨b,off,none⟩)(hs:w.rangeAt b off (ss.map Value.string))
  (hmx:len<=1048576) (rs:List Int) (hrl:rs.length=64) (hr:w.rangeAt 1 0 (cW rs)) (hiv:w.rangeAt 0 0 (cW IV)) (hlen:(Qk ss).length<1152921504606846976) :
  Calls prog 186 #[.slice ao len cap] w fun e w'=>e = .returned (.string (O9 rs (Qk ss)))∧Below w.heap.size w w':=by
 have zK:1<w.heap.size:=QE hr (by intro h;have:=Lw List.length h;simp[Qo,hrl] at this)
 have xF:Hid (0<w.heap.size):=QE hiv (by intro h;cases h)
 go_enter func186,ntmps186;go_wp2
 go_loopg [3,4] len (fun g x i wx=>w=wx ∧ ∃(k:Nat) (text:BA),k<=len∧g=len - k∧x = .string text∧i = .int .i64 k∧Hid (tB text=Qk (ss.take k)))
 case atStart=>go_light;exact⟨rfl,0,_,Ll _,rfl,rfl,rfl,rfl⟩
 case round =>
  obtain⟨rfl,k,text,hk,rfl,rfl,rfl,HT⟩:=hrel
  by_cases hlt:k<len
  ·obtain rfl:=hao (by omega)
   have yW:k<ss.length:=by omega
   have ck:w.cell? ⟨b,off+k,none⟩=some (.string (ss.getD k ByteArray.empty)) :=
    hs k _ (by simp[List.getElem?_eq_getElem yW,List.getD_eq_getElem?_getD])
   have hz:(k:Int)<(len:Int):=by omega
   have yA:=UL ss k yW;have zB:(Qk (ss.take (k+1))).length<=(Qk ss).length:=OI _ _;have xU:text.size=(Qk (ss.take k)).length:=by rw[<-Yj,HT.out]
   have yE : ¬(9223372036854775807<text.size+(ss.getD k ByteArray.empty).size):=by
    rw[yA,Lc,Yj] at zB;omega
   have HF:Hid (tB (text++ss.getD k ByteArray.empty)=Qk (ss.take (k+1))):=by
    show _=_
    rw[JX,HT.out,yA]
   clear yA zB xU;generalize ss.getD k ByteArray.empty=part at *;go_wp2
   go_roundg (len - (k+1))
   case rel=>go_light;exact⟨rfl,k+1,_,by omega,rfl,rfl,by go_num,HF.out⟩
   case measure=>go_light;omega
  ·obtain rfl:k=len:=by omega
   have hz : ¬(k:Int)<(k:Int):=by omega
   have hT:=HT.out;rw[Lo (by omega)] at hT
   have xU:text.size=(Qk ss).length:=by rw[<-Yj,hT]
   have zI:Hid (tB text=Qk ss):=hT;clear hT HT hs hao hl;obtain⟨zN,zE,zF⟩:=endz text.size;obtain⟨i0,hi,zV,yM,yN⟩:=info_parts Qo2;have yU:(w.alloc (.cells #[.int .u8 128] 5)).ownsRow w.heap.size 5 1 (.slice (some ⟨w.heap.size,0,none⟩) 1 1) 1 (cB (128::List.replicate 0 0)) :=
    ⟨rfl,Or.inr ⟨w.heap.size,1,#[.int .u8 128],rfl,La _,LH _ _,La _,by unfold maxLen;omega,rfl,rfl⟩⟩
   have yV:Below w.heap.size w (w.alloc (.cells #[.int .u8 128] 5)):=(Lb _ _).alloc (La _) _;have HZ:Hid (zN<64∧(text.size+(zN+1)+8) % 64=0):=⟨zE,zF⟩;have xP:(text.size:Int)<1152921504606846976:=by omega
   have zC:(0:Int)<=(text.size:Int):=Lf _;have xZ:Hid (text.size=(Qk ss).length):=xU;clear zE zF xU
   go_upto_region 7 with (fail)
   generalize w.alloc (.cells #[.int .u8 128] 5)=w1 at *
   go_loopg [5] zN (fun g v wi => ∃(z n g' cap':Nat),n=z+1∧z<=zN∧g=zN - z∧v = .slice (some ⟨g',0,none⟩) n cap'∧wi.ownsRow w.heap.size 5 1 v n (cB (128::List.replicate z 0))∧Below w.heap.size w wi)
   case atStart=>go_light;exact⟨0,1,_,_,rfl,Ll _,rfl,rfl,yU,yV⟩
   case round =>
    clear yU yV;obtain⟨z,n,g',cap',yG,yL,rfl,rfl,hO,hb⟩:=hrel;obtain⟨s1,yI⟩ : ∃s1:Nat,text.size+n=s1:=⟨_,rfl⟩;obtain⟨s2,yJ⟩ : ∃s2:Nat,s1+8=s2:=⟨_,rfl⟩;have hZ:=HZ.out;have e1:IntKind.i64.wrap ((text.size:Int)+(n:Int))=(s1:Int):=by rw[QX _ (by omega) (by omega)];omega
    have e2:IntKind.i64.wrap ((s1:Int)+8)=(s2:Int):=by rw[QX _ (by omega) (by omega)];omega
    have b2:(0:Int)<=(s2:Int):=Lf _;have HN:Hid (n=z+1∧z<=zN∧text.size+n=s1∧s1+8=s2):=⟨yG,yL,yI,yJ⟩;have yD:n<=64:=by omega
    by_cases hne:z<zN
    ·have hm:((s2:Int) % 64 == 0)=false:=by rw[beq_eq_false_iff_ne];omega
     have yQ:Hid (z<zN):=hne;have HG:Hid (w.heap.size<=g'):=(QbM hO).2;clear hZ yG yL yI yJ xP zC hne;have zY:w.heap.size<=wr.heap.size:=hb.size;have HO:Hid (∀o,(wr.alloc o).ownsRow w.heap.size 5 1 (.slice (some ⟨g',0,none⟩) n cap') n (cB (128::List.replicate z 0))):=fun o=>by
      obtain⟨h1,h2⟩:=hO;refine⟨h1,?_⟩
      rcases h2 with ⟨h2,_⟩|⟨g,cp,cur,hv,hg,hh,r⟩
      ·cases h2
      ·exact Or.inr ⟨g,cp,cur,hv,hg,by rw[Below.heap_alloc _ _ _ (Qox hh)];exact hh,r⟩
     have Hb:Hid (∀o,Below w.heap.size w (wr.alloc o)):=fun o=>hb.alloc hb.size o
     have zO:Hid ((n+1)*1<=140737488355328):=by show _<=_;omega
     have yC:Hid (n+1<=maxLen):=by show _<=_;unfold maxLen;omega
     clear hO hb
     go_upto_region 8 with (fail)
     go_wp2_with (at_builtin;(refine wpList_append_own _ rfl _ _ 127 rfl w.heap.size 5 i0 (.int .u8 0) 1 1 underlying127 hi zV yM yN rfl (by decide) _ _ _ rfl (HO.out _) ⟨wr.heap.size,0,none⟩ 1 1 [.int .u8 0] rfl rfl (cell_one_new _ _ _) (fun x hx=>by simp at hx;subst hx;rfl) yC.out zO.out (by simp;omega) ?_);intro v' w2 hown' hg' hne')
     obtain⟨g2,xI,zD,yB⟩:=Qit hown' (Nat.succ_pos _);rw[zD] at hown' ⊢;have HR:Hid (w2.ownsRow w.heap.size 5 1 (.slice (some ⟨g2,0,none⟩) (n+1) xI) (n+1) (cB (128::List.replicate (z+1) 0))):=by
      have e:cB (128::List.replicate z 0)++[Value.int IntKind.u8 0]=cB (128::List.replicate (z+1) 0):=by
       rw[List.replicate_succ'];simp[cB]
      rw[<-e];exact hown'
     have zG:Hid (Below w.heap.size w w2):=(Hb.out _).grown hg' (by simp;omega) (fun j hj=>by cases hj;exact HG.out)
     clear hown' hg' hne' zD
     go_roundg (zN - (z+1))
     case rel=>go_light;have:=HN.out;have:=HZ.out;exact⟨z+1,n+1,g2,xI,by omega,by have:=yQ.out;omega,rfl,rfl,HR.out,zG.out⟩
     case measure=>go_light;have:=yQ.out;omega
    ·have zW:z=zN:=by omega
     subst zW;have hm:((s2:Int) % 64 == 0)=true:=by rw[beq_iff_eq];omega
     obtain⟨yH,yB⟩:=QbM hO;have xG:g'<wr.heap.size:=QE yH (by simp[cB])
     have yO:Hid (w.heap.size<=g'):=yB;have xV:Hid (Below w.heap.size w wr):=hb;have yK:(QU (128::List.replicate z 0)).size=n:=by rw[<-Yj,JY (Qcs z)];simp;omega
     have zQ:=fun w' h=>Qjv w' g' (128::List.replicate z 0) n cap' (by simp;omega) h
     have yE : ¬(9223372036854775807<text.size+n):=by omega
     have yP:Hid (∀w',Below wr.drew.heap.size wr.drew w'->w'.rangeAt g' 0 (cB (128::List.replicate z 0))):=fun w' h=>Qn h xG (by rw[World.rangeAt_drew];exact yH)
     have zM:IntKind.u64.wrap (8*IntKind.u64.wrap (text.size:Int))=8*(text.size:Int):=by
      simp[IntKind.wrap,IntKind.bits,IntKind.signed];omega
     have xD:=fun w'=>big8 (8*(text.size:Int)) (by omega) (by omega) w'
     have xO:(QU (tl (8*(text.size:Int)) 8)).size=8:=by rw[<-Yj,JY (Qae _ _),Jb]
     have yF : ¬(9223372036854775807<text.size+n+8):=by omega
     clear hO hb yB hZ yG yL yI yJ xP zC hne
     go_upto_region 9 with (fail)
     go_region_held3 (fun w'=>w'.rangeAt g' 0 (cB (128::List.replicate z 0))) (first|assumption|(rw[World.rangeAt_drew];assumption)|(exact yP.out _ (by assumption))) (first|(go_at_call 281;refine(xD _).mono ?_;rintro e w2 ⟨rfl,xE⟩))
     have xB:Hid (Below w.heap.size w w2):=xV.out.trans (J8 xE xV.out.size);generalize hall:(text++QU (128::List.replicate z 0))++QU (tl (8*(text.size:Int)) 8)=all at *;have xC:Hid (tB all=msg (Qk ss) z):=by
      show _=_
      have e:=zI.out;rw[<-hall,JX,JX,JY (Qcs z),JY (Qae _ _),msg,e,xZ.out]
     clear hall xE xD zQ yP zM yE yF yK xO;have v0:w2.cell? ⟨0,0,none⟩=some (.int .u32 1779033703):=by rw[xB.out.cell (p:=⟨0,0,none⟩) xF.out];exact Qc hiv (i:=0) (by decide)
     have v1:w2.cell? ⟨0,1,none⟩=some (.int .u32 3144134277):=by rw[xB.out.cell (p:=⟨0,1,none⟩) xF.out];exact Qc hiv (i:=1) (by decide)
     have v2:w2.cell? ⟨0,2,none⟩=some (.int .u32 1013904242):=by rw[xB.out.cell (p:=⟨0,2,none⟩) xF.out];exact Qc hiv (i:=2) (by decide)
     have v3:w2.cell? ⟨0,3,none⟩=some (.int .u32 2773480762):=by rw[xB.out.cell (p:=⟨0,3,none⟩) xF.out];exact Qc hiv (i:=3) (by decide)
     have v4:w2.cell? ⟨0,4,none⟩=some (.int .u32 1359893119):=by rw[xB.out.cell (p:=⟨0,4,none⟩) xF.out];exact Qc hiv (i:=4) (by decide)
     have v5:w2.cell? ⟨0,5,none⟩=some (.int .u32 2600822924):=by rw[xB.out.cell (p:=⟨0,5,none⟩) xF.out];exact Qc hiv (i:=5) (by decide)
     have v6:w2.cell? ⟨0,6,none⟩=some (.int .u32 528734635):=by rw[xB.out.cell (p:=⟨0,6,none⟩) xF.out];exact Qc hiv (i:=6) (by decide)
     have v7:w2.cell? ⟨0,7,none⟩=some (.int .u32 1541459225):=by rw[xB.out.cell (p:=⟨0,7,none⟩) xF.out];exact Qc hiv (i:=7) (by decide)
     have xS:Hid ((w2.alloc (.cells #[.int .u32 1779033703,.int .u32 3144134277,.int .u32 1013904242,.int .u32 2773480762,.int .u32 1359893119,.int .u32 2600822924,.int .u32 528734635,.int .u32 1541459225] 346)).rangeAt w2.heap.size 0 (cW (stN rs IV (tB all) 0))∧(w2.alloc (.cells #[.int .u32 1779033703,.int .u32 3144134277,.int .u32 1013904242,.int .u32 2773480762,.int .u32 1359893119,.int .u32 2600822924,.int .u32 528734635,.int .u32 1541459225] 346)).there w2.heap.size 0 8∧Below w.heap.size w (w2.alloc (.cells #[.int .u32 1779033703,.int .u32 3144134277,.int .u32 1013904242,.int .u32 2773480762,.int .u32 1359893119,.int .u32 2600822924,.int .u32 528734635,.int .u32 1541459225] 346))) :=
      ⟨Qq w2 (cW IV) 346,Qm w2 #[.int .u32 1779033703,.int .u32 3144134277,.int .u32 1013904242,.int .u32 2773480762,.int .u32 1359893119,.int .u32 2600822924,.int .u32 528734635,.int .u32 1541459225] 346 8 (by simp),xB.out.alloc xB.out.size _⟩
     have yS:Hid (w.heap.size<=w2.heap.size):=xB.out.size
     go_upto_region 11 with (fail)
     clear v0 v1 v2 v3 v4 v5 v6 v7;generalize w2.alloc (.cells #[.int .u32 1779033703,.int .u32 3144134277,.int .u32 1013904242,.int .u32 2773480762,.int .u32 1359893119,.int .u32 2600822924,.int .u32 528734635,.int .u32 1541459225] 346)=w3 at *;generalize w2.heap.size=Sg at *;obtain⟨nb,yY⟩ : ∃nb,all.size=64*nb:=by
      have e:=Lw List.length xC.out;rw[Yj] at e;have xT:(msg (Qk ss) z).length=(Qk ss).length+(z+1)+8:=by simp[msg,Jb];omega
      have:=HZ.out.2;have:=xZ.out;exact⟨all.size / 64,by omega⟩
     have xK:all.size<2305843009213693952:=by
      have e:=Lw List.length xC.out;rw[Yj] at e;have xT:(msg (Qk ss) z).length=(Qk ss).length+(z+1)+8:=by simp[msg,Jb];omega
      have:=HZ.out.1;omega
     have yR:Hid (all.size=64*nb∧all.size<2305843009213693952):=⟨yY,xK⟩;have HX:Hid (w.heap.size<=g'∧g'<wr.heap.size):=⟨yO.out,xG⟩;clear yY xK xG yH xV xB yO e1 e2 b2 yD hm HN;go_wp2
     go_loopg [8] nb (fun g i wi => ∃(j p:Nat),p=64*j∧j<=nb∧g=nb - j∧i = .int .i64 (p:Int)∧wi.rangeAt Sg 0 (cW (stN rs IV (tB all) j))∧wi.there Sg 0 8∧Below w.heap.size w wi)
     case atStart=>go_light;exact⟨0,0,rfl,Ll _,rfl,rfl,xS.out.1,xS.out.2.1,xS.out.2.2⟩
     case round =>
      clear xS HX;obtain⟨j,p,hp,hj,rfl,rfl,xA,xR,hb⟩:=hrel;have hN:=yR.out
      by_cases hjl:j<nb
      ·obtain⟨q,hq⟩ : ∃q:Nat,p+64=q:=⟨_,rfl⟩;have zX:IntKind.i64.wrap ((p:Int)+64)=(q:Int):=by rw[QX _ (by omega) (by omega)];omega
       have b0:(0:Int)<=(p:Int):=Lf _;have b1:(p:Int)<=(q:Int):=by omega
       have b2:(q:Int)<=(all.size:Int):=by omega
       have b3:(p:Int)<(all.size:Int):=by omega
       have zR:(all.extract p q).size=64:=by rw[Iz];omega
       have zU:wr.rangeAt 1 0 (cW rs):=Qn hb zK hr;have zT:wr.drew.rangeAt 1 0 (cW rs):=by rw[World.rangeAt_drew];exact zU
       have xH:(stN rs IV (tB all) j).length=8:=QdZ rfl j;have xX:Hid (YM rs (stN rs IV (tB all) j) (tB (all.extract p q))=stN rs IV (tB all) (j+1)):=by
        show _=_
        rw[stN,Qlb,hp]
        congr 2
        omega
       obtain⟨st,xN⟩ : ∃st,st=stN rs IV (tB all) j:=⟨_,rfl⟩;rw[<-xN] at xA xH xX;clear xN;obtain⟨s0,s1,s2,s3,s4,s5,s6,s7,rfl⟩:=QbE xH;have c0:wr.cell? ⟨Sg,0,none⟩=some (.int .u32 s0):=Qc xA (i:=0) (by simp)
       have c1:wr.cell? ⟨Sg,1,none⟩=some (.int .u32 s1):=Qc xA (i:=1) (by simp)
       have c2:wr.cell? ⟨Sg,2,none⟩=some (.int .u32 s2):=Qc xA (i:=2) (by simp)
       have c3:wr.cell? ⟨Sg,3,none⟩=some (.int .u32 s3):=Qc xA (i:=3) (by simp)
       have c4:wr.cell? ⟨Sg,4,none⟩=some (.int .u32 s4):=Qc xA (i:=4) (by simp)
       have c5:wr.cell? ⟨Sg,5,none⟩=some (.int .u32 s5):=Qc xA (i:=5) (by simp)
       have c6:wr.cell? ⟨Sg,6,none⟩=some (.int .u32 s6):=Qc xA (i:=6) (by simp)
       have c7:wr.cell? ⟨Sg,7,none⟩=some (.int .u32 s7):=Qc xA (i:=7) (by simp)
       have xM:=fun w' h=>Qij [s0,s1,s2,s3,s4,s5,s6,s7] rfl (all.extract p q) zR w' rs hrl h
       rw[xX.out] at xM;have yT:(stN rs IV (tB all) (j+1)).length=8:=QdZ rfl _;generalize hFE:stN rs IV (tB all) (j+1)=F at *;have zH:Hid (stN rs IV (tB all) (j+1)=F):=hFE;clear hFE;have zA : ∀w':World,w'.there Sg 0 8->(storeCells ⟨Sg,0,none⟩ (cW F)).run prog w' = .ok () (w'.setCells Sg 0 (cW F)):=fun w' h=>by
        have yX:(cW F).length=8:=by rw[Qo,yT]
        have:=run_storeCells_cells (P:=prog) Sg 0 (cW F) 0 w' (by rw[yX];intro j hj;simpa using (h j hj).1) (by rw[yX];intro j hj;simpa using (h j hj).2) (Up F)
        simpa using this
       have zP:(cW F).length=8:=by rw[Qo,yT]
       have HK:Hid (∀w',Below wr.drew.heap.size wr.drew w'->w'.there Sg 0 8∧Below w.heap.size w w'):=fun w' h=>⟨QT h (JF xR (by decide)) (by rw[World.there_drew];exact xR),hb.trans (J8 h hb.size)⟩
       have HP:Hid (p=64*j∧p+64=q):=⟨hp,hq⟩;clear hp hq xA xR hb xX hN xH
       go_upto_region 14 with (fail)
       go_region_with (go_at_call 282;refine(xM _ zT).mono ?_;rintro e w4 ⟨rfl,xE⟩;have xQ:=(HK.out _ xE).1)
       have zJ:Hid (Below w.heap.size w w4):=(HK.out _ xE).2;clear HK xE;go_wp2
       go_roundg (nb - (j+1))
       case rel =>
        go_light;have:=HP.out;have:=yS.out;refine⟨j+1,q,by omega,by omega,rfl,?_,?_,World.there_setCells xQ _ _ _,Qr zJ.out yS.out _ _⟩
        ·have:(p:Int)+64=(q:Int):=by omega
         first|rw[this]|rfl
        ·rw[zH.out];exact World.rangeAt_setCells_same _ _ _ _ (by rw[zP];exact xQ)
       case measure=>go_light;omega
      ·have zS:j=nb:=by omega
       subst zS;have zZ : ¬((p:Int)<(all.size:Int)):=by omega
       have zL:(stN rs IV (tB all) j).length=8:=QdZ rfl j;have xJ : ∀i,0<=(stN rs IV (tB all) j).getD i 0∧(stN rs IV (tB all) j).getD i 0<4294967296:=fun i=>Qnc rs _ j i
       have xY:Hid (QU (UQ (stN rs IV (tB all) j) 8)=O9 rs (Qk ss)):=by
        show _=_
        have e:=xC.out;have xT:(msg (Qk ss) z).length=all.size:=by rw[<-e,Yj]
        have hz:=HZ.out;rw[xZ.out] at hz;have:=Qml rs (Qk ss) z hlen hz.2 hz.1;rw[xT,show all.size / 64=j by omega] at this
        rw[e,this,O9,shaT]
       have HP:Hid (Sg<wr.heap.size):=JF xR (by decide)
       clear hp hj hN xR yR xC hjl;generalize stN rs IV (tB all) j=H at *;go_wp2
       go_loopg [9,10] 8 (fun g x i wi => ∃(m:Nat) (out:BA),m<=8∧g=8 - m∧x = .string out∧i = .int .i64 m∧Hid (tB out=outR H m)∧wi.rangeAt Sg 0 (cW H)∧Below w.heap.size w wi)
       case atStart=>go_light;exact⟨0,_,Ll _,rfl,rfl,rfl,rfl,xA,hb⟩
       case round =>
        clear xA hb HP;obtain⟨m,out,hm,rfl,rfl,rfl,HO,xA,hb⟩:=hrel;have yZ:out.size=4*m:=by rw[<-Yj,HO.out,Qkt]
        by_cases xT:m<8
        ·have m0:(0:Int)<=(m:Int):=Lf _;have m8:(m:Int)<8:=by omega
         have cm:=Qc xA (i:=m) (by omega)
         have hx:=xJ m;have kA:IntKind.u64.wrap (H.getD m 0)=H.getD m 0:=Qfs hx.1 hx.2;have xD:=fun w'=>big4 (H.getD m 0) hx.1 (by omega) w'
         have xO:(QU (tl (H.getD m 0) 4)).size=4:=by rw[<-Yj,JY (Qae _ _),Jb]
         have yE : ¬(9223372036854775807<out.size+4):=by omega
         have HF:Hid (tB (out++QU (tl (H.getD m 0) 4))=outR H (m+1)):=by
          show _=_
          rw[JX,HO.out,JY (Qae _ _),outR]
         have xL:Sg<wr.heap.size:=QE xA (by intro h;have:=Lw List.length h;rw[Qo,zL] at this;cases this)
         have HK:Hid (∀w',Below wr.heap.size wr w'->w'.rangeAt Sg 0 (cW H)∧Below w.heap.size w w'):=fun w' h=>⟨Qn h xL xA,hb.trans (h.mono hb.size)⟩
         clear xA hb xJ yZ xL;generalize H.getD m 0=x at *
         go_wp2_with (go_at_call 281;refine(xD _).mono ?_;rintro e w5 ⟨rfl,xE⟩)
         go_roundg (8 - (m+1))
         case rel=>go_light;exact⟨m+1,_,by omega,rfl,rfl,by go_num,HF.out,(HK.out _ xE).1,(HK.out _ xE).2⟩
         case measure=>go_light;omega
        ·obtain rfl:m=8:=by omega
         have xW:Hid (out=O9 rs (Qk ss)):=by
          show _=_
          rw[<-xY.out,<-Qmz,<-HO.out,Qng]
         have Hb:Hid (Below w.heap.size w wr):=hb;clear xA hb yZ;go_wp2
         go_ret
         exact⟨by rw[<-xW.out];rfl,Hb.out⟩
structure Tr(w:World):Prop where
 rr:w.rangeAt 1 0 (cW RS)
 iv:w.rangeAt 0 0 (cW IV)
theorem Tr.next{w W:World}(h:Tr w)(hb:Below w.heap.size w W):Tr W :=
 ⟨Qn hb (QE h.rr (Qef (by rw[Of];decide))) h.rr,Qn hb (QE h.iv (Qef (by decide))) h.iv⟩
theorem QmL(w:World)(ht:Tr w)(t:BA)(hs:t.size<1152921504606846976)(r:BA)(hr:O9 RS (tB t)=r) :
  Calls prog 186 #[.slice (some ⟨w.heap.size,0,none⟩) 1 1] (w.alloc (.cells #[.string t] 9)) fun e w'=>e = .returned (.string r)∧Below w.heap.size w w':=by
 subst hr;have e:Qk [t]=tB t:=by simp[Qk]
 refine(QiB _ (some ⟨w.heap.size,0,none⟩) w.heap.size 0 1 1 [t] rfl (fun _=>rfl) (Qq w [.string t] 9) (by decide) RS Of (World.rangeAt_alloc ht.rr _) (World.rangeAt_alloc ht.iv _) (by rw[e,Yj];exact hs)).mono fun e' w' ⟨he,hb'⟩=>⟨?_,?_⟩
 ·rw[he,e]
 ·exact((Lb _ _).alloc (La _) _).trans (hb'.mono (by simp))
theorem JV(w:World)(ht:Tr w)(k:Int)(t:BA)(hs:t.size<1152921504606846976)(r:BA)(hr:dg (clk k) t=r) :
  Calls prog 108 #[.int .i64 k,.string t] w fun e w'=>e = .returned (.string r)∧Below w.heap.size w w':=by
 subst hr;have HS:=QmL w ht t hs _ rfl;unfold dg;have hz:=QaA RS (tB t);generalize O9 RS (tB t)=z at *;clear ht hs;unfold clk
 go_enter func108,ntmps108
 by_cases h1:k<1
 ·rw[Lk h1]
  go_wp2_with (go_at_call 186;with_reducible refine HS.mono ?_;rintro e w1 ⟨rfl,xA⟩)
  go_ret
  exact⟨rfl,xA⟩
 ·by_cases h2:32<k
  ·rw[Le h1,Lk h2]
   go_wp2_with (go_at_call 186;with_reducible refine HS.mono ?_;rintro e w1 ⟨rfl,xA⟩)
   go_ret
   exact⟨rfl,xA⟩
  ·rw[Le h1,Le h2];obtain⟨c,rfl⟩ : ∃c:Nat,k=(c:Int):=⟨k.toNat,by omega⟩
   have h3:(0:Int)<=(c:Int):=by omega
   have h4:(c:Int)<=32:=by omega
   rw[LM]
   go_wp2_with (go_at_call 186;with_reducible refine HS.mono ?_;rintro e w1 ⟨rfl,xA⟩)
   go_ret
   exact⟨rfl,xA⟩
theorem O1(w:World)(k:Int):Calls prog 58 #[.int .i64 k] w fun e w'=>e = .returned (.int .i64 (chk k))∧w'=w:=by
 unfold chk
 go_enter func58,ntmps58
 by_cases h1:k<1
 ·rw[Lk (.inl h1)];go_wp2
  go_ret
  simp
 ·by_cases h2:32<k
  ·rw[Lk (.inr h2)];go_wp2
   go_ret
   simp
  ·rw[Le (by omega)]
   go_wp2
   go_ret
   simp
theorem UA(w:World)(f:Int)(a b:BA)(hs:a.size<2305843009213693952)(hs2:b.size<2305843009213693952)(r:BA)(hr:(QU [f]++a)++b=r) :
  Calls prog 187 #[.int .u8 f,.string a,.string b] w fun e w'=>e = .returned (.string r)∧Below w.heap.size w w':=by
 subst hr;have cv:=Jk w f;have hz:=Y8 f;generalize QU [f]=z at *;have xB : ¬(9223372036854775807<1+a.size):=by omega
 have xA : ¬(9223372036854775807<1+a.size+b.size):=by omega
 go_enter func187,ntmps187;go_wp2
 go_ret
 exact⟨rfl,bal (Lb _ _) _⟩
theorem Qlz(a:BA):a++(⟨#[]⟩:BA)=a:=by
 have:=ByteArray.append_empty (b:=a);exact this
theorem QdF(w:World)(s:BA)(hs:s.size<2305843009213693952) :
  Calls prog 283 #[.string s] w fun e w'=>e = .returned (.string (Uf s))∧Below w.heap.size w w':=by
 have HT:=UA w 0 s ⟨#[]⟩ hs (by decide) (Uf s) (by rw[Qlz];rfl)
 generalize Uf s=r at *
 go_enter func283,ntmps283
 go_wp2_with (go_at_call 187;with_reducible refine HT.mono ?_;rintro e w1 ⟨rfl,xA⟩)
 go_ret
 exact⟨rfl,xA⟩
theorem QdG(w:World)(a b:BA)(hs:a.size<2305843009213693952)(hs2:b.size<2305843009213693952) :
  Calls prog 284 #[.string a,.string b] w fun e w'=>e = .returned (.string (QV a b))∧Below w.heap.size w w':=by
 have HT:=UA w 1 a b hs hs2 (QV a b) rfl;generalize QV a b=r at *
 go_enter func284,ntmps284
 go_wp2_with (go_at_call 187;with_reducible refine HT.mono ?_;rintro e w1 ⟨rfl,xA⟩)
 go_ret
 exact⟨rfl,xA⟩
theorem QeZ(w:World)(a b:BA)(hs:a.size<2305843009213693952)(hs2:b.size<2305843009213693952)(r:BA)(hr:bagT a b=r) :
  Calls prog 188 #[.string a,.string b] w fun e w'=>e = .returned (.string r)∧Below w.heap.size w w':=by
 have HT:=UA w 2 a b hs hs2 r hr
 go_enter func188,ntmps188
 go_wp2_with (go_at_call 187;with_reducible refine HT.mono ?_;rintro e w1 ⟨rfl,xA⟩)
 go_ret
 exact⟨rfl,xA⟩
theorem Qe0(w:World)(ht:Tr w)(k:Int)(s:BA)(hs:s.size<140737488355328)(r:BA)(hr:dg (clk k) (Uf s)=r) :
  Calls prog 189 #[.int .i64 k,.string s] w fun e w'=>e = .returned (.string r)∧Below w.heap.size w w':=by
 have HL:=QdF w s (by omega)
 have HO:Hid (∀W,Below w.heap.size w W->Calls prog 108 #[.int .i64 k,.string (Uf s)] W fun e w'=>e = .returned (.string r)∧Below W.heap.size W w'):=fun W hb=>JV W (ht.next hb) k _ (by rw[QbB];omega) r hr
 clear hr ht hs;generalize Uf s=t at *
 go_enter func189,ntmps189
 go_wp2_with (first
  | (go_at_call 283;with_reducible refine HL.mono ?_;rintro e w1 ⟨rfl,xA⟩)
  | (go_at_call 108;with_reducible refine(HO.out _ xA).mono ?_;rintro e w2 ⟨rfl,xB⟩))
 go_ret
 exact⟨rfl,Qa xA xB⟩
theorem Qe1(w:World)(ht:Tr w)(k:Int)(a b:BA)(hs:a.size<140737488355328)(hs2:b.size<140737488355328)(r:BA)(hr:dg (clk k) (QV a b)=r) :
  Calls prog 190 #[.int .i64 k,.string a,.string b] w fun e w'=>e = .returned (.string r)∧Below w.heap.size w w':=by
 have HL:=QdG w a b (by omega) (by omega)
 have HO:Hid (∀W,Below w.heap.size w W->Calls prog 108 #[.int .i64 k,.string (QV a b)] W fun e w'=>e = .returned (.string r)∧Below W.heap.size W w'):=fun W hb=>JV W (ht.next hb) k _ (by rw[QbG];omega) r hr
 clear hr ht hs hs2;generalize QV a b=t at *
 go_enter func190,ntmps190
 go_wp2_with (first
  | (go_at_call 284;with_reducible refine HL.mono ?_;rintro e w1 ⟨rfl,xA⟩)
  | (go_at_call 108;with_reducible refine(HO.out _ xA).mono ?_;rintro e w2 ⟨rfl,xB⟩))
 go_ret
 exact⟨rfl,Qa xA xB⟩
end Go.Proofs.YtoblgjledefdbaaGreatDoor
