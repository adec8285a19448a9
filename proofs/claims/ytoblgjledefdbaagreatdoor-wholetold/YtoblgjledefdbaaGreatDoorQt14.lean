/- Own work. -/
import Derived.Test.YtoblgjledefdbaaGreatDoorQt13
set_option maxRecDepth 100000
set_option maxHeartbeats 2000000
namespace Go.Proofs.YtoblgjledefdbaaGreatDoor
open Go.RowKit
attribute [local go_sem ↓] Go.wp_at_zero Go.wp_at_succ
open Go.Proofs.Tryz
variable{w w2:World}{B cap g n:Nat}{l:List Int}
theorem Ol(a b:BA):tB (a++b)=tB a++tB b:=by simp[tB]
theorem Qqw:(prog.info? 5).map (fun i=>(i.zero,i.size,i.bytes))=some (some (.int .u8 0),1,1):=by kernel_rfl
theorem Qka(w:World)(b:Nat)(l:List Int)(n cap:Nat)(hl:l.length=n)(h:w.rangeAt b 0 (cB l)):(convert 127 9 (.slice (Zp b) n cap)).run prog w= .ok (.string (QY l)) w:=by
 subst hl;rw[run_convert_bytes_string w 127 9 5 _ _ _ underlying127 underlying5 underlying9];refine run_bytesToString w ⟨b,0,none⟩ l.length cap l ?_
 have:=run_loadCells_list (P:=prog) w ⟨b,0,none⟩ (cB l) (fun j v hv=>by rw[Addr.add_mid];exact h j v hv)
 rwa [QA] at this
theorem Qcm{base:Nat}(h:w.ownsRow base 5 1 (.slice (Zp g) n cap) n (cB l)):w.rangeAt g 0 (cB l)∧base<=g:=by
 obtain⟨h1,h2⟩:=h
 rcases h2 with ⟨h2,_⟩|⟨g',cap',cur,hv,hg,hh,hn,hc,hs,ht⟩
 ·cases h2
 ·injection hv with e1 e2 e3
  injection e1 with e1
  injection e1 with e1
  subst e1;refine⟨fun j v hj=> ?_,hg⟩
  rw[Ll,cell_of_row w g j cur 5 (0,0) hh];rw[<-ht,LT] at hj
  split at hj
  ·simpa using hj
  ·cases hj
theorem QiZ{base:Nat}{v:Value}{xs:List Value}(h:w.ownsRow base 5 1 v n xs)(hn:0<n):∃g cap,v= .slice (Zp g) n cap∧base<=g:=by
 obtain⟨h1,h2⟩:=h
 rcases h2 with ⟨_,h2⟩|⟨g,cap,cur,hv,hg,_⟩
 ·omega
 ·exact⟨g,cap,hv,hg⟩
theorem QcY(z:Nat):Bytes (128::List.replicate z 0):=by
 intro x hx
 rcases List.mem_cons.1 hx with rfl|hx
 ·omega
 ·rw[List.eq_of_mem_replicate hx];omega
theorem Ox(h:Below w.drew.heap.size w.drew w2)(hB:B<=w.heap.size):Below B w w2 :=
 ⟨h.os,h.tape,h.output,h.size,fun k hk=>h.block k (Lz hk hB)⟩
theorem Ql6(r:BA)(p q:Nat):tB (r.extract p q)=((tB r).drop p).take (q-p):=by
 have:(r.extract p q).data.toList=(r.data.toList.drop p).take (q-p):=by
  rw[Ii];simp[Array.toList_extract,List.extract]
 rw[tB,this,tB,NK,IQ]
theorem Qld(H:List Int)(m:Nat):(outR H m).length=4*m:=by
 induction m with
 | zero=>rfl
 | succ m ih=>rw[outR,Lc,ih,Jz];omega
theorem Qmr(x:Int):0<=IntKind.u32.wrap x∧IntKind.u32.wrap x<4294967296:=by rw[IntKind.wrap_u32'];omega
theorem Qmk(h:∀x∈l,0<=x∧x<4294967296)(i:Nat):0<=l.getD i 0∧l.getD i 0<4294967296:=by
 rw[Ld]
 cases e:l[i]? with
 | none=>exact⟨by decide,by decide⟩
 | some x=>exact h x (N8 e)
theorem Qoj(rs t:List Int)(k i:Nat):0<=(stN rs IV t k).getD i 0∧(stN rs IV t k).getD i 0<4294967296:=by
 refine Qmk (fun x hx=> ?_) i
 cases k with
 | zero=>simp[stN,IV] at hx;omega
 | succ k=>
  rw[stN,YS,sumI] at hx;simp only[List.mem_cons,List.not_mem_nil,or_false] at hx
  rcases hx with rfl|rfl|rfl|rfl|rfl|rfl|rfl|rfl <;> exact Qmr _
theorem Qf4{x:Int}(h0:0<=x)(h1:x<4294967296):IntKind.u64.wrap x=x:=by
 simp[IntKind.wrap,IntKind.bits,IntKind.signed];omega
theorem QpW{o:Obj}(h:w.heap[g]? = some o):g<w.heap.size:=by
 rcases Iv g w.heap.size with h'|h'
 ·exact h'
 ·rw[Array.getElem?_eq_none h'] at h;cases h
theorem endz(L:Nat):∃z,z<64∧(L+(z+1)+8)%64=0:=⟨(64-(L+9)%64)%64,by omega,by omega⟩
theorem Qi9(w:World)(ao:OA)(b off len cap:Nat)(ss:LB)(hl:ss.length=len)(hao:0<len->ao=some ⟨b,off,none⟩)(hs:w.rangeAt b off (ss.map Value.string))
  (hmx:len<=1048576) (rs:List Int) (hrl:rs.length=64) (hr:w.rangeAt 1 0 (cW rs)) (hiv:w.rangeAt 0 0 (cW IV)) (hlen:(Qj ss).length<1152921504606846976) :
  Zr 186 #[.slice ao len cap] w (.string (shaS rs (Qj ss))):=by
 have zK:1<w.heap.size:=QF hr (by intro h;have:=Lv List.length h;simp[Qm,hrl] at this)
 have xF:Hid (0<w.heap.size):=QF hiv (by intro h;cases h)
 go_enter func186,ntmps186;go_wp2
 go_loopg [3,4] len (fun g x i wx=>w=wx ∧ ∃(k:Nat) (text:BA),k<=len∧g=len-k∧x= .string text∧i= .int .i64 k∧Hid (tB text=Qj (ss.take k)))
 case atStart=>go_light;exact⟨rfl,0,_,Ln _,rfl,rfl,rfl,rfl⟩
 case round=>
  obtain⟨rfl,k,text,hk,rfl,rfl,rfl,HT⟩:=hrel
  by_cases hlt:k<len
  ·obtain rfl:=hao (by omega)
   have yW:k<ss.length:=by omega
   have ck:w.cell? ⟨b,off+k,none⟩=some (.string (ss.getD k ByteArray.empty)) :=
    hs k _ (by simp[List.getElem?_eq_getElem yW,List.getD_eq_getElem?_getD])
   have hz:(k:Int)<(len:Int):=by omega
   have yA:=U0 ss k yW;have zB:(Qj (ss.take (k+1))).length<=(Qj ss).length:=Qad _ _;have xU:text.size=(Qj (ss.take k)).length:=by rw[<-Yo,HT.out]
   have yE:¬(9223372036854775807<text.size+(ss.getD k ByteArray.empty).size):=by
    rw[yA,Lc,Yo] at zB;omega
   have HF:Hid (tB (text++ss.getD k ByteArray.empty)=Qj (ss.take (k+1))):=by
    show _=_
    rw[Ol,HT.out,yA]
   clear yA zB xU;generalize ss.getD k ByteArray.empty=part at *;go_wp2
   go_roundg (len-(k+1))
   case rel=>go_light;exact⟨rfl,k+1,_,by omega,rfl,rfl,by go_num,HF.out⟩
   case measure=>go_light;omega
  ·obtain rfl:k=len:=by omega
   have hz:¬(k:Int)<(k:Int):=by omega
   have hT:=HT.out;rw[Lp (by omega)] at hT
   have xU:text.size=(Qj ss).length:=by rw[<-Yo,hT]
   have zI:Hid (tB text=Qj ss):=hT;clear hT HT hs hao hl;obtain⟨zN,zE,zF⟩:=endz text.size;obtain⟨i0,hi,zV,yM,yN⟩:=info_parts Qqw;have yU:(w.alloc (.cells #[.int .u8 128] 5)).ownsRow w.heap.size 5 1 (.slice (Zp w.heap.size) 1 1) 1 (cB (128::List.replicate 0 0)) :=
    ⟨rfl,Or.inr ⟨w.heap.size,1,#[.int .u8 128],rfl,La _,LC _ _,La _,by unfold maxLen;omega,rfl,rfl⟩⟩
   have yV:Bl w (w.alloc (.cells #[.int .u8 128] 5)):=(Lb _ _).alloc (La _) _;have HZ:Hid (zN<64∧(text.size+(zN+1)+8)%64=0):=⟨zE,zF⟩;have xP:(text.size:Int)<1152921504606846976:=by omega
   have zC:(0:Int)<=(text.size:Int):=Lh _;have xZ:Hid (text.size=(Qj ss).length):=xU;clear zE zF xU
   go_upto_region 7 with (fail)
   generalize w.alloc (.cells #[.int .u8 128] 5)=w1 at *
   go_loopg [5] zN (fun g v wi=> ∃(z n g' cap':Nat),n=z+1∧z<=zN∧g=zN-z∧v= .slice (Zp g') n cap'∧wi.ownsRow w.heap.size 5 1 v n (cB (128::List.replicate z 0))∧Bl w wi)
   case atStart=>go_light;exact⟨0,1,_,_,rfl,Ln _,rfl,rfl,yU,yV⟩
   case round=>
    clear yU yV;obtain⟨z,n,g',cap',yG,yL,rfl,rfl,hO,hb⟩:=hrel;obtain⟨s1,yI⟩:∃s1:Nat,text.size+n=s1:=⟨_,rfl⟩;obtain⟨s2,yJ⟩:∃s2:Nat,s1+8=s2:=⟨_,rfl⟩;have hZ:=HZ.out;have e1:IntKind.i64.wrap ((text.size:Int)+(n:Int))=(s1:Int):=by rw[Q1 _ (by omega) (by omega)];omega
    have e2:IntKind.i64.wrap ((s1:Int)+8)=(s2:Int):=by rw[Q1 _ (by omega) (by omega)];omega
    have b2:(0:Int)<=(s2:Int):=Lh _;have HN:Hid (n=z+1∧z<=zN∧text.size+n=s1∧s1+8=s2):=⟨yG,yL,yI,yJ⟩;have yD:n<=64:=by omega
    by_cases hne:z<zN
    ·have hm:((s2:Int)%64 == 0)=false:=by rw[beq_eq_false_iff_ne];omega
     have yQ:Hid (z<zN):=hne;have HG:Hid (w.heap.size<=g'):=(Qcm hO).2;clear hZ yG yL yI yJ xP zC hne;have zY:w.heap.size<=wr.heap.size:=hb.size;have HO:Hid (∀o,(wr.alloc o).ownsRow w.heap.size 5 1 (.slice (Zp g') n cap') n (cB (128::List.replicate z 0))):=fun o=>by
      obtain⟨h1,h2⟩:=hO;refine⟨h1,?_⟩
      rcases h2 with ⟨h2,_⟩|⟨g,cp,cur,hv,hg,hh,r⟩
      ·cases h2
      ·exact Or.inr ⟨g,cp,cur,hv,hg,by rw[Below.heap_alloc _ _ _ (QpW hh)];exact hh,r⟩
     have Hb:Hid (∀o,Bl w (wr.alloc o)):=fun o=>hb.alloc hb.size o
     have zO:Hid ((n+1)*1<=140737488355328):=by show _<=_;omega
     have yC:Hid (n+1<=maxLen):=by show _<=_;unfold maxLen;omega
     clear hO hb
     go_upto_region 8 with (fail)
     go_wp2_with (at_builtin;(refine wpList_append_own _ rfl _ _ 127 rfl w.heap.size 5 i0 (.int .u8 0) 1 1 underlying127 hi zV yM yN rfl (by decide) _ _ _ rfl (HO.out _) ⟨wr.heap.size,0,none⟩ 1 1 [.int .u8 0] rfl rfl (cell_one_new _ _ _) (fun x hx=>by simp at hx;subst hx;rfl) yC.out zO.out (by simp;omega) ?_);intro v' w2 hown' hg' hne')
     obtain⟨g2,xI,zD,yB⟩:=QiZ hown' (Nat.succ_pos _);rw[zD] at hown' ⊢;have HR:Hid (w2.ownsRow w.heap.size 5 1 (.slice (Zp g2) (n+1) xI) (n+1) (cB (128::List.replicate (z+1) 0))):=by
      have e:cB (128::List.replicate z 0)++[Value.int IntKind.u8 0]=cB (128::List.replicate (z+1) 0):=by
       rw[List.replicate_succ'];simp[cB]
      rw[<-e];exact hown'
     have zG:Hid (Bl w w2):=(Hb.out _).grown hg' (by simp;omega) (fun j hj=>by cases hj;exact HG.out)
     clear hown' hg' hne' zD
     go_roundg (zN-(z+1))
     case rel=>go_light;have:=HN.out;have:=HZ.out;exact⟨z+1,n+1,g2,xI,by omega,by have:=yQ.out;omega,rfl,rfl,HR.out,zG.out⟩
     case measure=>go_light;have:=yQ.out;omega
    ·have zW:z=zN:=by omega
     subst zW;have hm:((s2:Int)%64 == 0)=true:=by rw[beq_iff_eq];omega
     obtain⟨yH,yB⟩:=Qcm hO;have xG:g'<wr.heap.size:=QF yH (by simp[cB])
     have yO:Hid (w.heap.size<=g'):=yB;have xV:Hid (Bl w wr):=hb;have yK:(QY (128::List.replicate z 0)).size=n:=by rw[<-Yo,Om (QcY z)];simp;omega
     have zQ:=fun w' h=>Qka w' g' (128::List.replicate z 0) n cap' (by simp;omega) h
     have yE:¬(9223372036854775807<text.size+n):=by omega
     have yP:Hid (∀w',Below wr.drew.heap.size wr.drew w'->w'.rangeAt g' 0 (cB (128::List.replicate z 0))):=fun w' h=>Qn h xG (by rw[World.rangeAt_drew];exact yH)
     have zM:IntKind.u64.wrap (8*IntKind.u64.wrap (text.size:Int))=8*(text.size:Int):=by
      simp[IntKind.wrap,IntKind.bits,IntKind.signed];omega
     have xD:=fun w'=>big8 (8*(text.size:Int)) (by omega) (by omega) w'
     have xO:(QY (tl (8*(text.size:Int)) 8)).size=8:=by rw[<-Yo,Om (QaH _ _),Jz]
     have yF:¬(9223372036854775807<text.size+n+8):=by omega
     clear hO hb yB hZ yG yL yI yJ xP zC hne
     go_upto_region 9 with (fail)
     go_region_held3 (fun w'=>w'.rangeAt g' 0 (cB (128::List.replicate z 0))) (first|assumption|(rw[World.rangeAt_drew];assumption)|(exact yP.out _ (by assumption))) (first|(go_at_call 281;refine(xD _).mono ?_;rintro e w2 ⟨rfl,xE⟩))
     have xB:Hid (Bl w w2):=xV.out.trans (Ox xE xV.out.size);generalize hall:(text++QY (128::List.replicate z 0))++QY (tl (8*(text.size:Int)) 8)=all at *;have xC:Hid (tB all=msg (Qj ss) z):=by
      show _=_
      have e:=zI.out;rw[<-hall,Ol,Ol,Om (QcY z),Om (QaH _ _),msg,e,xZ.out]
     clear hall xE xD zQ yP zM yE yF yK xO;have v0:w2.cell? ⟨0,0,none⟩=some (.int .u32 1779033703):=by rw[xB.out.cell (p:=⟨0,0,none⟩) xF.out];exact Qd hiv (i:=0) (by decide)
     have v1:w2.cell? ⟨0,1,none⟩=some (.int .u32 3144134277):=by rw[xB.out.cell (p:=⟨0,1,none⟩) xF.out];exact Qd hiv (i:=1) (by decide)
     have v2:w2.cell? ⟨0,2,none⟩=some (.int .u32 1013904242):=by rw[xB.out.cell (p:=⟨0,2,none⟩) xF.out];exact Qd hiv (i:=2) (by decide)
     have v3:w2.cell? ⟨0,3,none⟩=some (.int .u32 2773480762):=by rw[xB.out.cell (p:=⟨0,3,none⟩) xF.out];exact Qd hiv (i:=3) (by decide)
     have v4:w2.cell? ⟨0,4,none⟩=some (.int .u32 1359893119):=by rw[xB.out.cell (p:=⟨0,4,none⟩) xF.out];exact Qd hiv (i:=4) (by decide)
     have v5:w2.cell? ⟨0,5,none⟩=some (.int .u32 2600822924):=by rw[xB.out.cell (p:=⟨0,5,none⟩) xF.out];exact Qd hiv (i:=5) (by decide)
     have v6:w2.cell? ⟨0,6,none⟩=some (.int .u32 528734635):=by rw[xB.out.cell (p:=⟨0,6,none⟩) xF.out];exact Qd hiv (i:=6) (by decide)
     have v7:w2.cell? ⟨0,7,none⟩=some (.int .u32 1541459225):=by rw[xB.out.cell (p:=⟨0,7,none⟩) xF.out];exact Qd hiv (i:=7) (by decide)
     have xS:Hid ((w2.alloc (.cells #[.int .u32 1779033703,.int .u32 3144134277,.int .u32 1013904242,.int .u32 2773480762,.int .u32 1359893119,.int .u32 2600822924,.int .u32 528734635,.int .u32 1541459225] 346)).rangeAt w2.heap.size 0 (cW (stN rs IV (tB all) 0))∧(w2.alloc (.cells #[.int .u32 1779033703,.int .u32 3144134277,.int .u32 1013904242,.int .u32 2773480762,.int .u32 1359893119,.int .u32 2600822924,.int .u32 528734635,.int .u32 1541459225] 346)).there w2.heap.size 0 8∧Bl w (w2.alloc (.cells #[.int .u32 1779033703,.int .u32 3144134277,.int .u32 1013904242,.int .u32 2773480762,.int .u32 1359893119,.int .u32 2600822924,.int .u32 528734635,.int .u32 1541459225] 346))) :=
      ⟨Qv w2 (cW IV) 346,Ql w2 #[.int .u32 1779033703,.int .u32 3144134277,.int .u32 1013904242,.int .u32 2773480762,.int .u32 1359893119,.int .u32 2600822924,.int .u32 528734635,.int .u32 1541459225] 346 8 (by simp),xB.out.alloc xB.out.size _⟩
     have yS:Hid (w.heap.size<=w2.heap.size):=xB.out.size
     go_upto_region 11 with (fail)
     clear v0 v1 v2 v3 v4 v5 v6 v7;generalize w2.alloc (.cells #[.int .u32 1779033703,.int .u32 3144134277,.int .u32 1013904242,.int .u32 2773480762,.int .u32 1359893119,.int .u32 2600822924,.int .u32 528734635,.int .u32 1541459225] 346)=w3 at *;generalize w2.heap.size=Sg at *;obtain⟨nb,yY⟩:∃nb,all.size=64*nb:=by
      have e:=Lv List.length xC.out;rw[Yo] at e;have xT:(msg (Qj ss) z).length=(Qj ss).length+(z+1)+8:=by simp[msg,Jz];omega
      have:=HZ.out.2;have:=xZ.out;exact⟨all.size/64,by omega⟩
     have xK:all.size<2305843009213693952:=by
      have e:=Lv List.length xC.out;rw[Yo] at e;have xT:(msg (Qj ss) z).length=(Qj ss).length+(z+1)+8:=by simp[msg,Jz];omega
      have:=HZ.out.1;omega
     have yR:Hid (all.size=64*nb∧all.size<2305843009213693952):=⟨yY,xK⟩;have HX:Hid (w.heap.size<=g'∧g'<wr.heap.size):=⟨yO.out,xG⟩;clear yY xK xG yH xV xB yO e1 e2 b2 yD hm HN;go_wp2
     go_loopg [8] nb (fun g i wi=> ∃(j p:Nat),p=64*j∧j<=nb∧g=nb-j∧i= .int .i64 p∧wi.rangeAt Sg 0 (cW (stN rs IV (tB all) j))∧wi.there Sg 0 8∧Bl w wi)
     case atStart=>go_light;exact⟨0,0,rfl,Ln _,rfl,rfl,xS.out.1,xS.out.2.1,xS.out.2.2⟩
     case round=>
      clear xS HX;obtain⟨j,p,hp,hj,rfl,rfl,xA,xR,hb⟩:=hrel;have hN:=yR.out
      by_cases hjl:j<nb
      ·obtain⟨q,hq⟩:∃q:Nat,p+64=q:=⟨_,rfl⟩;have zX:IntKind.i64.wrap ((p:Int)+64)=(q:Int):=by rw[Q1 _ (by omega) (by omega)];omega
       have b0:(0:Int)<=(p:Int):=Lh _;have b1:(p:Int)<=(q:Int):=by omega
       have b2:(q:Int)<=(all.size:Int):=by omega
       have b3:(p:Int)<(all.size:Int):=by omega
       have zR:(all.extract p q).size=64:=by rw[ByteArray.size_extract];omega
       have zU:wr.rangeAt 1 0 (cW rs):=Qn hb zK hr;have zT:wr.drew.rangeAt 1 0 (cW rs):=by rw[World.rangeAt_drew];exact zU
       have xH:(stN rs IV (tB all) j).length=8:=QeB rfl j;have xX:Hid (YS rs (stN rs IV (tB all) j) (tB (all.extract p q))=stN rs IV (tB all) (j+1)):=by
        show _=_
        rw[stN,Ql6,hp]
        congr 2
        omega
       obtain⟨st,xN⟩:∃st,st=stN rs IV (tB all) j:=⟨_,rfl⟩;rw[<-xN] at xA xH xX;clear xN;obtain⟨s0,s1,s2,s3,s4,s5,s6,s7,rfl⟩:=Qcc xH;have c0:wr.cell? ⟨Sg,0,none⟩=some (.int .u32 s0):=Qd xA (i:=0) (by simp)
       have c1:wr.cell? ⟨Sg,1,none⟩=some (.int .u32 s1):=Qd xA (i:=1) (by simp)
       have c2:wr.cell? ⟨Sg,2,none⟩=some (.int .u32 s2):=Qd xA (i:=2) (by simp)
       have c3:wr.cell? ⟨Sg,3,none⟩=some (.int .u32 s3):=Qd xA (i:=3) (by simp)
       have c4:wr.cell? ⟨Sg,4,none⟩=some (.int .u32 s4):=Qd xA (i:=4) (by simp)
       have c5:wr.cell? ⟨Sg,5,none⟩=some (.int .u32 s5):=Qd xA (i:=5) (by simp)
       have c6:wr.cell? ⟨Sg,6,none⟩=some (.int .u32 s6):=Qd xA (i:=6) (by simp)
       have c7:wr.cell? ⟨Sg,7,none⟩=some (.int .u32 s7):=Qd xA (i:=7) (by simp)
       have xM:=fun w' h=>QiP [s0,s1,s2,s3,s4,s5,s6,s7] rfl (all.extract p q) zR w' rs hrl h
       rw[xX.out] at xM;have yT:(stN rs IV (tB all) (j+1)).length=8:=QeB rfl _;generalize hFE:stN rs IV (tB all) (j+1)=F at *;have zH:Hid (stN rs IV (tB all) (j+1)=F):=hFE;clear hFE;have zA:∀w':World,w'.there Sg 0 8->(storeCells ⟨Sg,0,none⟩ (cW F)).run prog w'= .ok () (w'.setCells Sg 0 (cW F)):=fun w' h=>by
        have yX:(cW F).length=8:=by rw[Qm,yT]
        have:=run_storeCells_cells (P:=prog) Sg 0 (cW F) 0 w' (by rw[yX];intro j hj;simpa using (h j hj).1) (by rw[yX];intro j hj;simpa using (h j hj).2) (Uz F)
        simpa using this
       have zP:(cW F).length=8:=by rw[Qm,yT]
       have HK:Hid (∀w',Below wr.drew.heap.size wr.drew w'->w'.there Sg 0 8∧Bl w w'):=fun w' h=>⟨QX h (JZ xR (by decide)) (by rw[World.there_drew];exact xR),hb.trans (Ox h hb.size)⟩
       have HP:Hid (p=64*j∧p+64=q):=⟨hp,hq⟩;clear hp hq xA xR hb xX hN xH
       go_upto_region 14 with (fail)
       go_region_with (go_at_call 282;refine(xM _ zT).mono ?_;rintro e w4 ⟨rfl,xE⟩;have xQ:=(HK.out _ xE).1)
       have zJ:Hid (Bl w w4):=(HK.out _ xE).2;clear HK xE;go_wp2
       go_roundg (nb-(j+1))
       case rel=>
        go_light;have:=HP.out;have:=yS.out;refine⟨j+1,q,by omega,by omega,rfl,?_,?_,World.there_setCells xQ _ _ _,Qq zJ.out yS.out _ _⟩
        ·have:(p:Int)+64=(q:Int):=by omega
         first|rw[this]|rfl
        ·rw[zH.out];exact World.rangeAt_setCells_same _ _ _ _ (by rw[zP];exact xQ)
       case measure=>go_light;omega
      ·have zS:j=nb:=by omega
       subst zS;have zZ:¬((p:Int)<(all.size:Int)):=by omega
       have zL:(stN rs IV (tB all) j).length=8:=QeB rfl j;have xJ:∀i,0<=(stN rs IV (tB all) j).getD i 0∧(stN rs IV (tB all) j).getD i 0<4294967296:=fun i=>Qoj rs _ j i
       have xY:Hid (QY (Jd (stN rs IV (tB all) j) 8)=shaS rs (Qj ss)):=by
        show _=_
        have e:=xC.out;have xT:(msg (Qj ss) z).length=all.size:=by rw[<-e,Yo]
        have hz:=HZ.out;rw[xZ.out] at hz;have:=Qnr rs (Qj ss) z hlen hz.2 hz.1;rw[xT,show all.size/64=j by omega] at this
        rw[e,this,shaS,shaT]
       have HP:Hid (Sg<wr.heap.size):=JZ xR (by decide)
       clear hp hj hN xR yR xC hjl;generalize stN rs IV (tB all) j=H at *;go_wp2
       go_loopg [9,10] 8 (fun g x i wi=> ∃(m:Nat) (out:BA),m<=8∧g=8-m∧x= .string out∧i= .int .i64 m∧Hid (tB out=outR H m)∧wi.rangeAt Sg 0 (cW H)∧Bl w wi)
       case atStart=>go_light;exact⟨0,_,Ln _,rfl,rfl,rfl,rfl,xA,hb⟩
       case round=>
        clear xA hb HP;obtain⟨m,out,hm,rfl,rfl,rfl,HO,xA,hb⟩:=hrel;have yZ:out.size=4*m:=by rw[<-Yo,HO.out,Qld]
        by_cases xT:m<8
        ·have m0:(0:Int)<=(m:Int):=Lh _;have m8:(m:Int)<8:=by omega
         have cm:=Qd xA (i:=m) (by omega)
         have hx:=xJ m;have kA:IntKind.u64.wrap (H.getD m 0)=H.getD m 0:=Qf4 hx.1 hx.2;have xD:=fun w'=>big4 (H.getD m 0) hx.1 (by omega) w'
         have xO:(QY (tl (H.getD m 0) 4)).size=4:=by rw[<-Yo,Om (QaH _ _),Jz]
         have yE:¬(9223372036854775807<out.size+4):=by omega
         have HF:Hid (tB (out++QY (tl (H.getD m 0) 4))=outR H (m+1)):=by
          show _=_
          rw[Ol,HO.out,Om (QaH _ _),outR]
         have xL:Sg<wr.heap.size:=QF xA (by intro h;have:=Lv List.length h;rw[Qm,zL] at this;cases this)
         have HK:Hid (∀w',Bl wr w'->w'.rangeAt Sg 0 (cW H)∧Bl w w'):=fun w' h=>⟨Qn h xL xA,hb.trans (h.mono hb.size)⟩
         clear xA hb xJ yZ xL;generalize H.getD m 0=x at *
         go_wp2_with (go_at_call 281;refine(xD _).mono ?_;rintro e w5 ⟨rfl,xE⟩)
         go_roundg (8-(m+1))
         case rel=>go_light;exact⟨m+1,_,by omega,rfl,rfl,by go_num,HF.out,(HK.out _ xE).1,(HK.out _ xE).2⟩
         case measure=>go_light;omega
        ·obtain rfl:m=8:=by omega
         have xW:Hid (out=shaS rs (Qj ss)):=by
          show _=_
          rw[<-xY.out,<-QnK,<-HO.out,Qoq]
         have Hb:Hid (Bl w wr):=hb;clear xA hb yZ;go_wp2
         go_ret
         exact⟨by rw[<-xW.out];rfl,Hb.out⟩
structure Tr(w:World):Prop where
 rr:w.rangeAt 1 0 (cW RS)
 iv:w.rangeAt 0 0 (cW IV)
theorem Tr.next{W:World}(h:Tr w)(hb:Bl w W):Tr W :=
 ⟨Qn hb (QF h.rr (QeS (by rw[OG];decide))) h.rr,Qn hb (QF h.iv (QeS (by decide))) h.iv⟩
theorem QnX(w:World)(ht:Tr w)(t:BA)(hs:t.size<1152921504606846976)(r:BA)(hr:shaS RS (tB t)=r) :
  Calls prog 186 #[.slice (Zp w.heap.size) 1 1] (w.alloc (.cells #[.string t] 9)) fun e w'=>e= .returned (.string r)∧Bl w w':=by
 subst hr;have e:Qj [t]=tB t:=by simp[Qj]
 refine(Qi9 _ (Zp w.heap.size) w.heap.size 0 1 1 [t] rfl (fun _=>rfl) (Qv w [.string t] 9) (by decide) RS OG (World.rangeAt_alloc ht.rr _) (World.rangeAt_alloc ht.iv _) (by rw[e,Yo];exact hs)).mono fun e' w' ⟨he,hb'⟩=>⟨?_,?_⟩
 ·rw[he,e]
 ·exact((Lb _ _).alloc (La _) _).trans (hb'.mono (by simp))
theorem Oi(w:World)(ht:Tr w)(k:Int)(t:BA)(hs:t.size<1152921504606846976)(r:BA)(hr:dg (clk k) t=r) :
  Zr 108 #[.int .i64 k,.string t] w (.string r):=by
 subst hr;have HS:=QnX w ht t hs _ rfl;unfold dg;have hz:=Qa6 RS (tB t);generalize shaS RS (tB t)=z at *;clear ht hs;unfold clk
 go_enter func108,ntmps108
 by_cases h1:k<1
 ·rw[Lf h1]
  go_wp2_with (go_at_call 186;with_reducible refine HS.mono ?_;rintro e w1 ⟨rfl,xA⟩)
  go_ret
  exact⟨rfl,xA⟩
 ·by_cases h2:32<k
  ·rw[Le h1,Lf h2]
   go_wp2_with (go_at_call 186;with_reducible refine HS.mono ?_;rintro e w1 ⟨rfl,xA⟩)
   go_ret
   exact⟨rfl,xA⟩
  ·rw[Le h1,Le h2];obtain⟨c,rfl⟩:∃c:Nat,k=(c:Int):=⟨k.toNat,by omega⟩
   have h3:(0:Int)<=(c:Int):=by omega
   have h4:(c:Int)<=32:=by omega
   rw[LP]
   go_wp2_with (go_at_call 186;with_reducible refine HS.mono ?_;rintro e w1 ⟨rfl,xA⟩)
   go_ret
   exact⟨rfl,xA⟩
theorem Qel(w:World)(k:Int):Re 58 #[.int .i64 k] w (.int .i64 (chk k)):=by
 unfold chk
 go_enter func58,ntmps58
 by_cases h1:k<1
 ·rw[Lf (.inl h1)];go_wp2
  go_ret
  simp
 ·by_cases h2:32<k
  ·rw[Lf (.inr h2)];go_wp2
   go_ret
   simp
  ·rw[Le (by omega)]
   go_wp2
   go_ret
   simp
theorem UM(w:World)(f:Int)(a b:BA)(hs:a.size<2305843009213693952)(hs2:b.size<2305843009213693952)(r:BA)(hr:(QY [f]++a)++b=r) :
  Zr 187 #[.int .u8 f,.string a,.string b] w (.string r):=by
 subst hr;have cv:=JG w f;have hz:=Ue f;generalize QY [f]=z at *;have xB:¬(9223372036854775807<1+a.size):=by omega
 have xA:¬(9223372036854775807<1+a.size+b.size):=by omega
 go_enter func187,ntmps187;go_wp2
 go_ret
 exact⟨rfl,bal (Lb _ _) _⟩
theorem Qmy(a:BA):a++(⟨#[]⟩:BA)=a:=by
 have:=ByteArray.append_empty (b:=a);exact this
theorem Qem(w:World)(s:BA)(hs:s.size<2305843009213693952) :
  Zr 283 #[.string s] w (.string (Up s)):=by
 have HT:=UM w 0 s ⟨#[]⟩ hs (by decide) (Up s) (by rw[Qmy];rfl)
 generalize Up s=r at *
 go_enter func283,ntmps283
 go_wp2_with (go_at_call 187;with_reducible refine HT.mono ?_;rintro e w1 ⟨rfl,xA⟩)
 go_ret
 exact⟨rfl,xA⟩
theorem Qen(w:World)(a b:BA)(hs:a.size<2305843009213693952)(hs2:b.size<2305843009213693952) :
  Zr 284 #[.string a,.string b] w (.string (QN a b)):=by
 have HT:=UM w 1 a b hs hs2 (QN a b) rfl;generalize QN a b=r at *
 go_enter func284,ntmps284
 go_wp2_with (go_at_call 187;with_reducible refine HT.mono ?_;rintro e w1 ⟨rfl,xA⟩)
 go_ret
 exact⟨rfl,xA⟩
theorem QfB(w:World)(a b:BA)(hs:a.size<2305843009213693952)(hs2:b.size<2305843009213693952)(r:BA)(hr:bagT a b=r) :
  Zr 188 #[.string a,.string b] w (.string r):=by
 have HT:=UM w 2 a b hs hs2 r hr
 go_enter func188,ntmps188
 go_wp2_with (go_at_call 187;with_reducible refine HT.mono ?_;rintro e w1 ⟨rfl,xA⟩)
 go_ret
 exact⟨rfl,xA⟩
theorem QfC(w:World)(ht:Tr w)(k:Int)(s:BA)(hs:s.size<140737488355328)(r:BA)(hr:dg (clk k) (Up s)=r) :
  Zr 189 #[.int .i64 k,.string s] w (.string r):=by
 have HL:=Qem w s (by omega)
 have HO:Hr w 108 #[.int .i64 k,.string (Up s)] (.string r):=fun W hb=>Oi W (ht.next hb) k _ (by rw[Qca];omega) r hr
 clear hr ht hs;generalize Up s=t at *
 go_enter func189,ntmps189
 go_wp2_with (first
  | (go_at_call 283;with_reducible refine HL.mono ?_;rintro e w1 ⟨rfl,xA⟩)
  | (go_at_call 108;with_reducible refine(HO.out _ xA).mono ?_;rintro e w2 ⟨rfl,xB⟩))
 go_ret
 exact⟨rfl,Qa xA xB⟩
theorem QfD(w:World)(ht:Tr w)(k:Int)(a b:BA)(hs:a.size<140737488355328)(hs2:b.size<140737488355328)(r:BA)(hr:dg (clk k) (QN a b)=r) :
  Zr 190 #[.int .i64 k,.string a,.string b] w (.string r):=by
 have HL:=Qen w a b (by omega) (by omega)
 have HO:Hr w 108 #[.int .i64 k,.string (QN a b)] (.string r):=fun W hb=>Oi W (ht.next hb) k _ (by rw[Qch];omega) r hr
 clear hr ht hs hs2;generalize QN a b=t at *
 go_enter func190,ntmps190
 go_wp2_with (first
  | (go_at_call 284;with_reducible refine HL.mono ?_;rintro e w1 ⟨rfl,xA⟩)
  | (go_at_call 108;with_reducible refine(HO.out _ xA).mono ?_;rintro e w2 ⟨rfl,xB⟩))
 go_ret
 exact⟨rfl,Qa xA xB⟩
theorem Qds(x:Int)(l:List Int):QY [x]++QY l=QY (x::l):=by
 apply I8
 rw[ByteArray.data_append]
 apply Array.toList_inj.1
 rw[Array.toList_append,Jj,Jj,Jj]
 rfl
def tlL(n k:Nat):List Int:=(nbL n 8).drop (8-k)
theorem Qmb(n k:Nat)(h:k<8):((n/256^k%256:Nat):Int)::tlL n k=tlL n (k+1):=by
 unfold tlL;have hl:8-(k+1)<(nbL n 8).length:=by rw[Qd1];omega
 rw[LX hl,show 8-(k+1)+1=8-k by omega]
 congr 1
 have:(nbL n 8)[8-(k+1)]=((n/256^(7-(8-(k+1)))%256:Nat):Int):=by simp[nbL]
 rw[this,show 7-(8-(k+1))=k by omega]
theorem QoF(x:Int)(h0:0<=x)(h1:x<18446744073709551616):IntKind.u64.wrap x=x:=by
 simp[IntKind.wrap,IntKind.signed,IntKind.bits];omega
theorem Qeo(w:World)(n:Nat)(hn:n<18446744073709551616)(d:BA)(hs:d.size<2305843009213693952)(r:BA)(hr:UD n d=r) :
  Zr 109 #[.int .u64 n,.string d] w (.string r):=by
 have hB:=Lb w.heap.size w
 go_enter func109,ntmps109;go_wp2
 go_loopg [0,5,6] 8 (fun g a s i wr=> ∃(k N:Nat) (z:BA),k<=8∧g=8-k∧a= .int .u64 N∧s= .string z∧i= .int .i64 k∧Hid (N=n/256^k∧z=QY (tlL n k))∧z.size=k∧Bl w wr)
 case atStart=>go_light;exact⟨0,n,⟨#[]⟩,Ln _,rfl,rfl,rfl,rfl,⟨by simp,rfl⟩,rfl,hB⟩
 case round=>
  clear hB;obtain⟨k,N,z,hk,rfl,rfl,rfl,rfl,HE,hz,hb⟩:=hrel
  by_cases hlt:k<8
  ·have h1:(k:Int)<8:=by omega
   obtain⟨y,hy⟩:=Ze (QY [(N:Int)%256]);have cv:=fun W=>JG W ((N:Int)%256)
   have zy:=Ue ((N:Int)%256);rw[hy] at zy;simp only[hy] at cv;have HN:Hid ((N:Int)/256=((n/256^(k+1):Nat):Int)∧y++z=QY (tlL n (k+1))):=by
    have h:=HE.out;refine⟨?_,?_⟩
    ·rw[h.1,LH,<-L4];omega
    ·rw[<-hy,h.2,Qds,<-Qmb n k hlt,h.1];congr 2
   have xC:¬(9223372036854775807<1+k):=by omega
   have ew:IntKind.u64.wrap ((N:Int)/256)=(N:Int)/256:=by
    have h:=HE.out.1;have:N<=n:=by rw[h];exact N5 _ _
    exact QoF _ (by omega) (by omega)
   have xA:(y++z).size=k+1:=by rw[NA,zy,hz];omega
   have HZ:=Qc xA;clear hy HE xA;go_wp2
   go_roundg (8-(k+1))
   case rel=>go_light;exact⟨k+1,n/256^(k+1),y++z,by omega,rfl,by rw[<-HN.out.1],rfl,by go_num,⟨rfl,HN.out.2⟩,HZ.out,bal hb _⟩
   case measure=>go_light;omega
  ·obtain rfl:k=8:=by omega
   have xD:¬((8:Int)<8):=by decide
   have HT:=fun W=>UM W 3 z d (by omega) hs r (by
    rw[<-hr,HE.out.2,UD,Qds];rfl)
   rw[show((8:Nat):Int)=8 from rfl]
   clear HE hlt hk
   go_wp2_with (go_at_call 187;with_reducible refine(HT _).mono ?_;rintro e w1 ⟨rfl,xB⟩)
   go_ret
   exact⟨rfl,Qa hb xB⟩
theorem QcK(w:World)(ht:Tr w)(k:Int)(ao:OA)(b off len cap:Nat)(ss:LB)(hr:RdS w ao b off len ss)(hsz:∀s∈ss,s.size<=140737488351232)(hmx:len<=8796093022208)(r:BA)(hq:Q4 (clk k) ss=r) :
  Zr 110 #[.int .i64 k,.slice ao len cap] w (.string r):=by
 by_cases h0:len=0
 ·subst h0;have:ss=[]:=List.length_eq_zero_iff.1 hr.hl;subst this;subst hq
  go_enter func110,ntmps110;go_wp2
  go_ret
  exact⟨rfl,Lb _ _⟩
 ·have xA:0<len:=by omega
  obtain rfl:=hr.ptr xA;obtain⟨m,rfl⟩:∃m,len=m+1:=⟨len-1,by omega⟩
  have hc:=QK k;have xJ:¬((m:Int)+1=0):=by omega
  have cm:=hr.at (k:=m) (by omega)
  have HL:Hid (Q4 (clk k) (ss.drop m)=ss.getD m ByteArray.empty):=by
   have:=QcR (clk k) ss (by rw[hr.hl];omega)
   rw[hr.hl] at this;exact this
  have xH:Hid (∀d,d=Q4 (clk k) ss->True):=fun _ _=>trivial
  have HM:Hid (∀j,j<m+1->(ss.getD j ByteArray.empty).size<=140737488351232):=fun j hj=>hsz _ (Ud (by rw[hr.hl];exact hj))
  have HD:Hid (∀j,(Q4 (clk k) (ss.drop j)).size<=140737488351232):=fun j=>J4 hc (by decide) _ (fun s hs=>hsz s (Is hs))
  have HN:Hid (∀j,j<m->Q4 (clk k) (ss.drop j)=dg (clk k) (bagT (ss.getD j ByteArray.empty) (Q4 (clk k) (ss.drop (j+1))))):=fun j hj=>QcQ _ _ _ (by rw[hr.hl];omega)
  have HT:Hid (Tr w):=ht;have HR:Hid (RdS w (some ⟨b,off,none⟩) b off (m+1) ss):=hr;have HQ:Hid (Q4 (clk k) (ss.drop 0)=r):=hq;obtain⟨d0,xC⟩:=Ze (ss.getD m ByteArray.empty);rw[xC] at cm;have xD:Hid (Q4 (clk k) (ss.drop m)=d0):=by rw[<-xC];exact HL
  clear xC HL ht hr hq hsz xH h0 xA
  go_enter func110,ntmps110;go_wp2
  go_loopg [5,6] m (fun g x i wr=> ∃(j:Nat) (d:BA),j=g∧x= .string d∧i= .int .i64 ((j:Int)-1)∧j<=m∧Hid (Q4 (clk k) (ss.drop j)=d)∧Bl w wr)
  case atStart=>go_light;exact⟨m,d0,rfl,rfl,by go_num,La _,xD,Lb _ _⟩
  case round=>
   obtain⟨j,d,hg,rfl,rfl,hj,HE,hb⟩:=hrel;subst hg
   cases j with
   | zero=>
    have hz:¬((0:Int) <= -1):=by decide
    rw[show((0:Nat):Int)-1 = -1 from rfl]
    have HF:Hid (d=r):=HE.out.symm.trans HQ.out;clear HE HN HQ HM HD HR HT cm;obtain rfl:=HF.out;go_wp2
    go_ret
    exact⟨rfl,hb⟩
   | succ j=>
    have e1:((j+1:Nat):Int)-1=(j:Int):=by omega
    have hz:(0:Int)<=(j:Int):=by omega
    have xK:(j:Int)<(m:Int)+1:=by omega
    have xI:j<m:=by omega
    have cj:=(HR.out.next hb (La _)).at (k:=j) (by omega)
    have z1:=HM.out j (by omega)
    have z2:=HD.out (j+1);have hn:=HN.out j xI;rw[HE.out] at z2 hn;generalize ss.getD j ByteArray.empty=p at *;have HG:=fun W=>QfB W p d (by omega) (by omega) _ rfl
    obtain⟨t,ht⟩:=Ze (bagT p d);have zt:=QcS p d;rw[ht] at zt;simp only[ht] at HG hn;obtain⟨d',xB⟩:∃d',dg (clk k) t=d':=⟨_,rfl⟩;have HO:Hr w 108 #[.int .i64 k,.string t] (.string d'):=fun W hb=>Oi W (HT.out.next hb) k t (by omega) d' xB
    have xG:Hid (Q4 (clk k) (ss.drop j)=d'):=hn.trans xB;rw[e1];clear HE hn xB ht zt z1 z2 e1 cm xD
    go_wp2_with (first
     | (go_at_call 188;with_reducible refine(HG _).mono ?_;rintro e w1 ⟨rfl,xE⟩;replace hb:=Qa hb xE;clear xE)
     | (go_at_call 108;with_reducible refine(HO.out _ hb).mono ?_;rintro e w2 ⟨rfl,xF⟩;replace hb:=Qa hb xF;clear xF))
    go_roundg j
    case rel=>go_light;exact⟨j,d',rfl,rfl,by go_num,by omega,xG.out,hb⟩
    case measure=>go_light;omega
theorem QfE(w:World)(ht:Tr w)(k:Int)(n:Nat)(hn:n<18446744073709551616)(ao:OA)(b off len cap:Nat)(ss:LB)(hr:RdS w ao b off len ss)(hsz:∀s∈ss,s.size<=140737488351232)(hmx:len<=8796093022208)(r:BA)(hq:dg (clk k) (UD n (Q4 (clk k) ss))=r) :
  Zr 59 #[.int .i64 k,.int .u64 n,.slice ao len cap] w (.string r):=by
 have hz:(Q4 (clk k) ss).size<=140737488351232:=J4 (QK k) (by decide) _ hsz
 obtain⟨d,hd⟩:=Ze (Q4 (clk k) ss);have xD:=QcK w ht k ao b off len cap ss hr hsz hmx d hd;rw[hd] at hq hz;obtain⟨t,xB⟩:=Ze (UD n d);have xE:=fun W=>Qeo W n hn d (by omega) t xB
 have zt:=Qct n d;rw[xB] at hq zt;have HO:Hr w 108 #[.int .i64 k,.string t] (.string r):=fun W hb=>Oi W (ht.next hb) k t (by omega) r hq
 have hb:=Lb w.heap.size w;clear hq ht hd xB zt hz hr hsz hmx
 go_enter func59,ntmps59
 go_wp2_with (first
  | (go_at_call 110;with_reducible refine xD.mono ?_;rintro e w1 ⟨rfl,xA⟩;replace hb:=Qa hb xA;clear xA)
  | (go_at_call 109;with_reducible refine(xE _).mono ?_;rintro e w1 ⟨rfl,xA⟩;replace hb:=Qa hb xA;clear xA)
  | (go_at_call 108;with_reducible refine(HO.out _ hb).mono ?_;rintro e w2 ⟨rfl,xC⟩;replace hb:=Qa hb xC;clear xC))
 go_ret
 exact⟨rfl,hb⟩
section
open Cv (RdC zl cU tno)
open Pl (pw)
variable {GB RB:Nat}
section
variable {w W:World} {q:Nat} {K:Int} {D:LB}
end
theorem Qdy(w:World)(o1 o2:Obj):((w.alloc o1).alloc o2).heap[w.heap.size]? = some o1∧((w.alloc o1).alloc o2).heap[w.heap.size+1]? = some o2:=by
 have e2:=LC (w.alloc o1) o2;rw[Ng] at e2;exact⟨by rw[Cv.Yg o2 (by rw[Ng];omega)];exact LC w o1,e2⟩
section
variable {w W:World} {p:Nat} {a b:Value}
end
section
end
variable {GB RB:Nat}
abbrev oP(kd k:Int)(old size:Nat)(vs vd:Value):Obj := .cells #[.int .i64 kd,.int .i64 k,.int .u64 old,.int .u64 size,vs,vd] 138
abbrev vP(kd k:Int)(old size:Nat)(vs vd:Value):Value := .agg #[.int .i64 kd,.int .i64 k,.int .u64 old,.int .u64 size,vs,vd]
def fil(k:Int)(m:Nat)(D:LB):Prop:=D.length=m ∧ ∀d∈D,(d.size:Int)=k
instance (k:Int) (m:Nat) (D:LB):Decidable (fil k m D):=by unfold fil;infer_instance
theorem QaZ{T s:Nat}{y:Value}{cs:List Value}(h:w.ownsRow B T s y n cs)(hg:y.ownBlock=some g):B<=g ∧ ∃cur,w.heap[g]? = some (.cells cur T (0,0)):=by
 obtain⟨_,h2⟩:=h
 rcases h2 with ⟨rfl,_⟩|⟨g',cap,cur,rfl,hb,hh,_⟩
 ·cases hg
 ·cases hg;exact⟨hb,cur,hh⟩
theorem Qll{T s q:Nat}{y:Value}{xs:List Value}{cs:Array Value}{T':Nat}{fr:Nat×Nat}(h:w.ownsRow B T s y n xs)(hq:w.heap[q]? = some (.cells cs T' fr))(hT:T≠T'):∀g,y.ownBlock=some g->g≠q:=fun g hg e=>by
 subst e;obtain⟨_,cur,hc⟩:=QaZ h hg;rw[hq] at hc;injection hc with hc
 injection hc with _ h2 _
 exact hT h2.symm
section
variable {w2 wr W:World} {p q:Nat} {K:Int} {vs:Value} {S:List Nat} {X D P:LB}
end
abbrev zP:Obj := .cells #[.int .i64 0,.int .i64 0,.int .u64 0,.int .u64 0,.slice none 0 0,.slice none 0 0] 138
end
theorem Qo0(s:BA):St.tx s.data.toList=s:=by
 cases s
 rfl
theorem QfP{D:St.DV}{S:St.SV} : ∀(ds:LB) (p:Nat),(∀j d,ds[j]? = some d->St.OQ D S (p+j)=(d.data.toList,0))->stE D S p ds=0
 | [],_,_=>rfl
 | d::ds,p,h=>by
  have h0:=h 0 d rfl;rw[Ik] at h0;rw[stE,h0,Le (fun q=>q rfl),Lf (Qo0 d)]
  refine QfP ds (p+1) fun j x hx=> ?_
  rw[show p+1+j=p+(j+1) by omega]
  exact h (j+1) x (by simpa using hx)
structure Has(k:Nat)(L:LB)(D:St.DV):Prop where
 k1:1<=k
 k2:k<=32
 few:L.length<=65536
 sz:∀s∈L,s.size<=1048576
 down:D.down=false
 i:(St.bA k (itL k L)).a <+: (St.Qe D.L St.nmI).now
 n:(St.bA k (itL k L)).b <+: (St.Qe D.L St.nmN).now
section
variable {k:Nat} {L:LB} {D:St.DV} {S:St.SV}
theorem Has.ok(h:Has k L D):St.OkA k (itL k L):=QaT h.k1 h.k2 h.few h.sz
theorem Has.item(h:Has k L D)(hS:S.ends=(St.bA k (itL k L)).ends){i:Nat}{x:BA}(hx:L[i]? = some x):St.JK D S i=(x.data.toList,0) :=
 St.Qna h.ok hS h.down h.i i _ (Qgu k L i x hx)
theorem Has.tk(h:Has k L D)(hS:S.ends=(St.bA k (itL k L)).ends)(hk:S.k=k):∀i,i<=L.length->tkL D S i=(L.take i,0)
 | 0,_=>rfl
 | i+1,hi=>by
  have ih:=h.tk hS hk i (by omega)
  obtain⟨x,hx⟩:∃x,L[i]? = some x:=⟨_,Lk (by omega)⟩
  have hit:=h.item hS hx;have ht:L.take (i+1)=L.take i++[x]:=by
   rw[LM (by omega)]
   congr 2
   exact NR ((Lk (by omega)).symm.trans hx)
  have xA:stE D S (St.nn i) (mdL k (L.take i) x)=0:=QfP _ _ fun j d hd=>St.Qnz h.ok hS hk h.down h.n i j _ d (Qgu k L i x hx) hd
  rw[tkL,ih];simp only;rw[hit,Le (fun q=>q rfl),Le (fun q=>q rfl),Qo0,hk,xA,Le (fun q=>q rfl),ht]
theorem Qku(h:Has k L D):(St.bA k (itL k L)).ends.length=L.length:=by rw[h.ok.lens.ends,Oa]
theorem Has.all(h:Has k L D)(hS:S.ends=(St.bA k (itL k L)).ends)(hk:S.k=k):tkL D S S.ends.length=(L,0):=by
 rw[hS,Qku h,h.tk hS hk L.length (La _),NJ]
theorem Qht(h1:1<=k)(h2:k<=32)(hf:L.length<=65536)(hs:∀s∈L,s.size<=1048576)(hd:D.down=false)(he:St.Ext k (itL k L) D.L):Has k L D :=
 ⟨h1,h2,hf,hs,hd,by rw[he.i];exact Ny,by rw[he.n];exact Ny⟩
theorem QoP{D':St.DV}(hh:Has k L D')(ho:St.YQ D (k:Int)=(D',some (St.sA k (itL k L)),0)):loD D (k:Int)=(D',some (St.sA k (itL k L),L),0):=by
 unfold loD;rw[ho];simp only;rw[hh.all rfl rfl,Lf rfl]
theorem a_of{D':St.DV}{S':St.SV}{e:Int}{x:BA}(hx:x.size<=1048576)(hf:S.ends.length<65536)(hk:S.k=k)(ha:St.Uy D S x.data.toList (mdL k L x)=(D',S',e)):aD D S L x=(D',S',if e=0 then L++[x] else L,e):=by
 unfold aD;rw[Le (by omega),Le (by omega),hk,ha]
end
variable{R c k:Nat}{L:LB}
theorem Qqx : ∀(L:LB),(∀s∈L,s.size<=c)->(St.bA k (itL k L)).a.length<=(c+8)*L.length:=by
 intro L;refine St.UN (P:=fun L=>(∀s∈L,s.size<=c)->(St.bA k (itL k L)).a.length<=(c+8)*L.length) (fun _=>by simp[itL,St.bA,St.BV.z]) (fun L x ih h=> ?_) L
 have h1:=ih fun y hy=>h y (Ir _ hy)
 have h2:=h x (by simp)
 rw[UA,St.QT]
 show((St.bA k (itL k L)).a++St.Rc.pay x.data.toList).length<=_
 rw[Lc,St.Rc.pay_len,Lc,LK,NV,Nd];have:x.data.toList.length=x.size:=by simp
 omega
theorem Qe7(h1:1<=k)(h2:k<=32)(hc:c<=1048576)(hf:L.length<=65536)(hs:∀s∈L,s.size<=c):(St.bA k (itL k L)).a.length+(St.bA k (itL k L)).b.length+(St.bA k (itL k L)).m.length<=(c+152)*L.length:=by
 have l:=(QaT h1 h2 hf (fun s h=>Lr (hs s h) hc)).lens
 have a:=Qqx (k:=k) L hs;have n:=St.OD L.length;have b:=l.b;have m:=l.m;rw[Oa] at b m;rw[LS] at a ⊢;omega
theorem a_qt{x:BA}{D:St.DV}(h1:1<=k)(h2:k<=32)(hf:L.length<65536)(hs:∀s∈L++[x],s.size<=1048576)(hq:St.Qt R D)(he:St.Ext k (itL k L) D.L)(hR:(St.bA k (itL k (L++[x]))).a.length+(St.bA k (itL k (L++[x]))).b.length+(St.bA k (itL k (L++[x]))).m.length<=R)(hz:R<=268435456) :
  ∃D',aD D (St.sA k (itL k L)) L x=(D',St.sA k (itL k (L++[x])),L++[x],0)∧St.Qt R D'∧St.Ext k (itL k (L++[x])) D'.L∧D'.acts=D.acts+6:=by
 have xB:=QaT h1 h2 (L:=L++[x]) (by rw[Lc,LK];omega) hs
 have xA:=QaT h1 h2 (L:=L) (by omega) (fun s h=>hs s (Ir _ h))
 rw[UA] at xB hR ⊢;obtain⟨D',y1,y2,y3,y4⟩:=St.Qo3 xB hq he hR hz;refine⟨D',?_,y2,y3,y4⟩
 have he:(St.sA k (itL k L)).ends.length=L.length:=by
  show(St.bA k (itL k L)).ends.length=_
  rw[xA.lens.ends,Oa]
 rw[a_of (hs x (by simp)) (by omega) rfl y1,Lf rfl]
def Dw(w W:World)(p:Nat)(D:St.DV):Prop := ∃Sd,St.Dsk W p Sd D∧(∀b,Sd b->w.heap.size<=b)∧Bl w W
def Nl(w W:World)(a p:Nat)(D:St.DV)(S:St.SV)(L:LB):Prop := ∃U,Lg W 0 a p U D S L∧(∀b,U b->w.heap.size<=b)∧Bl w W
section
variable {w W W1:World} {a p:Nat} {D D':St.DV} {S S':St.SV} {L L':LB}
theorem Dw.below(h:Dw w W p D):Bl w W:=by obtain⟨_,_,_,hb⟩:=h;exact hb
theorem Nl.below(h:Nl w W a p D S L):Bl w W:=by obtain⟨_,_,_,hb⟩:=h;exact hb
theorem Qk4(w:World)(n:Nat)(hn:n<=268435456):Calls prog 10 #[.int .i64 n] w fun e w'=> ∃p,e= .returned (Pq p)∧Dw w w' p (St.UR n) :=
 (St.Qd4 w n n (by omega) (by omega)).mono fun e w' z=>by
  obtain⟨p,Sd,z1,z2,z3,z4⟩:=z;exact⟨p,z1,Sd,z2,z3,z4⟩
theorem Dw.base(hb:Bl w W)(h:Dw W W1 p D):Dw w W1 p D:=by
 obtain⟨Sd,h1,h2,h3⟩:=h;exact⟨Sd,h1,fun b hb'=>Lr hb.size (h2 b hb'),Qa hb h3⟩
theorem Dw.open(ht:Tb w)(h:Dw w W p D)(hrm:St.Rm 7 D)(k:Int)(hl:loD D k=(D',some (S',L'),0)) :
  Calls prog 11 #[Pq p,.int .i64 k] W fun e w'=> ∃a,e= .returned (.tuple #[Pq a,.int .i64 0])∧Nl w w' a p D' S' L'∧S'.ends.length=L'.length:=by
 obtain⟨Sd,h1,h2,h3⟩:=h;refine(QaW W (ht.next h3) h1 hrm (fun e=>by have:=ht.lt;have:=h2 _ e;omega) k).mono fun e w' z=> ?_
 rw[hl] at z;obtain⟨a,U,z1,z2,z3,z4,z5,z6⟩:=z;exact⟨a,z1,⟨U,z2,fun b hb=>(z3 b hb).elim (h2 b) (fun e=>Lr h3.size e),h3.trans (z5.below h3.size h2)⟩,z6⟩
theorem Nl.tb(h:Nl w W a p D S L)(ht:Tb w):Tb W:=ht.next h.below
theorem Nl.size(h:Nl w W a p D S L)(n:Nat)(hn:S.ends.length=n):Zr 33 #[Pq a] W (.tuple #[.int .u64 n,.int .i64 0]):=by
 obtain⟨U,y1,y2,y3⟩:=h;exact Qc9 W y1 n hn
theorem Nl.root(h:Nl w W a p D S L)(ht:Tb w)(n:Nat)(hn:n<=L.length)(r:BA)(hq:rtD S.k L n=r):Zr 20 #[Pq a,.int .u64 n] W (.tuple #[.agg #[.int .u64 n,.string r],.int .i64 0]):=by
 have xA:=h.tb ht;obtain⟨U,y1,y2,y3⟩:=h;exact Qce W xA y1 n hn r hq
end
namespace St
open Rc
theorem QhD(k R:Nat):Ext k [] (UR R).L∧Qt R (UR R):=⟨⟨rfl,rfl,rfl,fun _ _ _ _=>rfl⟩,rfl,rfl,Ut,rfl⟩
theorem QoU{D:DV}(h:Qt R D)(he:Oth D.L)(hR:R<=268435456)(ha:D.acts<=1000000):Rm 7 D:=⟨by omega,by have:=(Y3 h.ord he).2;omega,by have:=h.tot;omega⟩
end St
namespace St
def nms(l:List (List UInt8×List UInt8)):List (List UInt8):=l.map (·.1)
def nmF(N:List (List UInt8)):List UInt8->Option Value:=fun s=>if s∈N then some (.agg #[]) else none
theorem Qnx(N:List (List UInt8))(s:List UInt8):Ou (nmF N) s (some (.agg #[]))=nmF (N++[s]):=by
 funext t
 simp only[Ou,nmF,List.mem_append,List.mem_singleton]
 by_cases e:t=s
 ·simp[e]
 ·simp[e]
theorem QpI(N:List (List UInt8))(s:List UInt8):s∈N↔(nmF N s).isSome=true:=by
 unfold nmF
 split <;> simp[*]
def canL(l:List (List UInt8×List UInt8)):Prop:=(nms l).Nodup ∧ ∀x∈l,x.2.length<=268435456
theorem Qk5{l:List (List UInt8×List UInt8)}{j:Nat}{x:List UInt8×List UInt8}(h:l.take (j+1)=l.take j++[x])(hn:(nms l).Nodup):x.1 ∉ nms (l.take j)∧(nms (l.take j)).Nodup:=by
 have h1:nms (l.take (j+1))=nms (l.take j)++[x.1]:=by rw[h];simp[nms]
 have h2:(nms (l.take (j+1))).Nodup:=by
  have:nms (l.take (j+1))=(nms l).take (j+1):=by simp[nms,List.map_take]
  rw[this];exact hn.sublist (List.take_sublist _ _)
 rw[h1] at h2;have h3:=List.nodup_append.1 h2;exact⟨fun hm=>h3.2.2 _ hm _ (List.mem_singleton.2 rfl) rfl,h3.1⟩
theorem Qgd(w:World)(ao:OA)(b off c:Nat)(l:List (List UInt8×List UInt8))(hr:RdF w ao b off l)(hs:∀x∈l,x.1.length<=maxLen)(hl:l.length<=1099511627776)(hc:canL l) :
  Zr 50 #[.slice ao l.length c] w (.bool true):=by
 have xU := @run_makeMap prog;obtain⟨n,hn⟩:=Ze l.length;have HH:Hid (RdF w ao b off l∧(∀x∈l,x.1.length<=maxLen)∧l.length=n∧n<=1099511627776∧canL l):=⟨hr,hs,hn,by omega,hc⟩
 rw[hn];clear hr hs hl hn hc
 go_enter func50,ntmps50;go_wp2
 go_loopg [11] n (fun g i wr=> ∃j:Nat,j<=n∧g=n-j∧i= .int .i64 j∧Mv wr w.heap.size (nmF (nms (l.take j)))∧Bl w wr)
 case atStart=>
  refine⟨0,Ln _,rfl,rfl,?_,bal (Lb _ _) _⟩
  have:=QgF w;exact this
 case round=>
  obtain⟨j,hj,rfl,rfl,hM,hb⟩:=hrel
  by_cases hlt:j<n
  ·obtain⟨x,hx⟩:=Ze (l.getD j ([],[]));obtain⟨q1,q2,q3,q4,q5⟩:=HH.out;have xH:x∈l:=by
    rw[<-hx,Ld,Lk (by omega)]
    exact L8 _
   have rr:=q1.next hb;have c0:=rr.c0 j (by omega)
   have c1:=rr.c1 j (by omega)
   rw[hx] at c0 c1;have ea:=rr.ptr (by omega)
   have xL:l.take (j+1)=l.take j++[x]:=by rw[<-hx];exact Y2 _ _ _ (by omega)
   obtain⟨xP,xO⟩:=Qk5 xL q5.1;obtain⟨nm,xC⟩:∃nm:BA,(⟨x.1.toArray⟩:BA)=nm:=⟨_,rfl⟩;obtain⟨dt,xE⟩:∃dt:BA,(⟨x.2.toArray⟩:BA)=dt:=⟨_,rfl⟩;rw[xC] at c0;rw[xE] at c1;have xK:nm.size<=maxLen:=by rw[<-Qb,<-xC];exact q2 x xH
   have xQ:dt.size<=268435456:=by rw[<-Qb,<-xE];exact q5.2 x xH
   have xJ:nm.data.toList=x.1:=by rw[<-xC]
   have xS:(0:Int)<=(j:Int):=by omega
   have xT:(j:Int)<(n:Int):=by omega
   have hw:IntKind.i64.wrap ((j:Int)+1)=(j:Int)+1:=by rw[Lq];omega
   have xR:¬((dt.size:Int) > 268435456):=by omega
   obtain⟨w1,xD⟩:=Ze (wr.alloc (.cells #[.string nm,.string dt] 72));have xM:=Qc xD;have xB:Bl wr w1:=by rw[<-xD];exact bal (Lb _ _) _
   have k1:w1.heap[wr.heap.size]? = some (.cells #[.string nm,.string dt] 72 (0,0)):=by rw[<-xD];exact Yc _ _
   have d0:w1.cell? ⟨wr.heap.size,0,none⟩=some (.string nm):=by rw[cell_of_row w1 wr.heap.size 0 _ _ (0,0) k1];rfl
   have d1:w1.cell? ⟨wr.heap.size,1,none⟩=some (.string dt):=by rw[cell_of_row w1 wr.heap.size 1 _ _ (0,0) k1];rfl
   have M1:=hM.same (xB.block _ hM.lt);have xI:=M1.look_ok underlying180 (z := .agg #[]) (by kernel_rfl) xK
   rw[xJ,nmF,Le xP] at xI;simp only[Option.getD_none,Option.isSome_none] at xI;subst ea;obtain⟨w2,xG⟩:=Ze (w1.alloc (.cells #[] 108));have xN:=Qc xG;have xA:Bl w1 w2:=by rw[<-xG];exact bal (Lb _ _) _
   have k2:=(xA.block _ (Array.getElem?_eq_some_iff.1 k1).1).trans k1
   have e0:w2.cell? ⟨wr.heap.size,0,none⟩=some (.string nm):=by rw[cell_of_row w2 wr.heap.size 0 _ _ (0,0) k2];rfl
   have e1:w2.cell? ⟨wr.heap.size,1,none⟩=some (.string dt):=by rw[cell_of_row w2 wr.heap.size 1 _ _ (0,0) k2];rfl
   have M2:=M1.same (xA.block _ M1.lt);have xF:(nms (l.take j)).length<maxLen:=by
    rw[nms,LY,Lx];unfold maxLen;omega
   obtain⟨w3,xV,M3,g3⟩:=M2.write underlying180 xO (QpI _) xF xK (.agg #[]);rw[xJ,Qnx] at M3;have HG:Hid (Mv w3 w.heap.size (nmF (nms (l.take (j+1))))∧Bl w w3):=by
    refine⟨?_,?_⟩
    ·rw[xL,show nms (l.take j++[x])=nms (l.take j)++[x.1] by simp[nms]];exact M3
    ·exact(Qa (Qa hb xB) xA).grown g3 (Qa (Qa hb xB) xA).size (fun y hy=>by injection hy with hy;omega)
   clear xG xB xA k1 k2 M1 M2 M3 g3 hb hM;clear q1 q2 q3 q4 q5 rr hx xH xD xC xE
   go_upto_region 5 with (fail)
   rw[xM.out]
   go_upto_region 6 with (fail)
   rw[xN.out];go_wp2
   go_roundg (n-(j+1))
   case rel=>go_light;exact⟨j+1,by omega,rfl,by go_num,HG.out.1,HG.out.2⟩
   case measure=>go_light;omega
  ·obtain rfl:j=n:=by omega
   have hz:¬((j:Int)<(j:Int)):=by omega
   have HB:=Qc hb;clear hb hM hlt;go_wp2
   go_ret
   exact⟨rfl,HB.out⟩
def byt:List (List UInt8×List UInt8)->Nat
 | []=>0
 | x::r=>x.2.length+byt r
theorem QjS(l:List (List UInt8×List UInt8))(x:List UInt8×List UInt8):byt (l++[x])=byt l+x.2.length:=by
 induction l with
 | nil=>simp[byt]
 | cons y r ih=>simp only[List.cons_append,byt,ih];omega
theorem QjT(l:List (List UInt8×List UInt8))(j:Nat):byt (l.take j)<=byt l:=by
 induction l generalizing j with
 | nil=>simp[byt]
 | cons y r ih=>
  cases j with
  | zero=>simp[byt]
  | succ j=>have:=ih j;simp only[List.take_succ_cons,byt];omega
def Qar(room:Nat)(l:List (List UInt8×List UInt8)):DV:=⟨room-byt l,QM l,0,0,0,[],false⟩
theorem Qla(w:World)(room:Nat)(hroom:room<=9223372036854775807)(ao:OA)(b off c:Nat)(l:List (List UInt8×List UInt8))(hr:RdF w ao b off l)(hs:∀x∈l,x.1.length<=maxLen)(hl:l.length<=1099511627776)(hc:canL l)(hfit:byt l<=room) :
  Calls prog 16 #[.int .i64 room,.slice ao l.length c] w fun e w'=> ∃p S,e= .returned (.tuple #[Pq p,.int .i64 0])∧Dsk w' p S (Qar room l)∧(∀x,S x->w.heap.size<=x)∧Bl w w':=by
 have HC:=Qgd w ao b off c l hr hs hl hc;obtain⟨n,hn⟩:=Ze l.length;have HH:Hid (RdF w ao b off l∧(∀x∈l,x.1.length<=maxLen)∧l.length=n∧n<=1099511627776∧canL l∧byt l<=room∧room<=9223372036854775807):=⟨hr,hs,hn,by omega,hc,hfit,hroom⟩
 have HL:Hid (∀W,Bl w W->Calls prog 51 #[.slice ao n c] W fun e w'=> ∃R,e= .returned (.map (some W.heap.size))∧Fm w' W.heap.size R (QM l)∧(∀s∈Qg (QM l),∀x,Blk (R s) x->W.heap.size<=x)∧Bl W w'):=fun W hW=>by
  rw[<-hn];exact Qag W ao b off c l (hr.next hW) (fun x hx=>⟨hs x hx,hc.2 x hx⟩) hl
 rw[hn] at HC ⊢;have hm:max (room:Int) 0=(room:Int):=by omega
 clear hr hs hl hn hc hfit
 go_enter func16,ntmps16
 go_upto_region 3 with (go_at_call 50;(with_reducible refine HC.mono ?_);rintro e w1 ⟨rfl,u1⟩)
 clear HC;go_wp2
 go_loopg [6,16] n (fun g f i wr=> ∃j:Nat,j<=n∧g=n-j∧i= .int .i64 j∧f= .int .i64 ((room-byt (l.take j):Nat):Int)∧Bl w wr)
 case atStart=>go_light;exact⟨0,Ln _,rfl,rfl,by simp[byt],u1⟩
 case round=>
  obtain⟨j,hj,rfl,rfl,rfl,hb⟩:=hrel
  by_cases hlt:j<n
  ·obtain⟨x,hx⟩:=Ze (l.getD j ([],[]));obtain⟨q1,q2,q3,q4,q5,q6,q7⟩:=HH.out;have rr:=q1.next hb;have c0:=rr.c0 j (by omega)
   have c1:=rr.c1 j (by omega)
   rw[hx] at c0 c1;have ea:=rr.ptr (by omega)
   have xD:l.take (j+1)=l.take j++[x]:=by rw[<-hx];exact Y2 _ _ _ (by omega)
   have xK:=QjS (l.take j) x;rw[<-xD] at xK;have xR:=QjT l (j+1);obtain⟨nm,xM⟩:∃nm:BA,(⟨x.1.toArray⟩:BA)=nm:=⟨_,rfl⟩;obtain⟨dt,xF⟩:∃dt:BA,(⟨x.2.toArray⟩:BA)=dt:=⟨_,rfl⟩;rw[xM] at c0;rw[xF] at c1;have xQ:dt.size=x.2.length:=by rw[<-Qb,<-xF]
   obtain⟨fr,xC⟩:=Ze (room-byt (l.take j));have xT:¬((dt.size:Int) > (fr:Int)):=by omega
   have xU:(0:Int)<=(j:Int):=by omega
   have xV:(j:Int)<(n:Int):=by omega
   have hw:IntKind.i64.wrap ((j:Int)+1)=(j:Int)+1:=by rw[Lq];omega
   have xS:IntKind.i64.wrap ((fr:Int)-(dt.size:Int))=((room-byt (l.take (j+1)):Nat):Int):=by rw[Lq];omega
   obtain⟨f2,xG⟩:=Ze (room-byt (l.take (j+1)));rw[xG] at xS;rw[xC];obtain⟨w2,xA⟩:=Ze (wr.alloc (.cells #[.string nm,.string dt] 72));have xP:=Qc xA;have xI:Bl wr w2:=by rw[<-xA];exact bal (Lb _ _) _
   have k1:w2.heap[wr.heap.size]? = some (.cells #[.string nm,.string dt] 72 (0,0)):=by rw[<-xA];exact Yc _ _
   have d1:w2.cell? ⟨wr.heap.size,1,none⟩=some (.string dt):=by rw[cell_of_row w2 wr.heap.size 1 _ _ (0,0) k1];rfl
   have HG:Hid (Bl w w2∧room-byt (l.take (j+1))=f2):=⟨Qa hb xI,xG⟩;subst ea;clear q1 q2 q3 q4 q5 q6 q7 rr hx xA xM xF hb xI k1 xD xK xR xQ xG xC
   go_upto_region 7 with (fail)
   rw[xP.out];go_wp2
   go_roundg (n-(j+1))
   case rel=>go_light;exact⟨j+1,by omega,rfl,by go_num,by rw[HG.out.2],HG.out.1⟩
   case measure=>go_light;omega
  ·obtain rfl:j=n:=by omega
   have hz:¬((j:Int)<(j:Int)):=by omega
   have xD:l.take j=l:=Lp (by have:=HH.out.2.2.1;omega)
   rw[xD];have xO:=Qc (HL.out wr hb);obtain⟨fr,xC⟩:=Ze (room-byt l);rw[xC];have HB:=Qc hb;have xN:=Qc xC;clear hb hlt hj xD HL xC
   go_wp2_with (go_at_call 51;(with_reducible refine xO.out.mono ?_);rintro e w3 ⟨R,rfl,hF,xH,xJ⟩)
   go_ret2
   have k1:=Yc w3 (.cells #[.int .i64 fr,.map (some wr.heap.size),.int .i64 0,.int .i64 0,.int .i64 0,.slice none 0 0,.bool false] 98);have xE:Bl w3 (w3.alloc (.cells #[.int .i64 fr,.map (some wr.heap.size),.int .i64 0,.int .i64 0,.int .i64 0,.slice none 0 0,.bool false] 98)):=bal (Lb _ _) _;have xB:=hF.same (xE.block _ hF.mp.lt) (fun x hx=>xE.block x hx.lt)
   have h7:=HH.out.2.2.2.2.2.2;have xL:=xN.out;refine⟨w3.heap.size,YC w3.heap.size wr.heap.size R 0 (Qar room l),rfl,⟨wr.heap.size,R,none,0,0,0,⟨?_,xB.mp,xB.ord,fun s hs _=>xB.fil s hs,fun s hs x hx=>(xB.fil s hs).blk hx,xB.apart,xB.nm,xB.cnt,Uw _ _ _ _,fun h0=>by simp[Qar] at h0,by simp[Qar],by show room-byt l<=_;omega,by simp[Qar],.inl rfl⟩,fun x=>Iff.rfl⟩,fun x hx=> ?_,Qa (Qa HB.out xJ) xE⟩
   ·rw[<-xL] at k1;rw[<-xL];exact k1
   ·have z1:=HB.out.size;have z2:=xJ.size
    rcases hx with q|q|⟨s,hs,q⟩|⟨q,_⟩
    ·omega
    ·omega
    ·have:=xH s hs x q;omega
    ·simp[Qar] at q
end St
namespace St
open Rc
variable{a b l p:List UInt8}
theorem Qhg:∀(F:List (List UInt8×List UInt8)) (x:List UInt8×List UInt8),x∈F->x.2.length<=byt F
 | [],x,h=>by simp at h
 | y::r,x,h=>by
  show x.2.length<=y.2.length+byt r
  rcases List.mem_cons.1 h with rfl|h
  ·omega
  ·have:=Qhg r x h;omega
theorem QfY(F:List (List UInt8×List UInt8)):tot (allS F)=byt F:=by
 induction F with
 | nil=>rfl
 | cons x r ih=>
  show x.2.length+tot (allS r)=x.2.length+byt r
  rw[ih]
def unS(f:FV):Nat->Nat
 | 0=>0
 | s+1=>unS f s+(if sec f.now s=sec f.syn s then 0 else 1)
theorem QlW(keep:List Bool)(f:FV)(i s:Nat):(sgo keep f i s).2=i+unS f s:=by
 induction s with
 | zero=>rfl
 | succ s ih=>
  simp only[sgo,unS]
  split
  ·simp only[ih];omega
  ·simp only[ih];omega
def tkS(keep:List Bool)(f:FV)(i s:Nat):Bool := !decide (sec f.now s=sec f.syn s) && ch keep (i+unS f s)
theorem Jx(l:List UInt8)(s r:Nat)(hr:r<64):(sec l s).getD r 0=l.getD (64*s+r) 0:=by
 simp[sec,List.getD_eq_getElem?_getD,hr]
theorem Qh0(keep:List Bool)(f:FV)(i:Nat):∀(n s r:Nat),s<n->r<64->(sgo keep f i n).1.getD (64*s+r) 0=(if tkS keep f i s then f.now else f.syn).getD (64*s+r) 0
 | 0,s,r,h,_=>by omega
 | n+1,s,r,h,hr=>by
  have hl:=QaD keep f i n;have hc:=QlW keep f i n;have happ:∀X:List UInt8,((sgo keep f i n).1++X).getD (64*s+r) 0=if s<n then (sgo keep f i n).1.getD (64*s+r) 0 else X.getD (64*s+r-64*n) 0:=fun X=>by
   simp only[List.getD_eq_getElem?_getD]
   split
   ·rw[Ly (by omega)]
   ·rw[LI (by omega),hl]
  have ih:=Qh0 keep f i n s r;simp only[sgo]
  by_cases e:s<n
  ·have:=ih e hr
   split
   ·rw[happ,Lf e,this]
   ·rw[happ,Lf e,this]
  ·obtain rfl:s=n:=by omega
   have hz:64*s+r-64*s=r:=by omega
   split
   ·rename_i he
    rw[happ,Le e,hz,Jx _ _ _ hr];simp[tkS,he]
   ·rename_i he
    simp only;rw[happ,Le e,hz,hc]
    cases hch:ch keep (i+unS f s)
    ·simp only[tkS,hch,Bool.and_false,if_false,Bool.false_eq_true];exact Jx _ _ _ hr
    ·simp only[tkS,hch,he,decide_false,Bool.not_false,Bool.and_true,if_true];exact Jx _ _ _ hr
theorem QaE(keep:List Bool)(f:FV)(i:Nat):(UK keep f i).1=f.now.length∨(UK keep f i).1=f.syn.length:=by
 unfold UK
 split
 ·exact .inr rfl
 ·split
  ·exact .inl rfl
  ·exact .inr rfl
theorem QfQ(keep:List Bool)(f:FV)(i j:Nat)(hj:j<(UK keep f i).1):(stay keep f i).1.getD j 0=(if tkS keep f (UK keep f i).2 (j/64) then f.now else f.syn).getD j 0:=by
 have h1:=QaE keep f i;have h2:j/64<nsec f:=by unfold nsec;omega
 have h3:=Qh0 keep f (UK keep f i).2 (nsec f) (j/64) (j%64) h2 (Ia _ (by omega))
 rw[show 64*(j/64)+j%64=j from N4 j 64] at h3
 rw[<-h3];simp only[stay,List.getD_eq_getElem?_getD,List.getElem?_take,hj,if_true]
theorem U5(hl:a.length=b.length)(h:∀j,j<a.length->a.getD j 0=b.getD j 0):a=b:=by
 apply List.ext_getElem hl
 intro j h1 h2;have:=h j h1
 simpa [List.getD_eq_getElem?_getD,List.getElem?_eq_getElem h1,List.getElem?_eq_getElem h2] using this
theorem Qc4(l:List UInt8)(n j:Nat)(h:j<n):(l.take n).getD j 0=l.getD j 0:=by
 simp[List.getD_eq_getElem?_getD,h]
theorem QnT(hl:p.length<=l.length)(h:∀j,j<p.length->l.getD j 0=p.getD j 0):p <+: l:=by
 rw[List.prefix_iff_eq_take];refine U5 (by rw[Lx];omega) fun j hj=> ?_
 rw[Qc4 _ _ _ hj,h j hj]
theorem Qlv(h:p <+: l)(j:Nat)(hj:j<p.length):l.getD j 0=p.getD j 0:=by
 rw[List.prefix_iff_eq_take.1 h,Lx] at *;rw[Qc4 _ _ _ (by omega)]
theorem Qdp(keep:List Bool)(f:FV)(i:Nat):(stay keep f i).1.length=f.now.length∨(stay keep f i).1.length=f.syn.length:=by
 rw[QaF];exact QaE keep f i
theorem QfR(keep:List Bool)(f:FV)(i:Nat)(h1:p <+: f.now)(h2:p <+: f.syn):p <+: (stay keep f i).1:=by
 have hl:=QaF keep f i;have hs:=QaE keep f i;have l1:=h1.length_le;have l2:=h2.length_le;refine QnT (by omega) fun j hj=> ?_
 rw[QfQ keep f i j (by omega)]
 split
 ·exact Qlv h1 j hj
 ·exact Qlv h2 j hj
theorem Qdq(keep:List Bool)(m t u:List UInt8)(n i:Nat)(hm:m.length=64*n)(ht:t=[]∨t.length=64)(hu:u=[]∨u.length=64):(stay keep ⟨m++t,m++u⟩ i).1=m∨(stay keep ⟨m++t,m++u⟩ i).1=m++sec (m++t) n∨(stay keep ⟨m++t,m++u⟩ i).1=m++sec (m++u) n:=by
 obtain⟨y,hy⟩:=QfR keep ⟨m++t,m++u⟩ i (p:=m) (Nk _ _) (Nk _ _);have hl:=QaF keep ⟨m++t,m++u⟩ i;have hs:=QaE keep ⟨m++t,m++u⟩ i;simp only[List.length_append] at hs;have xC:t.length=0∨t.length=64:=ht.imp (fun e=>by rw[e];rfl) id
 have xD:u.length=0∨u.length=64:=hu.imp (fun e=>by rw[e];rfl) id
 have xB:y.length=0∨y.length=64:=by
  rw[<-hy,Lc] at hl;omega
 rcases xB with h0|h64
 ·left
  rw[<-hy,List.length_eq_zero_iff.1 h0,LU]
 ·right
  have xA:∀r,r<64->y.getD r 0=(if tkS keep ⟨m++t,m++u⟩ (UK keep ⟨m++t,m++u⟩ i).2 n then m++t else m++u).getD (64*n+r) 0:=fun r hr=>by
   have h3:=QfQ keep ⟨m++t,m++u⟩ i (64*n+r) (by rw[<-hl,<-hy,Lc];omega)
   rw[show(64*n+r)/64=n by omega] at h3
   rw[<-h3,<-hy,Ld,Ld,LI (by omega),show 64*n+r-m.length=r by omega]
  cases hc:tkS keep ⟨m++t,m++u⟩ (UK keep ⟨m++t,m++u⟩ i).2 n
  ·right
   rw[<-hy]
   congr 1
   refine U5 (by rw[h64,Yv]) fun r hr=> ?_
   rw[xA r (by omega),hc,Jx _ _ _ (by omega)];rfl
  ·left
   rw[<-hy]
   congr 1
   refine U5 (by rw[h64,Yv]) fun r hr=> ?_
   rw[xA r (by omega),hc,Jx _ _ _ (by omega)];rfl
theorem QhY(m t:List UInt8)(n:Nat)(hm:m.length=64*n)(ht:t.length=64):sec (m++t) n=t:=by
 refine U5 (by rw[Yv,ht]) fun r hr=> ?_
 rw[Yv] at hr;rw[Jx _ _ _ hr,Ld,Ld,LI (by omega),show 64*n+r-m.length=r by omega]
theorem QhZ(m:List UInt8)(n:Nat)(hm:m.length=64*n):sec m n=zer 64:=by
 refine U5 (by rw[Yv,Qw]) fun r hr=> ?_
 rw[Yv] at hr;rw[Jx _ _ _ hr,Ld,Nn (by omega),Ld]
 unfold zer;rw[IH,Lf hr];rfl
theorem QeO(ks:List Bool)(s:List UInt8):∀(L:List (List UInt8×FV)) (i:Nat),(∀p∈L,s<p.1)->Qe (allS (aft ks L i)) s=fz
 | [],_,_=>rfl
 | (t,f)::r,i,h=>by
  have ih:=QeO ks s r (stay ks f i).2 (fun p hp=>h p (LV _ hp))
  simp only[aft]
  split
  ·exact ih
  ·show(if t=s then (⟨_,_⟩:FV) else Qe (allS _) s)=_
   rw[Le (fun e=>by have:=h (t,f) (by simp);rw[e] at this;exact NB _ this)]
   exact ih
theorem Qh2(ks:List Bool)(i:Nat):(stay ks fz i).1=[]:=by
 rw[<-List.length_eq_zero_iff]
 rcases Qdp ks fz i with h|h
 ·rw[h];rfl
 ·rw[h];rfl
theorem Qhc(ks:List Bool)(s:List UInt8):∀(L:List (List UInt8×FV)) (i:Nat),L.Pairwise (fun a b=>a.1<b.1) -> ∃j,Qe (allS (aft ks L i)) s=⟨(stay ks (Qe L s) j).1,(stay ks (Qe L s) j).1⟩
 | [],i,_=>⟨0,by show fz=⟨(stay ks fz 0).1,(stay ks fz 0).1⟩;rw[Qh2];rfl⟩
 | (t,f)::r,i,h=>by
  obtain⟨h1,h2⟩:=List.pairwise_cons.1 h;obtain⟨j,ih⟩:=Qhc ks s r (stay ks f i).2 h2
  by_cases e:t=s
  ·subst e;refine⟨i,?_⟩
   rw[Qe,Lf rfl];simp only[aft]
   split
   ·rename_i h0
    rw[QeO ks t r _ h1,h0];rfl
   ·show(if t=t then (⟨_,_⟩:FV) else Qe (allS _) t)=_
    rw[Lf rfl]
  ·refine⟨j,?_⟩
   rw[Qe,Le e];simp only[aft]
   split
   ·exact ih
   ·show(if t=s then (⟨_,_⟩:FV) else Qe (allS _) s)=_
    rw[Le e];exact ih
theorem Qbw{L:List (List UInt8×FV)}(ho:Ord L)(ks:List Bool)(s:List UInt8):∃j,Qe (QM (aft ks L 0)) s=⟨(stay ks (Qe L s) j).1,(stay ks (Qe L s) j).1⟩:=by
 rw[Ob _ (O0 ks L 0 ho.1)];exact Qhc ks s L 0 ho.1
theorem QbF{F:List (List UInt8×List UInt8)}(h:Sor F):Ord (QM F):=by
 rw[Ob _ h];refine⟨List.pairwise_map.2 h.1,fun p hp=> ?_⟩
 obtain⟨y,hy,rfl⟩:=List.mem_map.1 hp
 cases hg:(⟨y.2,y.2⟩:FV).gone
 ·rfl
 ·exact absurd (Lv FV.now (JI.1 hg)) (h.2 y hy)
abbrev LL:=List (List UInt8×FV)
structure Qf(R:Nat)(D:DV):Prop where
 down:D.down=false
 ord:Ord D.L
 tot:D.free+tot D.L=R
theorem Qt.qf{D:DV}(h:Qt R D):Qf R D:=⟨h.down,h.ord,h.tot⟩
theorem Qf.qt{D:DV}(h:Qf R D)(hk:D.fk=0):Qt R D:=⟨h.down,hk,h.ord,h.tot⟩
def Af(R:Nat)(D:DV)(M:LL)(x:DV×Int):Prop :=
 x.1.acts=D.acts+1∧(D.fk=0->x.1.fk=0)∧((x.2=0∧Qf R x.1∧x.1.L=M) ∨
  (x.2≠0∧D.fk≠0∧((Qf R x.1∧(x.1.L=D.L∨x.1.L=M))∨(x.1.down=true∧x.1.free<=R ∧ ∃ks,x.1.L=QM (aft ks D.L 0)∨x.1.L=QM (aft ks M 0)))))
theorem Qqk{D:DV}(h:Qf R D)(s:List UInt8)(f:FV)(hf:f.now.length<=D.free+(Qe D.L s).now.length):Af R D (QL D.L s f) (Yw D s f):=by
 have ht:=On h.ord s f;have hT:=h.tot;have hR:D.free+(Qe D.L s).now.length-f.now.length+tot (QL D.L s f)=R:=by omega
 by_cases h0:D.fk=0
 ·rw[QbH h0];exact⟨rfl,fun _=>h0,.inl ⟨rfl,⟨h.down,Q3 h.ord s f,hR⟩,rfl⟩⟩
 ·by_cases h1:1<D.fa
  ·have e:Yj { D with acts:=D.acts+1 } = ({ D with acts:=D.acts+1,fa:=D.fa-1 },0,[]):=by
    unfold Yj;rw[Le (show ¬D.fk=0 from h0),Lf (show 1<D.fa from h1)]
   have e2:Yw D s f=(Q8 { D with acts:=D.acts+1,fa:=D.fa-1 } s f,0):=by unfold Yw;rw[e];rfl
   rw[e2];exact⟨rfl,fun q=>absurd q h0,.inl ⟨rfl,⟨h.down,Q3 h.ord s f,hR⟩,rfl⟩⟩
  ·have e:Yj { D with acts:=D.acts+1 } = ({ D with acts:=D.acts+1,fa:=0,fk:=0,ks:=[] },D.fk,D.ks):=by
    unfold Yj;rw[Le (show ¬D.fk=0 from h0),Le (show ¬1<D.fa from h1)]
   have q1:Qf R { D with acts:=D.acts+1,fa:=0,fk:=0,ks:=[] } := ⟨h.down,h.ord,h.tot⟩
   have q2:Qf R (Q8 { D with acts:=D.acts+1,fa:=0,fk:=0,ks:=[] } s f):=⟨h.down,Q3 h.ord s f,hR⟩
   unfold Yw;rw[e];simp only
   split
   ·exact⟨rfl,fun _=>rfl,.inr ⟨(by decide:(171:Int)≠0),h0,.inl ⟨q1,.inl rfl⟩⟩⟩
   ·split
    ·exact⟨rfl,fun _=>rfl,.inr ⟨(by decide:(172:Int)≠0),h0,.inl ⟨q1,.inl rfl⟩⟩⟩
    ·split
     ·exact⟨rfl,fun _=>rfl,.inr ⟨(by decide:(170:Int)≠0),h0,.inr ⟨rfl,by show D.free<=R;omega,D.ks,.inl rfl⟩⟩⟩
     ·split
      ·exact⟨rfl,fun _=>rfl,.inr ⟨(by decide:(171:Int)≠0),h0,.inl ⟨q2,.inr rfl⟩⟩⟩
      ·split
       ·exact⟨rfl,fun _=>rfl,.inr ⟨(by decide:(170:Int)≠0),h0,.inr ⟨rfl,by show D.free+(Qe D.L s).now.length-f.now.length<=R;omega,D.ks,.inr rfl⟩⟩⟩
       ·exact⟨rfl,fun _=>rfl,.inl ⟨rfl,q2,rfl⟩⟩
def Stp(R:Nat)(P Q:LL->Prop)(f:DV->DV×Int):Prop := ∀D,Qf R D->P D.L->(∃s g,f D=Yw D s g∧g.now.length<=D.free+(Qe D.L s).now.length∧Q (QL D.L s g))∨(f D=(D,0)∧Q D.L)
inductive Chn (R:Nat) (I:LL->Prop):List (DV->DV×Int)->(LL->Prop)->(LL->Prop)->Prop
 | nil (P:LL->Prop):(∀L,P L->I L)->Chn R I [] P P
 | cons (P P' Q:LL->Prop) (f:DV->DV×Int) (r:List (DV->DV×Int)):(∀L,P L->I L)->Stp R P P' f->Chn R I r P' Q->Chn R I (f::r) P Q
theorem Chn.first{I P Q:LL->Prop}{r:List (DV->DV×Int)}(h:Chn R I r P Q):∀L,P L->I L:=by
 cases h with
 | nil _ h=>exact h
 | cons _ _ _ _ _ h _ _=>exact h
structure Run(R n:Nat)(I Q:LL->Prop)(D:DV)(x:DV×Int):Prop where
 acts:x.1.acts<=D.acts+n
 fk:D.fk=0->x.1.fk=0
 out:(x.2=0∧Qf R x.1∧Q x.1.L)∨(x.2≠0∧D.fk≠0∧x.1.free<=R∧Ord x.1.L∧I x.1.L∧(Qf R x.1∨x.1.down=true))
theorem Qax{I:LL->Prop}(hI:∀L ks,Ord L->I L->I (QM (aft ks L 0))):∀(r:List (DV->DV×Int)) (P Q:LL->Prop),Chn R I r P Q -> ∀D,Qf R D->P D.L->Run R r.length I Q D (Qx r D)
 | [],_,_,.nil P h0,D,hq,hp=>⟨La _,fun h=>h,.inl ⟨rfl,hq,hp⟩⟩
 | f::r,_,_,.cons P P' Q _ _ h0 hs hc,D,hq,hp=>by
  have hfr:∀X:DV,Qf R X->X.free<=R:=fun X h=>by have:=h.tot;omega
  rcases hs D hq hp with ⟨s,g,e,hf,hp'⟩|⟨e,hp'⟩
  ·obtain⟨a1,a2,a3⟩:=Qqk hq s g hf;rw[<-e] at a1 a2 a3;rw[Qx]
   rcases a3 with ⟨b1,b2,b3⟩|⟨b1,b2,b3⟩
   ·rw[Lf b1];have ih:=Qax hI r P' Q hc (f D).1 b2 (by rw[b3];exact hp')
    refine⟨by have:=ih.acts;simp only[List.length_cons];omega,fun h=>ih.fk (a2 h),?_⟩
    rcases ih.out with h|⟨h1,h2,h3⟩
    ·exact .inl h
    ·exact .inr ⟨h1,fun h=>h2 (a2 h),h3⟩
   ·rw[Le b1];refine⟨by rw[a1];simp only[List.length_cons];omega,a2,.inr ⟨b1,b2,?_⟩⟩
    have hom:=Q3 hq.ord s g
    rcases b3 with ⟨c1,c2⟩|⟨c1,c2,ks,c3⟩
    ·refine⟨hfr _ c1,c1.ord,?_,.inl c1⟩
     rcases c2 with c2|c2
     ·rw[c2];exact h0 _ hp
     ·rw[c2];exact hc.first _ hp'
    ·rcases c3 with c3|c3
     ·exact⟨c2,by rw[c3];exact QbF (O0 ks _ 0 hq.ord.1),by rw[c3];exact hI _ _ hq.ord (h0 _ hp),.inr c1⟩
     ·exact⟨c2,by rw[c3];exact QbF (O0 ks _ 0 hom.1),by rw[c3];exact hI _ _ hom (hc.first _ hp'),.inr c1⟩
  ·rw[Qx,e,Lf rfl];have ih:=Qax hI r P' Q hc D hq hp';exact⟨by have:=ih.acts;simp only[List.length_cons];omega,ih.fk,ih.out⟩
structure Cn(ia is na ns ma ms:List UInt8)(L:LL):Prop where
 i:Qe L nmI=⟨ia,is⟩
 n:Qe L nmN=⟨na,ns⟩
 m:Qe L nmM=⟨ma,ms⟩
 oth:Oth L
section
variable {ia is na ns ma ms:List UInt8} {L:LL}
theorem Cn.putI(h:Cn ia is na ns ma ms L)(ho:Ord L)(x y:List UInt8):Cn x y na ns ma ms (QL L nmI ⟨x,y⟩) :=
 ⟨by rw[Qs ho,Lf rfl],by rw[Qs ho,Le U7.symm,h.n],by rw[Qs ho,Le JB.symm,h.m],fun s h1 h2 h3=>by rw[Qs ho,Le h1];exact h.oth s h1 h2 h3⟩
theorem Cn.putN(h:Cn ia is na ns ma ms L)(ho:Ord L)(x y:List UInt8):Cn ia is x y ma ms (QL L nmN ⟨x,y⟩) :=
 ⟨by rw[Qs ho,Le U7,h.i],by rw[Qs ho,Lf rfl],by rw[Qs ho,Le JP.symm,h.m],fun s h1 h2 h3=>by rw[Qs ho,Le h2];exact h.oth s h1 h2 h3⟩
theorem Cn.putM(h:Cn ia is na ns ma ms L)(ho:Ord L)(x y:List UInt8):Cn ia is na ns x y (QL L nmM ⟨x,y⟩) :=
 ⟨by rw[Qs ho,Le JB,h.i],by rw[Qs ho,Le JP,h.n],by rw[Qs ho,Lf rfl],fun s h1 h2 h3=>by rw[Qs ho,Le h3];exact h.oth s h1 h2 h3⟩
theorem Cn.tot(h:Cn ia is na ns ma ms L)(ho:Ord L):tot L=ia.length+na.length+ma.length:=by
 have:=(Y3 ho h.oth).1
 rwa [h.i,h.n,h.m] at this
theorem Cn.fall(h:Cn ia is na ns ma ms L)(ho:Ord L)(ks:List Bool):∃x y z j1 j2 j3,Cn x x y y z z (QM (aft ks L 0))∧x=(stay ks ⟨ia,is⟩ j1).1∧y=(stay ks ⟨na,ns⟩ j2).1∧z=(stay ks ⟨ma,ms⟩ j3).1:=by
 obtain⟨j1,e1⟩:=Qbw ho ks nmI;obtain⟨j2,e2⟩:=Qbw ho ks nmN;obtain⟨j3,e3⟩:=Qbw ho ks nmM;rw[h.i] at e1;rw[h.n] at e2;rw[h.m] at e3;refine⟨_,_,_,j1,j2,j3,⟨e1,e2,e3,fun s h1 h2 h3=> ?_⟩,rfl,rfl,rfl⟩
 obtain⟨j,e⟩:=Qbw ho ks s;rw[e,h.oth s h1 h2 h3,Qh2];rfl
end
variable{A:List It}{L:LL}
theorem Ext.cn(h:Ext k A L):Cn (bA k A).a (bA k A).a (bA k A).b (bA k A).b (bA k A).m (bA k A).m L:=⟨h.i,h.n,h.m,h.oth⟩
theorem Cn.ext(h:Cn (bA k A).a (bA k A).a (bA k A).b (bA k A).b (bA k A).m (bA k A).m L):Ext k A L:=⟨h.i,h.n,h.m,h.oth⟩
def Fi(p y:List UInt8):Prop:=p <+: y∧y.length<=600000
def Mi(m y:List UInt8):Prop:=y=m∨y=m++zer 64
def Wk(k:Nat)(A:List It)(L:LL):Prop := ∃ia is na ns ma ms,Cn ia is na ns ma ms L∧(Fi (bA k A).a ia∧Fi (bA k A).a is)∧(Fi (bA k A).b na∧Fi (bA k A).b ns)∧Mi (bA k A).m ma∧Mi (bA k A).m ms
structure Smk(k:Nat)(A:List It):Prop where
 ok:OkA k A
 sz:(bA k A).a.length+(bA k A).b.length+(bA k A).m.length<=300000
variable{m t x y:List UInt8}
theorem Y7(h:p.length<=600000):Fi p p:=⟨Ny,h⟩
theorem Qho(h1:Fi p x)(h2:Fi p y)(ks:List Bool)(j:Nat):Fi p (stay ks ⟨x,y⟩ j).1:=by
 refine⟨QfR ks ⟨x,y⟩ j h1.1 h2.1,?_⟩
 rcases Qdp ks ⟨x,y⟩ j with h|h
 ·rw[h];exact h1.2
 ·rw[h];exact h2.2
theorem Qbx(h:Mi m y):∃t,y=m++t∧(t=[]∨t=zer 64):=by
 rcases h with rfl|rfl
 ·exact⟨[],by rw[LU],.inl rfl⟩
 ·exact⟨zer 64,rfl,.inr rfl⟩
theorem QfN(hm:m.length=64*n)(h:t=[]∨t=zer 64):sec (m++t) n=zer 64:=by
 rcases h with rfl|rfl
 ·rw[LU];exact QhZ m n hm
 ·exact QhY m _ n hm (Qw 64)
theorem Qnn(hm:m.length=64*n)(h1:Mi m x)(h2:Mi m y)(ks:List Bool)(j:Nat):Mi m (stay ks ⟨x,y⟩ j).1:=by
 obtain⟨t,rfl,ht⟩:=Qbx h1;obtain⟨u,rfl,hu⟩:=Qbx h2;have lt:t=[]∨t.length=64:=ht.imp id (fun e=>by rw[e,Qw])
 have lu:u=[]∨u.length=64:=hu.imp id (fun e=>by rw[e,Qw])
 have:=Qdq ks m t u n j hm lt lu;rw[QfN hm ht,QfN hm hu] at this
 rcases this with h|h|h
 ·exact .inl h
 ·exact .inr h
 ·exact .inr h
theorem Wk.fall(h:OkA k A)(hw:Wk k A L)(ho:Ord L)(ks:List Bool):Wk k A (QM (aft ks L 0)):=by
 obtain⟨ia,is,na,ns,ma,ms,c,⟨i1,i2⟩,⟨n1,n2⟩,m1,m2⟩:=hw;obtain⟨x,y,z,j1,j2,j3,c',rfl,rfl,rfl⟩:=c.fall ho ks;have a:=Qho i1 i2 ks j1;have b:=Qho n1 n2 ks j2;have d:=Qnn h.lens.m m1 m2 ks j3;exact⟨_,_,_,_,_,_,c',⟨a,a⟩,⟨b,b⟩,d,d⟩
theorem Wk.beh(hw:Wk k A L):Beh k A L:=by
 obtain⟨ia,is,na,ns,ma,ms,c,⟨i1,i2⟩,⟨n1,n2⟩,m1,m2⟩:=hw;refine⟨by rw[c.i];exact i1.1,by rw[c.n];exact n1.1,?_,c.oth⟩
 obtain⟨t,e,ht⟩:=Qbx m1;exact⟨t,by rw[c.m];exact e,ht.imp (fun e=>by rw[e];decide) id⟩
theorem Smk.wk(h:Smk k A)(he:Ext k A L):Wk k A L:=by
 have:=h.sz;exact⟨_,_,_,_,_,_,he.cn,⟨Y7 (by omega),Y7 (by omega)⟩,⟨Y7 (by omega),Y7 (by omega)⟩,.inl rfl,.inl rfl⟩
def Un(k:Nat)(A:List It)(x:It)(L:LL):Prop:=Cn (bA k (A++[x])).a (bA k (A++[x])).a (bA k (A++[x])).b (bA k (A++[x])).b (bA k (A++[x])).m (bA k A).m L
theorem QdE(k:Nat)(A:List It)(x:It):(bA k (A++[x])).m=(bA k A).m++mrk ((bA k A).mk' k x):=by rw[QT];rfl
theorem Un.fall{x:It}(h:Smk k (A++[x]))(hu:Un k A x L)(ho:Ord L)(ks:List Bool):Wk k A (QM (aft ks L 0))∨Wk k (A++[x]) (QM (aft ks L 0)):=by
 obtain⟨a,b,c,j1,j2,j3,c',e1,e2,e3⟩:=Cn.fall hu ho ks;rw[Qjq] at e1 e2;subst e1 e2;have hp:=QbJ k A [x];have hs:=h.sz;have l:=h.ok.init.lens;have l2:=h.ok.lens;have xA:(mrk ((bA k A).mk' k x)).length=64:=by
  have:=l2.m;rw[QdE,Lc,l.m,Lc] at this;simp only[List.length_cons,List.length_nil] at this;omega
 have xB:=Qdq ks (bA k A).m (mrk ((bA k A).mk' k x)) [] A.length j3 l.m (.inr xA) (.inl rfl);rw[QhY _ _ _ l.m xA,LU,QhZ _ _ l.m,<-QdE,<-e3] at xB;have fa:Fi (bA k A).a (bA k (A++[x])).a:=⟨hp.1,by omega⟩
 have fb:Fi (bA k A).b (bA k (A++[x])).b:=⟨hp.2.1,by omega⟩
 have ga:Fi (bA k (A++[x])).a (bA k (A++[x])).a:=Y7 (by omega)
 have gb:Fi (bA k (A++[x])).b (bA k (A++[x])).b:=Y7 (by omega)
 rcases xB with e|e|e
 ·exact .inl ⟨_,_,_,_,_,_,c',⟨fa,fa⟩,⟨fb,fb⟩,.inl e,.inl e⟩
 ·exact .inr ⟨_,_,_,_,_,_,c',⟨ga,ga⟩,⟨gb,gb⟩,.inl e,.inl e⟩
 ·exact .inl ⟨_,_,_,_,_,_,c',⟨fa,fa⟩,⟨fb,fb⟩,.inr e,.inr e⟩
def Gd(k:Nat)(A:List It)(X:Option It)(L:LL):Prop:=Wk k A L ∨ ∃x,X=some x∧(Wk k (A++[x]) L∨Un k A x L)
structure SmX(k:Nat)(A:List It)(X:Option It):Prop where
 a:Smk k A
 x:∀x,X=some x->Smk k (A++[x])
theorem Gd.fall{X:Option It}(h:SmX k A X){ks:List Bool}(ho:Ord L)(hg:Gd k A X L):Gd k A X (QM (aft ks L 0)):=by
 rcases hg with hw|⟨x,rfl,hw|hu⟩
 ·exact .inl (hw.fall h.a.ok ho ks)
 ·exact .inr ⟨x,rfl,.inl (hw.fall (h.x x rfl).ok ho ks)⟩
 ·rcases hu.fall (h.x x rfl) ho ks with e|e
  ·exact .inl e
  ·exact .inr ⟨x,rfl,.inl e⟩
def Ge(A:List It)(X:Option It)(B:List It):Prop:=B=A ∨ ∃x,X=some x∧B=A++[x]
variable{X:Option It}
theorem Ge.smk{B:List It}(h:SmX k A X)(hb:Ge A X B):Smk k B:=by
 rcases hb with rfl|⟨x,e,rfl⟩
 ·exact h.a
 ·exact h.x x e
theorem Gd.fallen(h:SmX k A X)(ks:List Bool)(ho:Ord L)(hg:Gd k A X L):∃B,Ge A X B∧Wk k B (QM (aft ks L 0)):=by
 rcases hg with hw|⟨x,rfl,hw|hu⟩
 ·exact⟨A,.inl rfl,hw.fall h.a.ok ho ks⟩
 ·exact⟨_,.inr ⟨x,rfl,rfl⟩,hw.fall (h.x x rfl).ok ho ks⟩
 ·rcases hu.fall (h.x x rfl) ho ks with e|e
  ·exact⟨A,.inl rfl,e⟩
  ·exact⟨_,.inr ⟨x,rfl,rfl⟩,e⟩
theorem Gd.pre(hg:Gd k A X L):(bA k A).a <+: (Qe L nmI).now∧(bA k A).b <+: (Qe L nmN).now∧Oth L:=by
 rcases hg with hw|⟨x,rfl,hw|hu⟩
 ·exact⟨hw.beh.i,hw.beh.n,hw.beh.oth⟩
 ·have hp:=QbJ k A [x];exact⟨hp.1.trans hw.beh.i,hp.2.1.trans hw.beh.n,hw.beh.oth⟩
 ·have hp:=QbJ k A [x];exact⟨by rw[hu.i];exact hp.1,by rw[hu.n];exact hp.2.1,hu.oth⟩
end St
end Go.Proofs.YtoblgjledefdbaaGreatDoor
