/- Own work. -/
import Derived.Test.YtdocjikpcbmcgaaGreatDoorQj44
set_option maxRecDepth 100000
set_option maxHeartbeats 1000000
namespace Go.Proofs.YtdocjikpcbmcgaaGreatDoor
open Go.RowKit
attribute [local go_sem ↓] Go.wp_at_zero Go.wp_at_succ
section
open Cv (cov)
theorem kin_rows {k:Int} {old now:LB} {s:BA} {P:PV} (V:Nat->BA) (A:AccK k old.length (rtD (clk k) old old.length) now.length (rtD (clk k) now now.length) s P) :
    kinT (clk k) old.length now.length old now P.D V=(fr (tx (clk k) old.length ((Cv.dnL 41 0 old.length).map fun b=>nd (clk k) old b.1 b.2)) (tx (clk k) old.length (P.D.take (Cv.dnL 41 0 old.length).length))).or
      ((fr (tx (clk k) now.length ((Cv.dnL 41 0 now.length).map fun b=>nd (clk k) now b.1 b.2)++(Cv.dnL 41 0 now.length).flatMap fun b=>ra (clk k) now (ixM (kb old.length now.length)) b.1 b.2) (tx (clk k) now.length ((Cv.dnL 41 0 now.length).map fun b=>xd (clk k) (ixM (kb old.length now.length)) P.D V b.1 b.2)++(Cv.dnL 41 0 now.length).flatMap fun b=>rb (clk k) (ixM (kb old.length now.length)) P.D V b.1 b.2)).or
       (fr ((Cv.dnL 41 0 old.length).flatMap fun b=>ra (clk k) old (fun _ _=>none) b.1 b.2) ((Cv.dnL 41 0 old.length).flatMap fun b=>rb (clk k) (fun _ _=>none) [] (fun i=>now.getD i ByteArray.empty) b.1 b.2))):=by
  obtain⟨⟨⟨_,hk⟩,hn,hm,_⟩,hf⟩:=A.ok;have hc:=Qx k;have hck:(clk k:Int)=k:=Qbs hk.1 hk.2;have hm40:old.length<=2^40:=Lm hm hn;have hD:P.D.length=(kb old.length now.length).length:=hf.1;have hdsz : ∀d∈P.D,d.size=clk k:=fun d hd=>by have:=hf.2 d hd;omega
  have hcov:cov 0 old.length=Cv.dnL 41 0 old.length:=Cv.QH _ hm40;have hkl:(Cv.dnL 41 0 old.length).length<=P.D.length:=by rw[hD,kb,Ld,hcov];omega
  have T:=QdR A.ok V
  -- the first
  have he1:dg (clk k) (QN old.length (QA (clk k) ((Cv.dnL 41 0 old.length).map fun b=>nd (clk k) old b.1 b.2)))=dg (clk k) (QN old.length (QA (clk k) (P.D.take (Cv.dnL 41 0 old.length).length))):=by
    rw[<-QdG hm40,<-A.one,kOld,hcov]
  have hl1:((Cv.dnL 41 0 old.length).map fun b=>nd (clk k) old b.1 b.2).length=(P.D.take (Cv.dnL 41 0 old.length).length).length:=by rw[Ln,Lv];omega
  have hP1 : ∀s∈(Cv.dnL 41 0 old.length).map fun b=>nd (clk k) old b.1 b.2,s.size=clk k:=fun s hs=>by obtain⟨b,_,rfl⟩:=LE.1 hs;exact QD hc _ _ _
  have hQ1 : ∀s∈P.D.take (Cv.dnL 41 0 old.length).length,s.size=clk k:=fun s hs=>hdsz s (LJ hs)
  rw[QlU _ _ hl1,QlC,(Qgn _ _ _ _ _ _).2];unfold kinT
  cases ht1:tp (clk k) old.length ((Cv.dnL 41 0 old.length).map fun b=>nd (clk k) old b.1 b.2) (P.D.take (Cv.dnL 41 0 old.length).length) with
  | some q=>rfl
  | none =>
    have e1:=QeY hl1 hP1 hQ1 ht1;have he2:dg (clk k) (QN now.length (QA (clk k) ((Cv.dnL 41 0 now.length).map fun b=>nd (clk k) now b.1 b.2)))=dg (clk k) (QN now.length (QA (clk k) ((Cv.dnL 41 0 now.length).map fun b=>xd (clk k) (ixM (kb old.length now.length)) P.D V b.1 b.2))):=by
      rw[<-QdG hn,T.pk,<-A.two,kNow]
    rcases Qe1 hc T.lt T.dsz he2 with ⟨q,hq,hcl⟩|⟨hq,h2⟩
    · rw[hq];rfl
    · rw[hq];have hgiv : ∀j,j<(Cv.dnL 41 0 old.length).length->nd (clk k) now ((Cv.dnL 41 0 old.length).getD j (0,0)).1 ((Cv.dnL 41 0 old.length).getD j (0,0)).2=P.D.getD j ByteArray.empty:=fun j hj=>by
        have h3:=Qhg hc hm hn T h2 (j:=j) (by rw[<-hD];omega)
        have e:(kb old.length now.length).getD j (0,0)=(Cv.dnL 41 0 old.length).getD j (0,0):=by rw[kb,hcov,JJ _ _ _ hj]
        rwa [e] at h3
      have e3:((Cv.dnL 41 0 old.length).map fun b=>nd (clk k) old b.1 b.2)=(Cv.dnL 41 0 old.length).map fun b=>xd (clk k) (fun _ _=>none) [] (fun i=>now.getD i ByteArray.empty) b.1 b.2:=by
        rw[e1];refine II (by rw[Ln,Lv];omega) fun j ha hb => ?_
        rw[Ln] at hb;have h4:=hgiv j hb;rw[IJ,Qc5];rw[La,Lc hb,La,Lc (show j<P.D.length by omega)] at h4
        rw[List.getElem_take];exact h4.symm
      show(none:Pq).or ((none:Pq).or _)=(none:Pq).or ((none:Pq).or _)
      rw[wk,e3,QgE]
      rfl
end
theorem Qmv{Bs:List (Nat×Nat)}{D:LB}(hl:D.length=Bs.length)(h i:Nat):(∃e∈Bs.zip D,e.1=(h,i))↔(ixM Bs h i).isSome=true:=by
 constructor
 ·rintro⟨e,he,h1⟩;obtain⟨j,hj,rfl⟩:=YT hl he;have hm:(h,i)∈Bs:=by rw[<-h1];exact Q5 hj
  rw[ixM,if_pos hm];rfl
 ·intro h1;obtain⟨j,hj⟩:=NM.1 h1;exact⟨_,Qdr hl hj,rfl⟩
section
variable {c:Nat} {Bs:List (Nat×Nat)} {D:LB} {V:Nat->BA} {Q:Nat->Prop} {K:List He}
theorem QmW(nodup:Bs.Nodup)(len:D.length=Bs.length)(h1 : ∀e∈K,e∈Bs.zip D∨(e.1 ∉ Bs∧e.1.1=0∧Q e.1.2∧e.2=dg c (Qm (V e.1.2))))(h2 : ∀e∈Bs.zip D,e∈K) : ∀h i v,Tl c K h i v->xd c (ixM Bs) D V h i=v:=fun h i v ht =>
 (QlW (c:=c) (M:=ixM Bs) (D:=D) (V:=V) (Q:=Q) (K:=K) (fun e he=>by
  rcases h1 e he with h|⟨h,h'⟩
  ·obtain⟨j,hj,rfl⟩:=YT len h;exact .inl ⟨j,Qfo nodup hj,rfl⟩
  ·exact .inr ⟨JN.2 h,h'⟩) (fun h k j e=>⟨_,h2 _ (Qdr len e)⟩) h i v ht).2
end
def itm(j:Nat):BA:=⟨#[0,UInt8.ofNat j,120]⟩
def twT:List Nat:=[60,97,171,134,88,22,17,54,184,101,139,97]
theorem Qnf:OH RS [0,0,0,120]=[60,115,51,89,170,121,94,68,26,117,65,74,121,5,229,159,180,97,156,229,95,57,133,109,216,143,125,140,40,63,22,143]:=by kernel_rfl
theorem QlJ:OH RS [0,0,1,120]=[97,111,209,249,112,229,104,253,142,89,247,175,177,203,231,229,179,47,215,18,47,2,11,44,194,13,204,220,147,99,98,153]:=by kernel_rfl
theorem Qng:OH RS [0,0,2,120]=[171,15,227,212,170,136,104,38,208,193,179,66,48,220,236,187,163,199,23,142,116,57,40,159,121,243,154,140,174,108,196,230]:=by kernel_rfl
theorem Qnh:OH RS [0,0,3,120]=[134,40,167,133,147,101,146,21,120,134,195,6,81,34,198,177,189,127,159,50,138,70,34,15,245,211,66,37,182,138,24,121]:=by kernel_rfl
theorem Qni:OH RS [0,0,4,120]=[88,128,152,147,177,183,140,206,90,9,31,118,69,75,27,173,38,124,150,91,75,46,45,186,238,197,152,28,241,48,92,74]:=by kernel_rfl
theorem Qnj:OH RS [0,0,5,120]=[22,65,3,192,184,250,151,203,27,253,199,4,105,198,210,176,108,243,184,81,164,46,161,231,67,34,97,67,28,123,124,94]:=by kernel_rfl
theorem Qnk:OH RS [0,0,6,120]=[17,109,222,42,20,150,144,158,205,7,132,205,234,200,25,43,66,104,39,60,237,120,143,142,57,53,59,205,233,229,124,165]:=by kernel_rfl
theorem Qnl:OH RS [0,0,7,120]=[54,224,149,243,247,62,243,138,148,93,185,205,96,26,36,164,139,180,140,161,102,144,104,114,213,41,23,89,75,72,28,107]:=by kernel_rfl
theorem Qnm:OH RS [0,0,8,120]=[184,76,106,39,223,38,136,60,186,236,103,192,177,255,24,29,207,225,186,7,155,114,52,71,179,147,216,240,99,97,14,15]:=by kernel_rfl
theorem Qnn:OH RS [0,0,9,120]=[101,83,181,139,142,94,11,58,116,254,160,129,104,73,251,206,36,118,106,26,22,88,198,137,73,147,100,32,5,220,139,241]:=by kernel_rfl
theorem Qmk:OH RS [0,0,10,120]=[139,90,170,69,74,86,59,223,246,207,166,9,101,203,57,184,136,69,93,136,224,131,236,247,127,44,191,120,39,254,192,58]:=by kernel_rfl
theorem QiD:OH RS [0,0,11,120]=[97,136,105,244,76,5,210,178,39,23,81,140,105,139,200,120,43,2,241,63,78,221,196,56,7,235,170,43,19,171,199,41]:=by kernel_rfl
theorem Jz(j:Nat)(l r:List Int)(d:Int)(h:OH RS l=d::r)(hl:l.length<64)(hj:tB (Qm (itm j))=l):(shaT RS (tB (Qm (itm j)))).getD 0 0=d:=by
 rw[hj,<-QdK _ _ hl,h];rfl
theorem Qlx : ∀j,j<12->(shaT RS (tB (Qm (itm j)))).getD 0 0=((twT.getD j 0:Nat):Int)
 | 0,_=>(Jz 0 _ _ _ Qnf (by decide) (by kernel_rfl)).trans (by rfl)
 | 1,_=>(Jz 1 _ _ _ QlJ (by decide) (by kernel_rfl)).trans (by rfl)
 | 2,_=>(Jz 2 _ _ _ Qng (by decide) (by kernel_rfl)).trans (by rfl)
 | 3,_=>(Jz 3 _ _ _ Qnh (by decide) (by kernel_rfl)).trans (by rfl)
 | 4,_=>(Jz 4 _ _ _ Qni (by decide) (by kernel_rfl)).trans (by rfl)
 | 5,_=>(Jz 5 _ _ _ Qnj (by decide) (by kernel_rfl)).trans (by rfl)
 | 6,_=>(Jz 6 _ _ _ Qnk (by decide) (by kernel_rfl)).trans (by rfl)
 | 7,_=>(Jz 7 _ _ _ Qnl (by decide) (by kernel_rfl)).trans (by rfl)
 | 8,_=>(Jz 8 _ _ _ Qnm (by decide) (by kernel_rfl)).trans (by rfl)
 | 9,_=>(Jz 9 _ _ _ Qnn (by decide) (by kernel_rfl)).trans (by rfl)
 | 10,_=>(Jz 10 _ _ _ Qmk (by decide) (by kernel_rfl)).trans (by rfl)
 | 11,_=>(Jz 11 _ _ _ QiD (by decide) (by kernel_rfl)).trans (by rfl)
theorem QeZ : ∀j,j<12->twT.getD j 0<256:=by decide
def hadC(Z:Array Value):Nat->Array Value
 | 0=>Z
 | j+1=>(hadC Z j).setIfInBounds (twT.getD j 0) (.string (itm j))
theorem QiL : ∀j,j<11->(hadC Tryz.zeroCells94 j)[twT.getD j 0]? = some (.string ⟨#[]⟩)
 | 0,_=>by kernel_rfl
 | 1,_=>by kernel_rfl
 | 2,_=>by kernel_rfl
 | 3,_=>by kernel_rfl
 | 4,_=>by kernel_rfl
 | 5,_=>by kernel_rfl
 | 6,_=>by kernel_rfl
 | 7,_=>by kernel_rfl
 | 8,_=>by kernel_rfl
 | 9,_=>by kernel_rfl
 | 10,_=>by kernel_rfl
theorem Qky:(hadC Tryz.zeroCells94 11)[97]? = some (.string (itm 1)):=by kernel_rfl
theorem Qg6(b:BA)(x:Int)(hm:0<b.size)(hx:(tB b).getD 0 0=x)(w:World):(Instr.index 9 (.string b) (.int .i64 0)).run Tryz.prog w = .ok (.int .u8 x) w:=by
 subst hx;have e:(tB b).getD 0 0=(b[0].toNat:Int):=by
  have:b.data.toList[0]? = some b[0]:=by
   rw[Ns,Na (by simpa using hm)];rfl
  simp[tB,List.getD_eq_getElem?_getD,this]
 have h2:b[0]? = some b[0]:=getElem?_pos b 0 hm
 rw[e];simp[Instr.index,asIntOf,run_underlying Tryz.underlying9,h2]
theorem QeU(w:World)(a b c:Nat)(ha:a<256)(hb:b<256)(hc:c<256):(convert 95 9 (.slice (some ⟨w.heap.size,0,none⟩) 3 3)).run Tryz.prog (w.alloc (.cells #[.int .u8 (a:Int),.int .u8 (b:Int),.int .u8 (c:Int)] 5)) = .ok (.string ⟨#[UInt8.ofNat a,UInt8.ofNat b,UInt8.ofNat c]⟩) (w.alloc (.cells #[.int .u8 (a:Int),.int .u8 (b:Int),.int .u8 (c:Int)] 5)):=by
 refine run_convert_bytes_back _ 95 9 5 ⟨w.heap.size,0,none⟩ 3 [UInt8.ofNat a,UInt8.ofNat b,UInt8.ofNat c] Tryz.underlying95 Tryz.underlying5 Tryz.underlying9 fun j hj => ?_
 rw[Addr.add_mid];have h1:=QF ha;have h2:=QF hb;have h3:=QF hc;refine Qv w [.int .u8 (a:Int),.int .u8 (b:Int),.int .u8 (c:Int)] 5 j _ ?_
 match j,hj with
 | 0,_=>simp[h1]
 | 1,_=>simp[h2]
 | 2,_=>simp[h3]
theorem Qfi(l:List Int)(d:Nat)(hd:d<256)(h:l.getD 0 0=(d:Int)):(tB (Q7 l)).getD 0 0=(d:Int):=by
 rw[tB,YQ,List.map_map]
 cases l with
 | nil=>exact h
 | cons a t =>
  have h:a=(d:Int):=h;subst h;simp only[List.map_cons,List.getD_cons_zero,Function.comp,Int.toNat_natCast];have:=QF hd;omega
def Hd(w:World)(g j:Nat):Prop:=w.heap[g]? = some (.cells (hadC Tryz.zeroCells94 j) 94 (0,0))
theorem Hd.lt{w:World}{g j:Nat}(h:Hd w g j):g<w.heap.size:=(Lg.1 h).1
theorem Hd.next{w W:World}{g j:Nat}(h:Hd w g j)(hb:Zb w W):Hd W g j:=(hb.block g h.lt).trans h
theorem QhV(w:World)(hr:Tr w):Zr 19 #[] w (.tuple #[.string (itm 1),.string (itm 11)]):=by
 have hd0:Hd (w.alloc (.cells Tryz.zeroCells94 94)) w.heap.size 0:=heap_alloc_new w _;have hb0:=bal (Below.refl w.heap.size w) (.cells Tryz.zeroCells94 94);have HR:=Qc hr;have HD0:=Qc hd0;have HB0:=Qc hb0;clear hr hd0 hb0
 go_enter Tryz.func19,Tryz.ntmps19;go_wp2
 go_loopg [3] 12 (fun g i wr => ∃j:Nat,g=12 - j∧j<12∧i = .int .i64 (j:Int)∧Hid (Hd wr w.heap.size j∧Zb w wr))
 case atStart =>
  go_light;exact⟨0,rfl,by decide,rfl,⟨HD0.out,HB0.out⟩⟩
 case round =>
  clear HD0 HB0;obtain⟨j,rfl,hj,rfl,HI⟩:=hrel;have z1:(j:Int)<300:=by omega
  have z2:(j:Int) / 20=0:=by omega
  have z3:(j:Int) % 20=(j:Int):=by omega
  have z4:(j:Int)<12:=by omega
  have z5:(0:Int)<=(j:Int):=Le _;have HT:=QeU wr 0 j 120 (by decide) (by omega) (by decide)
  rw[show((0:Nat):Int)=0 from rfl,show((120:Nat):Int)=120 from rfl] at HT
  have hit:(⟨#[UInt8.ofNat 0,UInt8.ofNat j,UInt8.ofNat 120]⟩:BA)=itm j:=rfl;rw[hit] at HT;clear hit;obtain⟨x,hx⟩:=Ze (itm j);rw[hx] at HT;have hxs:x.size=3:=by rw[<-hx];rfl
  obtain⟨r,hr⟩:=Ze (Jt RS (tB (Qm x)));obtain⟨d,hd⟩:=Ze (twT.getD j 0);have hd256:d<256:=by rw[<-hd];exact QeZ j hj
  have hrb:(tB r).getD 0 0=(d:Int):=by
   have:=Qlx j hj;rw[hx,hd] at this;rw[<-hr];exact Qfi _ _ hd256 this
  have hrs:0<r.size:=by rw[<-hr,Ok];decide
  have hix:=Qg6 r (d:Int) hrs hrb;have HX:=Qc (And.intro hx hd);obtain⟨W1,hW1⟩:=Ze (wr.alloc (.cells #[.int .u8 0,.int .u8 (j:Int),.int .u8 120] 5));have hb1:Zb wr W1:=by rw[<-hW1];exact bal (Below.refl _ _) _
  rw[hW1] at HT;obtain⟨t,ht⟩:=Ze ((⟨#[0]⟩:BA)++x);have HO:Hid (∀V,Zb w V->Calls Tryz.prog 31 #[.slice (some ⟨V.heap.size,0,none⟩) 1 1] (V.alloc (.cells #[.string t] 9)) fun e w'=>e = .returned (.string r)∧Zb V w'):=fun V hb=>by
   have hlt:Qm x=t:=ht;have:=Qgo V (HR.out.next hb) (Qm x) (by rw[Yk];omega) r hr
   rwa [hlt] at this
  have hbW:=Qa HI.out.2 hb1;clear hx hd hr hrb hrs hd256
  go_upto_region 7 with (go_at_call 31;with_reducible refine(HO.out _ hbW).mono ?_;rintro e w2 ⟨rfl,hb2⟩)
  have hH:=HI.out.1.next (Qa hb1 hb2);have hb:=Qa hbW hb2;have q0:(0:Int)<=(d:Int):=Le _;have q1:(d:Int)<256:=by have:=HX.out.2;have:=QeZ j hj;omega
  have HH:=Qc (And.intro hH hb);clear hbW hb1 hb2 HT hix hW1 HO ht hxs
  by_cases hl:j<11
  ·have c0:w2.cell? ⟨w.heap.size,d,none⟩=some (.string ⟨#[]⟩):=by
    rw[cell_of_row w2 w.heap.size d _ _ (0,0) hH,<-HX.out.2];exact QiL j hl
   have fz:w2.frozen? ⟨w.heap.size,d,none⟩=false:=frozen_of_row w2 w.heap.size d _ _ hH;clear hH hb;have HN:Hid (Hd (w2.setCell ⟨w.heap.size,d,none⟩ (.string x)) w.heap.size (j+1)∧Zb w (w2.setCell ⟨w.heap.size,d,none⟩ (.string x))):=by
    refine⟨?_,HH.out.2.trans ((((ChT.refl (fun b=>b=w.heap.size) w2).set w.heap.size d (.string x) rfl)).below (by rintro b rfl;exact Lb _))⟩
    have:=heap_setCell_same w2 w.heap.size d _ _ (.string x) HH.out.1;rw[<-HX.out.2,<-HX.out.1] at this ⊢;exact this
   go_wp2
   go_roundg (12 - (j+1))
   case rel =>
    go_light;exact⟨j+1,rfl,by omega,by go_num,HN⟩
   case measure=>go_light;omega
  ·obtain rfl:j=11:=by omega
   have c0:w2.cell? ⟨w.heap.size,d,none⟩=some (.string (itm 1)):=by
    rw[cell_of_row w2 w.heap.size d _ _ (0,0) hH,<-HX.out.2];exact Qky
   obtain⟨y,hy⟩:=Ze (itm 1);rw[hy] at c0;have hne:y≠⟨#[]⟩:=fun e=>by
    have:=congrArg ByteArray.size (hy.trans e);exact absurd this (by decide)
   have hz:=YG hne;have hze:y.toList.isEmpty=false:=by
    cases h:y.toList with
    | nil=>exact absurd (h.trans (by rw[Qdt])) hz
    | cons a t=>rfl
   have HY:=Qc hy;clear hH hb hne hy hz;go_wp2;exact bodyPost_ret (v := .tuple #[.string y,.string x]) (by simp[results,Tryz.results19,go_sem]) rfl ⟨by rw[HY.out,HX.out.1],HH.out.2⟩
abbrev s0A:BA:=⟨#[1,1,1,0]⟩
theorem Qfg:dec s0A.data.toList=some ⟨1,1,0,1,[0],[]⟩:=by kernel_rfl
theorem QgH:Wy 1 0 [] 0 []:=⟨by decide,by decide,(fun a h=>by cases h),(fun a h=>by cases h)⟩
theorem Qf0:Cv.dnL 41 0 1=[(0,0)]:=by decide
theorem Qf3(b:BA)(d:UInt8)(t:List UInt8)(h:b.data.toList=d::t):b.extract 0 1=⟨#[d]⟩:=by
 apply Io
 apply NV.1
 rw[Nw,N7,h]
 rfl
theorem QjR:dg 1 (Qm (itm 1))=dg 1 (Qm (itm 11)):=by
 have h1:(Jt RS (tB (Qm (itm 1)))).data.toList=(97:UInt8)::((shaT RS (tB (Qm (itm 1)))).drop 1).map fun n=>UInt8.ofNat n.toNat:=by
  rw[Jt,YQ,show tB (Qm (itm 1))=[0,0,1,120] by kernel_rfl,<-QdK _ _ (by decide),QlJ];rfl
 have h2:(Jt RS (tB (Qm (itm 11)))).data.toList=(97:UInt8)::((shaT RS (tB (Qm (itm 11)))).drop 1).map fun n=>UInt8.ofNat n.toNat:=by
  rw[Jt,YQ,show tB (Qm (itm 11))=[0,0,11,120] by kernel_rfl,<-QdK _ _ (by decide),QiD];rfl
 rw[dg,dg,Qf3 _ _ _ h1,Qf3 _ _ _ h2]
theorem QhU:itm 1≠itm 11:=by decide
theorem QmQ(c:Nat)(x:BA):rtD c [x] 1=dg c (QN 1 (dg c (Qm x))):=by
 have:=QdG (c:=c) (L:=[x]) (show 1<=2^40 by decide)
 rw[show[x].length=1 from rfl,Qf0] at this
 exact this
theorem Qla(c:Nat)(x:BA):rtP c 1 0 0 0 [] x=dg c (QN 1 (dg c (Qm x))):=rfl
theorem Qhm{x y c:BA}{T:Pq}(X:ClmX 1 [x] [(0,y)] s0A 1 c 0 T)(he:dg (clk 1) (Qm x)=dg (clk 1) (Qm y))(hne:x≠y):T=some (Qm x,Qm y):=by
 obtain⟨_,P,Bs,K,R,A,Tr,_,h2⟩:=X.yes rfl;have hso : ¬soC [x] [(0,y)]:=fun h=>hne (h (0,y) (by simp))
 rw[h2 hso];have hM:ixM Bs 0 0=none:=by
  have:=(Tr.free 0 (by simp)).2 0
  rwa [Nj,Ib] at this
 have hV:vlC [(0,y)] 0=y:=rfl;have hn:nd (clk 1) [x] 0 0=xd (clk 1) (ixM Bs) P.D (vlC [(0,y)]) 0 0:=by
  rw[Jx hM,hV];exact he
 unfold wk;rw[show[x].length=1 from rfl,Qf0]
 simp only[List.map_cons,List.map_nil,fm];rw[hn,QgE,Od hM,hV];have hl:Qm ([x].getD 0 ByteArray.empty)≠Qm y:=fun e=>hne (QcA e)
 rw[un,if_neg hl]
 rfl
theorem Qet{x y c:BA}{T:Pq}(X:ClmX 1 [x] [(0,y)] s0A 1 c 0 T)(hx:x.size<=1000)(hy:y.size<=1000)(V:World)(ht:Tb V):Calls Tryz.prog 10 #[.int .i64 1,.slice (some ⟨V.heap.size,0,none⟩) 1 1,.slice (some ⟨V.heap.size+1,0,none⟩) 1 1,.string s0A] ((V.alloc (.cells #[.string x] 9)).alloc (.cells #[.int .u64 0,.string y] 38)) fun e w'=>e = .returned (tri T)∧Zb V w':=by
 have hb1:=bal (Below.refl V.heap.size V) (.cells #[.string x] 9);have hb2:=bal (Below.refl _ (V.alloc (.cells #[.string x] 9))) (.cells #[.int .u64 0,.string y] 38);have hR:RdS ((V.alloc (.cells #[.string x] 9)).alloc (.cells #[.int .u64 0,.string y] 38)) (some ⟨V.heap.size,0,none⟩) V.heap.size 0 1 [x]:=(UN V x (by omega)).next hb2 (Lb _)
 have hK:RdK ((V.alloc (.cells #[.string x] 9)).alloc (.cells #[.int .u64 0,.string y] 38)) (some ⟨V.heap.size+1,0,none⟩) (V.heap.size+1) 0 1 [(0,y)]:=by
  refine⟨rfl,fun _=>rfl,?_,fun z hz=>by simp at hz;subst hz;simp only;omega⟩
  have:=Qv (V.alloc (.cells #[.string x] 9)) [.int .u64 0,.string y] 38;rw[Lp] at this;exact this
 exact(X.ext _ _ _ _ 1 _ _ _ 1 (ht.next (Qa hb1 hb2)) hR (Lb _) hK).mono fun e w' ⟨h1,h2⟩=>⟨h1,Qa (Qa hb1 hb2) h2⟩
def Ls2(w:World)(g:Nat)(pa:OA)(pn pc:Nat)(qa:OA)(qn qc:Nat):Prop:=w.heap[g]? = some (.cells #[.slice pa pn pc,.slice qa qn qc] 41 (0,0))
section
variable {w W:World} {g pn pc qn qc:Nat} {pa qa:OA}
theorem Ls2.cells(h:Ls2 w g pa pn pc qa qn qc):w.cell? ⟨g,0,none⟩=some (.slice pa pn pc)∧w.cell? ⟨g,1,none⟩=some (.slice qa qn qc):=by
 refine⟨?_,?_⟩
 ·rw[cell_of_row w g 0 _ _ (0,0) h];rfl
 ·rw[cell_of_row w g 1 _ _ (0,0) h];rfl
theorem Ls2.lt(h:Ls2 w g pa pn pc qa qn qc):g<w.heap.size:=(Lg.1 h).1
theorem Ls2.next(h:Ls2 w g pa pn pc qa qn qc)(hb:Zb w W):Ls2 W g pa pn pc qa qn qc:=(hb.block g h.lt).trans h
theorem QkF(w:World)(pa:OA)(pn pc:Nat)(qa:OA)(qn qc:Nat) : ∃W,w.alloc (.cells #[.slice pa pn pc,.slice qa qn qc] 41)=W∧Ls2 W w.heap.size pa pn pc qa qn qc∧Zb w W:=⟨_,rfl,heap_alloc_new w _,bal (Below.refl _ _) _⟩
end
theorem Qa8{w:World}{la:OA}{lb lo ln:Nat}{Li:LB}(hL:RdS w la lb lo ln Li):RdS w la lb lo (Li.take 150).length (Li.take 150)∧min ln 150=(Li.take 150).length∧(Li.take 150).length<=150∧(Li.take 150).length<=ln:=by
 have hlen:min ln 150=(Li.take 150).length:=by rw[Lv,hL.hl];omega
 refine⟨?_,hlen,by omega,by omega⟩
 have hL':=hL;rw[<-hL.hl] at hL';have h1:Li.take (Li.take 150).length=Li.take 150:=by rw[<-hlen,<-hL.hl];simp[Nat.min_comm]
 have h2:=Uk hL' (H:=(Li.take 150).length) (by have:=hL.hl;omega)
 rwa [h1] at h2
def UL:BA:=⟨#[109,97,114,107]⟩
theorem Qen(w:World)(ao:OA)(b off len cap:Nat)(ss:LB)(hr:RdS w ao b off len ss)(hmx:len<=8796093021952)(hn:ao=none->cap=0) :
  Calls Tryz.prog 15 #[.slice ao len cap] w fun e w' => ∃g cap',e = .returned (.slice (some ⟨g,0,none⟩) len cap')∧len+1<=cap'∧w'.rangeAt g 0 ((ss++[UL]).map Value.string)∧Zb w w':=by
 obtain rfl:=hr.hl
 go_enter Tryz.func15,Tryz.ntmps15
 go_wp2_with (at_builtin;refine QS _ rfl _ _ rfl w.heap.size _ [] rfl (YV w _) ao b off cap ss rfl hr hn ?_ (Lb _) ?_)
 ·simp;omega
 intro v1 w1 h1 hb1
 go_wp2_with (at_builtin;refine QS _ rfl _ _ rfl w.heap.size _ ss rfl (UW h1 _) (some ⟨w1.heap.size,0,none⟩) w1.heap.size 0 1 [UL] rfl (UN w1 UL (by decide)) (fun h=>by cases h) ?_ ?_ ?_)
 ·simp;omega
 ·have:=hb1.size;simp;omega
 intro v2 w2 h2 hb2;have HB:Hid (Zb w w2):=hb1.trans (((Below.refl _ _).alloc hb1.size _).trans hb2);obtain⟨g,cap',rfl,hg,hc,hm⟩:=Qeu h2 (by simp)
 rw[Ld,L3] at hc;have hc2:(ss.length:Int)<=(cap':Int):=by omega
 have HR:Hid (w2.rangeAt g 0 ((ss++[UL]).map Value.string)):=fun j v hv=>by
  have hj:j<(ss++[UL]).length:=by have:=(Lw.1 hv).1;rwa [Ln] at this
  rw[Ll,(Jb h2 hj).1,<-hv,Nn,Lc hj,La,Lc hj]
  rfl
 clear h1 h2 hb1 hb2 hr;go_wp2
 go_ret
 exact⟨g,cap',rfl,hc,HR.out,HB.out⟩
theorem QkG{w:World}{g:Nat}{ss:LB}(h:w.rangeAt g 0 ((ss++[UL]).map Value.string)):w.cell? ⟨g,ss.length,none⟩=some (.string UL):=by
 have:=h ss.length (.string UL) (by simp)
 rwa [Ll] at this
theorem Qb4{w:World}{g:Nat}{ss:LB}(h:w.rangeAt g 0 ((ss++[UL]).map Value.string))(hs : ∀s∈ss,s.size<=9223372036854775807):RdS w (some ⟨g,0,none⟩) g 0 ss.length ss :=
 ⟨rfl,fun _=>rfl,fun j v hv=>h j v (by rw[LK,LN (Lw.1 hv).1];exact hv),hs⟩
theorem Qc3(w:World)(ao:OA)(b off len cap:Nat)(ss:LB)(hr:RdS w ao b off len ss)(hmx:len<=8796093021952)(g cap':Nat)(hc:len+1<=cap')(hg:w.rangeAt g 0 ((ss++[UL]).map Value.string)) :
  Zr 17 #[.slice (some ⟨g,0,none⟩) len cap',.slice ao len cap] w (.bool true):=by
 obtain rfl:=hr.hl;have HRd:Hid (∀W,Zb w W->RdS W (some ⟨g,0,none⟩) g 0 ss.length ss∧RdS W ao b off ss.length ss):=fun W hb=>⟨(Qb4 hg hr.sz).next hb (Lb _),hr.next hb (Lb _)⟩
 have HM:Hid (∀W,Zb w W->W.cell? ⟨g,ss.length,none⟩=some (.string ⟨#[109,97,114,107]⟩)):=fun W h=>QkG (Ql h (QM hg (by simp)) hg)
 have H0:Hid (Zb w w):=Below.refl _ _;have hc2:(ss.length:Int)+1<=(cap':Int):=by omega
 have zm:(ss.length:Int)<=8796093021952:=by omega
 have zw:IntKind.i64.wrap ((ss.length:Int)+1)=(ss.length:Int)+1:=by rw[LW];omega
 have zt:((ss.length:Int)+1).toNat=ss.length+1:=by omega
 have z6:(0:Int)<=(ss.length:Int)+1:=by omega
 clear hr hg hmx hc
 go_enter Tryz.func17,Tryz.ntmps17;go_wp2
 go_loopg [5] ss.length (fun t i wr => ∃j:Nat,t=ss.length - j∧j<=ss.length∧i = .int .i64 (j:Int)∧Hid (Zb w wr))
 case atStart =>
  go_light;exact⟨0,rfl,Lf _,rfl,H0⟩
 case round =>
  clear H0;obtain⟨j,rfl,hj,rfl,HI⟩:=hrel
  by_cases hlt:j<ss.length
  ·have y0:(0:Int)<=(j:Int):=Le _;have y1:(j:Int)<(ss.length:Int):=by omega
   obtain⟨hrA,hrB⟩:=HRd.out wr HI.out;obtain rfl:=hrB.ptr (by omega)
   have ca:=hrA.at hlt;have cb:=hrB.at hlt;obtain⟨x,hx⟩:=Ze (ss.getD j ByteArray.empty);rw[hx] at ca cb;rw[Ll] at ca;have HW1:Hid (∀t,Zb w (wr.drewN t)):=fun t=>Qd HI.out t
   clear hrA hrB hx HI
   go_upto_region 4 with (fail)
   go_quiet (fail)
   go_wp2
   go_roundg (ss.length - (j+1))
   case rel =>
    go_light;exact⟨j+1,rfl,by omega,by go_num,HW1.out _⟩
   case measure=>go_light;omega
  ·obtain rfl:j=ss.length:=by omega
   have hz1 : ¬(ss.length:Int)<(ss.length:Int):=by omega
   have k1:=HM.out _ HI.out;have hB':=HI.out;clear HI hlt hj HRd;go_wp2
   go_ret
   exact⟨rfl,hB'⟩
section
open Pl (pw QB)
open Cv (Row All Til But cov zl)
theorem QgI{k:Int}{o1:Nat}{c1:BA}{l:List (Nat×BA)}{s:BA}{P:PV}(A:Acc k o1 c1 l s P)(hkd:P.kd=1) : ∃Bs K R,AccT k o1 c1 l P Bs K R:=by
 have hS:=A.hS;have hsz:=A.size;have hold:=A.old
 rcases A.how with ⟨h1,i,A',H,B,hSi,wy,hi,hf,hr⟩|⟨h2,_,_⟩
 ·rw[hSi] at hS;obtain⟨x,hlx⟩:=QkC hS;have hvx:vlC l i=x:=by rw[hlx];simp[vlC]
  have hx0:(vls l).getD 0 ByteArray.empty=x:=by rw[hlx];rfl
  rw[hx0] at hr;have ht:=QjP wy A.n40 ⟨A.k1,A.k2⟩ hf (V:=vlC l) x hvx;rw[Qku i,hS] at ht;refine⟨_,_,_,ht,hr,fun t ht => ?_,?_,?_,fun W sa sb sc da db dc _ hF => ?_⟩
  ·rw[<-hS] at ht;have ht:t=i:=by simpa using ht
   subst ht;exact⟨hi,fun t=>JN.2 (wy.free t)⟩
  ·rw[<-hS];exact List.pairwise_singleton _ _
  ·have:=wy.len;have:=wy.hH;rw[QdV];omega
  ·have hrs:=hF.p.rs;rw[hSi] at hrs ⊢;rw[h1,hsz];exact Qj8 W k P.old wy A.n40 hi sa sb 0 sc hrs _
 ·rw[hkd] at h2;cases h2
theorem Qg3(k:Int)(hk:1<=k∧k<=32)(L:LB)(hm:L.length<=5000)(hsz : ∀s∈L,s.size<=140737488351232)(l:List (Nat×BA))(hl:l.length<=8796093021952)(s:BA)(hs:s.size<=281474976710656)(c:BA)(hc:rtD (clk k) L L.length=c)(r:Int)
  (h1 : ∀W ca cb co cc,Tb W->RdK W ca cb co l.length l->Zr 11 #[.int .i64 k,.agg #[.int .u64 (L.length:Int),.string c],.slice ca l.length cc,.string s] W (.int .i64 r))
  (h2:r=0 -> ∃P,Acc k L.length c l s P) (h3 : ∀P,Acc k L.length c l s P->P.kd=1) : ∃T,ClmX k L l s L.length c r T:=by
 have hcm : ∀ {W la lb lo lc},Tb W->RdS W la lb lo L.length L->L.length<=lc->Hid (∀V,Zb W V->Zr 23 #[.int .i64 k,.slice la L.length lc] V (.agg #[.int .u64 (L.length:Int),.string c])):=fun {W la lb lo lc} ht hr hlc V hb=>QfY V (ht.next hb) k hk.1 hk.2 la lb lo lc L (hr.next hb (Lb _)) hsz (by omega) hlc c hc
 by_cases h0:r=0
 ·subst h0;obtain⟨P,A⟩:=h2 rfl;obtain⟨Bs,K,R,T⟩:=QgI A (h3 P A);have hin : ∀x∈l,x.1<L.length:=fun x hx=>(T.free x.1 (LE.2 ⟨x,hx,rfl⟩)).1
  have hl':l.length<=1099511627776:=by
   have h5:(ixs l).length<=L.length:=by
    have hb : ∀i∈ixs l,i<L.length:=fun i hi=>(T.free i hi).1
    have:=QgM T.asc hb;exact this
   rw[Ln] at h5;omega
  by_cases hso:soC L l
  ·refine⟨none,fun W la lb lo lc ca cb co cc ht hr hlc hK => ?_,fun W ca cb co cc ht hK=>h1 W ca cb co cc ht hK,fun _ _=>⟨rfl,hc.symm⟩,fun _=>rfl,fun h=>absurd hk h,fun _=>⟨hk,P,Bs,K,R,by rw[hc];exact A,by rw[hc];exact T,fun _=>rfl,fun h=>absurd hso h⟩⟩
   refine Qmh W k la L.length lc ca l.length cc s L.length c (hcm ht hr hlc) (fun V hb=>h1 V ca cb co cc (ht.next hb) (hK.next hb)) (fun V hb => ?_)
   exact Qcm V ca cb co cc l (hK.next hb) hl' la lb lo lc L (hr.next hb (Lb _)) (by omega) hin true (decide_eq_true hso)
  ·refine⟨wk (clk k) L.length L (ixM Bs) P.D (vlC l) (Cv.dnL 41 0 L.length),fun W la lb lo lc ca cb co cc ht hr hlc hK => ?_,fun W ca cb co cc ht hK=>h1 W ca cb co cc ht hK,fun _ _=>⟨rfl,hc.symm⟩,fun h=>absurd rfl h,fun h=>absurd hk h,fun _=>⟨hk,P,Bs,K,R,by rw[hc];exact A,by rw[hc];exact T,fun h=>absurd h hso,fun _=>rfl⟩⟩
   refine Qkl W k la L.length lc ca l.length cc s L.length c (hcm ht hr hlc) P _ (fun V hb=>h1 V ca cb co cc (ht.next hb) (hK.next hb)) (fun V hb => ?_) (fun V=>(UJ V s hs P A.hd).mono fun e w' ⟨sa,sb,sc,da,db,dc,h1,h2,_,h3⟩=>⟨sa,sb,sc,da,db,dc,h1,h2,h3⟩) (fun V sa sb sc da db dc hb hF => ?_)
   ·exact Qcm V ca cb co cc l (hK.next hb) hl' la lb lo lc L (hr.next hb (Lb _)) (by omega) hin false (decide_eq_false hso)
   ·exact Qda hm hsz A T hl (ht.next hb) hF (hr.next hb (Lb _)) (hK.next hb)
 ·refine⟨none,fun W la lb lo lc ca cb co cc ht hr hlc hK => ?_,fun W ca cb co cc ht hK=>h1 W ca cb co cc ht hK,fun _ _=>⟨rfl,hc.symm⟩,fun _=>rfl,fun h=>absurd hk h,fun h=>absurd h h0⟩
  exact Qmg W k la L.length lc ca l.length cc s L.length c (hcm ht hr hlc) r h0 (fun V hb=>h1 V ca cb co cc (ht.next hb) (hK.next hb))
theorem Qes(x y:BA)(hx:x.size<=1000)(hy:y.size<=1000)(he:dg (clk 1) (Qm x)=dg (clk 1) (Qm y)) : ∃c T,ClmX 1 [x] [(0,y)] s0A 1 c 0 T:=by
 obtain⟨c,hc⟩:=Ze (rtD (clk 1) [x] 1);have hc2:rtP (clk 1) 1 0 0 0 [] y=c:=by rw[Qla,<-he,<-QmQ];exact hc
 refine Exists.elim (Qg3 1 (by decide) [x] (by simp) (fun s hs=>by simp at hs;subst hs;omega) [(0,y)] (by simp) s0A (by decide) c hc 0 (fun W ca cb co cc ht hK => ?_) (fun _=>⟨_,by decide,by decide,Qfg,rfl,rfl,rfl,rfl,(show 1<=2^40 by decide),fun z hz=>by simp at hz;subst hz;omega,.inl ⟨rfl,0,[],0,[],rfl,QgH,(show 0<1 by decide),⟨rfl,fun d hd=>by cases hd⟩,hc2⟩⟩) (fun P A=>by
  have h:=A.hd;rw[Qfg] at h;obtain rfl:=NE h
  rfl)) fun T hT=>⟨c,T,hT⟩
 ·refine Qfc W 1 (by decide) (by decide) 1 c ca cb co 1 cc [(0,y)] hK (by decide) s0A (by decide) _ Qfg rfl ⟨.inl rfl,rfl⟩ 1 c 0 (fun V sa sb sc da db dc ao m q hb hF ho => ?_) 0 (by rw[clmD,if_pos ⟨rfl,rfl,rfl⟩])
  obtain⟨ao',xb,c',hv',hx2,hxc,hxn⟩:=Qn ho (fun z hz=>by simp at hz;subst hz;omega)
  injection hv' with e1 e2 e3
  subst e1 e2 e3;refine Qfr V 1 0 1 sa 1 sc da 0 dc ao xb 0 1 q [y] hx2 (by decide) 1 c 0 fun Z hbZ => ?_
  have hF2:=hF.next hbZ;have hpt:=hF2.p.rs.ptr (show 0<1 by decide)
  subst hpt;have hra:RA Z 1 1 sb 0 0 0 [] []:=⟨by decide,by decide,by decide,QgH,by have:=hF2.p.rs.at (j:=0) (show 0<1 by decide);simpa using this⟩
  exact Qhx Z 1 1 sb 0 sc 0 0 [] [] hra da db 0 dc [] hF2.p.rd (by decide) y ⟨rfl,fun d hd=>by cases hd⟩ (by omega) (ht.next (Qa hb hbZ)) hF2.p.cD hF2.mC hF2.nD c hc2
theorem Qe4(w:World)(ht:Tb w)(hr:Tr w):Zr 7 #[] w (.bool true):=by
 have HTw:Hid (Zr 19 #[] w (.tuple #[.string (itm 1),.string (itm 11)])):=QhV w hr;have hal:dg (clk 1) (Qm (itm 1))=dg (clk 1) (Qm (itm 11)):=QjR;have hne:=QhU;have z1:(itm 1).size<=1000:=by decide
 have z2:(itm 11).size<=1000:=by decide
 generalize itm 1=x at *;generalize itm 11=y at *;obtain⟨c1,T1,X1⟩:=Qes x y z1 z2 hal;obtain⟨c2,T2,X2⟩:=Qes x x z1 z1 rfl;have e1:=Qhm X1 hal hne;have e2:T2=none:=(QgS X2).2.1 (fun c hc=>by simp at hc;subst hc;rfl)
 subst e1 e2;have HC1:Hid (∀V,Zb w V->Calls Tryz.prog 10 #[.int .i64 1,.slice (some ⟨V.heap.size,0,none⟩) 1 1,.slice (some ⟨V.heap.size+1,0,none⟩) 1 1,.string s0A] ((V.alloc (.cells #[.string x] 9)).alloc (.cells #[.int .u64 0,.string y] 38)) fun e w'=>e = .returned (.tuple #[.string (Qm x),.string (Qm y),.bool true])∧Zb V w'):=fun V hb=>Qet X1 z1 z2 V (ht.next hb)
 have HC2:Hid (∀V,Zb w V->Calls Tryz.prog 10 #[.int .i64 1,.slice (some ⟨V.heap.size,0,none⟩) 1 1,.slice (some ⟨V.heap.size+1,0,none⟩) 1 1,.string s0A] ((V.alloc (.cells #[.string x] 9)).alloc (.cells #[.int .u64 0,.string x] 38)) fun e w'=>e = .returned (.tuple #[.string ⟨#[]⟩,.string ⟨#[]⟩,.bool false])∧Zb V w'):=fun V hb=>Qet X2 z1 z1 V (ht.next hb)
 obtain⟨t1,ht1⟩:=Ze ((⟨#[0]⟩:BA)++x);obtain⟨t2,ht2⟩:=Ze ((⟨#[0]⟩:BA)++y);have hl1:Qm x=t1:=ht1;have hl2:Qm y=t2:=ht2;rw[hl1,hl2] at HC1;have hz:=YG hne;have hzb:=Yo hne;clear hal hne X1 X2 hl1 hl2
 go_enter Tryz.func7,Tryz.ntmps7
 go_wp2_with (first
  | (go_at_call 19;with_reducible refine HTw.out.mono ?_;rintro e w1 ⟨rfl,hb1⟩)
  | (go_at_call 10;with_reducible refine(HC1.out _ hb1).mono ?_;rintro e w2 ⟨rfl,hb2⟩)
  | (go_at_call 10;with_reducible refine(HC2.out _ (Qa hb1 hb2)).mono ?_;rintro e w3 ⟨rfl,hb3⟩))
 go_ret
 exact⟨rfl,Qa (Qa hb1 hb2) hb3⟩
end
end Go.Proofs.YtdocjikpcbmcgaaGreatDoor
