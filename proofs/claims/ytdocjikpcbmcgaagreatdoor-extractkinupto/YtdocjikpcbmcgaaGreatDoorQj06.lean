/- Own work. -/
import Derived.Lib.AppendZeros
import Derived.Test.YtdocjikpcbmcgaaGreatDoorQj05
set_option maxRecDepth 100000
set_option maxHeartbeats 1000000
namespace Go.Proofs.YtdocjikpcbmcgaaGreatDoor
open Go.RowKit
attribute [local go_sem ↓] Go.wp_at_zero Go.wp_at_succ
section
open Pl (Y5 pw)
theorem QmC(c:Nat)(L M:LB)(h k:Nat)(hk:(k+1)*2^h<=L.length):nd c (L++M) h k=nd c L h k:=by
 refine O2 h k k fun t ht => ?_
 rw[La,La,LN];rw[LI,LP] at hk;omega
theorem QmD(c:Nat)(L:LB)(n h k:Nat)(hk:(k+1)*2^h<=n)(hn:n<=L.length):nd c (L.take n) h k=nd c L h k:=by
 have:=QmC c (L.take n) (L.drop n) h k (by rw[Lv];omega)
 rw[L9] at this;exact this.symm
theorem QbA(c:Nat)(L:LB) : ∀(h lo:Nat),lo=L.length / 2^h*2^h->(Cv.dnL h lo L.length).map (fun b=>nd c L b.1 b.2)=pks c L h ∧ ∀b∈Cv.dnL h lo L.length,(b.2+1)*2^b.1<=L.length
 | 0,lo,_=>⟨rfl,fun b hb=>by cases hb⟩
 | h+1,lo,hlo=>by
  have hp:=LL h;have e2:2^(h+1)=2*2^h:=by rw[LA,LY]
  have d1:=Wb L.length (2^h);have d2:=Wb (L.length / 2^h) 2;have d3:L.length / 2^(h+1)=L.length / 2^h / 2:=by rw[LA,Nc]
  have m1:=IK L.length hp;rw[d3,e2] at hlo;generalize hX:L.length / 2^h=X at *;have hlo2:lo=(2*(X / 2))*2^h:=by rw[hlo,LY 2 (X / 2),L4]
  have e3:2^h*X=X*2^h:=LY _ _;rw[Cv.dnL,show pw h=2^h from rfl]
  by_cases hb:X % 2=1
  ·have hX2:X=2*(X / 2)+1:=by omega
   have e4:X*2^h=lo+2^h:=by rw[hlo2];conv=>lhs;rw[hX2,LI,LP]
   have hlt:2^h<=L.length - lo:=by omega
   have e5:lo / 2^h=2*(X / 2):=by rw[hlo2,Ng _ hp]
   obtain⟨r1,r2⟩:=QbA c L h (lo+2^h) (by rw[hX,<-e4])
   rw[if_pos hlt,Qa3 (by rw[hX];exact hb),List.map_cons,r1,e5,hX]
   refine⟨by rw[show X - 1=2*(X / 2) by omega],fun b hbm => ?_⟩
   rcases LH.1 hbm with rfl|hbm
   ·show(2*(X / 2)+1)*2^h<=_
    rw[<-hX2];omega
   ·exact r2 b hbm
  ·have hX2:X=2*(X / 2):=by omega
   have e4:X*2^h=lo:=by rw[hlo2];conv=>lhs;rw[hX2]
   have hlt : ¬2^h<=L.length - lo:=by omega
   obtain⟨r1,r2⟩:=QbA c L h lo (by rw[hX,<-e4])
   rw[if_neg hlt,O8 (by rw[hX];exact hb)]
   exact⟨r1,r2⟩
theorem U2(c:Nat)(L:LB)(n:Nat)(hn:n<=L.length)(h40:n<=2^40):(Cv.cov 0 n).map (fun b=>nd c L b.1 b.2)=pks c (L.take n) 41 ∧ ∀b∈Cv.cov 0 n,(b.2+1)*2^b.1<=n:=by
 have hl:(L.take n).length=n:=by rw[Lv];omega
 have hz:0=(L.take n).length / 2^41*2^41:=by rw[hl,Il (by omega),IS]
 obtain⟨r1,r2⟩:=QbA c (L.take n) 41 0 hz;rw[hl] at r1 r2;rw[Cv.QH n h40];refine⟨?_,r2⟩
 rw[<-r1];refine IM fun b hb => ?_
 exact(QmD c L n b.1 b.2 (r2 b hb) hn).symm
end
theorem Qmy(w:World)(n:Nat)(hn:n<=8796093022208):(Instr.makeSlice 22 (.int .i64 0) (.int .i64 (n:Int))).run Tryz.prog w = .ok (.slice (some ⟨w.heap.size,0,none⟩) 0 n) (w.alloc (.cells (madeCells #[.string ByteArray.empty] n) 9)):=by
 obtain⟨i0,hi,hz0,hz1,hz2⟩:=info_parts Tryz.infoS;have hr:=run_make (P:=Tryz.prog) w 22 9 i0 _ Tryz.underlying22 hi hz0 .i64 .i64 0 n (by omega) (by omega) (by rw[hz2];omega) (by omega)
 simp only[Int.toNat_natCast,hz1,Nat.mul_one] at hr;exact hr
theorem Qjb(w:World)(n:Nat)(hn:n<=8796093022208):Qk (w.alloc (.cells (madeCells #[.string ByteArray.empty] n) 9)) w.heap.size (.slice (some ⟨w.heap.size,0,none⟩) 0 n) [] :=
 ⟨rfl,.inr ⟨w.heap.size,n,_,rfl,Lb _,heap_alloc_new w _,Lf _,by unfold maxLen;omega,by rw[size_madeCells,NN],rfl⟩⟩
structure RdB(w:World)(ao:OA)(g off n:Nat)(l:List (Int×Nat)):Prop where
 len:l.length=n
 addr:0<n->ao=some ⟨g,off,none⟩
 cell : ∀j,j<n->w.cell? ⟨g,off+j*2,none⟩=some (.int .i64 (l.getD j (0,0)).1)∧w.cell? ⟨g,off+j*2+1,none⟩=some (.int .u64 ((l.getD j (0,0)).2:Nat))
 fit : ∀b∈l,Fitb b.1 b.2
theorem RdB.below{w w':World}{ao:OA}{g off n:Nat}{l:List (Int×Nat)}(r:RdB w ao g off n l)(h:Zb w w'):RdB w' ao g off n l :=
 ⟨r.len,r.addr,fun j hj=>⟨(h.cell (p:=⟨g,off+j*2,none⟩) (Lh w _ (r.cell j hj).1)).trans (r.cell j hj).1,(h.cell (p:=⟨g,off+j*2+1,none⟩) (Lh w _ (r.cell j hj).2)).trans (r.cell j hj).2⟩,r.fit⟩
theorem Uc{w:World}{base:Nat}{v:Value}{l:List (Int×Nat)}(h:Cv.Qz w base v l)(hf : ∀b∈l,Fitb b.1 b.2) : ∃ao g n cap,v = .slice ao n cap∧RdB w ao g 0 n l∧n<=maxLen:=by
 have h0:=h;obtain⟨h1,h2⟩:=h
 rcases h2 with ⟨rfl,h2⟩|⟨g,cap,cur,rfl,hg,hh,hc1,hc2,hc3,hc4⟩
 ·exact⟨none,0,0,0,rfl,⟨h2,fun h=>absurd h (by omega),fun j hj=>absurd hj (by omega),hf⟩,Lf _⟩
 ·refine⟨some ⟨g,0,none⟩,g,l.length,cap,rfl,⟨rfl,fun _=>rfl,fun j hj => ?_,hf⟩,by omega⟩
  have hcl:=h0.cells (g:=g) rfl;obtain⟨⟨a,b⟩,hq⟩ : ∃q,l[j]=q:=⟨_,rfl⟩;have hget:l[j]? = some (a,b):=by rw[Lc hj,hq]
  obtain⟨e1,e2⟩:=Cv.Qc9 l j a b hget;have f1:=hcl _ _ e1;have f2:=hcl _ _ e2;rw[Addr.add_mid,Ll,LY] at f1 f2;rw[La,hget,Ll];exact⟨f1,f2⟩
theorem Qev{w:World}{B B':Nat}{v:Value}{l:LB}(h:Qk w B v l)(hB:B'<=B):Qk w B' v l:=by
 obtain⟨h1,h2⟩:=h;refine⟨h1,?_⟩
 rcases h2 with h2|⟨g,cap,cur,hv,hg,h3⟩
 ·exact .inl h2
 ·exact .inr ⟨g,cap,cur,hv,by omega,h3⟩
structure Wy(n i:Nat)(A:List (Nat×Nat))(H:Nat)(B:List (Nat×Nat)):Prop where
 all:Cv.dnL 41 0 n=A++(H,i / 2^H)::B
 hH:H<=40
 left : ∀a∈A,(a.2+1)*2^a.1<=i
 right : ∀b∈B,i<b.2*2^b.1
theorem Qis(n:Nat) : ∀h lo,2^h ∣ lo -> ∀b∈Cv.dnL h lo n,lo<=b.2*2^b.1
 | 0,lo,_,b,hb=>by cases hb
 | h+1,lo,hd,b,hb=>by
  have hp:=LL h;have hd':2^h ∣ lo:=Nat.dvd_trans (Wd 2 (by omega)) hd
  rw[Cv.dnL,show Pl.pw h=2^h from rfl] at hb
  split at hb
  ·rcases LH.1 hb with rfl|hb
   ·show lo<=lo / 2^h*2^h
    rw[Nat.div_mul_cancel hd'];exact Lb _
   ·have:=Qis n h (lo+2^h) (Nat.dvd_add hd' (Nat.dvd_refl _)) b hb;omega
  ·exact Qis n h lo hd' b hb
theorem Qfh(n i:Nat)(hi:i<n) : ∀h lo,lo<=i->n - lo<2^h->2^h ∣ lo -> ∃A H B,Cv.dnL h lo n=A++(H,i / 2^H)::B∧H<h∧(∀a∈A,(a.2+1)*2^a.1<=i) ∧ ∀b∈B,i<b.2*2^b.1
 | 0,lo,h1,h2,_=>by rw[Nj] at h2;omega
 | h+1,lo,h1,h2,hd=>by
  have hp:=LL h;have hd':2^h ∣ lo:=Nat.dvd_trans (Wd 2 (by omega)) hd
  have hd2:2^h ∣ lo+2^h:=Nat.dvd_add hd' (Nat.dvd_refl _);rw[LA] at h2;rw[Cv.dnL,show Pl.pw h=2^h from rfl]
  by_cases hf:2^h<=n - lo
  ·rw[if_pos hf]
   by_cases hm:i<lo+2^h
   ·refine⟨[],h,Cv.dnL h (lo+2^h) n,?_,by omega,(fun a ha=>by cases ha),fun b hb => ?_⟩
    ·have:i / 2^h=lo / 2^h:=by
      obtain⟨q,rfl⟩:=hd';rw[Nat.mul_div_cancel_left _ hp];exact IN (by rw[LY];omega) (by rw[LI,LY];omega)
     rw[this];rfl
    ·have:=Qis n h _ hd2 b hb;omega
   ·obtain⟨A,H,B,e,hH,hl,hr⟩:=Qfh n i hi h (lo+2^h) (by omega) (by omega) hd2
    refine⟨(h,lo / 2^h)::A,H,B,by rw[e];rfl,by omega,fun a ha => ?_,hr⟩
    rcases LH.1 ha with rfl|ha
    ·show(lo / 2^h+1)*2^h<=i
     rw[LI,Nat.div_mul_cancel hd'];omega
    ·exact hl a ha
  ·rw[if_neg hf];obtain⟨A,H,B,e,hH,hl,hr⟩:=Qfh n i hi h lo h1 (by omega) hd'
   exact⟨A,H,B,e,by omega,hl,hr⟩
theorem QlV(n i:Nat)(hn:n<=2^40)(hi:i<n) : ∃A H B,Wy n i A H B:=by
 obtain⟨A,H,B,e,hH,hl,hr⟩:=Qfh n i hi 41 0 (Lf _) (by omega) (Nat.dvd_zero _)
 exact⟨A,H,B,e,by omega,hl,hr⟩
section
variable {n i H:Nat} {A B:List (Nat×Nat)}
theorem Wy.len(h:Wy n i A H B):A.length+B.length<=40:=by
 have:=Cv.YI 41 0 n;rw[h.all,Ld,Lu] at this;omega
theorem Wy.no_left(h:Wy n i A H B){a:Nat×Nat}(ha:a∈A):a.2<i / 2^a.1:=by
 have:=h.left a ha;exact(Ih (LL _)).2 this
theorem Wy.no_right(h:Wy n i A H B){b:Nat×Nat}(hb:b∈B):i / 2^b.1<b.2:=by
 have:=h.right b hb;exact(Nat.div_lt_iff_lt_mul (LL _)).2 this
end
theorem JG(n:Nat)(hn:n<=2^40) : ∀b∈Cv.dnL 41 0 n,(b.2+1)*2^b.1<=n:=by
 have:=(U2 1 (List.replicate n ByteArray.empty) n (by simp) hn).2
 rwa [Cv.QH n hn] at this
def sb(q:Nat):Nat:=if q % 2=1 then q - 1 else q+1
def bes(i:Nat)(H:Nat):List (Nat×Nat):=(List.range H).map fun h=>(h,sb (i / 2^h))
theorem Jj(i H:Nat):(bes i H).length=H:=by simp[bes]
theorem Qd0(i H:Nat):bes i (H+1)=bes i H++[(H,sb (i / 2^H))]:=by simp[bes,List.range_succ]
theorem Of(i h:Nat):i / 2^h / 2=i / 2^(h+1):=by rw[Nc,<-LA]
def wyB(i H:Nat)(A B:List (Nat×Nat)):List (Nat×Nat):=bes i H++(A++B)
theorem QdV(i H:Nat)(A B:List (Nat×Nat)):(wyB i H A B).length=H+(A.length+B.length):=by simp[wyB,Jj]
def stT(q:Nat)(d x:BA):BA:=if q % 2=1 then QE x d else QE d x
def rs(c:Nat):Nat->BA->LB->BA
 | _,d,[]=>d
 | q,d,x::r=>rs c (q / 2) (dg c (stT q d x)) r
theorem QfK(c:Nat)(x:BA) : ∀(D:LB) (q:Nat) (d:BA),rs c q d (D++[x])=dg c (stT (q / 2^D.length) (rs c q d D) x)
 | [],q,d=>by simp[rs]
 | y::r,q,d=>by
  rw[NW,rs,QfK c x r,rs,Lu,LA,Nc,LY 2]
theorem Qgv{c:Nat}(hc:c<=32) : ∀(D:LB) (q:Nat) (d:BA),d.size=c->(rs c q d D).size=c
 | [],_,_,h=>h
 | y::r,q,d,_=>by
  rw[rs];exact Qgv hc r _ _ (YS hc _)
def pkP(c i:Nat)(a H:Nat)(D:LB)(x:BA):LB:=(D.drop H).take a++rs c i (dg c (Qm x)) (D.take H)::(D.drop H).drop a
def rtP(c n i a H:Nat)(D:LB)(x:BA):BA:=dg c (QN n (QA c (pkP c i a H D x)))
section
open Cv (RdC Ap)
abbrev dn:Value := .slice none 0 0
abbrev cS(l:LB):List Value:=l.map Value.string
theorem Ql7(l:LB):(cS l).length=l.length*1:=by simp[cS]
theorem Ql6(l m:LB):cS (l++m)=cS l++cS m:=LK
theorem Ql8(l:LB) : ∀u∈cS l,u.oneCell'=true:=by
 intro u hu;obtain⟨y,_,rfl⟩:=LE.1 hu;rfl
theorem QdB{w:World}{ao:OA}{b off len cap:Nat}{ss:LB}(h:RdS w ao b off len ss)(hn:ao=none->cap=0):RdC w (.slice ao len cap) len (cS ss):=by
 refine⟨ao,cap,rfl,fun e=>⟨?_,hn e⟩,fun ad ha j c hj => ?_⟩
 ·apply Classical.byContradiction
  intro h0;have:=h.ptr (by omega)
  rw[e] at this
  cases this
 ·have hj':j<len:=by have:=(Lw.1 hj).1;rw[Ln,h.hl] at this;exact this
  have:=h.ptr (by omega)
  rw[ha] at this
  cases this;rw[Addr.add_mid];exact h.rng j c hj
theorem U0(w:World)(o:Obj):Zb w (w.drew.alloc o):=(Below.refl w.heap.size w).drew.alloc (by simp) o
theorem Yg{α:Type}(d:α)(l:List α)(j:Nat)(h:j<l.length):l.take (j+1)=l.take j++[l.getD j d]:=by
 rw[NA,La,Lc h];rfl
theorem QaX{α:Type}(Ls:List (List α))(j:Nat):(Ls.take j).flatten.length<=Ls.flatten.length:=by
 have:=congrArg (fun x:List (List α)=>x.flatten.length) (L9 j Ls)
 simp only[List.flatten_append,List.length_append] at this;omega
theorem Qmo(w:World)(n:Nat)(hn:n<=8796093022208) :
  Calls Tryz.prog 165 #[.slice none 0 0,.int .i64 (n:Int)] w fun e w' => ∃v,e = .returned v∧w'.ownsRow w.heap.size 9 1 v 0 []∧Zb w w':=by
 obtain⟨i0,hi,hz0,hz1,hz2⟩:=info_parts Tryz.infoS
 by_cases h0:n=0
 ·subst h0;clear hn
  go_enter Tryz.func165,Tryz.ntmps165;go_wp2
  go_ret
  exact⟨_,rfl,Lz _ _ _ _,Below.refl _ _⟩
 ·have hr:=fun ty=>Lib.run_append_nil_zeros (P:=Tryz.prog) w 22 3 ty 9 i0 _ .i64 .i64 Tryz.underlying22 Tryz.underlying3 hi hz0 n (by omega) (by rw[hz1];decide) (by omega) (by rw[hz2];omega)
  obtain⟨G,hG⟩:=Ze (grownCap w n 0 9);have hge:=grownCap_ge w n 0 9;have hle:=grownCap_le_maxLen w n 0 9 (by unfold maxLen;omega)
  rw[hG] at hge hle hr;have HO:Hid ((w.drew.alloc (.cells (Builtin.zeroCells (Value.cells (.string ByteArray.empty)) n++Builtin.zeroCells (Value.cells (.string ByteArray.empty)) (G - n)) 9)).ownsRow w.heap.size 9 1 (.slice (some ⟨w.heap.size,0,none⟩) 0 G) 0 []):=by
   refine⟨rfl,.inr ⟨w.heap.size,G,_,rfl,Lb _,heap_alloc_new w.drew _,Lf _,hle,?_,by simp⟩⟩
   rw[Array.size_append,size_zeroCells,size_zeroCells,show(Value.cells (.string ByteArray.empty)).size=1 from rfl,<-LI]
   congr 1
   omega
  have hG63:G<=9223372036854775807:=by unfold maxLen at hle;omega
  have hn0:(0:Int)<(n:Int):=by omega
  have hnz : ¬(n:Int)<0:=by omega
  clear hG hge hle hi hz0 hz1 hz2 h0
  go_enter Tryz.func165,Tryz.ntmps165
  go_wp2_with (at_builtin;refine Lib.wpList_append_run _ rfl _ _ _ _ rfl _ _ rfl rfl _ _ (hr _) ?_)
  go_ret
  exact⟨_,rfl,HO.out,U0 w _⟩
structure CatS(w:World)(g0:Nat)(us:List Value)(Ls:List (List (BA))):Prop where
 len:us.length=Ls.length
 cell : ∀j,j<us.length->w.cell? ⟨g0,j,none⟩=some (us.getD j dn)
 rd : ∀j,j<us.length->RdC w (us.getD j dn) (Ls.getD j []).length (cS (Ls.getD j []))
theorem CatS.next{w W:World}{g0:Nat}{us:List Value}{Ls:List (List (BA))}(h:CatS w g0 us Ls)(hb:Zb w W):CatS W g0 us Ls :=
 ⟨h.len,fun j hj=>(hb.cell (Lh w _ (h.cell j hj))).trans (h.cell j hj),fun j hj=>Cv.Je (h.rd j hj) hb⟩
theorem Qid(w:World)(g0 c0:Nat)(us:List Value)(Ls:List (List (BA)))(h:CatS w g0 us Ls)(hu:us.length<=1000)(hm:Ls.flatten.length<=8796093022208)(cl:List (BA))(hcl:Ls.flatten=cl) :
  Calls Tryz.prog 117 #[.slice (some ⟨g0,0,none⟩) us.length c0] w fun e w' => ∃v,e = .returned v∧w'.ownsRow w.heap.size 9 1 v cl.length (cS cl)∧Zb w w':=by
 obtain⟨i0,hi,hz0,hz1,hz2⟩:=info_parts Tryz.infoS;have HC:Hid (∀W,Zb w W->CatS W g0 us Ls):=fun W hb=>h.next hb
 have HX:Hid (us.length=Ls.length∧us.length<=1000∧Ls.flatten.length<=8796093022208∧Ls.flatten=cl):=⟨h.len,hu,hm,hcl⟩;have h63:(us.length:Int)<=1000:=by omega
 have hb0:=Below.refl w.heap.size w;have HI:Hid (Tryz.prog.info? 9=some i0∧i0.zero=some (.string ByteArray.empty)∧i0.size=1∧i0.bytes=16):=⟨hi,hz0,hz1,hz2⟩;clear h hu hm hcl hi hz0 hz1 hz2
 go_enter Tryz.func117,Tryz.ntmps117;go_wp2
 go_loopg [3,11] us.length (fun g s i wr => ∃j:Nat,j<=us.length∧g=us.length - j∧i = .int .i64 (j:Int)∧s = .int .i64 ((Ls.take j).flatten.length:Int)∧Zb w wr)
 case atStart =>
  go_light;exact⟨0,Lf _,rfl,rfl,rfl,hb0⟩
 case round =>
  clear hb0;obtain⟨j,hj,rfl,rfl,rfl,hb⟩:=hrel
  by_cases hlt:j<us.length
  ·have hz:(j:Int)<(us.length:Int):=by omega
   have hz0:(0:Int)<=(j:Int):=Le _;have cj:=(HC.out wr hb).cell j hlt;obtain⟨ao,cap,hv,_,_⟩:=(HC.out wr hb).rd j hlt;rw[hv] at cj;obtain⟨m,hmm⟩:=Ze ((Ls.getD j []).length);rw[hmm] at cj;have hs:(Ls.take (j+1)).flatten.length=(Ls.take j).flatten.length+m:=by
    rw[Yg [] Ls j (by have:=HX.out.1;omega),NS,Ld,Ic,hmm]
   have hle:=QaX Ls (j+1);obtain⟨a,ha⟩:=Ze ((Ls.take j).flatten.length);rw[ha] at hs ⊢;have hax:a+m<=8796093022208:=by have:=HX.out.2.2.1;omega
   have e1:IntKind.i64.wrap ((a:Int)+(m:Int))=(a:Int)+(m:Int):=by rw[LW];omega
   have hpos : ¬(a:Int)+(m:Int)<0:=by omega
   have HS:Hid ((a:Int)+(m:Int)=((Ls.take (j+1)).flatten.length:Nat)):=by show _=_;rw[hs];omega
   clear hs hle ha hmm hv hax;go_wp2
   go_roundg (us.length - (j+1))
   case rel =>
    go_light;exact⟨j+1,by omega,rfl,by go_num,by rw[HS.out],hb⟩
   case measure=>go_light;omega
  ·obtain rfl:j=us.length:=by omega
   have hz : ¬((us.length:Int)<(us.length:Int)):=by omega
   have ha:(Ls.take us.length).flatten.length=Ls.flatten.length:=by rw[HX.out.1,LR]
   rw[ha];have HG:Hid (∀W,Calls Tryz.prog 165 #[.slice none 0 0,.int .i64 (Ls.flatten.length:Int)] W fun e w' => ∃v,e = .returned v∧w'.ownsRow W.heap.size 9 1 v 0 []∧Zb W w'):=fun W=>Qmo W _ HX.out.2.2.1
   obtain⟨q,hq⟩:=Ze Ls.flatten.length;rw[hq] at HG ⊢;clear ha hlt hj hq
   go_wp2_with (go_at_call 165;with_reducible refine(HG.out _).mono ?_;rintro e w1 ⟨v,rfl,ho,hb1⟩)
   have hb2:=Qa hb hb1;have ho2:w1.ownsRow w.heap.size 9 1 v 0 []:=ho.mono hb.size;clear hb hb1 ho;go_wp2
   go_loopg [6,27] us.length (fun g v i wr => ∃j:Nat,j<=us.length∧g=us.length - j∧i = .int .i64 (j:Int)∧wr.ownsRow w.heap.size 9 1 v (Ls.take j).flatten.length (cS (Ls.take j).flatten)∧Zb w wr)
   case atStart =>
    go_light;exact⟨0,Lf _,rfl,rfl,ho2,hb2⟩
   case round =>
    clear hb2 ho2;obtain⟨j,hj,rfl,rfl,ho,hb⟩:=hrel
    by_cases hlt:j<us.length
    ·have hz:(j:Int)<(us.length:Int):=by omega
     have hz0:(0:Int)<=(j:Int):=Le _;have cj:=(HC.out wr hb).cell j hlt;have rj:=(HC.out wr hb).rd j hlt;obtain⟨u,hu⟩:=Ze (us.getD j dn);obtain⟨l,hl⟩:=Ze (Ls.getD j []);rw[hu] at cj rj;rw[hl] at rj;have ht:(Ls.take (j+1)).flatten=(Ls.take j).flatten++l:=by
      rw[Yg [] Ls j (by have:=HX.out.1;omega),NS,Ic,hl]
     have hle:=QaX Ls (j+1);obtain⟨a,ha⟩:=Ze ((Ls.take j).flatten);rw[ha] at ht ho;rw[ht,Ld] at hle;have HS:Hid ((Ls.take (j+1)).flatten=a++l∧a.length+l.length<=8796093022208∧RdC wr u l.length (cS l)∧wr.ownsRow w.heap.size 9 1 u6 a.length (cS a)∧w.heap.size<=wr.heap.size):=⟨ht,by have:=HX.out.2.2.1;omega,rj,ho,hb.size⟩
     clear ht hle ha hl hu ho rj
     go_wp2_with (at_builtin;refine Cv.QQ _ rfl _ _ _ rfl w.heap.size 9 i0 (.string ByteArray.empty) 1 16 Tryz.underlying22 HI.out.1 HI.out.2.1 HI.out.2.2.1 HI.out.2.2.2 rfl (by decide) _ a.length (cS a) rfl HS.out.2.2.2.1 _ l.length (cS l) rfl HS.out.2.2.1 (Ql7 l) (Ql8 l) ?c1 ?c2 HS.out.2.2.2.2 ?_)
     case c1=>have:=HS.out.2.1;unfold maxLen;omega
     case c2=>have:=HS.out.2.1;omega
     intro v' w1 hap;have HY:Hid (w1.ownsRow w.heap.size 9 1 v' (a++l).length (cS (a++l))∧Zb w w1):=by
      refine⟨?_,(Cv.UB hb HS.out.2.2.2.2 HS.out.2.2.2.1 hap.grown).1⟩
      rw[Ld,Ql6];exact hap.own
     clear hap hb;go_wp2
     go_roundg (us.length - (j+1))
     case rel =>
      go_light;refine⟨j+1,by omega,rfl,by go_num,?_,HY.out.2⟩
      rw[HS.out.1];exact HY.out.1
     case measure=>go_light;omega
    ·obtain rfl:j=us.length:=by omega
     have hz : ¬((us.length:Int)<(us.length:Int)):=by omega
     rw[HX.out.1,LR,HX.out.2.2.2] at ho;clear hlt hj;go_wp2
     go_ret
     exact⟨_,rfl,ho,hb⟩
theorem Qmn(w:World)(n:Nat)(hn:n<=8796093022208) :
  Calls Tryz.prog 163 #[.slice none 0 0,.int .i64 (n:Int)] w fun e w' => ∃v,e = .returned v∧w'.ownsRow w.heap.size 83 2 v 0 []∧Zb w w':=by
 obtain⟨i0,hi,hz0,hz1,hz2⟩:=info_parts Cv.Tryz.infoB
 by_cases h0:n=0
 ·subst h0;clear hn
  go_enter Tryz.func163,Tryz.ntmps163;go_wp2
  go_ret
  exact⟨_,rfl,Lz _ _ _ _,Below.refl _ _⟩
 ·have hr:=fun ty=>Lib.run_append_nil_zeros (P:=Tryz.prog) w 77 3 ty 83 i0 _ .i64 .i64 Tryz.underlying77 Tryz.underlying3 hi hz0 n (by omega) (by rw[hz1];decide) (by omega) (by rw[hz2];omega)
  obtain⟨G,hG⟩:=Ze (grownCap w n 0 83);have hge:=grownCap_ge w n 0 83;have hle:=grownCap_le_maxLen w n 0 83 (by unfold maxLen;omega)
  rw[hG] at hge hle hr;have HO:Hid ((w.drew.alloc (.cells (Builtin.zeroCells (Value.cells (.agg #[.int .i64 0,.int .u64 0])) n++Builtin.zeroCells (Value.cells (.agg #[.int .i64 0,.int .u64 0])) (G - n)) 83)).ownsRow w.heap.size 83 2 (.slice (some ⟨w.heap.size,0,none⟩) 0 G) 0 []):=by
   refine⟨rfl,.inr ⟨w.heap.size,G,_,rfl,Lb _,heap_alloc_new w.drew _,Lf _,hle,?_,by simp⟩⟩
   rw[Array.size_append,size_zeroCells,size_zeroCells,show(Value.cells (.agg #[.int .i64 0,.int .u64 0])).size=2 from rfl,<-LI]
   congr 1
   omega
  have hG63:G<=9223372036854775807:=by unfold maxLen at hle;omega
  have hn0:(0:Int)<(n:Int):=by omega
  have hnz : ¬(n:Int)<0:=by omega
  clear hG hge hle hi hz0 hz1 hz2 h0
  go_enter Tryz.func163,Tryz.ntmps163
  go_wp2_with (at_builtin;refine Lib.wpList_append_run _ rfl _ _ _ _ rfl _ _ rfl rfl _ _ (hr _) ?_)
  go_ret
  exact⟨_,rfl,HO.out,U0 w _⟩
structure CatB(w:World)(g0:Nat)(us:List Value)(Ls:List (List (Int×Nat))):Prop where
 len:us.length=Ls.length
 cell : ∀j,j<us.length->w.cell? ⟨g0,j,none⟩=some (us.getD j dn)
 rd : ∀j,j<us.length->RdC w (us.getD j dn) (Ls.getD j []).length (Cv.cB (Ls.getD j []))
theorem CatB.next{w W:World}{g0:Nat}{us:List Value}{Ls:List (List (Int×Nat))}(h:CatB w g0 us Ls)(hb:Zb w W):CatB W g0 us Ls :=
 ⟨h.len,fun j hj=>(hb.cell (Lh w _ (h.cell j hj))).trans (h.cell j hj),fun j hj=>Cv.Je (h.rd j hj) hb⟩
theorem Qd9(w:World)(g0 c0:Nat)(us:List Value)(Ls:List (List (Int×Nat)))(h:CatB w g0 us Ls)(hu:us.length<=1000)(hm:Ls.flatten.length<=8796093022208)(cl:List (Int×Nat))(hcl:Ls.flatten=cl) :
  Calls Tryz.prog 111 #[.slice (some ⟨g0,0,none⟩) us.length c0] w fun e w' => ∃v,e = .returned v∧w'.ownsRow w.heap.size 83 2 v cl.length (Cv.cB cl)∧Zb w w':=by
 obtain⟨i0,hi,hz0,hz1,hz2⟩:=info_parts Cv.Tryz.infoB;have HC:Hid (∀W,Zb w W->CatB W g0 us Ls):=fun W hb=>h.next hb
 have HX:Hid (us.length=Ls.length∧us.length<=1000∧Ls.flatten.length<=8796093022208∧Ls.flatten=cl):=⟨h.len,hu,hm,hcl⟩;have h63:(us.length:Int)<=1000:=by omega
 have hb0:=Below.refl w.heap.size w;have HI:Hid (Tryz.prog.info? 83=some i0∧i0.zero=some (.agg #[.int .i64 0,.int .u64 0])∧i0.size=2∧i0.bytes=16):=⟨hi,hz0,hz1,hz2⟩;clear h hu hm hcl hi hz0 hz1 hz2
 go_enter Tryz.func111,Tryz.ntmps111;go_wp2
 go_loopg [3,11] us.length (fun g s i wr => ∃j:Nat,j<=us.length∧g=us.length - j∧i = .int .i64 (j:Int)∧s = .int .i64 ((Ls.take j).flatten.length:Int)∧Zb w wr)
 case atStart =>
  go_light;exact⟨0,Lf _,rfl,rfl,rfl,hb0⟩
 case round =>
  clear hb0;obtain⟨j,hj,rfl,rfl,rfl,hb⟩:=hrel
  by_cases hlt:j<us.length
  ·have hz:(j:Int)<(us.length:Int):=by omega
   have hz0:(0:Int)<=(j:Int):=Le _;have cj:=(HC.out wr hb).cell j hlt;obtain⟨ao,cap,hv,_,_⟩:=(HC.out wr hb).rd j hlt;rw[hv] at cj;obtain⟨m,hmm⟩:=Ze ((Ls.getD j []).length);rw[hmm] at cj;have hs:(Ls.take (j+1)).flatten.length=(Ls.take j).flatten.length+m:=by
    rw[Yg [] Ls j (by have:=HX.out.1;omega),NS,Ld,Ic,hmm]
   have hle:=QaX Ls (j+1);obtain⟨a,ha⟩:=Ze ((Ls.take j).flatten.length);rw[ha] at hs ⊢;have hax:a+m<=8796093022208:=by have:=HX.out.2.2.1;omega
   have e1:IntKind.i64.wrap ((a:Int)+(m:Int))=(a:Int)+(m:Int):=by rw[LW];omega
   have hpos : ¬(a:Int)+(m:Int)<0:=by omega
   have HS:Hid ((a:Int)+(m:Int)=((Ls.take (j+1)).flatten.length:Nat)):=by show _=_;rw[hs];omega
   clear hs hle ha hmm hv hax;go_wp2
   go_roundg (us.length - (j+1))
   case rel =>
    go_light;exact⟨j+1,by omega,rfl,by go_num,by rw[HS.out],hb⟩
   case measure=>go_light;omega
  ·obtain rfl:j=us.length:=by omega
   have hz : ¬((us.length:Int)<(us.length:Int)):=by omega
   have ha:(Ls.take us.length).flatten.length=Ls.flatten.length:=by rw[HX.out.1,LR]
   rw[ha];have HG:Hid (∀W,Calls Tryz.prog 163 #[.slice none 0 0,.int .i64 (Ls.flatten.length:Int)] W fun e w' => ∃v,e = .returned v∧w'.ownsRow W.heap.size 83 2 v 0 []∧Zb W w'):=fun W=>Qmn W _ HX.out.2.2.1
   obtain⟨q,hq⟩:=Ze Ls.flatten.length;rw[hq] at HG ⊢;clear ha hlt hj hq
   go_wp2_with (go_at_call 163;with_reducible refine(HG.out _).mono ?_;rintro e w1 ⟨v,rfl,ho,hb1⟩)
   have hb2:=Qa hb hb1;have ho2:w1.ownsRow w.heap.size 83 2 v 0 []:=ho.mono hb.size;clear hb hb1 ho;go_wp2
   go_loopg [6,27] us.length (fun g v i wr => ∃j:Nat,j<=us.length∧g=us.length - j∧i = .int .i64 (j:Int)∧wr.ownsRow w.heap.size 83 2 v (Ls.take j).flatten.length (Cv.cB (Ls.take j).flatten)∧Zb w wr)
   case atStart =>
    go_light;exact⟨0,Lf _,rfl,rfl,ho2,hb2⟩
   case round =>
    clear hb2 ho2;obtain⟨j,hj,rfl,rfl,ho,hb⟩:=hrel
    by_cases hlt:j<us.length
    ·have hz:(j:Int)<(us.length:Int):=by omega
     have hz0:(0:Int)<=(j:Int):=Le _;have cj:=(HC.out wr hb).cell j hlt;have rj:=(HC.out wr hb).rd j hlt;obtain⟨u,hu⟩:=Ze (us.getD j dn);obtain⟨l,hl⟩:=Ze (Ls.getD j []);rw[hu] at cj rj;rw[hl] at rj;have ht:(Ls.take (j+1)).flatten=(Ls.take j).flatten++l:=by
      rw[Yg [] Ls j (by have:=HX.out.1;omega),NS,Ic,hl]
     have hle:=QaX Ls (j+1);obtain⟨a,ha⟩:=Ze ((Ls.take j).flatten);rw[ha] at ht ho;rw[ht,Ld] at hle;have HS:Hid ((Ls.take (j+1)).flatten=a++l∧a.length+l.length<=8796093022208∧RdC wr u l.length (Cv.cB l)∧wr.ownsRow w.heap.size 83 2 u6 a.length (Cv.cB a)∧w.heap.size<=wr.heap.size):=⟨ht,by have:=HX.out.2.2.1;omega,rj,ho,hb.size⟩
     clear ht hle ha hl hu ho rj
     go_wp2_with (at_builtin;refine Cv.QQ _ rfl _ _ _ rfl w.heap.size 83 i0 (.agg #[.int .i64 0,.int .u64 0]) 2 16 Tryz.underlying77 HI.out.1 HI.out.2.1 HI.out.2.2.1 HI.out.2.2.2 rfl (by decide) _ a.length (Cv.cB a) rfl HS.out.2.2.2.1 _ l.length (Cv.cB l) rfl HS.out.2.2.1 (Cv.Qw l) (Cv.Ov l) ?c1 ?c2 HS.out.2.2.2.2 ?_)
     case c1=>have:=HS.out.2.1;unfold maxLen;omega
     case c2=>have:=HS.out.2.1;omega
     intro v' w1 hap;have HY:Hid (w1.ownsRow w.heap.size 83 2 v' (a++l).length (Cv.cB (a++l))∧Zb w w1):=by
      refine⟨?_,(Cv.UB hb HS.out.2.2.2.2 HS.out.2.2.2.1 hap.grown).1⟩
      rw[Ld,Cv.Ou];exact hap.own
     clear hap hb;go_wp2
     go_roundg (us.length - (j+1))
     case rel =>
      go_light;refine⟨j+1,by omega,rfl,by go_num,?_,HY.out.2⟩
      rw[HS.out.1];exact HY.out.1
     case measure=>go_light;omega
    ·obtain rfl:j=us.length:=by omega
     have hz : ¬((us.length:Int)<(us.length:Int)):=by omega
     rw[HX.out.1,LR,HX.out.2.2.2] at ho;clear hlt hj;go_wp2
     go_ret
     exact⟨_,rfl,ho,hb⟩
end
section
open Cv (RdC zl)
theorem Qkx(M:List (Nat×Nat))(j:Nat)(hj:j<M.length):(zl M).getD j (0,0)=(((M.getD j (0,0)).1:Int),(M.getD j (0,0)).2):=by
 unfold zl;rw[La,La,Nn,Lc hj]
 rfl
theorem QlF{n i H:Nat}{A B:List (Nat×Nat)}(hw:Wy n i A H B){j h:Nat}(hj:j<(Cv.dnL 41 0 n).length)(he:(Cv.dnL 41 0 n).getD j (0,0)=(h,i / 2^h)):j=A.length∧h=H:=by
 rw[hw.all] at hj he;rw[La] at he
 rcases Ii j A.length with hlt|heq|hgt
 ·rw[LN hlt,Lc hlt] at he;have:=hw.no_left (LO hlt);rw[show A[j]=(h,i / 2^h) from he] at this
  exact absurd this (NB _)
 ·subst heq;rw[LM (Lb _),ND] at he;exact⟨rfl,(congrArg Prod.fst (show(H,i / 2^H)=(h,i / 2^h) from he)).symm⟩
 ·rw[Ld,Lu] at hj;obtain⟨t,rfl⟩ : ∃t,j=A.length+(t+1):=⟨j - A.length - 1,by omega⟩
  have ht:t<B.length:=by omega
  rw[LM (by omega),show A.length+(t+1) - A.length=t+1 by omega,Nt,Lc ht] at he
  have:=hw.no_right (LO ht);rw[show B[t]=(h,i / 2^h) from he] at this
  exact absurd this (NB _)
theorem QnB{n i H:Nat}{A B:List (Nat×Nat)}(hw:Wy n i A H B):A.length<(Cv.dnL 41 0 n).length∧(Cv.dnL 41 0 n).getD A.length (0,0)=(H,i / 2^H):=by
 rw[hw.all];refine⟨by simp,?_⟩
 rw[La,LM (Lb _),ND]
 rfl
theorem Oq{b:Nat×Nat}{n:Nat}(h:(b.2+1)*2^b.1<=n)(hn:n<=2^40):Fitb (b.1:Int) b.2∧b.1<=40∧b.2<2^40:=by
 have hp:=LL b.1;have h1:2^b.1<=(b.2+1)*2^b.1:=Nat.le_mul_of_pos_left _ (by omega)
 have h2:b.2+1<=(b.2+1)*2^b.1:=Nm _ hp;have h3:b.1<2^b.1:=Nat.lt_two_pow_self;have h4:b.1<=40:=Cv.pw40 (h:=b.1) (by show 2^b.1<=_;omega)
 exact⟨⟨⟨by omega,by omega⟩,by omega⟩,h4,by omega⟩
theorem UM(n:Nat)(hn:n<=2^40):Cv.YK 0 n n=0∧Cv.JC 0 n n=Cv.dnL 41 0 n:=by
 have h:Cv.YK 0 n n=0:=by rw[Cv.YK,if_neg (by omega),if_neg (by omega),if_neg (by omega)]
 exact⟨h,by rw[Cv.JC,if_pos h,Cv.QH n hn]⟩
theorem QfN(q:Nat):Nat.xor q 1=sb q:=by
 unfold sb;have h1:Nat.xor q 1=q ^^^ 1:=rfl;rw[h1]
 apply Nat.eq_of_testBit_eq
 intro t;rw[Nat.testBit_xor]
 cases t with
 | zero =>
  have h0 : ∀x,Nat.testBit x 0=decide (x % 2=1):=fun x=>Nat.testBit_zero x
  rw[h0,h0,h0]
  by_cases h:q % 2=1
  ·rw[if_pos h];have:(q - 1) % 2=0:=by omega
   simp[h,this]
  ·rw[if_neg h];have:(q+1) % 2=1:=by omega
   simp[h,this]
 | succ t =>
  rw[I8,I8,I8]
  by_cases h:q % 2=1
  ·rw[if_pos h,show(q - 1) / 2=q / 2 by omega];simp
  ·rw[if_neg h,show(q+1) / 2=q / 2 by omega];simp
end
end Go.Proofs.YtdocjikpcbmcgaaGreatDoor
