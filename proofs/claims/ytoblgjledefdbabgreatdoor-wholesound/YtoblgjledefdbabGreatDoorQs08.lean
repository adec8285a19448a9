/- Own work. -/
import Derived.Lib.AppendZeros
import Derived.Test.YtoblgjledefdbabGreatDoorQs05
set_option maxRecDepth 100000
set_option maxHeartbeats 1000000
namespace Go.Proofs.YtoblgjledefdbabGreatDoor
open Go.RowKit
attribute [local go_sem ↓] Go.wp_at_zero Go.wp_at_succ
open Go.Proofs.Tryz
structure Wy(n i:Nat)(A:List (Nat×Nat))(H:Nat)(B:List (Nat×Nat)):Prop where
 all:Cv.dnL 41 0 n=A++(H,i/2^H)::B
 hH:H<=40
 left:∀a∈A,(a.2+1)*2^a.1<=i
 right:∀b∈B,i<b.2*2^b.1
theorem Qi8(n:Nat):∀h lo,2^h ∣ lo -> ∀b∈Cv.dnL h lo n,lo<=b.2*2^b.1
 | 0,lo,_,b,hb=>by cases hb
 | h+1,lo,hd,b,hb=>by
  have hp:=LM h;have hd':2^h ∣ lo:=Nat.dvd_trans (Wv 2 (by omega)) hd
  rw[Cv.dnL,show Pl.pw h=2^h from rfl] at hb
  split at hb
  ·rcases List.mem_cons.1 hb with rfl|hb
   ·show lo<=lo/2^h*2^h
    rw[Nat.div_mul_cancel hd'];exact Lb _
   ·have:=Qi8 n h (lo+2^h) (Nat.dvd_add hd' (Nat.dvd_refl _)) b hb;omega
  ·exact Qi8 n h lo hd' b hb
theorem Qfw(n i:Nat)(hi:i<n):∀h lo,lo<=i->n-lo<2^h->2^h ∣ lo -> ∃A H B,Cv.dnL h lo n=A++(H,i/2^H)::B∧H<h∧(∀a∈A,(a.2+1)*2^a.1<=i) ∧ ∀b∈B,i<b.2*2^b.1
 | 0,lo,h1,h2,_=>by rw[ND] at h2;omega
 | h+1,lo,h1,h2,hd=>by
  have hp:=LM h;have hd':2^h ∣ lo:=Nat.dvd_trans (Wv 2 (by omega)) hd
  have hd2:2^h ∣ lo+2^h:=Nat.dvd_add hd' (Nat.dvd_refl _);rw[LO] at h2;rw[Cv.dnL,show Pl.pw h=2^h from rfl]
  by_cases hf:2^h<=n-lo
  ·rw[Lo hf]
   by_cases hm:i<lo+2^h
   ·refine⟨[],h,Cv.dnL h (lo+2^h) n,?_,by omega,(fun a ha=>by cases ha),fun b hb=> ?_⟩
    ·have:i/2^h=lo/2^h:=by
      obtain⟨q,rfl⟩:=hd';rw[IS _ hp];exact I6 (by rw[L3];omega) (by rw[L4,L3];omega)
     rw[this];rfl
    ·have:=Qi8 n h _ hd2 b hb;omega
   ·obtain⟨A,H,B,e,hH,hl,hr⟩:=Qfw n i hi h (lo+2^h) (by omega) (by omega) hd2
    refine⟨(h,lo/2^h)::A,H,B,by rw[e];rfl,by omega,fun a ha=> ?_,hr⟩
    rcases List.mem_cons.1 ha with rfl|ha
    ·show(lo/2^h+1)*2^h<=i
     rw[L4,Nat.div_mul_cancel hd'];omega
    ·exact hl a ha
  ·rw[Le hf];obtain⟨A,H,B,e,hH,hl,hr⟩:=Qfw n i hi h lo h1 (by omega) hd'
   exact⟨A,H,B,e,by omega,hl,hr⟩
theorem QnT(n i:Nat)(hn:n<=2^40)(hi:i<n):∃A H B,Wy n i A H B:=by
 obtain⟨A,H,B,e,hH,hl,hr⟩:=Qfw n i hi 41 0 (Lm _) (by omega) (Nat.dvd_zero _)
 exact⟨A,H,B,e,by omega,hl,hr⟩
section
variable {n i H:Nat} {A B:List (Nat×Nat)}
theorem Wy.len(h:Wy n i A H B):A.length+B.length<=40:=by
 have:=Cv.Jv 41 0 n;rw[h.all,Lh,LJ] at this;omega
theorem Wy.no_left(h:Wy n i A H B){a:Nat×Nat}(ha:a∈A):a.2<i/2^a.1:=by
 have:=h.left a ha;exact(Nat.le_div_iff_mul_le (LM _)).2 this
theorem Wy.no_right(h:Wy n i A H B){b:Nat×Nat}(hb:b∈B):i/2^b.1<b.2:=by
 have:=h.right b hb;exact(IY (LM _)).2 this
end
theorem Qcm(n:Nat)(hn:n<=2^40):∀b∈Cv.dnL 41 0 n,(b.2+1)*2^b.1<=n:=by
 have:=(Qaf 1 (List.replicate n ByteArray.empty) n (by simp) hn).2
 rwa [Cv.Yh n hn] at this
def sb(q:Nat):Nat:=if q%2=1 then q-1 else q+1
def bes(i:Nat)(H:Nat):List (Nat×Nat):=(List.range H).map fun h=>(h,sb (i/2^h))
theorem UU(i H:Nat):(bes i H).length=H:=by simp[bes]
theorem Qd7(i H:Nat):bes i (H+1)=bes i H++[(H,sb (i/2^H))]:=by simp[bes,List.range_succ]
theorem Qai(i h:Nat):i/2^h/2=i/2^(h+1):=by rw[LY,<-LO]
def wyB(i H:Nat)(A B:List (Nat×Nat)):List (Nat×Nat):=bes i H++(A++B)
theorem Qd0(i H:Nat)(A B:List (Nat×Nat)):(wyB i H A B).length=H+(A.length+B.length):=by simp[wyB,UU]
def stT(q:Nat)(d x:BA):BA:=if q%2=1 then Qz x d else Qz d x
def rs(c:Nat):Nat->BA->LB->BA
 | _,d,[]=>d
 | q,d,x::r=>rs c (q/2) (dg c (stT q d x)) r
theorem Qf4(c:Nat)(x:BA):∀(D:LB) (q:Nat) (d:BA),rs c q d (D++[x])=dg c (stT (q/2^D.length) (rs c q d D) x)
 | [],q,d=>by simp[rs]
 | y::r,q,d=>by
  rw[Wl,rs,Qf4 c x r,rs,LJ,LO,LY,L3 2]
theorem Qg6{c:Nat}(hc:c<=32):∀(D:LB) (q:Nat) (d:BA),d.size=c->(rs c q d D).size=c
 | [],_,_,h=>h
 | y::r,q,d,_=>by
  rw[rs];exact Qg6 hc r _ _ (Q3 hc _)
def pkP(c i:Nat)(a H:Nat)(D:LB)(x:BA):LB:=(D.drop H).take a++rs c i (dg c (Qw x)) (D.take H)::(D.drop H).drop a
def rtP(c n i a H:Nat)(D:LB)(x:BA):BA:=dg c (QO n (Qx c (pkP c i a H D x)))
section
open Cv (RdC Ap)
abbrev dn:Value := .slice none 0 0
abbrev cS(l:LB):List Value:=l.map Value.string
theorem Qn8(l:LB):(cS l).length=l.length*1:=by simp[cS]
theorem Qn7(l m:LB):cS (l++m)=cS l++cS m:=Nd
theorem Qn9(l:LB):∀u∈cS l,u.oneCell'=true:=by
 intro u hu;obtain⟨y,_,rfl⟩:=List.mem_map.1 hu;rfl
theorem QdA{w:World}{ao:OA}{b off len cap:Nat}{ss:LB}(h:RdS w ao b off len ss)(hn:ao=none->cap=0):RdC w (.slice ao len cap) len (cS ss):=by
 refine⟨ao,cap,rfl,fun e=>⟨?_,hn e⟩,fun ad ha j c hj=> ?_⟩
 ·apply Classical.byContradiction
  intro h0;have:=h.ptr (by omega)
  rw[e] at this
  cases this
 ·have hj':j<len:=by have:=(List.getElem?_eq_some_iff.1 hj).1;rw[LI,h.hl] at this;exact this
  have:=h.ptr (by omega)
  rw[ha] at this
  cases this;rw[Addr.add_mid];exact h.rng j c hj
theorem Uw(w:World)(o:Obj):Below w.heap.size w (w.drew.alloc o):=(Lc w.heap.size w).drew.alloc (by simp) o
theorem Yl{α:Type}(d:α)(l:List α)(j:Nat)(h:j<l.length):l.take (j+1)=l.take j++[l.getD j d]:=by
 rw[Ix,La,Ld h];rfl
theorem QaF{α:Type}(Ls:List (List α))(j:Nat):(Ls.take j).flatten.length<=Ls.flatten.length:=by
 have:=LZ (fun x:List (List α)=>x.flatten.length) (Nu j Ls)
 simp only[List.flatten_append,List.length_append] at this;omega
theorem Qor(w:World)(n:Nat)(hn:n<=8796093022208) :
  Calls prog 156 #[.slice none 0 0,.int .i64 n] w fun e w'=> ∃v,e= .returned v∧w'.ownsRow w.heap.size 9 1 v 0 []∧Below w.heap.size w w':=by
 obtain⟨i0,hi,hz0,hz1,hz2⟩:=info_parts Tryz.infoS
 by_cases h0:n=0
 ·subst h0;clear hn
  go_enter func156,ntmps156;go_wp2
  go_ret
  exact⟨_,rfl,Nj _ _ _ _,Lc _ _⟩
 ·have hr:=fun ty=>Lib.run_append_nil_zeros (P:=prog) w 22 3 ty 9 i0 _ .i64 .i64 underlying22 underlying3 hi hz0 n (by omega) (by rw[hz1];decide) (by omega) (by rw[hz2];omega)
  obtain⟨G,hG⟩:∃G,grownCap w n 0 9=G:=⟨_,rfl⟩;have hge:=grownCap_ge w n 0 9;have hle:=grownCap_le_maxLen w n 0 9 (by unfold maxLen;omega)
  rw[hG] at hge hle hr;have HO:Hid ((w.drew.alloc (.cells (Builtin.zeroCells (Value.cells (.string ByteArray.empty)) n++Builtin.zeroCells (Value.cells (.string ByteArray.empty)) (G-n)) 9)).ownsRow w.heap.size 9 1 (.slice (Zp w.heap.size) 0 G) 0 []):=by
   refine⟨rfl,.inr ⟨w.heap.size,G,_,rfl,Lb _,Lr w.drew _,Lm _,hle,?_,by simp⟩⟩
   rw[Array.size_append,size_zeroCells,size_zeroCells,show(Value.cells (.string ByteArray.empty)).size=1 from rfl,<-L4]
   congr 1
   omega
  have hG63:G<=9223372036854775807:=by unfold maxLen at hle;omega
  have hn0:(0:Int)<(n:Int):=by omega
  have hnz:¬(n:Int)<0:=by omega
  clear hG hge hle hi hz0 hz1 hz2 h0
  go_enter func156,ntmps156
  go_wp2_with (at_builtin;refine Lib.wpList_append_run _ rfl _ _ _ _ rfl _ _ rfl rfl _ _ (hr _) ?_)
  go_ret
  exact⟨_,rfl,HO.out,Uw w _⟩
structure CatS(w:World)(g0:Nat)(us:List Value)(Ls:List (List (BA))):Prop where
 len:us.length=Ls.length
 cell:∀j,j<us.length->w.cell? ⟨g0,j,none⟩=some (us.getD j dn)
 rd:∀j,j<us.length->RdC w (us.getD j dn) (Ls.getD j []).length (cS (Ls.getD j []))
theorem CatS.next{w W:World}{g0:Nat}{us:List Value}{Ls:List (List (BA))}(h:CatS w g0 us Ls)(hb:Below w.heap.size w W):CatS W g0 us Ls :=
 ⟨h.len,fun j hj=>(hb.cell (Ll w _ (h.cell j hj))).trans (h.cell j hj),fun j hj=>Cv.OT (h.rd j hj) hb⟩
theorem QiY(w:World)(g0 c0:Nat)(us:List Value)(Ls:List (List (BA)))(h:CatS w g0 us Ls)(hu:us.length<=1000)(hm:Ls.flatten.length<=8796093022208)(cl:List (BA))(hcl:Ls.flatten=cl) :
  Calls prog 88 #[.slice (Zp g0) us.length c0] w fun e w'=> ∃v,e= .returned v∧w'.ownsRow w.heap.size 9 1 v cl.length (cS cl)∧Below w.heap.size w w':=by
 obtain⟨i0,hi,hz0,hz1,hz2⟩:=info_parts Tryz.infoS;have HC:Hid (∀W,Below w.heap.size w W->CatS W g0 us Ls):=fun W hb=>h.next hb
 have HX:Hid (us.length=Ls.length∧us.length<=1000∧Ls.flatten.length<=8796093022208∧Ls.flatten=cl):=⟨h.len,hu,hm,hcl⟩;have h63:(us.length:Int)<=1000:=by omega
 have hb0:=Lc w.heap.size w;have HI:Hid (prog.info? 9=some i0∧i0.zero=some (.string ByteArray.empty)∧i0.size=1∧i0.bytes=16):=⟨hi,hz0,hz1,hz2⟩;clear h hu hm hcl hi hz0 hz1 hz2
 go_enter func88,ntmps88;go_wp2
 go_loopg [3,11] us.length (fun g s i wr=> ∃j:Nat,j<=us.length∧g=us.length-j∧i= .int .i64 j∧s= .int .i64 ((Ls.take j).flatten.length:Int)∧Below w.heap.size w wr)
 case atStart=>go_light;exact⟨0,Lm _,rfl,rfl,rfl,hb0⟩
 case round=>
  clear hb0;obtain⟨j,hj,rfl,rfl,rfl,hb⟩:=hrel
  by_cases hlt:j<us.length
  ·have hz:(j:Int)<(us.length:Int):=by omega
   have hz0:(0:Int)<=(j:Int):=Lf _;have cj:=(HC.out wr hb).cell j hlt;obtain⟨ao,cap,hv,_,_⟩:=(HC.out wr hb).rd j hlt;rw[hv] at cj;obtain⟨m,hmm⟩:∃m,(Ls.getD j []).length=m:=⟨_,rfl⟩;rw[hmm] at cj;have hs:(Ls.take (j+1)).flatten.length=(Ls.take j).flatten.length+m:=by
    rw[Yl [] Ls j (by have:=HX.out.1;omega),N5,Lh,Im,hmm]
   have hle:=QaF Ls (j+1);obtain⟨a,ha⟩:∃a,(Ls.take j).flatten.length=a:=⟨_,rfl⟩;rw[ha] at hs ⊢;have hax:a+m<=8796093022208:=by have:=HX.out.2.2.1;omega
   have e1:IntKind.i64.wrap ((a:Int)+(m:Int))=(a:Int)+(m:Int):=by rw[LE];omega
   have hpos:¬(a:Int)+(m:Int)<0:=by omega
   have HS:Hid ((a:Int)+(m:Int)=((Ls.take (j+1)).flatten.length:Nat)):=by show _=_;rw[hs];omega
   clear hs hle ha hmm hv hax;go_wp2
   go_roundg (us.length-(j+1))
   case rel=>go_light;exact⟨j+1,by omega,rfl,by go_num,by rw[HS.out],hb⟩
   case measure=>go_light;omega
  ·obtain rfl:j=us.length:=by omega
   have hz:¬((us.length:Int)<(us.length:Int)):=by omega
   have ha:(Ls.take us.length).flatten.length=Ls.flatten.length:=by rw[HX.out.1,NA]
   rw[ha];have HG:Hid (∀W,Calls prog 156 #[.slice none 0 0,.int .i64 Ls.flatten.length] W fun e w'=> ∃v,e= .returned v∧w'.ownsRow W.heap.size 9 1 v 0 []∧Below W.heap.size W w'):=fun W=>Qor W _ HX.out.2.2.1
   obtain⟨q,hq⟩:∃q,Ls.flatten.length=q:=⟨_,rfl⟩;rw[hq] at HG ⊢;clear ha hlt hj hq
   go_wp2_with (go_at_call 156;with_reducible refine(HG.out _).mono ?_;rintro e w1 ⟨v,rfl,ho,hb1⟩)
   have hb2:=Qa hb hb1;have ho2:w1.ownsRow w.heap.size 9 1 v 0 []:=ho.mono hb.size;clear hb hb1 ho;go_wp2
   go_loopg [6,27] us.length (fun g v i wr=> ∃j:Nat,j<=us.length∧g=us.length-j∧i= .int .i64 j∧wr.ownsRow w.heap.size 9 1 v (Ls.take j).flatten.length (cS (Ls.take j).flatten)∧Below w.heap.size w wr)
   case atStart=>go_light;exact⟨0,Lm _,rfl,rfl,ho2,hb2⟩
   case round=>
    clear hb2 ho2;obtain⟨j,hj,rfl,rfl,ho,hb⟩:=hrel
    by_cases hlt:j<us.length
    ·have hz:(j:Int)<(us.length:Int):=by omega
     have hz0:(0:Int)<=(j:Int):=Lf _;have cj:=(HC.out wr hb).cell j hlt;have rj:=(HC.out wr hb).rd j hlt;obtain⟨u,hu⟩:∃u,us.getD j dn=u:=⟨_,rfl⟩;obtain⟨l,hl⟩:∃l,Ls.getD j []=l:=⟨_,rfl⟩;rw[hu] at cj rj;rw[hl] at rj;have ht:(Ls.take (j+1)).flatten=(Ls.take j).flatten++l:=by
      rw[Yl [] Ls j (by have:=HX.out.1;omega),N5,Im,hl]
     have hle:=QaF Ls (j+1);obtain⟨a,ha⟩:∃a,(Ls.take j).flatten=a:=⟨_,rfl⟩;rw[ha] at ht ho;rw[ht,Lh] at hle;have HS:Hid ((Ls.take (j+1)).flatten=a++l∧a.length+l.length<=8796093022208∧RdC wr u l.length (cS l)∧wr.ownsRow w.heap.size 9 1 u6 a.length (cS a)∧w.heap.size<=wr.heap.size):=⟨ht,by have:=HX.out.2.2.1;omega,rj,ho,hb.size⟩
     clear ht hle ha hl hu ho rj
     go_wp2_with (at_builtin;refine Cv.Yo _ rfl _ _ _ rfl w.heap.size 9 i0 (.string ByteArray.empty) 1 16 underlying22 HI.out.1 HI.out.2.1 HI.out.2.2.1 HI.out.2.2.2 rfl (by decide) _ a.length (cS a) rfl HS.out.2.2.2.1 _ l.length (cS l) rfl HS.out.2.2.1 (Qn8 l) (Qn9 l) ?c1 ?c2 HS.out.2.2.2.2 ?_)
     case c1=>have:=HS.out.2.1;unfold maxLen;omega
     case c2=>have:=HS.out.2.1;omega
     intro v' w1 hap;have HY:Hid (w1.ownsRow w.heap.size 9 1 v' (a++l).length (cS (a++l))∧Below w.heap.size w w1):=by
      refine⟨?_,(Cv.QbJ hb HS.out.2.2.2.2 HS.out.2.2.2.1 hap.grown).1⟩
      rw[Lh,Qn7];exact hap.own
     clear hap hb;go_wp2
     go_roundg (us.length-(j+1))
     case rel=>
      go_light;refine⟨j+1,by omega,rfl,by go_num,?_,HY.out.2⟩
      rw[HS.out.1];exact HY.out.1
     case measure=>go_light;omega
    ·obtain rfl:j=us.length:=by omega
     have hz:¬((us.length:Int)<(us.length:Int)):=by omega
     rw[HX.out.1,NA,HX.out.2.2.2] at ho;clear hlt hj;go_wp2
     go_ret
     exact⟨_,rfl,ho,hb⟩
theorem Qoq(w:World)(n:Nat)(hn:n<=8796093022208) :
  Calls prog 174 #[.slice none 0 0,.int .i64 n] w fun e w'=> ∃v,e= .returned v∧w'.ownsRow w.heap.size 131 2 v 0 []∧Below w.heap.size w w':=by
 obtain⟨i0,hi,hz0,hz1,hz2⟩:=info_parts Cv.Tryz.infoB
 by_cases h0:n=0
 ·subst h0;clear hn
  go_enter func174,ntmps174;go_wp2
  go_ret
  exact⟨_,rfl,Nj _ _ _ _,Lc _ _⟩
 ·have hr:=fun ty=>Lib.run_append_nil_zeros (P:=prog) w 109 3 ty 131 i0 _ .i64 .i64 underlying109 underlying3 hi hz0 n (by omega) (by rw[hz1];decide) (by omega) (by rw[hz2];omega)
  obtain⟨G,hG⟩:∃G,grownCap w n 0 131=G:=⟨_,rfl⟩;have hge:=grownCap_ge w n 0 131;have hle:=grownCap_le_maxLen w n 0 131 (by unfold maxLen;omega)
  rw[hG] at hge hle hr;have HO:Hid ((w.drew.alloc (.cells (Builtin.zeroCells (Value.cells (.agg #[.int .i64 0,.int .u64 0])) n++Builtin.zeroCells (Value.cells (.agg #[.int .i64 0,.int .u64 0])) (G-n)) 131)).ownsRow w.heap.size 131 2 (.slice (Zp w.heap.size) 0 G) 0 []):=by
   refine⟨rfl,.inr ⟨w.heap.size,G,_,rfl,Lb _,Lr w.drew _,Lm _,hle,?_,by simp⟩⟩
   rw[Array.size_append,size_zeroCells,size_zeroCells,show(Value.cells (.agg #[.int .i64 0,.int .u64 0])).size=2 from rfl,<-L4]
   congr 1
   omega
  have hG63:G<=9223372036854775807:=by unfold maxLen at hle;omega
  have hn0:(0:Int)<(n:Int):=by omega
  have hnz:¬(n:Int)<0:=by omega
  clear hG hge hle hi hz0 hz1 hz2 h0
  go_enter func174,ntmps174
  go_wp2_with (at_builtin;refine Lib.wpList_append_run _ rfl _ _ _ _ rfl _ _ rfl rfl _ _ (hr _) ?_)
  go_ret
  exact⟨_,rfl,HO.out,Uw w _⟩
structure CatB(w:World)(g0:Nat)(us:List Value)(Ls:List (List (Int×Nat))):Prop where
 len:us.length=Ls.length
 cell:∀j,j<us.length->w.cell? ⟨g0,j,none⟩=some (us.getD j dn)
 rd:∀j,j<us.length->RdC w (us.getD j dn) (Ls.getD j []).length (Cv.cB (Ls.getD j []))
theorem CatB.next{w W:World}{g0:Nat}{us:List Value}{Ls:List (List (Int×Nat))}(h:CatB w g0 us Ls)(hb:Below w.heap.size w W):CatB W g0 us Ls :=
 ⟨h.len,fun j hj=>(hb.cell (Ll w _ (h.cell j hj))).trans (h.cell j hj),fun j hj=>Cv.OT (h.rd j hj) hb⟩
theorem QiX(w:World)(g0 c0:Nat)(us:List Value)(Ls:List (List (Int×Nat)))(h:CatB w g0 us Ls)(hu:us.length<=1000)(hm:Ls.flatten.length<=8796093022208)(cl:List (Int×Nat))(hcl:Ls.flatten=cl) :
  Calls prog 106 #[.slice (Zp g0) us.length c0] w fun e w'=> ∃v,e= .returned v∧w'.ownsRow w.heap.size 131 2 v cl.length (Cv.cB cl)∧Below w.heap.size w w':=by
 obtain⟨i0,hi,hz0,hz1,hz2⟩:=info_parts Cv.Tryz.infoB;have HC:Hid (∀W,Below w.heap.size w W->CatB W g0 us Ls):=fun W hb=>h.next hb
 have HX:Hid (us.length=Ls.length∧us.length<=1000∧Ls.flatten.length<=8796093022208∧Ls.flatten=cl):=⟨h.len,hu,hm,hcl⟩;have h63:(us.length:Int)<=1000:=by omega
 have hb0:=Lc w.heap.size w;have HI:Hid (prog.info? 131=some i0∧i0.zero=some (.agg #[.int .i64 0,.int .u64 0])∧i0.size=2∧i0.bytes=16):=⟨hi,hz0,hz1,hz2⟩;clear h hu hm hcl hi hz0 hz1 hz2
 go_enter func106,ntmps106;go_wp2
 go_loopg [3,11] us.length (fun g s i wr=> ∃j:Nat,j<=us.length∧g=us.length-j∧i= .int .i64 j∧s= .int .i64 ((Ls.take j).flatten.length:Int)∧Below w.heap.size w wr)
 case atStart=>go_light;exact⟨0,Lm _,rfl,rfl,rfl,hb0⟩
 case round=>
  clear hb0;obtain⟨j,hj,rfl,rfl,rfl,hb⟩:=hrel
  by_cases hlt:j<us.length
  ·have hz:(j:Int)<(us.length:Int):=by omega
   have hz0:(0:Int)<=(j:Int):=Lf _;have cj:=(HC.out wr hb).cell j hlt;obtain⟨ao,cap,hv,_,_⟩:=(HC.out wr hb).rd j hlt;rw[hv] at cj;obtain⟨m,hmm⟩:∃m,(Ls.getD j []).length=m:=⟨_,rfl⟩;rw[hmm] at cj;have hs:(Ls.take (j+1)).flatten.length=(Ls.take j).flatten.length+m:=by
    rw[Yl [] Ls j (by have:=HX.out.1;omega),N5,Lh,Im,hmm]
   have hle:=QaF Ls (j+1);obtain⟨a,ha⟩:∃a,(Ls.take j).flatten.length=a:=⟨_,rfl⟩;rw[ha] at hs ⊢;have hax:a+m<=8796093022208:=by have:=HX.out.2.2.1;omega
   have e1:IntKind.i64.wrap ((a:Int)+(m:Int))=(a:Int)+(m:Int):=by rw[LE];omega
   have hpos:¬(a:Int)+(m:Int)<0:=by omega
   have HS:Hid ((a:Int)+(m:Int)=((Ls.take (j+1)).flatten.length:Nat)):=by show _=_;rw[hs];omega
   clear hs hle ha hmm hv hax;go_wp2
   go_roundg (us.length-(j+1))
   case rel=>go_light;exact⟨j+1,by omega,rfl,by go_num,by rw[HS.out],hb⟩
   case measure=>go_light;omega
  ·obtain rfl:j=us.length:=by omega
   have hz:¬((us.length:Int)<(us.length:Int)):=by omega
   have ha:(Ls.take us.length).flatten.length=Ls.flatten.length:=by rw[HX.out.1,NA]
   rw[ha];have HG:Hid (∀W,Calls prog 174 #[.slice none 0 0,.int .i64 Ls.flatten.length] W fun e w'=> ∃v,e= .returned v∧w'.ownsRow W.heap.size 131 2 v 0 []∧Below W.heap.size W w'):=fun W=>Qoq W _ HX.out.2.2.1
   obtain⟨q,hq⟩:∃q,Ls.flatten.length=q:=⟨_,rfl⟩;rw[hq] at HG ⊢;clear ha hlt hj hq
   go_wp2_with (go_at_call 174;with_reducible refine(HG.out _).mono ?_;rintro e w1 ⟨v,rfl,ho,hb1⟩)
   have hb2:=Qa hb hb1;have ho2:w1.ownsRow w.heap.size 131 2 v 0 []:=ho.mono hb.size;clear hb hb1 ho;go_wp2
   go_loopg [6,27] us.length (fun g v i wr=> ∃j:Nat,j<=us.length∧g=us.length-j∧i= .int .i64 j∧wr.ownsRow w.heap.size 131 2 v (Ls.take j).flatten.length (Cv.cB (Ls.take j).flatten)∧Below w.heap.size w wr)
   case atStart=>go_light;exact⟨0,Lm _,rfl,rfl,ho2,hb2⟩
   case round=>
    clear hb2 ho2;obtain⟨j,hj,rfl,rfl,ho,hb⟩:=hrel
    by_cases hlt:j<us.length
    ·have hz:(j:Int)<(us.length:Int):=by omega
     have hz0:(0:Int)<=(j:Int):=Lf _;have cj:=(HC.out wr hb).cell j hlt;have rj:=(HC.out wr hb).rd j hlt;obtain⟨u,hu⟩:∃u,us.getD j dn=u:=⟨_,rfl⟩;obtain⟨l,hl⟩:∃l,Ls.getD j []=l:=⟨_,rfl⟩;rw[hu] at cj rj;rw[hl] at rj;have ht:(Ls.take (j+1)).flatten=(Ls.take j).flatten++l:=by
      rw[Yl [] Ls j (by have:=HX.out.1;omega),N5,Im,hl]
     have hle:=QaF Ls (j+1);obtain⟨a,ha⟩:∃a,(Ls.take j).flatten=a:=⟨_,rfl⟩;rw[ha] at ht ho;rw[ht,Lh] at hle;have HS:Hid ((Ls.take (j+1)).flatten=a++l∧a.length+l.length<=8796093022208∧RdC wr u l.length (Cv.cB l)∧wr.ownsRow w.heap.size 131 2 u6 a.length (Cv.cB a)∧w.heap.size<=wr.heap.size):=⟨ht,by have:=HX.out.2.2.1;omega,rj,ho,hb.size⟩
     clear ht hle ha hl hu ho rj
     go_wp2_with (at_builtin;refine Cv.Yo _ rfl _ _ _ rfl w.heap.size 131 i0 (.agg #[.int .i64 0,.int .u64 0]) 2 16 underlying109 HI.out.1 HI.out.2.1 HI.out.2.2.1 HI.out.2.2.2 rfl (by decide) _ a.length (Cv.cB a) rfl HS.out.2.2.2.1 _ l.length (Cv.cB l) rfl HS.out.2.2.1 (Cv.Qu l) (Cv.Qac l) ?c1 ?c2 HS.out.2.2.2.2 ?_)
     case c1=>have:=HS.out.2.1;unfold maxLen;omega
     case c2=>have:=HS.out.2.1;omega
     intro v' w1 hap;have HY:Hid (w1.ownsRow w.heap.size 131 2 v' (a++l).length (Cv.cB (a++l))∧Below w.heap.size w w1):=by
      refine⟨?_,(Cv.QbJ hb HS.out.2.2.2.2 HS.out.2.2.2.1 hap.grown).1⟩
      rw[Lh,Cv.QcU];exact hap.own
     clear hap hb;go_wp2
     go_roundg (us.length-(j+1))
     case rel=>
      go_light;refine⟨j+1,by omega,rfl,by go_num,?_,HY.out.2⟩
      rw[HS.out.1];exact HY.out.1
     case measure=>go_light;omega
    ·obtain rfl:j=us.length:=by omega
     have hz:¬((us.length:Int)<(us.length:Int)):=by omega
     rw[HX.out.1,NA,HX.out.2.2.2] at ho;clear hlt hj;go_wp2
     go_ret
     exact⟨_,rfl,ho,hb⟩
end
section
open Cv (RdC zl)
theorem Ql5(M:List (Nat×Nat))(j:Nat)(hj:j<M.length):(zl M).getD j (0,0)=(((M.getD j (0,0)).1:Int),(M.getD j (0,0)).2):=by
 unfold zl;rw[La,La,No,Ld hj]
 rfl
theorem Qny{n i H:Nat}{A B:List (Nat×Nat)}(hw:Wy n i A H B){j h:Nat}(hj:j<(Cv.dnL 41 0 n).length)(he:(Cv.dnL 41 0 n).getD j (0,0)=(h,i/2^h)):j=A.length∧h=H:=by
 rw[hw.all] at hj he;rw[La] at he
 rcases Ie j A.length with hlt|heq|hgt
 ·rw[LG hlt,Ld hlt] at he;have:=hw.no_left (LN hlt);rw[show A[j]=(h,i/2^h) from he] at this
  exact absurd this (NB _)
 ·subst heq;rw[LW (Lb _),NK] at he;exact⟨rfl,(LZ Prod.fst (show(H,i/2^H)=(h,i/2^h) from he)).symm⟩
 ·rw[Lh,LJ] at hj;obtain⟨t,rfl⟩:∃t,j=A.length+(t+1):=⟨j-A.length-1,by omega⟩
  have ht:t<B.length:=by omega
  rw[LW (by omega),show A.length+(t+1)-A.length=t+1 by omega,NQ,Ld ht] at he
  have:=hw.no_right (LN ht);rw[show B[t]=(h,i/2^h) from he] at this
  exact absurd this (NB _)
theorem QpX{n i H:Nat}{A B:List (Nat×Nat)}(hw:Wy n i A H B):A.length<(Cv.dnL 41 0 n).length∧(Cv.dnL 41 0 n).getD A.length (0,0)=(H,i/2^H):=by
 rw[hw.all];refine⟨by simp,?_⟩
 rw[La,LW (Lb _),NK]
 rfl
theorem QgI{b:Nat×Nat}{n:Nat}(h:(b.2+1)*2^b.1<=n)(hn:n<=2^40):US (b.1:Int) b.2∧b.1<=40∧b.2<2^40:=by
 have hp:=LM b.1;have h1:2^b.1<=(b.2+1)*2^b.1:=Io _ (by omega)
 have h2:b.2+1<=(b.2+1)*2^b.1:=NZ _ hp;have h3:b.1<2^b.1:=Nat.lt_two_pow_self;have h4:b.1<=40:=Cv.pw40 (h:=b.1) (by show 2^b.1<=_;omega)
 exact⟨⟨⟨by omega,by omega⟩,by omega⟩,h4,by omega⟩
theorem JQ(n:Nat)(hn:n<=2^40):Cv.UY 0 n n=0∧Cv.covR 0 n n=Cv.dnL 41 0 n:=by
 have h:Cv.UY 0 n n=0:=by rw[Cv.UY,Le (by omega),Le (by omega),Le (by omega)]
 exact⟨h,by rw[Cv.covR,Lo h,Cv.Yh n hn]⟩
theorem QkI(q:Nat):Nat.xor q 1=sb q:=by
 unfold sb;have h1:Nat.xor q 1=q ^^^ 1:=rfl;rw[h1]
 apply Nat.eq_of_testBit_eq
 intro t;rw[Nat.testBit_xor]
 cases t with
 | zero=>
  have h0:∀x,Nat.testBit x 0=decide (x%2=1):=fun x=>Nat.testBit_zero x
  rw[h0,h0,h0]
  by_cases h:q%2=1
  ·rw[Lo h];have:(q-1)%2=0:=by omega
   simp[h,this]
  ·rw[Le h];have:(q+1)%2=1:=by omega
   simp[h,this]
 | succ t=>
  rw[Wp,Wp,Wp]
  by_cases h:q%2=1
  ·rw[Lo h,show(q-1)/2=q/2 by omega];simp
  ·rw[Le h,show(q+1)/2=q/2 by omega];simp
end
namespace Cv
open Pl
structure Rd(w:World)(ao:OA)(b off n:Nat)(l:List Nat):Prop where
 len:l.length=n
 addr:0<n->ao=some ⟨b,off,none⟩
 cell:∀j,j<n->w.cell? ⟨b,off+j,none⟩=some (.int .u64 (l.getD j 0:Nat))
theorem Rd.below{w w':World}{ao:OA}{b off n:Nat}{l:List Nat}(r:Rd w ao b off n l)(h:Below w.heap.size w w'):Rd w' ao b off n l :=
 ⟨r.len,r.addr,fun j hj=>(h.cell (p:=⟨b,off+j,none⟩) (Ll w _ (r.cell j hj))).trans (r.cell j hj)⟩
theorem Rd.lt{w:World}{ao:OA}{b off n:Nat}{l:List Nat}(r:Rd w ao b off n l)(h:0<n):b<w.heap.size:=Ll w ⟨b,off+0,none⟩ (r.cell 0 h)
theorem Rd.at{w w':World}{ao:OA}{b off n B:Nat}{l:List Nat}(r:Rd w ao b off n l)(h:Below B w w')(hb:0<n->b<B):Rd w' ao b off n l :=
 ⟨r.len,r.addr,fun j hj=>(Lq (h.block b (hb (by omega)))).trans (r.cell j hj)⟩
def Inc(l:List Nat):Prop:=0<l.length ∧ ∀i,i+1<l.length->l.getD i 0<l.getD (i+1) 0
def incB(l:List Nat):Bool:=decide (0<l.length) && (List.range (l.length-1)).all (fun i=>decide (l.getD i 0<l.getD (i+1) 0))
theorem UD(l:List Nat):incB l=true↔Inc l:=by
 unfold incB Inc;rw[Bool.and_eq_true,decide_eq_true_iff,List.all_eq_true]
 constructor
 ·rintro⟨h1,h2⟩;exact⟨h1,fun i hi=>by simpa using h2 i (List.mem_range.2 (by omega))⟩
 ·rintro⟨h1,h2⟩;exact⟨h1,fun i hi=>by have:=List.mem_range.1 hi;simpa using h2 i (by omega)⟩
def Yf:Nat->List Nat->Nat->Prop
 | x,[],n=>x<=n
 | x,i::S,n=>x<=i∧Yf (i+1) S n
theorem Ov:∀ {S:List Nat} {x n:Nat},Yf x S n->x<=n:=by
 intro S
 induction S with
 | nil=>intro x n h;exact h
 | cons i S ih=>intro x n h;have:=ih h.2;have:=h.1;omega
theorem QiR:∀(l:List Nat) (x n:Nat),(∀i,i+1<l.length->l.getD i 0<l.getD (i+1) 0)->(0<l.length->x<=l.getD 0 0)->(0<l.length->l.getD (l.length-1) 0<n)->x<=n->Yf x l n:=by
 intro l
 induction l with
 | nil=>intro x n _ _ _ h;exact h
 | cons a l ih=>
  intro x n h1 h2 h3 h4;refine⟨by simpa using h2 (by simp),ih (a+1) n (fun i hi=> ?_) (fun h=> ?_) (fun h=> ?_) ?_⟩
  ·have:=h1 (i+1) (by simp;omega)
   simpa using this
  ·have:=h1 0 (by simp;omega)
   simp at this ⊢;omega
  ·have:=h3 (by simp)
   rw[show(a::l).length-1=(l.length-1)+1 by simp;omega] at this
   simpa using this
  ·cases l with
   | nil=>have:=h3 (by simp);simp at this;omega
   | cons b l=>
    have h5:∀j,j<(b::l).length->a<(a::b::l).getD (j+1) 0:=fun j=>by
     induction j with
     | zero=>intro _;have:=h1 0 (by simp);simpa using this
     | succ j ihj=>intro hj;have g1:=ihj (by omega);have g2:=h1 (j+1) (by simp at *;omega);omega
    have h6:=h5 l.length (by simp)
    have h7:=h3 (by simp)
    simp only[List.length_cons,Nat.add_sub_cancel] at h7;omega
def Ya(n:Nat)(l:List Nat):Nat:=if 2^40<n then 30 else if incB l=false then 40 else if n<=l.getD (l.length-1) 0 then 31 else 0
def rstS(n:Nat)(l:List Nat):List (Nat×Nat):=if Ya n l=0 then rst 0 n l else []
theorem Yt{n:Nat}{l:List Nat}(h:Ya n l=0):n<=2^40∧Inc l∧l.getD (l.length-1) 0<n∧Yf 0 l n:=by
 unfold Ya at h
 split at h
 ·cases h
 ·rename_i h1
  split at h
  ·cases h
  ·rename_i h2
   split at h
   ·cases h
   ·rename_i h3
    have hi:Inc l:=(UD l).1 (by cases hb:incB l with
     | true=>rfl
     | false=>exact absurd hb h2)
    exact⟨by omega,hi,by omega,QiR l 0 n hi.2 (fun _=>Lm _) (fun _=>by omega) (Lm _)⟩
theorem Qid(w:World)(ao:OA)(b off n cap:Nat)(l:List Nat)(r:Rd w ao b off n l)(hn:n<=maxLen) :
  Calls prog 221 #[.slice ao n cap] w fun e w'=>e= .returned (.bool (incB l))∧Below w.heap.size w w':=by
 have hn':(n:Int)<=9223372036854775807:=by unfold maxLen at hn;omega
 have HR:Hid (Rd w ao b off n l):=r;clear hn r
 go_enter func221,ntmps221;go_wp2
 go_loopg [3] n (fun g i wr=> ∃k:Nat,(k<=n∨k=1)∧1<=k∧g=n+1-k∧i= .int .i64 k∧(∀j,j+1<k->l.getD j 0<l.getD (j+1) 0)∧Below w.heap.size w wr)
 case atStart=>go_light;exact⟨1,.inr rfl,Lb _,by omega,rfl,fun j hj=>absurd hj (by omega),Lc _ _⟩
 case round=>
  obtain⟨k,hk,hk1,rfl,rfl,he,hb⟩:=hrel;have hk0:(0:Int)<=(k:Int):=Lf _
  by_cases hlt:k<n
  ·obtain⟨i,rfl⟩:∃i,k=i+1:=⟨k-1,by omega⟩
   have r1:=HR.out.below hb;obtain rfl:=r1.addr (by omega)
   have c1:=r1.cell (i+1) hlt;have c2:=r1.cell i (by omega)
   have hz:((i+1:Nat):Int)<(n:Int):=by omega
   have ei:(((i+1:Nat):Int)-1)=(i:Int):=by omega
   have ec:((i+1:Nat):Int)=(i:Int)+1:=by omega
   have hz2:(i:Int)+1<(n:Int):=by omega
   have hz3:(i:Int)<(n:Int):=by omega
   have hi0:(0:Int)<=(i:Int):=Lf _;have hi1:(0:Int)<=(i:Int)+1:=by omega
   have HB:Hid (Below w.heap.size w wr):=hb;have HE:Hid (∀j,j+1<i+1->l.getD j 0<l.getD (j+1) 0):=he;have HI:Hid (¬l.getD i 0<l.getD (i+1) 0->incB l=false):=fun hno=>by
    cases hB:incB l with
    | false=>rfl
    | true=>exact absurd (((UD l).1 hB).2 i (by have:=HR.out.len;omega)) hno
   obtain⟨x,hx⟩:∃x,l.getD (i+1) 0=x:=⟨_,rfl⟩;obtain⟨y,hy⟩:∃y,l.getD i 0=y:=⟨_,rfl⟩;rw[hx] at c1;rw[hy] at c2;rw[hx,hy] at HI;have HX:Hid (l.getD (i+1) 0=x∧l.getD i 0=y):=⟨hx,hy⟩;have hlt2:i+1<n:=hlt;clear hx hy r1 hb he hk hlt
   by_cases hxy:x<=y
   ·have HN:Hid (incB l=false):=HI.out (by omega)
    go_wp2
    go_quiet (fail)
    go_wp2
    go_ret
    exact⟨by rw[HN.out];rfl,Qi HB.out _⟩
   ·go_wp2
    go_quiet (fail)
    go_wp2
    go_roundg (n+1-(i+1+1))
    case rel=>
     go_light;refine⟨i+1+1,by omega,by omega,rfl,by go_num,fun j hj=> ?_,Qi HB.out _⟩
     by_cases hjk:j=i
     ·subst hjk;rw[HX.out.1,HX.out.2];omega
     ·exact HE.out j (by omega)
    case measure=>go_light;omega
  ·have hz:¬(k:Int)<(n:Int):=by omega
   have hz':¬k<n:=by omega
   have HN:Hid (decide ((0:Int)<(n:Int))=incB l):=by
    have hl:=HR.out.len
    cases hB:incB l with
    | true=>have:=((UD l).1 hB).1;exact LS (by omega)
    | false=>
     refine LC (fun hp=> ?_)
     have:incB l=true:=(UD l).2 ⟨by omega,fun i hi=>he i (by omega)⟩
     rw[this] at hB;cases hB
   have HB:Hid (Below w.heap.size w wr):=hb;clear he hb hk;go_wp2
   go_ret
   refine⟨?_,HB.out⟩
   have:=HN.out;simp at this ⊢;exact this
theorem QB(m:Nat)(w:World)(ao:OA)(b off n cap:Nat)(l:List Nat)(r:Rd w ao b off n l)(hn:n<=maxLen) :
  Calls prog 171 #[.int .u64 m,.slice ao n cap] w fun e w'=>e= .returned (.int .i64 (Ya m l:Nat))∧Below w.heap.size w w':=by
 have HR:=Qid w ao b off n cap l r hn;have hn':(n:Int)<=9223372036854775807:=by unfold maxLen at hn;omega
 by_cases h1:2^40<m
 ·have ht:decide ((1099511627776:Int)<(m:Int))=true:=LS (by omega)
  have he:Ya m l=30:=by rw[Ya,Lo h1]
  rw[he];clear h1 he
  go_enter func171,ntmps171;go_wp2
  go_ret
  exact⟨rfl,Lc _ _⟩
 ·have ht:decide ((1099511627776:Int)<(m:Int))=false:=LC (by omega)
  cases h2:incB l with
  | false=>
   have he:Ya m l=40:=by rw[Ya,Le h1,Lo h2]
   rw[he];rw[h2] at HR;clear h1 he
   go_enter func171,ntmps171
   go_wp2_with (go_at_call 221;with_reducible refine HR.mono ?_;rintro e w1 ⟨rfl,hb⟩)
   go_ret
   exact⟨rfl,hb⟩
  | true=>
   have h3:=(UD l).1 h2;have hl:=r.len;rw[h2] at HR;obtain⟨j,rfl⟩:∃j,n=j+1:=⟨n-1,by have:=h3.1;omega⟩
   obtain rfl:=r.addr (by omega)
   have hc:=r.cell j (by omega)
   have e1:(((j+1:Nat):Int)-1)=(j:Int):=by omega
   have e2:((j+1:Nat):Int)=(j:Int)+1:=by omega
   have hz1:(j:Int)<(j:Int)+1:=by omega
   have hj0:(0:Int)<=(j:Int):=Lf _;have hlast:l.getD (l.length-1) 0=l.getD j 0:=by rw[hl];rfl
   obtain⟨x,hx⟩:∃x,l.getD j 0=x:=⟨_,rfl⟩;rw[hx] at hc hlast;have hcell:∀w',Below w.heap.size w w'->w'.cell? ⟨b,off+j,none⟩=some (.int .u64 x):=fun w' hb=>(hb.cell (p:=⟨b,off+j,none⟩) (Ll w _ hc)).trans hc
   by_cases h4:m<=x
   ·have he:Ya m l=31:=by rw[Ya,Le h1,Le (by rw[h2];decide),Lo (by rw[hlast];exact h4)]
    rw[he];have h4':(m:Int)<=(x:Int):=by omega
    clear h1 he h2 h3 hl hx hlast r hn
    go_enter func171,ntmps171
    go_wp2_with (go_at_call 221;with_reducible refine HR.mono ?_;rintro e w1 ⟨rfl,hb⟩;have c1:=hcell w1 hb)
    go_ret
    exact⟨rfl,hb⟩
   ·have he:Ya m l=0:=by rw[Ya,Le h1,Le (by rw[h2];decide),Le (by rw[hlast];exact h4)]
    rw[he];have h4':¬(m:Int)<=(x:Int):=by omega
    clear h1 he h2 h3 hl hx hlast r hn
    go_enter func171,ntmps171
    go_wp2_with (go_at_call 221;with_reducible refine HR.mono ?_;rintro e w1 ⟨rfl,hb⟩;have c1:=hcell w1 hb)
    go_ret
    exact⟨rfl,hb⟩
theorem Qjc(l:List Nat)(j:Nat)(h:j<l.length):l.drop j=l.getD j 0::l.drop (j+1):=by
 rw[LV h,La,Ld h];rfl
theorem Ow{k B0 M:Nat}(hk:k=151∨k=173∨k=217){I:(Nat->Prop)->List (Nat×Nat)->World->Prop}(G:Give k B0 M I)(hM:M<=4611686018427387904)(X:Nat->Prop)(acc:List (Nat×Nat))(n:Nat)(w:World)
  (ao:OA) (b off m cap:Nat) (l:List Nat) (hI:I X acc w) (hX:∀x,X x->x<w.heap.size) (hl:acc.length+100*(m+1)+1000<M) (r:Rd w ao b off m l) (hb:0<m->b<B0) (hc:Yf 0 l n) (hn:n<=2^40) :
  Calls prog 172 #[.int .u64 n,.slice ao m cap,gv k B0] w fun e w'=>e= .returned (.tuple #[])∧I X (acc++rst 0 n l) w'∧Below B0 w w' ∧ ∀x,X x->w'.heap[x]? = w.heap[x]? := by
 have HS:Hid (I X acc w∧(∀x,X x->x<w.heap.size)∧acc.length+100*(m+1)+1000<M∧Rd w ao b off m l∧(0<m->b<B0)∧Yf 0 l n∧n<=2^40):=⟨hI,hX,hl,r,hb,hc,hn⟩;have HM:Hid (M<=4611686018427387904):=hM;clear hI hX hl r hb hc hn hM
 go_enter func172,ntmps172;go_wp2
 go_loopg [6,8,11] m (fun g nx i8 ix wr=> ∃(j next:Nat) (acc':List (Nat×Nat)),j<=m∧g=m-j∧ix= .int .i64 j∧nx= .int .u64 next∧I X acc' wr∧acc'++rst next n (l.drop j)=acc++rst 0 n l∧Yf next (l.drop j) n∧Below B0 w wr∧(∀x,X x->wr.heap[x]? = w.heap[x]?)∧acc'.length<=acc.length+80*j)
 case atStart=>go_light;exact⟨0,0,acc,Lm _,rfl,rfl,rfl,HS.out.1,rfl,HS.out.2.2.2.2.2.1,Lc _ _,fun _ _=>rfl,Lb _⟩
 case round=>
  obtain⟨j,next,acc',hj,rfl,rfl,rfl,hI',hacc,hch,hbl,hkp,hlen⟩:=hrel;obtain⟨s1,s2,s3,s4,s5,s6,s7⟩:=HS.out;have hM9:=HM.out;have hj0:(0:Int)<=(j:Int):=Lf _;have hm9:(j:Int)<=4611686018427387904:=by omega
  clear hM9
  by_cases hlt:j<m
  ·have hlt':(j:Int)<(m:Int):=by omega
   have r':=s4.at hbl s5;obtain rfl:=r'.addr (by omega)
   have cj:=r'.cell j hlt;have hd:=Qjc l j (by have:=s4.len;omega)
   obtain⟨x,hx⟩:∃x,l.getD j 0=x:=⟨_,rfl⟩;rw[hx] at cj hd;rw[hd] at hacc hch;obtain⟨hnx,hch2⟩:=hch;have hxn:=Ov hch2;have HE:=Qbi hk G X acc' next x wr hI' (fun y hy=>LL (s2 y hy) hbl.size) (by omega) hnx (by omega)
   have ex:IntKind.u64.wrap ((x:Int)+1)=(x:Int)+1:=by rw[IntKind.wrap_u64];omega
   have HX:Hid (acc'++cov next x++rst (x+1) n (l.drop (j+1))=acc++rst 0 n l∧Yf (x+1) (l.drop (j+1)) n∧Below B0 w wr∧(∀y,X y->wr.heap[y]? = w.heap[y]?)∧(acc'++cov next x).length<=acc.length+80*(j+1)∧j+1<=m):=by
    refine⟨by rw[LP];exact hacc,hch2,hbl,hkp,?_,hlt⟩
    have:=QaG next x hnx (by omega)
    simp;omega
   clear hacc hch2 hbl hkp hlen hlt r' hd hx hnx hxn s1 s2 s3 s4 s5 s6 s7 hI' hj
   go_wp2_with (go_at_call 150;with_reducible refine HE.mono ?_;rintro e w1 ⟨rfl,hI1,hb1,hk1⟩)
   go_roundg (m-(j+1))
   case rel=>go_light;obtain⟨x1,x2,x3,x4,x5,x6⟩:=HX.out;refine⟨j+1,x+1,_,x6,rfl,by go_num,by go_num,hI1,x1,x2,x3.trans hb1,fun y hy=>(hk1 y hy).trans (x4 y hy),x5⟩
   case measure=>go_light;have:=HX.out.2.2.2.2.2;omega
  ·obtain rfl:j=m:=by omega
   have hlt':¬(j:Int)<(j:Int):=by omega
   have hdn:l.drop j=[]:=List.drop_eq_nil_iff.2 (by have:=s4.len;omega)
   rw[hdn] at hacc hch;have HE:=Qbi hk G X acc' next n wr hI' (fun y hy=>LL (s2 y hy) hbl.size) (by omega) hch s7
   have HX:Hid (acc'++cov next n=acc++rst 0 n l∧Below B0 w wr∧(∀y,X y->wr.heap[y]? = w.heap[y]?)):=⟨hacc,hbl,hkp⟩;clear hacc hbl hkp hlen hlt hdn s1 s2 s3 s4 s5 s6 s7 hI' hj hch
   go_wp2_with (go_at_call 150;with_reducible refine HE.mono ?_;rintro e w1 ⟨rfl,hI1,hb1,hk1⟩)
   go_end0
   obtain⟨x1,x2,x3⟩:=HX.out;rw[x1] at hI1;exact⟨rfl,hI1,x2.trans hb1,fun y hy=>(hk1 y hy).trans (x3 y hy)⟩
theorem QmZ(n:Nat)(w:World)(ao:OA)(b off m cap:Nat)(l:List Nat)(r:Rd w ao b off m l)(hm:m<=5000)(he:Ya n l=0) :
  Calls prog 105 #[.int .u64 n,.slice ao m cap] w fun x w'=> ∃v,x= .returned (.tuple #[v,.int .i64 0])∧Yp w' w.heap.size v (zl (rst 0 n l))∧Below w.heap.size w w':=by
 have HC:=QB n w ao b off m cap l r (by unfold maxLen;omega)
 obtain⟨g1,g2,g3,g4⟩:=Yt he;rw[he] at HC;have HE:∀w1,Below w.heap.size w w1->_:=fun w1 hb1=>Ow (.inr (.inl rfl)) (QhL w1.heap.size) (by decide) (fun _=>False) [] n (w1.alloc (.cells #[.slice none 0 0] 109)) ao b off m cap l (Qjy w1) (fun _ h=>h.elim) (by simp;omega) ((r.below hb1).below ((Lc _ w1).alloc (Lb _) _)) (fun h=>LL (r.lt h) hb1.size) g4 g1
 clear he r hm g1 g2 g3 g4
 go_enter func105,ntmps105
 go_upto_region 6 with (first
  | (go_at_call 171;with_reducible refine HC.mono ?_;rintro x w1 ⟨rfl,hb⟩;replace HE:=HE w1 hb)
  | (go_at_call 172;with_reducible refine HE.mono ?_;rintro x w2 ⟨rfl,hI,hb2,_⟩))
 obtain⟨⟨v,h1,h2,_⟩,_⟩:=hI;have c0:=cell_of_one h1;obtain⟨ao,m,c,rfl⟩:=Qs h2;have HF:Hid (Yp w2 w.heap.size (.slice ao m c) (zl (rst 0 n l))∧Below w.heap.size w w2):=⟨by
  have:=h2.mono (base':=w.heap.size) (by have:=hb.size;omega)
  simpa using this,hb.trans ((((Lc _ w1).alloc (Lb _) _).trans hb2).mono hb.size)⟩
 clear h1 h2 hb2 HE hb;go_wp2
 go_ret2
 exact⟨_,rfl,HF.out.1,HF.out.2⟩
theorem Qou(w:World):IC w.heap.size (fun _=>False) [] (w.alloc (.cells #[.int .u64 0] 31)):=⟨OB _ _,fun h=>h⟩
theorem QhB(n e:Nat)(w:World)(ao:OA)(b off m cap:Nat)(l:List Nat)(r:Rd w ao b off m l)(hm:m<=maxLen)(he:Ya n l=e)(h0:e≠0) :
  Calls prog 157 #[.int .u64 n,.slice ao m cap] w fun x w'=>x= .returned (.tuple #[.int .u64 0,.int .i64 e])∧Below w.heap.size w w':=by
 have HC:=QB n w ao b off m cap l r hm;rw[he] at HC;have h0':¬(e:Int)=0:=by omega
 clear he r hm
 go_enter func157,ntmps157
 go_wp2_with (go_at_call 171;with_reducible refine HC.mono ?_;rintro x w1 ⟨rfl,hb⟩)
 go_ret2
 exact⟨rfl,hb⟩
theorem Qeg(n:Nat)(w:World)(ao:OA)(b off m cap:Nat)(l:List Nat)(r:Rd w ao b off m l)(hm:m<=17592186044416)(he:Ya n l=0) :
  Calls prog 157 #[.int .u64 n,.slice ao m cap] w fun x w'=>x= .returned (.tuple #[.int .u64 ((rst 0 n l).length:Nat),.int .i64 0])∧Below w.heap.size w w':=by
 have HC:=QB n w ao b off m cap l r (by unfold maxLen;omega)
 obtain⟨g1,g2,g3,g4⟩:=Yt he;rw[he] at HC;have HE:∀w1,Below w.heap.size w w1->_:=fun w1 hb1=>Ow (.inr (.inr rfl)) (QfB w1.heap.size) (by decide) (fun _=>False) [] n (w1.alloc (.cells #[.int .u64 0] 31)) ao b off m cap l (Qou w1) (fun _ h=>h.elim) (by simp;omega) ((r.below hb1).below ((Lc _ w1).alloc (Lb _) _)) (fun h=>LL (r.lt h) hb1.size) g4 g1
 clear he r hm g1 g2 g3 g4
 go_enter func157,ntmps157
 go_upto_region 6 with (first
  | (go_at_call 171;with_reducible refine HC.mono ?_;rintro x w1 ⟨rfl,hb⟩;replace HE:=HE w1 hb)
  | (go_at_call 172;with_reducible refine HE.mono ?_;rintro x w2 ⟨rfl,hI,hb2,_⟩))
 have h1:=hI.at0;rw[NE] at h1;have c0:=cell_of_one h1;have HF:Hid (Below w.heap.size w w2):=hb.trans ((((Lc _ w1).alloc (Lb _) _).trans hb2).mono hb.size);clear h1 hI hb2 HE hb;go_wp2
 go_ret2
 exact⟨rfl,HF.out⟩
theorem Ym(n:Nat)(w:World)(ao:OA)(b off m cap:Nat)(l:List Nat)(r:Rd w ao b off m l)(hm:m<=17592186044416) :
  Calls prog 157 #[.int .u64 n,.slice ao m cap] w fun x w'=>x= .returned (.tuple #[.int .u64 ((rstS n l).length:Nat),.int .i64 (Ya n l:Nat)])∧Below w.heap.size w w':=by
 by_cases h:Ya n l=0
 ·rw[rstS,Lo h,h];exact Qeg n w ao b off m cap l r hm h
 ·rw[rstS,Le h];exact QhB n _ w ao b off m cap l r (by unfold maxLen;omega) rfl h
def Row(q:Nat):Nat->List (Nat×Nat)->Prop
 | p,[]=>p=q
 | p,b::L=>p=b.2*pw b.1∧b.1<=40∧b.2<pw (40-b.1)∧Row q ((b.2+1)*pw b.1) L
theorem Qlw{h k:Nat}(hb:(k+1)*pw h<=2^40):h<=40∧k<pw (40-h):=by
 have h1:pw h<=(k+1)*pw h:=Io _ (by omega)
 have hh:h<=40:=pw40 (by omega)
 refine⟨hh,?_⟩
 have e:(2:Nat)^40=pw (40-h)*pw h:=by rw[<-Qao,show 40-h+h=40 by omega];rfl
 rw[e] at hb;exact LL (I1 k) (Nat.le_of_mul_le_mul_right hb (QA h))
theorem Qnk{lo hi:Nat}(hhi:hi<=2^40):∀ {L:List (Nat×Nat)} {p:Nat},lo<=p->Til (Rg lo hi) hi p L->Row hi p L:=by
 intro L
 induction L with
 | nil=>
  intro p h1 h2
  show p=hi
  have:=h2.1
  by_cases he:p=hi
  ·exact he
  ·exact absurd ⟨h1,by omega⟩ (h2.2 p (Lb _) (by omega))
 | cons b L ih=>
  intro p h1 h2;obtain⟨a1,a2,a3,a4,a5,a6⟩:=h2;have hlt:=Yx b.1 b.2;have hm:=Qlw (Lt a2 hhi);refine⟨?_,hm.1,hm.2,ih (by omega) a6⟩
  by_cases he:p=b.2*pw b.1
  ·exact he
  ·exact absurd ⟨h1,by omega⟩ (a3 p (Lb _) (by omega))
theorem QaH(lo hi:Nat)(h:lo<=hi)(hhi:hi<=2^40):Row hi lo (cov lo hi):=Qnk hhi (Lb _) (QaI lo hi h hhi)
theorem Qni{A:Nat->Prop}{q:Nat} : ∀ {L:List (Nat×Nat)} {p:Nat},Til A q p L -> ∀b∈L,¬All A (b.1+1) (b.2/2)∧(b.2+1)*pw b.1<=q:=by
 intro L
 induction L with
 | nil=>intro p _ b hb;cases hb
 | cons c L ih=>
  intro p h b hb
  rcases List.mem_cons.1 hb with rfl|hb
  ·exact⟨h.2.2.2.2.1,h.2.1⟩
  ·exact ih h.2.2.2.2.2 b hb
theorem Qc0{α:Type}(d:α)(l:List α)(j:Nat)(h:j<l.length):l.drop j=l.getD j d::l.drop (j+1):=by
 rw[LV h,La,Ld h];rfl
theorem QnA(L:List (Nat×Nat))(j:Nat):(zl L).getD j (0,0)=(((L.getD j (0,0)).1:Int),(L.getD j (0,0)).2):=by
 by_cases h:j<L.length
 ·simp[zl,List.getD_eq_getElem?_getD,List.getElem?_eq_getElem h]
 ·simp[zl,List.getD_eq_getElem?_getD,List.getElem?_eq_none (Nat.le_of_not_lt h)]
end Cv
end Go.Proofs.YtoblgjledefdbabGreatDoor
