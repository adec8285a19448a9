/- Own work. -/
import Derived.Lib.AppendZeros
import Derived.Test.YtoblgjledefdbaaGreatDoorQc08
set_option maxRecDepth 100000
set_option maxHeartbeats 1000000
namespace Go.Proofs.YtoblgjledefdbaaGreatDoor
open Go.RowKit
attribute [local go_sem ↓] Go.wp_at_zero Go.wp_at_succ
open Go.Proofs.Tryz
section
open Cv (RdC Ap)
abbrev dn:Value := .slice none 0 0
abbrev cS(l:LB):List Value:=l.map Value.string
theorem Qoi(l:LB):(cS l).length=l.length*1:=by simp[cS]
theorem Qoh(l m:LB):cS (l++m)=cS l++cS m:=LL
theorem Qoj(l:LB):∀u∈cS l,u.oneCell'=true:=by
 intro u hu;obtain⟨y,_,rfl⟩:=List.mem_map.1 hu;rfl
theorem Qdh{w:World}{ao:OA}{b off len cap:Nat}{ss:LB}(h:RdS w ao b off len ss)(hn:ao=none->cap=0):RdC w (.slice ao len cap) len (cS ss):=by
 refine⟨ao,cap,rfl,fun e=>⟨?_,hn e⟩,fun ad ha j c hj=> ?_⟩
 ·apply Classical.byContradiction
  intro h0;have:=h.ptr (by omega)
  rw[e] at this
  cases this
 ·have hj':j<len:=by have:=(List.getElem?_eq_some_iff.1 hj).1;rw[LC,h.hl] at this;exact this
  have:=h.ptr (by omega)
  rw[ha] at this
  cases this;rw[Addr.add_mid];exact h.rng j c hj
theorem UH(w:World)(o:Obj):Below w.heap.size w (w.drew.alloc o):=(Lb w.heap.size w).drew.alloc (by simp) o
theorem Yr{α:Type}(d:α)(l:List α)(j:Nat)(h:j<l.length):l.take (j+1)=l.take j++[l.getD j d]:=by
 rw[NW,Lc,Ll h];rfl
theorem QaJ{α:Type}(Ls:List (List α))(j:Nat):(Ls.take j).flatten.length<=Ls.flatten.length:=by
 have:=LW (fun x:List (List α)=>x.flatten.length) (NA j Ls)
 simp only[List.flatten_append,List.length_append] at this;omega
theorem Qoz(w:World)(n:Nat)(hn:n<=8796093022208) :
  Calls prog 322 #[.slice none 0 0,.int .i64 n] w fun e w'=> ∃v,e= .returned v∧w'.ownsRow w.heap.size 9 1 v 0 []∧Below w.heap.size w w':=by
 obtain⟨i0,hi,hz0,hz1,hz2⟩:=info_parts Tryz.infoS
 by_cases h0:n=0
 ·subst h0;clear hn
  go_enter func322,ntmps322;go_wp2
  go_ret
  exact⟨_,rfl,Np _ _ _ _,Lb _ _⟩
 ·have hr:=fun ty=>Lib.run_append_nil_zeros (P:=prog) w 22 3 ty 9 i0 _ .i64 .i64 underlying22 underlying3 hi hz0 n (by omega) (by rw[hz1];decide) (by omega) (by rw[hz2];omega)
  obtain⟨G,hG⟩:∃G,grownCap w n 0 9=G:=⟨_,rfl⟩;have hge:=grownCap_ge w n 0 9;have hle:=grownCap_le_maxLen w n 0 9 (by unfold maxLen;omega)
  rw[hG] at hge hle hr;have HO:Hid ((w.drew.alloc (.cells (Builtin.zeroCells (Value.cells (.string ByteArray.empty)) n++Builtin.zeroCells (Value.cells (.string ByteArray.empty)) (G-n)) 9)).ownsRow w.heap.size 9 1 (.slice (Zp w.heap.size) 0 G) 0 []):=by
   refine⟨rfl,.inr ⟨w.heap.size,G,_,rfl,La _,Lt w.drew _,Ln _,hle,?_,by simp⟩⟩
   rw[Array.size_append,size_zeroCells,size_zeroCells,show(Value.cells (.string ByteArray.empty)).size=1 from rfl,<-LT]
   congr 1
   omega
  have hG63:G<=9223372036854775807:=by unfold maxLen at hle;omega
  have hn0:(0:Int)<(n:Int):=by omega
  have hnz:¬(n:Int)<0:=by omega
  clear hG hge hle hi hz0 hz1 hz2 h0
  go_enter func322,ntmps322
  go_wp2_with (at_builtin;refine Lib.wpList_append_run _ rfl _ _ _ _ rfl _ _ rfl rfl _ _ (hr _) ?_)
  go_ret
  exact⟨_,rfl,HO.out,UH w _⟩
structure CatS(w:World)(g0:Nat)(us:List Value)(Ls:List (List (BA))):Prop where
 len:us.length=Ls.length
 cell:∀j,j<us.length->w.cell? ⟨g0,j,none⟩=some (us.getD j dn)
 rd:∀j,j<us.length->RdC w (us.getD j dn) (Ls.getD j []).length (cS (Ls.getD j []))
theorem CatS.next{w W:World}{g0:Nat}{us:List Value}{Ls:List (List (BA))}(h:CatS w g0 us Ls)(hb:Below w.heap.size w W):CatS W g0 us Ls :=
 ⟨h.len,fun j hj=>(hb.cell (Lf w _ (h.cell j hj))).trans (h.cell j hj),fun j hj=>Cv.Un (h.rd j hj) hb⟩
theorem Qi4(w:World)(g0 c0:Nat)(us:List Value)(Ls:List (List (BA)))(h:CatS w g0 us Ls)(hu:us.length<=1000)(hm:Ls.flatten.length<=8796093022208)(cl:List (BA))(hcl:Ls.flatten=cl) :
  Calls prog 236 #[.slice (Zp g0) us.length c0] w fun e w'=> ∃v,e= .returned v∧w'.ownsRow w.heap.size 9 1 v cl.length (cS cl)∧Below w.heap.size w w':=by
 obtain⟨i0,hi,hz0,hz1,hz2⟩:=info_parts Tryz.infoS;have HC:Hid (∀W,Below w.heap.size w W->CatS W g0 us Ls):=fun W hb=>h.next hb
 have HX:Hid (us.length=Ls.length∧us.length<=1000∧Ls.flatten.length<=8796093022208∧Ls.flatten=cl):=⟨h.len,hu,hm,hcl⟩;have h63:(us.length:Int)<=1000:=by omega
 have hb0:=Lb w.heap.size w;have HI:Hid (prog.info? 9=some i0∧i0.zero=some (.string ByteArray.empty)∧i0.size=1∧i0.bytes=16):=⟨hi,hz0,hz1,hz2⟩;clear h hu hm hcl hi hz0 hz1 hz2
 go_enter func236,ntmps236;go_wp2
 go_loopg [3,11] us.length (fun g s i wr=> ∃j:Nat,j<=us.length∧g=us.length-j∧i= .int .i64 j∧s= .int .i64 ((Ls.take j).flatten.length:Int)∧Below w.heap.size w wr)
 case atStart=>go_light;exact⟨0,Ln _,rfl,rfl,rfl,hb0⟩
 case round=>
  clear hb0;obtain⟨j,hj,rfl,rfl,rfl,hb⟩:=hrel
  by_cases hlt:j<us.length
  ·have hz:(j:Int)<(us.length:Int):=by omega
   have hz0:(0:Int)<=(j:Int):=Lh _;have cj:=(HC.out wr hb).cell j hlt;obtain⟨ao,cap,hv,_,_⟩:=(HC.out wr hb).rd j hlt;rw[hv] at cj;obtain⟨m,hmm⟩:∃m,(Ls.getD j []).length=m:=⟨_,rfl⟩;rw[hmm] at cj;have hs:(Ls.take (j+1)).flatten.length=(Ls.take j).flatten.length+m:=by
    rw[Yr [] Ls j (by have:=HX.out.1;omega),N4,Le,Ip,hmm]
   have hle:=QaJ Ls (j+1);obtain⟨a,ha⟩:∃a,(Ls.take j).flatten.length=a:=⟨_,rfl⟩;rw[ha] at hs ⊢;have hax:a+m<=8796093022208:=by have:=HX.out.2.2.1;omega
   have e1:IntKind.i64.wrap ((a:Int)+(m:Int))=(a:Int)+(m:Int):=by rw[Lz];omega
   have hpos:¬(a:Int)+(m:Int)<0:=by omega
   have HS:Hid ((a:Int)+(m:Int)=((Ls.take (j+1)).flatten.length:Nat)):=by show _=_;rw[hs];omega
   clear hs hle ha hmm hv hax;go_wp2
   go_roundg (us.length-(j+1))
   case rel=>go_light;exact⟨j+1,by omega,rfl,by go_num,by rw[HS.out],hb⟩
   case measure=>go_light;omega
  ·obtain rfl:j=us.length:=by omega
   have hz:¬((us.length:Int)<(us.length:Int)):=by omega
   have ha:(Ls.take us.length).flatten.length=Ls.flatten.length:=by rw[HX.out.1,NK]
   rw[ha];have HG:Hid (∀W,Calls prog 322 #[.slice none 0 0,.int .i64 Ls.flatten.length] W fun e w'=> ∃v,e= .returned v∧w'.ownsRow W.heap.size 9 1 v 0 []∧Below W.heap.size W w'):=fun W=>Qoz W _ HX.out.2.2.1
   obtain⟨q,hq⟩:∃q,Ls.flatten.length=q:=⟨_,rfl⟩;rw[hq] at HG ⊢;clear ha hlt hj hq
   go_wp2_with (go_at_call 322;with_reducible refine(HG.out _).mono ?_;rintro e w1 ⟨v,rfl,ho,hb1⟩)
   have hb2:=Qa hb hb1;have ho2:w1.ownsRow w.heap.size 9 1 v 0 []:=ho.mono hb.size;clear hb hb1 ho;go_wp2
   go_loopg [6,27] us.length (fun g v i wr=> ∃j:Nat,j<=us.length∧g=us.length-j∧i= .int .i64 j∧wr.ownsRow w.heap.size 9 1 v (Ls.take j).flatten.length (cS (Ls.take j).flatten)∧Below w.heap.size w wr)
   case atStart=>go_light;exact⟨0,Ln _,rfl,rfl,ho2,hb2⟩
   case round=>
    clear hb2 ho2;obtain⟨j,hj,rfl,rfl,ho,hb⟩:=hrel
    by_cases hlt:j<us.length
    ·have hz:(j:Int)<(us.length:Int):=by omega
     have hz0:(0:Int)<=(j:Int):=Lh _;have cj:=(HC.out wr hb).cell j hlt;have rj:=(HC.out wr hb).rd j hlt;obtain⟨u,hu⟩:∃u,us.getD j dn=u:=⟨_,rfl⟩;obtain⟨l,hl⟩:∃l,Ls.getD j []=l:=⟨_,rfl⟩;rw[hu] at cj rj;rw[hl] at rj;have ht:(Ls.take (j+1)).flatten=(Ls.take j).flatten++l:=by
      rw[Yr [] Ls j (by have:=HX.out.1;omega),N4,Ip,hl]
     have hle:=QaJ Ls (j+1);obtain⟨a,ha⟩:∃a,(Ls.take j).flatten=a:=⟨_,rfl⟩;rw[ha] at ht ho;rw[ht,Le] at hle;have HS:Hid ((Ls.take (j+1)).flatten=a++l∧a.length+l.length<=8796093022208∧RdC wr u l.length (cS l)∧wr.ownsRow w.heap.size 9 1 u6 a.length (cS a)∧w.heap.size<=wr.heap.size):=⟨ht,by have:=HX.out.2.2.1;omega,rj,ho,hb.size⟩
     clear ht hle ha hl hu ho rj
     go_wp2_with (at_builtin;refine Cv.Ya _ rfl _ _ _ rfl w.heap.size 9 i0 (.string ByteArray.empty) 1 16 underlying22 HI.out.1 HI.out.2.1 HI.out.2.2.1 HI.out.2.2.2 rfl (by decide) _ a.length (cS a) rfl HS.out.2.2.2.1 _ l.length (cS l) rfl HS.out.2.2.1 (Qoi l) (Qoj l) ?c1 ?c2 HS.out.2.2.2.2 ?_)
     case c1=>have:=HS.out.2.1;unfold maxLen;omega
     case c2=>have:=HS.out.2.1;omega
     intro v' w1 hap;have HY:Hid (w1.ownsRow w.heap.size 9 1 v' (a++l).length (cS (a++l))∧Below w.heap.size w w1):=by
      refine⟨?_,(Cv.Qbz hb HS.out.2.2.2.2 HS.out.2.2.2.1 hap.grown).1⟩
      rw[Le,Qoh];exact hap.own
     clear hap hb;go_wp2
     go_roundg (us.length-(j+1))
     case rel=>
      go_light;refine⟨j+1,by omega,rfl,by go_num,?_,HY.out.2⟩
      rw[HS.out.1];exact HY.out.1
     case measure=>go_light;omega
    ·obtain rfl:j=us.length:=by omega
     have hz:¬((us.length:Int)<(us.length:Int)):=by omega
     rw[HX.out.1,NK,HX.out.2.2.2] at ho;clear hlt hj;go_wp2
     go_ret
     exact⟨_,rfl,ho,hb⟩
theorem Qoy(w:World)(n:Nat)(hn:n<=8796093022208) :
  Calls prog 313 #[.slice none 0 0,.int .i64 n] w fun e w'=> ∃v,e= .returned v∧w'.ownsRow w.heap.size 249 2 v 0 []∧Below w.heap.size w w':=by
 obtain⟨i0,hi,hz0,hz1,hz2⟩:=info_parts Cv.Tryz.infoB
 by_cases h0:n=0
 ·subst h0;clear hn
  go_enter func313,ntmps313;go_wp2
  go_ret
  exact⟨_,rfl,Np _ _ _ _,Lb _ _⟩
 ·have hr:=fun ty=>Lib.run_append_nil_zeros (P:=prog) w 187 3 ty 249 i0 _ .i64 .i64 underlying187 underlying3 hi hz0 n (by omega) (by rw[hz1];decide) (by omega) (by rw[hz2];omega)
  obtain⟨G,hG⟩:∃G,grownCap w n 0 249=G:=⟨_,rfl⟩;have hge:=grownCap_ge w n 0 249;have hle:=grownCap_le_maxLen w n 0 249 (by unfold maxLen;omega)
  rw[hG] at hge hle hr;have HO:Hid ((w.drew.alloc (.cells (Builtin.zeroCells (Value.cells (.agg #[.int .i64 0,.int .u64 0])) n++Builtin.zeroCells (Value.cells (.agg #[.int .i64 0,.int .u64 0])) (G-n)) 249)).ownsRow w.heap.size 249 2 (.slice (Zp w.heap.size) 0 G) 0 []):=by
   refine⟨rfl,.inr ⟨w.heap.size,G,_,rfl,La _,Lt w.drew _,Ln _,hle,?_,by simp⟩⟩
   rw[Array.size_append,size_zeroCells,size_zeroCells,show(Value.cells (.agg #[.int .i64 0,.int .u64 0])).size=2 from rfl,<-LT]
   congr 1
   omega
  have hG63:G<=9223372036854775807:=by unfold maxLen at hle;omega
  have hn0:(0:Int)<(n:Int):=by omega
  have hnz:¬(n:Int)<0:=by omega
  clear hG hge hle hi hz0 hz1 hz2 h0
  go_enter func313,ntmps313
  go_wp2_with (at_builtin;refine Lib.wpList_append_run _ rfl _ _ _ _ rfl _ _ rfl rfl _ _ (hr _) ?_)
  go_ret
  exact⟨_,rfl,HO.out,UH w _⟩
structure CatB(w:World)(g0:Nat)(us:List Value)(Ls:List (List (Int×Nat))):Prop where
 len:us.length=Ls.length
 cell:∀j,j<us.length->w.cell? ⟨g0,j,none⟩=some (us.getD j dn)
 rd:∀j,j<us.length->RdC w (us.getD j dn) (Ls.getD j []).length (Cv.cB (Ls.getD j []))
theorem CatB.next{w W:World}{g0:Nat}{us:List Value}{Ls:List (List (Int×Nat))}(h:CatB w g0 us Ls)(hb:Below w.heap.size w W):CatB W g0 us Ls :=
 ⟨h.len,fun j hj=>(hb.cell (Lf w _ (h.cell j hj))).trans (h.cell j hj),fun j hj=>Cv.Un (h.rd j hj) hb⟩
theorem QdV(w:World)(g0 c0:Nat)(us:List Value)(Ls:List (List (Int×Nat)))(h:CatB w g0 us Ls)(hu:us.length<=1000)(hm:Ls.flatten.length<=8796093022208)(cl:List (Int×Nat))(hcl:Ls.flatten=cl) :
  Calls prog 220 #[.slice (Zp g0) us.length c0] w fun e w'=> ∃v,e= .returned v∧w'.ownsRow w.heap.size 249 2 v cl.length (Cv.cB cl)∧Below w.heap.size w w':=by
 obtain⟨i0,hi,hz0,hz1,hz2⟩:=info_parts Cv.Tryz.infoB;have HC:Hid (∀W,Below w.heap.size w W->CatB W g0 us Ls):=fun W hb=>h.next hb
 have HX:Hid (us.length=Ls.length∧us.length<=1000∧Ls.flatten.length<=8796093022208∧Ls.flatten=cl):=⟨h.len,hu,hm,hcl⟩;have h63:(us.length:Int)<=1000:=by omega
 have hb0:=Lb w.heap.size w;have HI:Hid (prog.info? 249=some i0∧i0.zero=some (.agg #[.int .i64 0,.int .u64 0])∧i0.size=2∧i0.bytes=16):=⟨hi,hz0,hz1,hz2⟩;clear h hu hm hcl hi hz0 hz1 hz2
 go_enter func220,ntmps220;go_wp2
 go_loopg [3,11] us.length (fun g s i wr=> ∃j:Nat,j<=us.length∧g=us.length-j∧i= .int .i64 j∧s= .int .i64 ((Ls.take j).flatten.length:Int)∧Below w.heap.size w wr)
 case atStart=>go_light;exact⟨0,Ln _,rfl,rfl,rfl,hb0⟩
 case round=>
  clear hb0;obtain⟨j,hj,rfl,rfl,rfl,hb⟩:=hrel
  by_cases hlt:j<us.length
  ·have hz:(j:Int)<(us.length:Int):=by omega
   have hz0:(0:Int)<=(j:Int):=Lh _;have cj:=(HC.out wr hb).cell j hlt;obtain⟨ao,cap,hv,_,_⟩:=(HC.out wr hb).rd j hlt;rw[hv] at cj;obtain⟨m,hmm⟩:∃m,(Ls.getD j []).length=m:=⟨_,rfl⟩;rw[hmm] at cj;have hs:(Ls.take (j+1)).flatten.length=(Ls.take j).flatten.length+m:=by
    rw[Yr [] Ls j (by have:=HX.out.1;omega),N4,Le,Ip,hmm]
   have hle:=QaJ Ls (j+1);obtain⟨a,ha⟩:∃a,(Ls.take j).flatten.length=a:=⟨_,rfl⟩;rw[ha] at hs ⊢;have hax:a+m<=8796093022208:=by have:=HX.out.2.2.1;omega
   have e1:IntKind.i64.wrap ((a:Int)+(m:Int))=(a:Int)+(m:Int):=by rw[Lz];omega
   have hpos:¬(a:Int)+(m:Int)<0:=by omega
   have HS:Hid ((a:Int)+(m:Int)=((Ls.take (j+1)).flatten.length:Nat)):=by show _=_;rw[hs];omega
   clear hs hle ha hmm hv hax;go_wp2
   go_roundg (us.length-(j+1))
   case rel=>go_light;exact⟨j+1,by omega,rfl,by go_num,by rw[HS.out],hb⟩
   case measure=>go_light;omega
  ·obtain rfl:j=us.length:=by omega
   have hz:¬((us.length:Int)<(us.length:Int)):=by omega
   have ha:(Ls.take us.length).flatten.length=Ls.flatten.length:=by rw[HX.out.1,NK]
   rw[ha];have HG:Hid (∀W,Calls prog 313 #[.slice none 0 0,.int .i64 Ls.flatten.length] W fun e w'=> ∃v,e= .returned v∧w'.ownsRow W.heap.size 249 2 v 0 []∧Below W.heap.size W w'):=fun W=>Qoy W _ HX.out.2.2.1
   obtain⟨q,hq⟩:∃q,Ls.flatten.length=q:=⟨_,rfl⟩;rw[hq] at HG ⊢;clear ha hlt hj hq
   go_wp2_with (go_at_call 313;with_reducible refine(HG.out _).mono ?_;rintro e w1 ⟨v,rfl,ho,hb1⟩)
   have hb2:=Qa hb hb1;have ho2:w1.ownsRow w.heap.size 249 2 v 0 []:=ho.mono hb.size;clear hb hb1 ho;go_wp2
   go_loopg [6,27] us.length (fun g v i wr=> ∃j:Nat,j<=us.length∧g=us.length-j∧i= .int .i64 j∧wr.ownsRow w.heap.size 249 2 v (Ls.take j).flatten.length (Cv.cB (Ls.take j).flatten)∧Below w.heap.size w wr)
   case atStart=>go_light;exact⟨0,Ln _,rfl,rfl,ho2,hb2⟩
   case round=>
    clear hb2 ho2;obtain⟨j,hj,rfl,rfl,ho,hb⟩:=hrel
    by_cases hlt:j<us.length
    ·have hz:(j:Int)<(us.length:Int):=by omega
     have hz0:(0:Int)<=(j:Int):=Lh _;have cj:=(HC.out wr hb).cell j hlt;have rj:=(HC.out wr hb).rd j hlt;obtain⟨u,hu⟩:∃u,us.getD j dn=u:=⟨_,rfl⟩;obtain⟨l,hl⟩:∃l,Ls.getD j []=l:=⟨_,rfl⟩;rw[hu] at cj rj;rw[hl] at rj;have ht:(Ls.take (j+1)).flatten=(Ls.take j).flatten++l:=by
      rw[Yr [] Ls j (by have:=HX.out.1;omega),N4,Ip,hl]
     have hle:=QaJ Ls (j+1);obtain⟨a,ha⟩:∃a,(Ls.take j).flatten=a:=⟨_,rfl⟩;rw[ha] at ht ho;rw[ht,Le] at hle;have HS:Hid ((Ls.take (j+1)).flatten=a++l∧a.length+l.length<=8796093022208∧RdC wr u l.length (Cv.cB l)∧wr.ownsRow w.heap.size 249 2 u6 a.length (Cv.cB a)∧w.heap.size<=wr.heap.size):=⟨ht,by have:=HX.out.2.2.1;omega,rj,ho,hb.size⟩
     clear ht hle ha hl hu ho rj
     go_wp2_with (at_builtin;refine Cv.Ya _ rfl _ _ _ rfl w.heap.size 249 i0 (.agg #[.int .i64 0,.int .u64 0]) 2 16 underlying187 HI.out.1 HI.out.2.1 HI.out.2.2.1 HI.out.2.2.2 rfl (by decide) _ a.length (Cv.cB a) rfl HS.out.2.2.2.1 _ l.length (Cv.cB l) rfl HS.out.2.2.1 (Cv.Qu l) (Cv.Qac l) ?c1 ?c2 HS.out.2.2.2.2 ?_)
     case c1=>have:=HS.out.2.1;unfold maxLen;omega
     case c2=>have:=HS.out.2.1;omega
     intro v' w1 hap;have HY:Hid (w1.ownsRow w.heap.size 249 2 v' (a++l).length (Cv.cB (a++l))∧Below w.heap.size w w1):=by
      refine⟨?_,(Cv.Qbz hb HS.out.2.2.2.2 HS.out.2.2.2.1 hap.grown).1⟩
      rw[Le,Cv.Qab];exact hap.own
     clear hap hb;go_wp2
     go_roundg (us.length-(j+1))
     case rel=>
      go_light;refine⟨j+1,by omega,rfl,by go_num,?_,HY.out.2⟩
      rw[HS.out.1];exact HY.out.1
     case measure=>go_light;omega
    ·obtain rfl:j=us.length:=by omega
     have hz:¬((us.length:Int)<(us.length:Int)):=by omega
     rw[HX.out.1,NK,HX.out.2.2.2] at ho;clear hlt hj;go_wp2
     go_ret
     exact⟨_,rfl,ho,hb⟩
end
section
open Cv (RdC zl)
theorem Qmk(M:List (Nat×Nat))(j:Nat)(hj:j<M.length):(zl M).getD j (0,0)=(((M.getD j (0,0)).1:Int),(M.getD j (0,0)).2):=by
 unfold zl;rw[Lc,Lc,No,Ll hj]
 rfl
theorem QnM{n i H:Nat}{A B:List (Nat×Nat)}(hw:Wy n i A H B){j h:Nat}(hj:j<(Cv.dnL 41 0 n).length)(he:(Cv.dnL 41 0 n).getD j (0,0)=(h,i/2^h)):j=A.length∧h=H:=by
 rw[hw.all] at hj he;rw[Lc] at he
 rcases Wk j A.length with hlt|heq|hgt
 ·rw[LE hlt,Ll hlt] at he;have:=hw.no_left (LZ hlt);rw[show A[j]=(h,i/2^h) from he] at this
  exact absurd this (Ns _)
 ·subst heq;rw[LQ (La _),NH] at he;exact⟨rfl,(LW Prod.fst (show(H,i/2^H)=(h,i/2^h) from he)).symm⟩
 ·rw[Le,LD] at hj;obtain⟨t,rfl⟩:∃t,j=A.length+(t+1):=⟨j-A.length-1,by omega⟩
  have ht:t<B.length:=by omega
  rw[LQ (by omega),show A.length+(t+1)-A.length=t+1 by omega,NV,Ll ht] at he
  have:=hw.no_right (LZ ht);rw[show B[t]=(h,i/2^h) from he] at this
  exact absurd this (Ns _)
theorem QpP{n i H:Nat}{A B:List (Nat×Nat)}(hw:Wy n i A H B):A.length<(Cv.dnL 41 0 n).length∧(Cv.dnL 41 0 n).getD A.length (0,0)=(H,i/2^H):=by
 rw[hw.all];refine⟨by simp,?_⟩
 rw[Lc,LQ (La _),NH]
 rfl
theorem Qbe{b:Nat×Nat}{n:Nat}(h:(b.2+1)*2^b.1<=n)(hn:n<=2^40):Fitb (b.1:Int) b.2∧b.1<=40∧b.2<2^40:=by
 have hp:=LP b.1;have h1:2^b.1<=(b.2+1)*2^b.1:=Ir _ (by omega)
 have h2:b.2+1<=(b.2+1)*2^b.1:=NL _ hp;have h3:b.1<2^b.1:=Nat.lt_two_pow_self;have h4:b.1<=40:=Cv.pw40 (h:=b.1) (by show 2^b.1<=_;omega)
 exact⟨⟨⟨by omega,by omega⟩,by omega⟩,h4,by omega⟩
theorem QaP(n:Nat)(hn:n<=2^40):Cv.Uv 0 n n=0∧Cv.covR 0 n n=Cv.dnL 41 0 n:=by
 have h:Cv.Uv 0 n n=0:=by rw[Cv.Uv,Ld (by omega),Ld (by omega),Ld (by omega)]
 exact⟨h,by rw[Cv.covR,Lm h,Cv.Q0 n hn]⟩
theorem Qk7(q:Nat):Nat.xor q 1=sb q:=by
 unfold sb;have h1:Nat.xor q 1=q ^^^ 1:=rfl;rw[h1]
 apply Nat.eq_of_testBit_eq
 intro t;rw[Nat.testBit_xor]
 cases t with
 | zero=>
  have h0:∀x,Nat.testBit x 0=decide (x%2=1):=fun x=>Nat.testBit_zero x
  rw[h0,h0,h0]
  by_cases h:q%2=1
  ·rw[Lm h];have:(q-1)%2=0:=by omega
   simp[h,this]
  ·rw[Ld h];have:(q+1)%2=1:=by omega
   simp[h,this]
 | succ t=>
  rw[Wq,Wq,Wq]
  by_cases h:q%2=1
  ·rw[Lm h,show(q-1)/2=q/2 by omega];simp
  ·rw[Ld h,show(q+1)/2=q/2 by omega];simp
end
namespace Cv
open Pl
structure Rd(w:World)(ao:OA)(b off n:Nat)(l:List Nat):Prop where
 len:l.length=n
 addr:0<n->ao=some ⟨b,off,none⟩
 cell:∀j,j<n->w.cell? ⟨b,off+j,none⟩=some (.int .u64 (l.getD j 0:Nat))
theorem Rd.below{w w':World}{ao:OA}{b off n:Nat}{l:List Nat}(r:Rd w ao b off n l)(h:Below w.heap.size w w'):Rd w' ao b off n l :=
 ⟨r.len,r.addr,fun j hj=>(h.cell (p:=⟨b,off+j,none⟩) (Lf w _ (r.cell j hj))).trans (r.cell j hj)⟩
theorem Rd.lt{w:World}{ao:OA}{b off n:Nat}{l:List Nat}(r:Rd w ao b off n l)(h:0<n):b<w.heap.size:=Lf w ⟨b,off+0,none⟩ (r.cell 0 h)
theorem Rd.at{w w':World}{ao:OA}{b off n B:Nat}{l:List Nat}(r:Rd w ao b off n l)(h:Below B w w')(hb:0<n->b<B):Rd w' ao b off n l :=
 ⟨r.len,r.addr,fun j hj=>(LI (h.block b (hb (by omega)))).trans (r.cell j hj)⟩
def Inc(l:List Nat):Prop:=0<l.length ∧ ∀i,i+1<l.length->l.getD i 0<l.getD (i+1) 0
def incB(l:List Nat):Bool:=decide (0<l.length) && (List.range (l.length-1)).all (fun i=>decide (l.getD i 0<l.getD (i+1) 0))
theorem Uk(l:List Nat):incB l=true↔Inc l:=by
 unfold incB Inc;rw[Bool.and_eq_true,decide_eq_true_iff,List.all_eq_true]
 constructor
 ·rintro⟨h1,h2⟩;exact⟨h1,fun i hi=>by simpa using h2 i (List.mem_range.2 (by omega))⟩
 ·rintro⟨h1,h2⟩;exact⟨h1,fun i hi=>by have:=List.mem_range.1 hi;simpa using h2 i (by omega)⟩
def QQ:Nat->List Nat->Nat->Prop
 | x,[],n=>x<=n
 | x,i::S,n=>x<=i∧QQ (i+1) S n
theorem Yy:∀ {S:List Nat} {x n:Nat},QQ x S n->x<=n:=by
 intro S
 induction S with
 | nil=>intro x n h;exact h
 | cons i S ih=>intro x n h;have:=ih h.2;have:=h.1;omega
theorem QiX:∀(l:List Nat) (x n:Nat),(∀i,i+1<l.length->l.getD i 0<l.getD (i+1) 0)->(0<l.length->x<=l.getD 0 0)->(0<l.length->l.getD (l.length-1) 0<n)->x<=n->QQ x l n:=by
 intro l
 induction l with
 | nil=>intro x n _ _ _ h;exact h
 | cons a l ih=>
  intro x n h1 h2 h3 h4;refine⟨by simpa using h2 (by simp),ih (a+1) n (fun i hi=> ?_) (fun h=> ?_) (fun h=> ?_) ?_⟩
  ·have:=h1 (i+1) (by simp;omega)
   simpa using this
  ·have:=h1 0 (by simp;omega)
   simp at this ⊢;omega
  ·have:=h3 (by simp)
   rw[show(a::l).length-1=(l.length-1)+1 by simp;omega] at this
   simpa using this
  ·cases l with
   | nil=>have:=h3 (by simp);simp at this;omega
   | cons b l=>
    have h5:∀j,j<(b::l).length->a<(a::b::l).getD (j+1) 0:=fun j=>by
     induction j with
     | zero=>intro _;have:=h1 0 (by simp);simpa using this
     | succ j ihj=>intro hj;have g1:=ihj (by omega);have g2:=h1 (j+1) (by simp at *;omega);omega
    have h6:=h5 l.length (by simp)
    have h7:=h3 (by simp)
    simp only[List.length_cons,Nat.add_sub_cancel] at h7;omega
def QN(n:Nat)(l:List Nat):Nat:=if 2^40<n then 30 else if incB l=false then 40 else if n<=l.getD (l.length-1) 0 then 31 else 0
def rstS(n:Nat)(l:List Nat):List (Nat×Nat):=if QN n l=0 then rst 0 n l else []
theorem Yu{n:Nat}{l:List Nat}(h:QN n l=0):n<=2^40∧Inc l∧l.getD (l.length-1) 0<n∧QQ 0 l n:=by
 unfold QN at h
 split at h
 ·cases h
 ·rename_i h1
  split at h
  ·cases h
  ·rename_i h2
   split at h
   ·cases h
   ·rename_i h3
    have hi:Inc l:=(Uk l).1 (by cases hb:incB l with
     | true=>rfl
     | false=>exact absurd hb h2)
    exact⟨by omega,hi,by omega,QiX l 0 n hi.2 (fun _=>Ln _) (fun _=>by omega) (Ln _)⟩
theorem Qig(w:World)(ao:OA)(b off n cap:Nat)(l:List Nat)(r:Rd w ao b off n l)(hn:n<=maxLen) :
  Calls prog 320 #[.slice ao n cap] w fun e w'=>e= .returned (.bool (incB l))∧Below w.heap.size w w':=by
 have hn':(n:Int)<=9223372036854775807:=by unfold maxLen at hn;omega
 have HR:Hid (Rd w ao b off n l):=r;clear hn r
 go_enter func320,ntmps320;go_wp2
 go_loopg [3] n (fun g i wr=> ∃k:Nat,(k<=n∨k=1)∧1<=k∧g=n+1-k∧i= .int .i64 k∧(∀j,j+1<k->l.getD j 0<l.getD (j+1) 0)∧Below w.heap.size w wr)
 case atStart=>go_light;exact⟨1,.inr rfl,La _,by omega,rfl,fun j hj=>absurd hj (by omega),Lb _ _⟩
 case round=>
  obtain⟨k,hk,hk1,rfl,rfl,he,hb⟩:=hrel;have hk0:(0:Int)<=(k:Int):=Lh _
  by_cases hlt:k<n
  ·obtain⟨i,rfl⟩:∃i,k=i+1:=⟨k-1,by omega⟩
   have r1:=HR.out.below hb;obtain rfl:=r1.addr (by omega)
   have c1:=r1.cell (i+1) hlt;have c2:=r1.cell i (by omega)
   have hz:((i+1:Nat):Int)<(n:Int):=by omega
   have ei:(((i+1:Nat):Int)-1)=(i:Int):=by omega
   have ec:((i+1:Nat):Int)=(i:Int)+1:=by omega
   have hz2:(i:Int)+1<(n:Int):=by omega
   have hz3:(i:Int)<(n:Int):=by omega
   have hi0:(0:Int)<=(i:Int):=Lh _;have hi1:(0:Int)<=(i:Int)+1:=by omega
   have HB:Hid (Below w.heap.size w wr):=hb;have HE:Hid (∀j,j+1<i+1->l.getD j 0<l.getD (j+1) 0):=he;have HI:Hid (¬l.getD i 0<l.getD (i+1) 0->incB l=false):=fun hno=>by
    cases hB:incB l with
    | false=>rfl
    | true=>exact absurd (((Uk l).1 hB).2 i (by have:=HR.out.len;omega)) hno
   obtain⟨x,hx⟩:∃x,l.getD (i+1) 0=x:=⟨_,rfl⟩;obtain⟨y,hy⟩:∃y,l.getD i 0=y:=⟨_,rfl⟩;rw[hx] at c1;rw[hy] at c2;rw[hx,hy] at HI;have HX:Hid (l.getD (i+1) 0=x∧l.getD i 0=y):=⟨hx,hy⟩;have hlt2:i+1<n:=hlt;clear hx hy r1 hb he hk hlt
   by_cases hxy:x<=y
   ·have HN:Hid (incB l=false):=HI.out (by omega)
    go_wp2
    go_quiet (fail)
    go_wp2
    go_ret
    exact⟨by rw[HN.out];rfl,Qi HB.out _⟩
   ·go_wp2
    go_quiet (fail)
    go_wp2
    go_roundg (n+1-(i+1+1))
    case rel=>
     go_light;refine⟨i+1+1,by omega,by omega,rfl,by go_num,fun j hj=> ?_,Qi HB.out _⟩
     by_cases hjk:j=i
     ·subst hjk;rw[HX.out.1,HX.out.2];omega
     ·exact HE.out j (by omega)
    case measure=>go_light;omega
  ·have hz:¬(k:Int)<(n:Int):=by omega
   have hz':¬k<n:=by omega
   have HN:Hid (decide ((0:Int)<(n:Int))=incB l):=by
    have hl:=HR.out.len
    cases hB:incB l with
    | true=>have:=((Uk l).1 hB).1;exact LV (by omega)
    | false=>
     refine Lx (fun hp=> ?_)
     have:incB l=true:=(Uk l).2 ⟨by omega,fun i hi=>he i (by omega)⟩
     rw[this] at hB;cases hB
   have HB:Hid (Below w.heap.size w wr):=hb;clear he hb hk;go_wp2
   go_ret
   refine⟨?_,HB.out⟩
   have:=HN.out;simp at this ⊢;exact this
theorem QD(m:Nat)(w:World)(ao:OA)(b off n cap:Nat)(l:List Nat)(r:Rd w ao b off n l)(hn:n<=maxLen) :
  Calls prog 228 #[.int .u64 m,.slice ao n cap] w fun e w'=>e= .returned (.int .i64 (QN m l:Nat))∧Below w.heap.size w w':=by
 have HR:=Qig w ao b off n cap l r hn;have hn':(n:Int)<=9223372036854775807:=by unfold maxLen at hn;omega
 by_cases h1:2^40<m
 ·have ht:decide ((1099511627776:Int)<(m:Int))=true:=LV (by omega)
  have he:QN m l=30:=by rw[QN,Lm h1]
  rw[he];clear h1 he
  go_enter func228,ntmps228;go_wp2
  go_ret
  exact⟨rfl,Lb _ _⟩
 ·have ht:decide ((1099511627776:Int)<(m:Int))=false:=Lx (by omega)
  cases h2:incB l with
  | false=>
   have he:QN m l=40:=by rw[QN,Ld h1,Lm h2]
   rw[he];rw[h2] at HR;clear h1 he
   go_enter func228,ntmps228
   go_wp2_with (go_at_call 320;with_reducible refine HR.mono ?_;rintro e w1 ⟨rfl,hb⟩)
   go_ret
   exact⟨rfl,hb⟩
  | true=>
   have h3:=(Uk l).1 h2;have hl:=r.len;rw[h2] at HR;obtain⟨j,rfl⟩:∃j,n=j+1:=⟨n-1,by have:=h3.1;omega⟩
   obtain rfl:=r.addr (by omega)
   have hc:=r.cell j (by omega)
   have e1:(((j+1:Nat):Int)-1)=(j:Int):=by omega
   have e2:((j+1:Nat):Int)=(j:Int)+1:=by omega
   have hz1:(j:Int)<(j:Int)+1:=by omega
   have hj0:(0:Int)<=(j:Int):=Lh _;have hlast:l.getD (l.length-1) 0=l.getD j 0:=by rw[hl];rfl
   obtain⟨x,hx⟩:∃x,l.getD j 0=x:=⟨_,rfl⟩;rw[hx] at hc hlast;have hcell:∀w',Below w.heap.size w w'->w'.cell? ⟨b,off+j,none⟩=some (.int .u64 x):=fun w' hb=>(hb.cell (p:=⟨b,off+j,none⟩) (Lf w _ hc)).trans hc
   by_cases h4:m<=x
   ·have he:QN m l=31:=by rw[QN,Ld h1,Ld (by rw[h2];decide),Lm (by rw[hlast];exact h4)]
    rw[he];have h4':(m:Int)<=(x:Int):=by omega
    clear h1 he h2 h3 hl hx hlast r hn
    go_enter func228,ntmps228
    go_wp2_with (go_at_call 320;with_reducible refine HR.mono ?_;rintro e w1 ⟨rfl,hb⟩;have c1:=hcell w1 hb)
    go_ret
    exact⟨rfl,hb⟩
   ·have he:QN m l=0:=by rw[QN,Ld h1,Ld (by rw[h2];decide),Ld (by rw[hlast];exact h4)]
    rw[he];have h4':¬(m:Int)<=(x:Int):=by omega
    clear h1 he h2 h3 hl hx hlast r hn
    go_enter func228,ntmps228
    go_wp2_with (go_at_call 320;with_reducible refine HR.mono ?_;rintro e w1 ⟨rfl,hb⟩;have c1:=hcell w1 hb)
    go_ret
    exact⟨rfl,hb⟩
theorem Qjo(l:List Nat)(j:Nat)(h:j<l.length):l.drop j=l.getD j 0::l.drop (j+1):=by
 rw[L8 h,Lc,Ll h];rfl
theorem Oy{k B0 M:Nat}(hk:k=277∨k=230∨k=389){I:(Nat->Prop)->List (Nat×Nat)->World->Prop}(G:Give k B0 M I)(hM:M<=4611686018427387904)(X:Nat->Prop)(acc:List (Nat×Nat))(n:Nat)(w:World)
  (ao:OA) (b off m cap:Nat) (l:List Nat) (hI:I X acc w) (hX:∀x,X x->x<w.heap.size) (hl:acc.length+100*(m+1)+1000<M) (r:Rd w ao b off m l) (hb:0<m->b<B0) (hc:QQ 0 l n) (hn:n<=2^40) :
  Calls prog 229 #[.int .u64 n,.slice ao m cap,gv k B0] w fun e w'=>e= .returned (.tuple #[])∧I X (acc++rst 0 n l) w'∧Below B0 w w' ∧ ∀x,X x->w'.heap[x]? = w.heap[x]? := by
 have HS:Hid (I X acc w∧(∀x,X x->x<w.heap.size)∧acc.length+100*(m+1)+1000<M∧Rd w ao b off m l∧(0<m->b<B0)∧QQ 0 l n∧n<=2^40):=⟨hI,hX,hl,r,hb,hc,hn⟩;have HM:Hid (M<=4611686018427387904):=hM;clear hI hX hl r hb hc hn hM
 go_enter func229,ntmps229;go_wp2
 go_loopg [6,8,11] m (fun g nx i8 ix wr=> ∃(j next:Nat) (acc':List (Nat×Nat)),j<=m∧g=m-j∧ix= .int .i64 j∧nx= .int .u64 next∧I X acc' wr∧acc'++rst next n (l.drop j)=acc++rst 0 n l∧QQ next (l.drop j) n∧Below B0 w wr∧(∀x,X x->wr.heap[x]? = w.heap[x]?)∧acc'.length<=acc.length+80*j)
 case atStart=>go_light;exact⟨0,0,acc,Ln _,rfl,rfl,rfl,HS.out.1,rfl,HS.out.2.2.2.2.2.1,Lb _ _,fun _ _=>rfl,La _⟩
 case round=>
  obtain⟨j,next,acc',hj,rfl,rfl,rfl,hI',hacc,hch,hbl,hkp,hlen⟩:=hrel;obtain⟨s1,s2,s3,s4,s5,s6,s7⟩:=HS.out;have hM9:=HM.out;have hj0:(0:Int)<=(j:Int):=Lh _;have hm9:(j:Int)<=4611686018427387904:=by omega
  clear hM9
  by_cases hlt:j<m
  ·have hlt':(j:Int)<(m:Int):=by omega
   have r':=s4.at hbl s5;obtain rfl:=r'.addr (by omega)
   have cj:=r'.cell j hlt;have hd:=Qjo l j (by have:=s4.len;omega)
   obtain⟨x,hx⟩:∃x,l.getD j 0=x:=⟨_,rfl⟩;rw[hx] at cj hd;rw[hd] at hacc hch;obtain⟨hnx,hch2⟩:=hch;have hxn:=Yy hch2;have HE:=Qba hk G X acc' next x wr hI' (fun y hy=>Lv (s2 y hy) hbl.size) (by omega) hnx (by omega)
   have ex:IntKind.u64.wrap ((x:Int)+1)=(x:Int)+1:=by rw[IntKind.wrap_u64];omega
   have HX:Hid (acc'++cov next x++rst (x+1) n (l.drop (j+1))=acc++rst 0 n l∧QQ (x+1) (l.drop (j+1)) n∧Below B0 w wr∧(∀y,X y->wr.heap[y]? = w.heap[y]?)∧(acc'++cov next x).length<=acc.length+80*(j+1)∧j+1<=m):=by
    refine⟨by rw[LH];exact hacc,hch2,hbl,hkp,?_,hlt⟩
    have:=U7 next x hnx (by omega)
    simp;omega
   clear hacc hch2 hbl hkp hlen hlt r' hd hx hnx hxn s1 s2 s3 s4 s5 s6 s7 hI' hj
   go_wp2_with (go_at_call 276;with_reducible refine HE.mono ?_;rintro e w1 ⟨rfl,hI1,hb1,hk1⟩)
   go_roundg (m-(j+1))
   case rel=>go_light;obtain⟨x1,x2,x3,x4,x5,x6⟩:=HX.out;refine⟨j+1,x+1,_,x6,rfl,by go_num,by go_num,hI1,x1,x2,x3.trans hb1,fun y hy=>(hk1 y hy).trans (x4 y hy),x5⟩
   case measure=>go_light;have:=HX.out.2.2.2.2.2;omega
  ·obtain rfl:j=m:=by omega
   have hlt':¬(j:Int)<(j:Int):=by omega
   have hdn:l.drop j=[]:=List.drop_eq_nil_iff.2 (by have:=s4.len;omega)
   rw[hdn] at hacc hch;have HE:=Qba hk G X acc' next n wr hI' (fun y hy=>Lv (s2 y hy) hbl.size) (by omega) hch s7
   have HX:Hid (acc'++cov next n=acc++rst 0 n l∧Below B0 w wr∧(∀y,X y->wr.heap[y]? = w.heap[y]?)):=⟨hacc,hbl,hkp⟩;clear hacc hbl hkp hlen hlt hdn s1 s2 s3 s4 s5 s6 s7 hI' hj hch
   go_wp2_with (go_at_call 276;with_reducible refine HE.mono ?_;rintro e w1 ⟨rfl,hI1,hb1,hk1⟩)
   go_end0
   obtain⟨x1,x2,x3⟩:=HX.out;rw[x1] at hI1;exact⟨rfl,hI1,x2.trans hb1,fun y hy=>(hk1 y hy).trans (x3 y hy)⟩
theorem QeL(n e:Nat)(w:World)(ao:OA)(b off m cap:Nat)(l:List Nat)(r:Rd w ao b off m l)(hm:m<=maxLen)(he:QN n l=e)(h0:e≠0) :
  Calls prog 140 #[.int .u64 n,.slice ao m cap] w fun x w'=> ∃v,x= .returned (.tuple #[v,.int .i64 e])∧Yb w' w.heap.size v []∧Below w.heap.size w w':=by
 have HC:=QD n w ao b off m cap l r hm;rw[he] at HC;have h0':¬(e:Int)=0:=by omega
 clear he r hm
 go_enter func140,ntmps140
 go_wp2_with (go_at_call 228;with_reducible refine HC.mono ?_;rintro x w1 ⟨rfl,hb⟩)
 go_ret2
 exact⟨_,rfl,Np _ _ _ _,hb⟩
theorem Qnf(n:Nat)(w:World)(ao:OA)(b off m cap:Nat)(l:List Nat)(r:Rd w ao b off m l)(hm:m<=5000)(he:QN n l=0) :
  Calls prog 140 #[.int .u64 n,.slice ao m cap] w fun x w'=> ∃v,x= .returned (.tuple #[v,.int .i64 0])∧Yb w' w.heap.size v (zl (rst 0 n l))∧Below w.heap.size w w':=by
 have HC:=QD n w ao b off m cap l r (by unfold maxLen;omega)
 obtain⟨g1,g2,g3,g4⟩:=Yu he;rw[he] at HC;have HE:∀w1,Below w.heap.size w w1->_:=fun w1 hb1=>Oy (.inr (.inl rfl)) (QhD w1.heap.size) (by decide) (fun _=>False) [] n (w1.alloc (.cells #[.slice none 0 0] 187)) ao b off m cap l (QjJ w1) (fun _ h=>h.elim) (by simp;omega) ((r.below hb1).below ((Lb _ w1).alloc (La _) _)) (fun h=>Lv (r.lt h) hb1.size) g4 g1
 clear he r hm g1 g2 g3 g4
 go_enter func140,ntmps140
 go_upto_region 6 with (first
  | (go_at_call 228;with_reducible refine HC.mono ?_;rintro x w1 ⟨rfl,hb⟩;replace HE:=HE w1 hb)
  | (go_at_call 229;with_reducible refine HE.mono ?_;rintro x w2 ⟨rfl,hI,hb2,_⟩))
 obtain⟨⟨v,h1,h2,_⟩,_⟩:=hI;have c0:=cell_of_one h1;obtain⟨ao,m,c,rfl⟩:=Ql h2;have HF:Hid (Yb w2 w.heap.size (.slice ao m c) (zl (rst 0 n l))∧Below w.heap.size w w2):=⟨by
  have:=h2.mono (base':=w.heap.size) (by have:=hb.size;omega)
  simpa using this,hb.trans ((((Lb _ w1).alloc (La _) _).trans hb2).mono hb.size)⟩
 clear h1 h2 hb2 HE hb;go_wp2
 go_ret2
 exact⟨_,rfl,HF.out.1,HF.out.2⟩
theorem QkU(n:Nat)(w:World)(ao:OA)(b off m cap:Nat)(l:List Nat)(r:Rd w ao b off m l)(hm:m<=5000) :
  Calls prog 140 #[.int .u64 n,.slice ao m cap] w fun x w'=> ∃v,x= .returned (.tuple #[v,.int .i64 (QN n l:Nat)])∧Yb w' w.heap.size v (zl (rstS n l))∧Below w.heap.size w w':=by
 by_cases h:QN n l=0
 ·rw[rstS,Lm h,h];exact Qnf n w ao b off m cap l r hm h
 ·rw[rstS,Ld h];exact QeL n _ w ao b off m cap l r (by unfold maxLen;omega) rfl h
theorem QoC(w:World):IC w.heap.size (fun _=>False) [] (w.alloc (.cells #[.int .u64 0] 48)):=⟨OC _ _,fun h=>h⟩
theorem Qhr(n e:Nat)(w:World)(ao:OA)(b off m cap:Nat)(l:List Nat)(r:Rd w ao b off m l)(hm:m<=maxLen)(he:QN n l=e)(h0:e≠0) :
  Calls prog 323 #[.int .u64 n,.slice ao m cap] w fun x w'=>x= .returned (.tuple #[.int .u64 0,.int .i64 e])∧Below w.heap.size w w':=by
 have HC:=QD n w ao b off m cap l r hm;rw[he] at HC;have h0':¬(e:Int)=0:=by omega
 clear he r hm
 go_enter func323,ntmps323
 go_wp2_with (go_at_call 228;with_reducible refine HC.mono ?_;rintro x w1 ⟨rfl,hb⟩)
 go_ret2
 exact⟨rfl,hb⟩
theorem QdW(n:Nat)(w:World)(ao:OA)(b off m cap:Nat)(l:List Nat)(r:Rd w ao b off m l)(hm:m<=17592186044416)(he:QN n l=0) :
  Calls prog 323 #[.int .u64 n,.slice ao m cap] w fun x w'=>x= .returned (.tuple #[.int .u64 ((rst 0 n l).length:Nat),.int .i64 0])∧Below w.heap.size w w':=by
 have HC:=QD n w ao b off m cap l r (by unfold maxLen;omega)
 obtain⟨g1,g2,g3,g4⟩:=Yu he;rw[he] at HC;have HE:∀w1,Below w.heap.size w w1->_:=fun w1 hb1=>Oy (.inr (.inr rfl)) (Qfr w1.heap.size) (by decide) (fun _=>False) [] n (w1.alloc (.cells #[.int .u64 0] 48)) ao b off m cap l (QoC w1) (fun _ h=>h.elim) (by simp;omega) ((r.below hb1).below ((Lb _ w1).alloc (La _) _)) (fun h=>Lv (r.lt h) hb1.size) g4 g1
 clear he r hm g1 g2 g3 g4
 go_enter func323,ntmps323
 go_upto_region 6 with (first
  | (go_at_call 228;with_reducible refine HC.mono ?_;rintro x w1 ⟨rfl,hb⟩;replace HE:=HE w1 hb)
  | (go_at_call 229;with_reducible refine HE.mono ?_;rintro x w2 ⟨rfl,hI,hb2,_⟩))
 have h1:=hI.at0;rw[Ny] at h1;have c0:=cell_of_one h1;have HF:Hid (Below w.heap.size w w2):=hb.trans ((((Lb _ w1).alloc (La _) _).trans hb2).mono hb.size);clear h1 hI hb2 HE hb;go_wp2
 go_ret2
 exact⟨rfl,HF.out⟩
theorem Yi(n:Nat)(w:World)(ao:OA)(b off m cap:Nat)(l:List Nat)(r:Rd w ao b off m l)(hm:m<=17592186044416) :
  Calls prog 323 #[.int .u64 n,.slice ao m cap] w fun x w'=>x= .returned (.tuple #[.int .u64 ((rstS n l).length:Nat),.int .i64 (QN n l:Nat)])∧Below w.heap.size w w':=by
 by_cases h:QN n l=0
 ·rw[rstS,Lm h,h];exact QdW n w ao b off m cap l r hm h
 ·rw[rstS,Ld h];exact Qhr n _ w ao b off m cap l r (by unfold maxLen;omega) rfl h
def Row(q:Nat):Nat->List (Nat×Nat)->Prop
 | p,[]=>p=q
 | p,b::L=>p=b.2*pw b.1∧b.1<=40∧b.2<pw (40-b.1)∧Row q ((b.2+1)*pw b.1) L
theorem QgX{q m:Nat}{M:List (Nat×Nat)}(h':Row q m M):∀ {L:List (Nat×Nat)} {p:Nat},Row m p L->Row q p (L++M):=by
 intro L
 induction L with
 | nil=>intro p h;obtain rfl:p=m:=h;exact h'
 | cons b L ih=>intro p h;exact⟨h.1,h.2.1,h.2.2.1,ih h.2.2.2⟩
theorem QlM{h k:Nat}(hb:(k+1)*pw h<=2^40):h<=40∧k<pw (40-h):=by
 have h1:pw h<=(k+1)*pw h:=Ir _ (by omega)
 have hh:h<=40:=pw40 (by omega)
 refine⟨hh,?_⟩
 have e:(2:Nat)^40=pw (40-h)*pw h:=by rw[<-Od,show 40-h+h=40 by omega];rfl
 rw[e] at hb;exact Lv (IH k) (Nat.le_of_mul_le_mul_right hb (Qw h))
theorem QnA{lo hi:Nat}(hhi:hi<=2^40):∀ {L:List (Nat×Nat)} {p:Nat},lo<=p->Til (Rg lo hi) hi p L->Row hi p L:=by
 intro L
 induction L with
 | nil=>
  intro p h1 h2
  show p=hi
  have:=h2.1
  by_cases he:p=hi
  ·exact he
  ·exact absurd ⟨h1,by omega⟩ (h2.2 p (La _) (by omega))
 | cons b L ih=>
  intro p h1 h2;obtain⟨a1,a2,a3,a4,a5,a6⟩:=h2;have hlt:=YE b.1 b.2;have hm:=QlM (Lu a2 hhi);refine⟨?_,hm.1,hm.2,ih (by omega) a6⟩
  by_cases he:p=b.2*pw b.1
  ·exact he
  ·exact absurd ⟨h1,by omega⟩ (a3 p (La _) (by omega))
theorem Ou(lo hi:Nat)(h:lo<=hi)(hhi:hi<=2^40):Row hi lo (cov lo hi):=QnA hhi (La _) (QaK lo hi h hhi)
theorem Qny{A:Nat->Prop}{q:Nat} : ∀ {L:List (Nat×Nat)} {p:Nat},Til A q p L -> ∀b∈L,¬All A (b.1+1) (b.2/2)∧(b.2+1)*pw b.1<=q:=by
 intro L
 induction L with
 | nil=>intro p _ b hb;cases hb
 | cons c L ih=>
  intro p h b hb
  rcases List.mem_cons.1 hb with rfl|hb
  ·exact⟨h.2.2.2.2.1,h.2.1⟩
  ·exact ih h.2.2.2.2.2 b hb
theorem QcE{α:Type}(d:α)(l:List α)(j:Nat)(h:j<l.length):l.drop j=l.getD j d::l.drop (j+1):=by
 rw[L8 h,Lc,Ll h];rfl
theorem QdJ(L:List (Nat×Nat))(j:Nat):(zl L).getD j (0,0)=(((L.getD j (0,0)).1:Int),(L.getD j (0,0)).2):=by
 by_cases h:j<L.length
 ·simp[zl,List.getD_eq_getElem?_getD,List.getElem?_eq_getElem h]
 ·simp[zl,List.getD_eq_getElem?_getD,List.getElem?_eq_none (Nat.le_of_not_lt h)]
end Cv
namespace Cv
open Pl
def inb(H K i:Nat):Bool:=decide (K*pw H<=i) && decide (i<(K+1)*pw H)
def tno:Nat->Nat->List Nat->List (Nat×Nat)
 | 0,K,S=>if (S.filter (inb 0 K)).length=0 then [(0,K)] else []
 | H+1,K,S=>if (S.filter (inb (H+1) K)).length=0 then [(H+1,K)] else tno H (2*K) (S.filter (inb (H+1) K))++tno H (2*K+1) (S.filter (inb (H+1) K))
theorem QB{H K i:Nat} : inb H K i=true↔K*pw H<=i∧i<(K+1)*pw H:=by simp[inb]
theorem U8(H K:Nat):(2*K)*pw H=K*pw (H+1):=(QG K H).symm
theorem Qbl(H K:Nat):(2*K+1)*pw H=K*pw (H+1)+pw H:=by rw[LT,Na,U8]
theorem Ux(H K:Nat):(2*K+1+1)*pw H=(K+1)*pw (H+1):=by rw[show 2*K+1+1=2*(K+1) by omega,U8]
theorem Qgl(H K:Nat):(K+1)*pw (H+1)=K*pw (H+1)+pw H+pw H:=by rw[LT,Na,QF];omega
theorem Qg1{A:Nat->Prop}{H K:Nat}(ha:All A H K)(hp:¬All A (H+1) (K/2)):Til A ((K+1)*pw H) (K*pw H) [(H,K)] :=
 ⟨La _,La _,fun i h1 h2=>by dsimp only at h2;omega,ha,hp,La _,fun i h1 h2=>by dsimp only at h1;omega⟩
theorem QnB(A:Nat->Prop):∀H K (S:List Nat),(∀i,K*pw H<=i->i<(K+1)*pw H->(A i↔i ∉ S)) -> ¬All A (H+1) (K/2)->Til A ((K+1)*pw H) (K*pw H) (tno H K S):=by
 intro H
 induction H with
 | zero=>
  intro K S hA hp;rw[tno];have e0:pw 0=1:=rfl
  split
  ·rename_i h
   refine Qg1 (fun i h1 h2=>(hA i h1 h2).2 (fun hi=> ?_)) hp
   have hm:i∈S.filter (inb 0 K):=List.mem_filter.2 ⟨hi,QB.2 ⟨h1,h2⟩⟩;rw[List.length_eq_zero_iff.1 h] at hm
   cases hm
  ·rename_i h
   refine⟨by rw[e0];omega,fun i h1 h2 hr=>h ?_⟩
   cases hm:S.filter (inb 0 K) with
   | nil=>rfl
   | cons s M=>
    have hs:s∈S.filter (inb 0 K):=by rw[hm];exact NC
    obtain⟨g1,g2⟩:=List.mem_filter.1 hs;obtain⟨g3,g4⟩:=QB.1 g2;rw[e0] at *;obtain rfl:i=s:=by omega
    exact absurd g1 ((hA i h1 h2).1 hr)
 | succ H ih=>
  intro K S hA hp;rw[tno];have hb:=Qgl H K;have hpp:=Qw H
  split
  ·rename_i h
   refine Qg1 (fun i h1 h2=>(hA i h1 h2).2 (fun hi=> ?_)) hp
   have hm:i∈S.filter (inb (H+1) K):=List.mem_filter.2 ⟨hi,QB.2 ⟨h1,h2⟩⟩;rw[List.length_eq_zero_iff.1 h] at hm
   cases hm
  ·rename_i h
   have hno:¬All A (H+1) K:=fun hall=>h (by
    cases hm:S.filter (inb (H+1) K) with
    | nil=>rfl
    | cons s M=>
     have hs:s∈S.filter (inb (H+1) K):=by rw[hm];exact NC
     obtain⟨g1,g2⟩:=List.mem_filter.1 hs;obtain⟨g3,g4⟩:=QB.1 g2;exact absurd g1 ((hA s g3 g4).1 (hall s g3 g4)))
   have hM:∀i,K*pw (H+1)<=i->i<(K+1)*pw (H+1)->(A i↔i ∉ S.filter (inb (H+1) K)):=fun i h1 h2=>by
    rw[hA i h1 h2,List.mem_filter,QB];exact⟨fun h g=>h g.1,fun h g=>h ⟨g,h1,h2⟩⟩
   have e1:=U8 H K;have e2:=Qbl H K;have e3:=Ux H K;have t1:=ih (2*K) (S.filter (inb (H+1) K)) (fun i h1 h2=>hM i (by omega) (by omega)) (by rw[show 2*K/2=K by omega];exact hno)
   have t2:=ih (2*K+1) (S.filter (inb (H+1) K)) (fun i h1 h2=>hM i (by omega) (by omega)) (by rw[show(2*K+1)/2=K by omega];exact hno)
   rw[Ux] at t2;rw[U8] at t1;exact QdA t2 t1
theorem QoK{A:Nat->Prop}{n:Nat}(t:Nat->Nat->List (Nat×Nat))(ht:∀h k,(k+1)*pw h<=n -> ¬All A (h+1) (k/2)->Til A ((k+1)*pw h) (k*pw h) (t h k))(hn:¬A n) :
  ∀h x,(∃c,x=c*pw h)->n-x<pw h->x<=n->Til A n x ((dnL h x n).flatMap (fun b=>t b.1 b.2)):=by
 intro h
 induction h with
 | zero=>
  intro x _ h2 h3;rw[UB] at h2;exact⟨h3,fun i h5 h6=>by omega⟩
 | succ h ih=>
  intro x h1 h2 h3;obtain⟨c,hc⟩:=h1;have hp:=Qw h;have hps:=QF h;rw[QG] at hc;rw[dnL]
  split
  ·rename_i hfit
   have hk:x/pw h=2*c:=by rw[hc];exact NJ _ hp
   have e1:(2*c+1)*pw h=x+pw h:=by rw[LT,Na,<-hc]
   have e2:2*c/2=c:=by omega
   have e3:c*pw (h+1)=x:=by rw[QG];exact hc.symm
   rw[hk,Ie];have t1:=ht h (2*c) (by omega) (by rw[e2];exact fun hall=>hn (hall n (by omega) (by rw[LT,Na,e3];omega)))
   have t2:=ih (x+pw h) ⟨2*c+1,e1.symm⟩ (by omega) (by omega)
   rw[<-e1] at t2;rw[<-hc] at t1;rw[<-e1];exact QdA t2 t1
  ·exact ih x ⟨2*c,hc⟩ (by omega) h3
theorem mt_all {A:Nat->Prop} {n:Nat} (t:Nat->Nat->List (Nat×Nat)) (ht:∀h k,(k+1)*pw h<=n -> ¬All A (h+1) (k/2)->Til A ((k+1)*pw h) (k*pw h) (t h k)) (hn:¬A n) (h40:n<=2^40) :
    Til A n 0 ((dnL 41 0 n).flatMap (fun b=>t b.1 b.2)) :=
  QoK t ht hn 41 0 ⟨0, by simp⟩ (by have:pw 41=2 ^ 41:=rfl
                                    omega) (Ln _)
theorem QmZ(h k:Nat):k/2*pw (h+1)<=k*pw h∧(k+1)*pw h<=(k/2+1)*pw (h+1):=by
 rw[QG,QG];exact⟨LM _ (by omega),LM _ (by omega)⟩
theorem Qg3{A:Nat->Prop}{lo hi:Nat}(hA:∀j,lo<=j->j<hi->A j)(hl:lo=0 ∨ ¬A (lo-1))(hh:¬A hi):∀ {L:List (Nat×Nat)} {p:Nat},lo<=p->Til (Rg lo hi) hi p L->Til A hi p L:=by
 intro L
 induction L with
 | nil=>intro p h1 h2;exact⟨h2.1,fun i i1 i2=>absurd ⟨by omega,i2⟩ (h2.2 i i1 i2)⟩
 | cons b L ih=>
  intro p h1 h2;obtain⟨a1,a2,a3,a4,a5,a6⟩:=h2;have hlt:=YE b.1 b.2;refine⟨a1,a2,fun i i1 i2=>absurd ⟨by omega,by omega⟩ (a3 i i1 i2),fun i i1 i2=>hA i (by omega) (by omega),fun hall=>a5 (fun i i1 i2=> ?_),ih (by omega) a6⟩
  obtain⟨p1,p2⟩:=QmZ b.1 b.2;refine⟨?_,?_⟩
  ·by_cases hlo:lo<=i
   ·exact hlo
   ·rcases hl with hl|hl
    ·omega
    ·exact absurd (hall (lo-1) (by omega) (by omega)) hl
  ·by_cases hhi:i<hi
   ·exact hhi
   ·exact absurd (hall hi (by omega) (by omega)) hh
theorem UL:∀ {S:List Nat} {x n:Nat},QQ x S n -> ∀s∈S,x<=s∧s<n:=by
 intro S
 induction S with
 | nil=>intro x n _ s hs;cases hs
 | cons i S ih=>
  intro x n h s hs;have h1:=h.1;have h2:=Yy h.2
  rcases List.mem_cons.1 hs with rfl|hs
  ·exact⟨h1,by omega⟩
  ·have:=ih h.2 s hs;omega
theorem Qnh{A:Nat->Prop}{n:Nat}(hn:n<=2^40):∀(S:List Nat) (x:Nat),(∀i,x<=i->(A i↔i<n∧i ∉ S))->(x=0 ∨ ¬A (x-1))->QQ x S n->Til A n x (rst x n S):=by
  intro S
  induction S with
  | nil=>
    intro x hA hx hc;have hc':x<=n:=hc;exact Qg3 (fun j j1 j2=>(hA j j1).2 ⟨j2,by simp⟩) hx (fun h=>by have:=((hA n hc').1 h).1;omega) (La _) (QaK x n hc' hn)
  | cons i S ih=>
    intro x hA hx hc;obtain⟨c1,c2⟩:=hc;have hin:=Yy c2;have hni:¬A i:=fun h=>((hA i c1).1 h).2 NC
    have t1:Til A i x (cov x i):=Qg3 (fun j j1 j2=>(hA j j1).2 ⟨by omega,fun hj=>by
      rcases List.mem_cons.1 hj with rfl|hj
      · omega
      · have:=UL c2 j hj;omega⟩) hx hni (La _) (QaK x i c1 (by omega))
    have t2:Til A n (i+1) (rst (i+1) n S):=ih (i+1) (fun j j1=>by
      rw[hA j (by omega)]
      refine⟨fun h=>⟨h.1,fun hj=>h.2 (Ng _ hj)⟩,fun h=>⟨h.1,fun hj=> ?_⟩⟩
      rcases List.mem_cons.1 hj with rfl|hj
      · omega
      · exact h.2 hj) (.inr (by rw[Nx];exact hni)) c2
    exact QdA (Qg2 t2 (Wj i) (fun j j1 j2=>by obtain rfl:j=i:=by omega
                                              exact hni)) t1
abbrev But(n:Nat)(S:List Nat):Nat->Prop:=fun i=>i<n∧i ∉ S
theorem Qdr(n:Nat)(S:List Nat)(hn:n<=2^40)(hc:QQ 0 S n):Til (But n S) n 0 (rst 0 n S):=Qnh hn S 0 (fun _ _=>Iff.rfl) (.inl rfl) hc
theorem OV(n:Nat)(S:List Nat)(hn:n<=2^40)(hc:QQ 0 S n):rst 0 n S=(dnL 41 0 n).flatMap (fun b=>tno b.1 b.2 S) :=
 Qnz (Qdr n S hn hc) (mt_all (fun h k=>tno h k S) (fun h k hk hp=>QnB _ h k S (fun i _ i2=>⟨fun h=>h.2,fun h=>⟨by omega,h⟩⟩) hp) (fun h=>by have:=h.1;omega) hn)
theorem Qng(n:Nat)(hn:n<=2^40):∀(S:List Nat) (x:Nat),QQ x S n->(rst x n S).length<=80*(S.length+1):=by
 intro S
 induction S with
 | nil=>intro x hc;exact U7 x n hc hn
 | cons i S ih=>
  intro x hc;have h1:=U7 x i hc.1 (by have:=Yy hc.2;omega)
  have h2:=ih (i+1) hc.2;simp only[rst,List.length_append,List.length_cons];omega
end Cv
end Go.Proofs.YtoblgjledefdbaaGreatDoor
