/- Own work. -/
import Derived.Test.YtoblgjledefdbaaGreatDoorQc23
set_option maxRecDepth 100000
set_option maxHeartbeats 8000000
namespace Go.Proofs.YtoblgjledefdbaaGreatDoor
open Go.RowKit
attribute [local go_sem ↓] Go.wp_at_zero Go.wp_at_succ
open Go.Proofs.Tryz
section
open Cv (RdC zl cU tno)
open Pl (pw)
theorem Qan{w:World}{B T s n:Nat}{y:Value}{cs:List Value}(h:w.ownsRow B T s y n cs){g:Nat}(hg:y.ownBlock=some g):B<=g ∧ ∃cur,w.heap[g]? = some (.cells cur T (0,0)):=by
 obtain⟨_,h2⟩:=h
 rcases h2 with ⟨rfl,_⟩|⟨g',cap,cur,rfl,hb,hh,_⟩
 ·cases hg
 ·cases hg;exact⟨hb,cur,hh⟩
theorem QfP{w:World}{ao:OA}{b off len cap:Nat}{l:LB}(h:RdS w ao b off len l)(hn:ao=none->cap=0):RdC w (.slice ao len cap) len (l.map Value.string):=by
 refine⟨ao,cap,rfl,fun e=>⟨?_,hn e⟩,fun ad ha j c hj=> ?_⟩
 ·rcases Wg len with h0|h0
  ·exact h0
  ·have:=h.ptr h0;rw[e] at this;cases this
 ·have hj':j<len:=by have:=(List.getElem?_eq_some_iff.1 hj).1;rw[LC,h.hl] at this;exact this
  have:=h.ptr (by omega)
  rw[ha] at this
  cases this;rw[Addr.add_mid];exact h.rng j c hj
theorem Qaw(w:World){ops:Array Oper}{rest:List Oper}{o:Oper}{a:Act}{Q:Exit->Act->World->Prop}
  (hg:o.guard=none) (s x:Operand) (hop:o.op=Op.call { callee:=Callee.builtin Builtin.append,args:=#[s,x],argTypes:=#[22,22] })
  (B:Nat) (v:Value) (L:LB) (hs:a.eval s=v) (hown:Qg w B v L) (ao:OA) (b off len cap:Nat) (M:LB) (hx:a.eval x= .slice ao len cap) (hr:RdS w ao b off len M) (hn:ao=none->cap=0)
  (hlen:L.length+M.length<=1048576) (hB:B<=w.heap.size)
  (hK:∀v' w',Qg w' B v' (L++M)->w.grownBy w' v.ownBlock->(v'.ownBlock=v.ownBlock ∨ ∀g,v'.ownBlock=some g->w.heap.size<=g)->wpList prog ops Q rest (a.put o.dst v') w'):wpList prog ops Q (o::rest) a w:=by
 obtain⟨i0,hi,hz0,hz1,hz2⟩:=info_parts Tryz.infoS;have hl:=hr.hl;refine Cv.Ya w hg s x _ hop B 9 i0 (.string ByteArray.empty) 1 16 underlying22 hi hz0 hz1 hz2 rfl (by decide) v L.length (L.map Value.string) hs hown (.slice ao len cap) len (M.map Value.string) hx (QfP hr hn) (by rw[LC,hl,Nj]) (by intro u hu;obtain⟨y,_,rfl⟩:=List.mem_map.1 hu;rfl) (by unfold maxLen;omega) (by omega) hB ?_
 intro v' w' h;refine hK v' w' ?_ h.grown h.fresh
 rw[Qg,Le,LL,hl];exact h.own
theorem Qao{w:World}{B T s n q:Nat}{y:Value}{xs:List Value}{cs:Array Value}{T':Nat}{fr:Nat×Nat}(h:w.ownsRow B T s y n xs)(hq:w.heap[q]? = some (.cells cs T' fr))(hT:T≠T'):∀g,y.ownBlock=some g->g≠q:=fun g hg e=>by
 subst e;obtain⟨_,cur,hc⟩:=Qan h hg;rw[hq] at hc;injection hc with hc
 injection hc with _ h2 _
 exact hT h2.symm
structure Lw(w2 wr:World)(p q:Nat)(K:Int)(vs:Value)(S:List Nat)(X D P:LB):Prop where
 ow:Qg wr w2.heap.size vs P
 gc:∃a n c a' n' c',Gc wr p (.slice a n c) (.slice a' n' c')∧Gv wr w2.heap.size (.agg #[.slice a n c,.slice a' n' c']) S X
 rw:Rw wr w2.heap.size q K D
 hp:w2.heap.size<=p
 hq:w2.heap.size<=q
 below:Below w2.heap.size w2 wr
section
variable {w2 wr W:World} {p q:Nat} {K:Int} {vs:Value} {S:List Nat} {X D P:LB}
theorem Lw.next(h:Lw w2 wr p q K vs S X D P)(hb:Below wr.heap.size wr W):Lw w2 W p q K vs S X D P:=by
 obtain⟨a,n,c,a',n',c',g1,g2⟩:=h.gc;exact⟨Qx h.ow hb (La _),⟨a,n,c,a',n',c',g1.next hb,g2.next hb⟩,h.rw.next hb,h.hp,h.hq,Qa h.below hb⟩
theorem Rw.ty{RB:Nat}(h:Rw wr RB q K D):∃cs,wr.heap[q]? = some (.cells cs 301 (0,0)):=by
 obtain⟨_,_,_,_,h1,_⟩:=h.ex;exact⟨_,h1⟩
theorem Rw.low{RB:Nat}(h:Rw wr RB q K D)(hq:W.heap[q]? = wr.heap[q]?)(hb:Below RB wr W):Rw W RB q K D:=by
 obtain⟨da,db,dO,dc,h1,h2,h3,h4,h5⟩:=h.ex;refine⟨da,db,dO,dc,hq.trans h1,?_,h3,h4,h5⟩
 by_cases h0:0<D.length
 ·exact h2.same (hb.block db (h5 h0))
 ·exact⟨h2.hl,h2.ptr,fun j v hv=>absurd (List.getElem?_eq_some_iff.1 hv).1 (by rw[LC];omega),h2.sz⟩
theorem QjB{RB:Nat}{a b:Value}(h:Rw wr RB q K D)(g:Gc wr p a b):p≠q:=fun e=>by
 subst e;obtain⟨cs,h1⟩:=h.ty;rw[g] at h1
 cases h1
theorem Lw.node{D':LB}(h:Lw w2 wr p q K vs S X D P)(hx:Bx q wr W)(hr:Rw W w2.heap.size q K D'):Lw w2 W p q K vs S X D' P:=by
 obtain⟨a,n,c,a',n',c',g1,g2⟩:=h.gc;obtain⟨cs,h1⟩:=h.rw.ty;refine⟨Qj h.ow fun g hg _=>hx.block g (LY h.ow g hg).2 (Qao h.ow h1 (by decide) g hg),⟨a,n,c,a',n',c',(hx.block p g1.lt (QjB h.rw g1)).trans g1,g2.bx h.rw hx⟩,hr,h.hp,h.hq,h.below.trans (hx.below h.hq h.below.size)⟩
theorem Lw.app{vs':Value}{P':LB}(h:Lw w2 wr p q K vs S X D P)(ho:Qg W w2.heap.size vs' P')(hg:wr.grownBy W vs.ownBlock):Lw w2 W p q K vs' S X D P'∧(∀p2 a b,Gc wr p2 a b->Gc W p2 a b)∧Below w2.heap.size wr W:=by
 obtain⟨a,n,c,a',n',c',g1,g2⟩:=h.gc;obtain⟨cs,h1⟩:=h.rw.ty;have hlo:∀g,vs.ownBlock=some g->w2.heap.size<=g:=fun g hg=>(LY h.ow g hg).1
 have hb:Below w2.heap.size wr W:=(Lb _ _).grown hg h.below.size hlo;have gcs:∀p2 a b,Gc wr p2 a b->Gc W p2 a b:=fun p2 a b g=>(hg.block p2 g.lt (fun e=>Qao h.ow g (by decide) p2 e.symm rfl)).trans g
 have hq2:W.heap[q]? = wr.heap[q]? := hg.block q h.rw.lt (fun e=>Qao h.ow h1 (by decide) q e.symm rfl)
 exact⟨⟨ho,⟨a,n,c,a',n',c',gcs _ _ _ g1,g2.low hb⟩,h.rw.low hq2 hb,h.hp,h.hq,h.below.trans hb⟩,gcs,hb⟩
theorem Lw.cut{S':List Nat}{X':LB}{a a':OA}{n c n' c':Nat}(h:Lw w2 wr p q K vs S X D P)(g:Gv wr w2.heap.size (.agg #[.slice a n c,.slice a' n' c']) S' X'):Lw w2 (put2 wr p (.slice a n c) (.slice a' n' c')) p q K vs S' X' D P:=by
 obtain⟨_,_,_,_,_,_,g1,_⟩:=h.gc;have hc:=QaU wr p (.slice a n c) (.slice a' n' c');have hb:Below w2.heap.size wr (put2 wr p (.slice a n c) (.slice a' n' c')):=hc.below (by rintro b rfl;exact h.hp)
 exact⟨Qj h.ow fun g hg _=>hc.block g (Qao h.ow g1 (by decide) g hg),⟨_,_,_,_,_,_,g1.put _ _,g.low hb⟩,h.rw.low (hc.block q (Ne.symm (QjB h.rw g1))) hb,h.hp,h.hq,h.below.trans hb⟩
end
theorem Qj8{w3 w4:World}{k:Int}{vs:Value}{sa da xa:OA}{sb so sc db dO dc xb xo xc:Nat}{S:List Nat}{X D:LB}(hb:Below w3.heap.size w3 w4)(ho:Qg w4 w3.heap.size vs [])(r1:RdU w3 sa sb so X.length S)(r2:RdS w3 xa xb xo X.length X)(r3:RdS w3 da db dO D.length D)(hc:X.length<=sc∧(sa=none->sc=0)∧D.length<=dc∧(da=none->dc=0)∧X.length<=xc∧(xa=none->xc=0)∧(∀s∈X,s.size<=1048576)∧S.length=X.length) :
  Lw w3 ((w4.alloc (.cells #[.slice sa X.length sc,.slice xa X.length xc] 299)).alloc (.cells #[.int .i64 k,.slice da D.length dc] 301)).drew w4.heap.size (w4.heap.size+1) k vs S X D []∧Lw w3 ((w4.alloc (.cells #[.int .i64 k,.slice da D.length dc] 301)).alloc (.cells #[.slice sa X.length sc,.slice xa X.length xc] 299)).drew (w4.heap.size+1) w4.heap.size k vs S X D []:=by
 obtain⟨a1,a2,a3,a4,a5,a6,_,a8⟩:=hc;have hz:=hb.size;have key:∀W,Below w4.heap.size w4 W->(Qg W w3.heap.size vs []∧Gv W w3.heap.size (.agg #[.slice sa X.length sc,.slice xa X.length xc]) S X∧RdS W da db dO D.length D∧Below w3.heap.size w3 W):=fun W hW=>by
  have hbW:=Qa hb hW;refine⟨Qx ho hW (La _),⟨sa,sb,so,sc,xa,xb,xo,xc,by rw[a8],by rw[a8];exact r1.next hbW,r2.next hbW (La _),by omega,a5,a2,a6,fun h=> ?_,fun h=> ?_⟩,r3.next hbW (La _),hbW⟩
  ·exact r1.lt (by omega)
  ·exact r2.lt h
 constructor
 ·obtain⟨e1,e2⟩:=QX w4 (.cells #[.slice sa X.length sc,.slice xa X.length xc] 299) (.cells #[.int .i64 k,.slice da D.length dc] 301);obtain⟨k1,k2,k3,k4⟩:=key _ (bal (bal (Lb w4.heap.size w4) (.cells #[.slice sa X.length sc,.slice xa X.length xc] 299)) (.cells #[.int .i64 k,.slice da D.length dc] 301)).drew;exact⟨k1,⟨_,_,_,_,_,_,e1,k2⟩,⟨da,db,dO,dc,e2,k3,a3,a4,fun h=>r3.lt h⟩,hz,by omega,k4⟩
 ·obtain⟨e1,e2⟩:=QX w4 (.cells #[.int .i64 k,.slice da D.length dc] 301) (.cells #[.slice sa X.length sc,.slice xa X.length xc] 299);obtain⟨k1,k2,k3,k4⟩:=key _ (bal (bal (Lb w4.heap.size w4) (.cells #[.int .i64 k,.slice da D.length dc] 301)) (.cells #[.slice sa X.length sc,.slice xa X.length xc] 299)).drew;exact⟨k1,⟨_,_,_,_,_,_,e2,k2⟩,⟨da,db,dO,dc,e1,k3,a3,a4,fun h=>r3.lt h⟩,by omega,hz,k4⟩
structure PF(c n:Nat)(M:List (Nat×Nat))(S:List Nat)(X D R:LB):Prop where
 pb:pB c M S X D=R
 row:∃p,Cv.Row n p M∧Fr p n S
 asc:Asc S
 len:X.length=S.length
 dig:(fB M S).length<=D.length
 hX:∀s∈X,s.size<=1048576
 hD:∀s∈D,s.size=c
 hm:S.length<=1048576
theorem PF.step{c n:Nat}{m:Nat×Nat}{M:List (Nat×Nat)}{S:List Nat}{X D R:LB}(h:PF c n (m::M) S X D R){t:Nat}(ht:bl S ((m.2+1)*pw m.1)=t) :
  t<=S.length∧In m.1 m.2 (S.take t)∧(tno m.1 m.2 (S.take t)).length<=D.length ∧ ∃R',R=vB c m.1 m.2 (S.take t) (X.take t) D::R'∧PF c n M (S.drop t) (X.drop t) (D.drop (tno m.1 m.2 (S.take t)).length) R':=by
 obtain⟨p,hr,hf⟩:=h.row;have hd:=h.dig;have hpb:=h.pb;rw[fB,ht,Le] at hd;rw[pB,ht] at hpb;have l1:=Qjx h.asc hf hr.1;have l2:Fr ((m.2+1)*pw m.1) n (S.drop (bl S ((m.2+1)*pw m.1))):=QcK h.asc hf;rw[ht] at l1 l2;have hl:=h.len;have hm:=h.hm;refine⟨by rw[<-ht];exact Qgk _ _,l1,by omega,_,hpb.symm,⟨rfl,⟨_,hr.2.2.2,l2⟩,Jp h.asc _,by rw[LS,LS,hl],by rw[LS];omega,fun s hs=>h.hX s ((NT _ _).subset hs),fun s hs=>h.hD s ((NT _ _).subset hs),by rw[LS];omega⟩⟩
theorem QkH{k:Int}{size:Nat}{S:List Nat}{X D:LB}(hl:S.length=X.length)(hns:X.length<=1048576)(hok:okB 2 k 0 size S D)(hsz:∀s∈X,s.size<=1048576):size<=2^40∧PF (clk k) size (Cv.dnL 41 0 size) S X D (pB (clk k) (Cv.dnL 41 0 size) S X D):=by
 obtain⟨⟨_,hk,_⟩,he,hf⟩:=hok;obtain⟨h40,_,_,hc⟩:=Cv.Yu he;have hrow:Cv.Row size 0 (Cv.dnL 41 0 size):=by rw[<-Cv.Q0 size h40];exact Cv.Ou 0 size (Ln _) h40
 have ha:=Qae hc;have hfr:Fr 0 size S:=fun i hi=>Cv.UL hc i hi
 have hck:(clk k:Int)=k:=YP hk.1 hk.2;refine⟨h40,rfl,⟨0,hrow,hfr⟩,ha,hl.symm,?_,hsz,fun s hs=>by have:=hf.2 s hs;omega,by omega⟩
 rw[QcG hrow ha hfr,<-Cv.OV size S h40 hc,hf.1,Cv.rstS,Lm he];exact La _
theorem broot_ok (w:World) (ht:Tb w) (k:Int) (size:Nat) (sa:OA) (sb so sc:Nat) (S:List Nat) (X:LB) (hs:RdU w sa sb so X.length S) (hns:X.length<=1048576) (hsc:X.length<=sc) (hsn:sa=none->sc=0) (da:OA) (db dO dc:Nat) (D:LB) (hr:RdS w da db dO D.length D) (hm:D.length<=8796093022208) (hdc:D.length<=dc) (hdn:da=none->dc=0) (xa:OA) (xb xo xc:Nat) (hx:RdS w xa xb xo X.length X) (hxc:X.length<=xc) (hxn:xa=none->xc=0) (hok:okB 2 k 0 size S D) (hsz:∀s∈X,s.size<=1048576) (r:BA) (hq:dg (clk k) (YA size (QU (clk k) (pB (clk k) (Cv.dnL 41 0 size) S X D)))=r) :
    Calls prog 150 #[vP 2 k 0 size (.slice sa X.length sc) (.slice da D.length dc),.slice xa X.length xc] w fun e w'=>e= .returned (.tuple #[.agg #[.int .u64 size,.string r],.int .i64 0])∧Below w.heap.size w w':=by
  obtain⟨h40,hpf⟩:=QkH hs.hl hns hok hsz;obtain⟨M,hM⟩:∃M,Cv.dnL 41 0 size=M:=⟨_,rfl⟩;rw[hM] at hpf hq;obtain⟨P,hP⟩:∃P,pB (clk k) M S X D=P:=⟨_,rfl⟩;rw[hP] at hpf hq;have hMin:∀b∈M,(b.2+1)*2^b.1<=size:=by rw[<-hM];exact Qji size h40
  have hMl:M.length<=41:=by rw[<-hM];exact Cv.Qah 41 0 size
  have hPl:P.length=M.length:=by rw[<-hP];exact QkD _ _ _ _ _
  have hPs:∀s∈P,s.size=clk k:=by rw[<-hP];exact QgU (Qs k) M S X D hpf.hD hpf.dig
  have HI:Hid (∀W,Calls prog 237 #[vP 2 k 0 size (.slice sa X.length sc) (.slice da D.length dc)] W fun e w'=>e= .returned (.bool true)∧Below W.heap.size W w'):=fun W=>QjM W 2 k 0 size sa X.length sc da D.length dc true (LV hok.1)
  have HF:Hid (∀W,Below w.heap.size w W->Calls prog 238 #[vP 2 k 0 size (.slice sa X.length sc) (.slice da D.length dc)] W fun e w'=>e= .returned (.bool true)∧Below W.heap.size W w'):=fun W hb=>Qcw W 2 k 0 size sa sb so X.length sc S (hs.next hb) hns da db dO dc D (hr.next hb (La _)) hm _ rfl _ rfl true (LV hok.2)
  have HX:Hid (∀W,Below w.heap.size w W->RdS W xa xb xo X.length X∧RdU W sa sb so X.length S∧RdS W da db dO D.length D∧Tb W):=fun W hb=>⟨hx.next hb (La _),hs.next hb,hr.next hb (La _),ht.next hb⟩
  have HM:Hid (∀W,Calls prog 105 #[.int .u64 size] W fun e w'=> ∃ao g cap,e= .returned (.tuple #[.slice ao M.length cap,.int .i64 0])∧RdB w' ao g 0 M.length (zl M)∧Below W.heap.size W w'):=fun W=>by
    have h:=Cv.Yj size W;rw[(QaP size h40).1,(QaP size h40).2,hM] at h;refine h.mono fun e w' ⟨v,e1,e2,e3⟩=> ?_
    obtain⟨ao,g,n',cap,rfl,hr',_⟩:=Jd e2 (fun b hb=>by
      obtain⟨b0,hb0,rfl⟩:=List.mem_map.1 hb;exact(Qbe (hMin b0 hb0) h40).1)
    have hl:=hr'.len;rw[Cv.Qy] at hl;subst hl;exact⟨ao,g,cap,e1,hr',e3⟩
  have HC:Hid (X.length<=sc∧(sa=none->sc=0)∧D.length<=dc∧(da=none->dc=0)∧X.length<=xc∧(xa=none->xc=0)∧(∀s∈X,s.size<=1048576)∧S.length=X.length):=⟨hsc,hsn,hdc,hdn,hxc,hxn,hsz,hs.hl⟩;have HP:Hid (PF (clk k) size M S X D P∧(∀b∈M,(b.2+1)*2^b.1<=size)∧P.length=M.length∧(∀s∈P,s.size=clk k)∧size<=2^40∧M.length<=41∧dg (clk k) (YA size (QU (clk k) P))=r):=⟨hpf,hMin,hPl,hPs,h40,hMl,hq⟩;obtain⟨W0,hW0⟩:∃W0,(w.alloc (.cells #[.int .i64 2,.int .i64 k,.int .u64 ((0:Nat):Int),.int .u64 size,.slice sa X.length sc,.slice da D.length dc] 138)).alloc (.cells #[.int .u64 0,.string ⟨#[]⟩] 50)=W0:=⟨_,rfl⟩;obtain⟨hb,h6,hRt,hz⟩:=Oe hW0;rw[show((0:Nat):Int)=0 from rfl] at hW0 h6
  obtain⟨c0,c1,c2,c3,c4,c5⟩:=h6.cells;have HR:=Qd (LO hRt hz);have H6:=Qd h6;have hn5:(X.length:Int)<=1048576:=by omega
  have hm5:(M.length:Int)<=41:=by omega
  clear hs hr hm hok h6 hRt hz hx hsz hpf hMin hPl hPs h40 hq hM hP hsc hsn hdc hdn hxc hxn ht hns;unfold vP at HI HF;rw[show((0:Nat):Int)=0 from rfl] at HI HF
  unfold vP;rw[show((0:Nat):Int)=0 from rfl]
  go_enter func150,ntmps150
  go_upto_region 3 with (first
    | (go_at_call 237;with_reducible refine(HI.out _).mono ?_;rintro e w1 ⟨rfl,hb1⟩;obtain⟨d0,d1,d2,d3,d4,d5⟩:=(H6.out.next hb1).cells)
    | (go_at_call 238;with_reducible refine(HF.out _ (Qa hb hb1)).mono ?_;rintro e w2 ⟨rfl,hb2⟩;obtain⟨g0,g1,g2,g3,g4,g5⟩:=(H6.out.next (Qa hb1 hb2)).cells))
  have hbw:=Qa (Qa hb hb1) hb2;have HR2:=Qd (LO (HR.out.1.below (Qa hb1 hb2) (by rw[HR.out.2];omega)) (H6.out.next (Qa hb1 hb2)))
  clear hb hb1 hb2 c0 c1 c2 c3 c4 c5 d0 d1 d2 d3 d4 d5 HI HF HR H6 hW0;go_wp2
  go_loopg [36] X.length (fun g i wr=> ∃j:Nat,j<=X.length∧g=X.length-j∧i= .int .i64 j∧w2=wr)
  case atStart=>go_light;exact⟨0,Ln _,rfl,rfl,rfl⟩
  case round=>
    obtain⟨j,hj,rfl,rfl,rfl⟩:=hrel
    by_cases hlt:j<X.length
    · have hz:(j:Int)<(X.length:Int):=by omega
      have hz0:(0:Int)<=(j:Int):=Lh _;have hrd:=(HX.out w2 hbw).1;obtain rfl:=hrd.ptr (by omega)
      have cj:=hrd.at hlt;obtain⟨d,hd⟩:∃d,X.getD j ByteArray.empty=d:=⟨_,rfl⟩;rw[hd] at cj;have hk:=HC.out.2.2.2.2.2.2.1 _ (Q1 hlt);rw[hd] at hk;have hkz:¬(1048576:Int)<(d.size:Int):=by omega
      clear hd hrd hk;go_wp2
      go_roundg (X.length-(j+1))
      case rel=>go_light;exact⟨j+1,by omega,rfl,by go_num,rfl⟩
      case measure=>go_light;omega
    · obtain rfl:j=X.length:=by omega
      have hz:¬((X.length:Int)<(X.length:Int)):=by omega
      clear hlt hj
      go_upto_region 10 with (go_at_call 105;with_reducible refine(HM.out _).mono ?_;rintro e w3 ⟨ao,gM,capM,rfl,hrB,hb3⟩)
      have HMk:=QfC w3 M.length (by omega)
      have HO:Hid (Qg (w3.alloc (.cells (madeCells #[.string ByteArray.empty] M.length) 9)) w3.heap.size (.slice (Zp w3.heap.size) 0 M.length) []):=QbA w3 _ (by omega)
      go_upto_region 11 with (fail)
      have hb4:=bal (Lb w3.heap.size w3) (.cells (madeCells #[.string ByteArray.empty] M.length) 9);generalize w3.alloc (.cells (madeCells #[.string ByteArray.empty] M.length) 9)=w4 at *;have h63:=HR2.out.2.next (Qa hb3 hb4);obtain⟨k0,k1,k2,k3,k4,k5⟩:=h63.cells;have hl4:w.heap.size<w4.heap.size:=h63.lt;have hl5:w.heap.size<=w4.heap.size:=Ws hl4;have hl6:w.heap.size<w4.heap.size+1:=Nat.lt_succ_of_lt hl4;have hbw3:=Qa hbw hb3;have HB:=Qd (LO hrB (LO hbw3 (LO hb4 (LO (HR2.out.1.below hb3 (Lf w2 _ HR2.out.1.c0)) (HR2.out.2.next hb3)))));clear HM hrB hb3 hb4 h63 hbw3 hbw g0 g1 g2 g3 g4 g5 HMk hz
      go_cut [11,12] from 54 to 62 (fun x y wx=> ∃p q,x=Pq p∧y=Pq q∧Lw w3 wx p q k (.slice (Zp w3.heap.size) 0 M.length) S X D [])
      case first=>
        go_region
        all_goals
          go_wp2
          go_meet
          case rel=>
            go_light;have hst:=Qj8 (k:=k) HB.out.2.2.1 HO.out (HX.out w3 HB.out.2.1).2.1 (HX.out w3 HB.out.2.1).1 (HX.out w3 HB.out.2.1).2.2.1 HC.out
            first
              | with_reducible exact⟨_,_,rfl,rfl,hst.1⟩
              | with_reducible exact⟨_,_,rfl,rfl,hst.2⟩
      case rest=>
        obtain⟨p,q,rfl,rfl,hL⟩:=hcut;have HL:=Qd hL;clear hL HO k0 k1 k2 k3 k4 k5 hl4 hl5 hl6;go_wp2
        go_loopg [10,65] M.length (fun g vs i wr=> ∃(j:Nat) (S':List Nat) (X' D':LB),j<=M.length∧g=M.length-j∧i= .int .i64 j∧Hid (PF (clk k) size (M.drop j) S' X' D' (P.drop j))∧Hid (Lw w3 wr p q k vs S' X' D' (P.take j)))
        case atStart=>go_light;exact⟨0,S,X,D,Ln _,rfl,rfl,HP.out.1,HL.out⟩
        case round=>
          clear HL;obtain⟨j,S',X',D',hj,rfl,rfl,HPj,HLj⟩:=hrel
          by_cases hlt:j<M.length
          · have hz:(j:Int)<(M.length:Int):=by omega
            have hz0:(0:Int)<=(j:Int):=Lh _;have hrd:=HB.out.1.below HLj.out.below;obtain rfl:=hrd.addr (by omega)
            obtain⟨c0,c1⟩:=hrd.cell j hlt;obtain⟨⟨mh,mk⟩,hx⟩:∃x,M.getD j (0,0)=x:=⟨_,rfl⟩;rw[Cv.QdJ,hx] at c0 c1;rw[Lo] at c0 c1;have hdr:M.drop j=(mh,mk)::M.drop (j+1):=by rw[<-hx];exact Cv.QcE (0,0) M j hlt
            have hmem:(mh,mk)∈M:=by rw[<-hx,Lc,Ll hlt];exact LZ _
            have hend:(mk+1)*pw mh<=2^40:=Lu (HP.out.2.1 _ hmem) HP.out.2.2.2.2.1;have hmh:mh<=40:=(Qbe (b:=(mh,mk)) hend (La _)).2.1;obtain⟨t,htt⟩:∃t,bl S' ((mk+1)*pw mh)=t:=⟨_,rfl⟩;have hPF:=HPj.out;rw[hdr] at hPF;obtain⟨t1,t2,t3,R',hR',hPF'⟩:=hPF.step (m:=(mh,mk)) htt;obtain⟨ga,gn,gc,ga',gn',gc',hgc,hgv⟩:=HLj.out.gc;obtain⟨o3,ho3⟩:∃o3,Obj.cells #[.int .i64 mh,.int .u64 mk] 249 (0,0)=o3:=⟨_,rfl⟩;have e3:=Lt wr o3;have hb2:=bal (Lb wr.heap.size wr) o3;obtain⟨V,hV⟩:∃V,wr.alloc o3=V:=⟨_,rfl⟩;rw[hV] at e3 hb2;rw[<-ho3] at e3 hV;have hgcV:=hgc.next hb2;obtain⟨g0,g1,_⟩:=hgcV.cells;have d0:V.cell? ⟨wr.heap.size,0,none⟩=some (.int .i64 mh):=by rw[cell_of_row _ _ 0 _ _ (0,0) e3];rfl
            have d1:V.cell? ⟨wr.heap.size,1,none⟩=some (.int .u64 mk):=by rw[cell_of_row _ _ 1 _ _ (0,0) e3];rfl
            obtain⟨pp,hpp⟩:∃pp,(mk+1)*pw mh=pp:=⟨_,rfl⟩;have HE:Hid (∀Z,Calls prog 240 #[.agg #[.int .i64 mh,.int .u64 mk]] Z fun e w'=>e= .returned (.int .u64 pp)∧Below Z.heap.size Z w'):=fun Z=>Qgt Z mh mk hmh hend pp hpp
            have HCt:Hid (∀Z,Below V.heap.size V Z->Calls prog 239 #[.agg #[.slice ga gn gc,.slice ga' gn' gc'],.int .u64 pp] Z fun e w'=> ∃v1 v2,e= .returned (.tuple #[v1,v2])∧Gv w' w3.heap.size v1 (S'.take t) (X'.take t)∧Gv w' w3.heap.size v2 (S'.drop t) (X'.drop t)∧Below Z.heap.size Z w'):=fun Z hZ=>Qgq Z _ S' X' (hgv.next (Qa hb2 hZ)) hPF.len hPF.asc (by have:=hPF.hm;omega) pp t (by rw[<-hpp];exact htt)
            have HV:=Qd hb2;have HK:Hid (∀Z,Below V.heap.size V Z->Z.cell? ⟨p,0,none⟩=some (.slice ga gn gc)∧Z.cell? ⟨p,1,none⟩=some (.slice ga' gn' gc')∧Z.cell? ⟨wr.heap.size,0,none⟩=some (.int .i64 mh)∧Z.cell? ⟨wr.heap.size,1,none⟩=some (.int .u64 mk)):=fun Z hZ=>
              ⟨(hZ.cell (p:=⟨p,0,none⟩) (Lf V _ g0)).trans g0,(hZ.cell (p:=⟨p,1,none⟩) (Lf V _ g1)).trans g1,(hZ.cell (p:=⟨wr.heap.size,0,none⟩) (Lf V _ d0)).trans d0,(hZ.cell (p:=⟨wr.heap.size,1,none⟩) (Lf V _ d1)).trans d1⟩
            have hLV:=HLj.out.next hb2;have HLV:=Qd hLV;have HPV:=Qd (LO hPF (LO t1 (LO t2 (LO t3 (LO hR' (LO hPF' (LO hmh hend)))))));clear hx hdr hmem hrd hpp hPF t1 t2 t3 hR' hPF' hend hmh htt hgc hgv hb2 hgcV hLV ho3 e3 HPj
            go_upto_region 15 with (fail)
            clear hV HLj c0 c1
            go_cut [15,16] from 69 to 75 (fun x y wx=> ∃p1 p2 a1 b1 a2 b2,x=Pq p1∧y=Pq p2∧Fi w3.heap.size V.heap.size V wx p1 p2 a1 b1 a2 b2 (S'.take t) (S'.drop t) (X'.take t) (X'.drop t))
            case first=>
              go_region_held3 (fun Z=>Z.cell? ⟨p,0,none⟩=some (.slice ga gn gc)∧Z.cell? ⟨p,1,none⟩=some (.slice ga' gn' gc')∧Z.cell? ⟨wr.heap.size,0,none⟩=some (.int .i64 mh)∧Z.cell? ⟨wr.heap.size,1,none⟩=some (.int .u64 mk))
                (exact HK.out _ (by repeat (first|exact Lb _ _|refine IM ?_|refine bal ?_ _|refine Qa ?_ hbc|refine Qa ?_ hbe|refine Qaa ?_ (by omega)))) (first
                | (go_at_call 240;with_reducible refine(HE.out _).mono ?_;rintro e we ⟨rfl,hbe⟩
                   have s1:=hbe.size
                   try simp only[World.size_alloc,World.drew] at s1
                   first|(have y1:=(QaN V).1.next hbe;have y2:=(QaN V).2.next hbe)|(have y1:=(QgD V).next hbe)|skip)
                | (go_at_call 239;with_reducible refine(HCt.out _ (by repeat (first|exact Lb _ _|refine IM ?_|refine bal ?_ _|refine Qa ?_ hbe))).mono ?_;rintro e wc ⟨v1,v2,rfl,q1,q2,hbc⟩
                   obtain⟨sa1,sn1,sc1,xa1,xn1,xc1,rfl⟩:=q1.form;obtain⟨sa2,sn2,sc2,xa2,xn2,xc2,rfl⟩:=q2.form;have s2:=hbc.size
                   try simp only[World.size_alloc] at s2
                   first|(have x1:=y1.next hbc;have x2:=y2.next hbc)|(have x1:=y1.next hbc)|(have x1:=y1.next (Qa (bal (Lb _ _) _) hbc);have x2:=(QcL we).next hbc)|(have x1:=(QcM we).1.next hbc;have x2:=(QcM we).2.next hbc)|(have x1:=(QcL we).next hbc)|skip
                   try have v1:=x1.lt
                   try have v2:=x2.lt
                   try have u1:=IW x1.lt
                   try have u2:=IW x2.lt
                   try have u3:=IW y1.lt
                   try have u4:=Ne.symm u3
                   try have u5:=Ne.symm u1
                   try have u6:=Ne.symm u2
                   try obtain⟨k0,k1,kf⟩:=x1.cells
                   try obtain⟨m0,m1,mf⟩:=x2.cells))
              all_goals have hVc:Below V.heap.size V wc:=by repeat (first|exact Lb _ _|refine IM ?_|refine bal ?_ _|refine Qa ?_ hbc|refine Qa ?_ hbe)
              all_goals
                go_wp2
                go_meet
                case rel=>
                  go_light
                  first
                    | with_reducible exact⟨_,_,_,_,_,_,rfl,rfl,Qgx q1 q2 hVc hVc.size⟩
                    | with_reducible exact⟨_,_,_,_,_,_,rfl,rfl,(Qgx q2 q1 hVc hVc.size).swap⟩
                    | with_reducible exact⟨_,_,_,_,_,_,rfl,rfl,Qgy q1 q2 hVc hVc.size x1 (by omega)⟩
                    | with_reducible exact⟨_,_,_,_,_,_,rfl,rfl,(Qgy q2 q1 hVc hVc.size x1 (by omega)).swap⟩
                    | with_reducible exact⟨_,_,_,_,_,_,rfl,rfl,Qgz q1 q2 hVc x1 x2 (by omega) (by omega) (by omega)⟩
                    | with_reducible exact⟨_,_,_,_,_,_,rfl,rfl,Qgz q1 q2 hVc x2 x1 (by omega) (by omega) (by omega)⟩
            case rest=>
              obtain⟨p1,p2,a1,b1,a2,b2,rfl,rfl,F1,F2,F3,F4,F5⟩:=hcut;obtain⟨i0,i1,i2,i3⟩:=HK.out wc F5;obtain⟨k0,k1,_⟩:=F1.cells;have hLc:=HLV.out.next F5;have hT:=(HX.out wc (Qa HB.out.2.1 hLc.below)).2.2.2;obtain⟨hPF,t1,t2,t3,hR',hPF',hmh,hend⟩:=HPV.out;have hl1:(S'.take t).length<=1048576:=by have:=hPF.hm;rw[LA];omega
              have HN:=Qhe q k mh mk hmh hend (S'.take t) (X'.take t) D' wc (.agg #[a1,b1]) hT hLc.rw F3 (by rw[LA,LA,hPF.len]) (Om hPF.asc _) t2 t3 (fun s hs=>hPF.hX s ((IS _ _).subset hs)) hPF.hD (by omega)
              obtain⟨x5,hx5⟩:∃x,vB (clk k) mh mk (S'.take t) (X'.take t) D'=x:=⟨_,rfl⟩;obtain⟨D5,hD5⟩:∃E,D'.drop (tno mh mk (S'.take t)).length=E:=⟨_,rfl⟩;simp only[] at hR' hPF';rw[hx5] at HN hR';rw[hD5] at HN hPF';have e1:P.drop (j+1)=R':=by
                have:=LW (List.drop 1) hR'
                rwa [WA,List.drop_one,List.tail_cons] at this
              have e0:P[j]? = some x5:=by
                have:=LW (fun l=>l[0]?) hR'
                simpa using this
              have e2:P.take (j+1)=P.take j++[x5]:=by rw[NW,e0];rfl
              have HZ:Hid (x5.size<=9223372036854775807):=by
                show x5.size<=_
                have:=HP.out.2.2.2.1 x5 (Nt e0);have:=Qs k;omega
              have HW:Hid (PF (clk k) size (M.drop (j+1)) (S'.drop t) (X'.drop t) D5 (P.drop (j+1))∧P.take (j+1)=P.take j++[x5]):=⟨by rw[e1];exact hPF',e2⟩
              obtain⟨sa2,sn2,sc2,xa2,xn2,xc2,hv2⟩:=F4.form;obtain⟨rfl,rfl⟩:a2= .slice sa2 sn2 sc2∧b2= .slice xa2 xn2 xc2:=by
                injection hv2 with hv2
                have:=LW Array.toList hv2
                simpa using this
              have HLc:=Qd hLc;have HF2:=Qd (LO F2 F4);have HJ:Hid ((P.take j).length<=41):=by show _<=_;rw[LA];omega
              clear g0 g1 d0 d1 hT hPF t1 t2 t3 hR' hPF' hmh hend hl1 hx5 hD5 e0 e1 e2 hv2 hLc F1 F2 F3 F4 HPV HK HE HCt
              go_wp2_with (first
                | (go_at_call 241;with_reducible refine HN.mono ?_;rintro e w5 ⟨rfl,hr5,hx5⟩)
                | (at_builtin;refine Qaw _ rfl _ _ rfl w3.heap.size _ (P.take j) rfl (Yf (HLc.out.node hx5 hr5).ow _) (Zp w5.heap.size) w5.heap.size 0 1 1 [x5] rfl (Uf w5 x5 HZ.out) (fun h=>by cases h) ?c1 ?c2 ?_))
              case c1=>have:=HJ.out;simp only[List.length_singleton];omega
              case c2=>have:=(bal (HLc.out.node hx5 hr5).below (.cells #[.string x5] 9)).size;exact this
              intro vs' w6 o6 gr6 _;have hbx:=bal (Lb w5.heap.size w5) (.cells #[.string x5] 9);obtain⟨L6,gcs,hb6⟩:=((HLc.out.node hx5 hr5).next hbx).app o6 gr6;have G2:Gc w5 p2 (.slice sa2 sn2 sc2) (.slice xa2 xn2 xc2):=(hx5.block p2 HF2.out.1.lt (QjB HLc.out.rw HF2.out.1)).trans HF2.out.1;have G2:=gcs _ _ _ (G2.next hbx);have hG:=((HF2.out.2.bx HLc.out.rw hx5).next hbx).low hb6;obtain⟨m0,m1,_⟩:=G2.cells;obtain⟨_,_,_,_,_,_,gp,_⟩:=L6.gc;obtain⟨n0,n1,nf⟩:=gp.cells;have HL7:=Qd (L6.cut hG);clear i0 i1 i2 i3 k0 k1 HN hr5 hx5 o6 gr6 hbx L6 gcs hb6 G2 hG gp HLc HF2;go_wp2
              go_roundg (M.length-(j+1))
              case rel=>go_light;exact⟨j+1,_,_,_,by omega,rfl,by go_num,HW.out.1,by show Lw _ _ _ _ _ _ _ _ _ _;rw[HW.out.2];exact HL7.out⟩
              case measure=>go_light;omega
          · obtain rfl:j=M.length:=by omega
            have hz:¬((M.length:Int)<(M.length:Int)):=by omega
            have hL:=HLj.out;rw[Lr (by rw[HP.out.2.2.1];exact La _)] at hL
            obtain⟨aP,bP,cP,rfl,rP,_,_⟩:=QH hL.ow (fun s hs=>by have:=HP.out.2.2.2.1 s hs;have:=Qs k;omega)
            have hbr:=Qa HB.out.2.1 hL.below;have h6:=HB.out.2.2.2.2.next hL.below;have hRt:=HB.out.2.2.2.1.below hL.below (Lf w3 _ HB.out.2.2.2.1.c0);have HRo:Hid (∀Z,Below wr.heap.size wr Z->Calls prog 107 #[.int .i64 k,.int .u64 size,.slice aP P.length cP] Z fun e w'=>e= .returned (.string r)∧Below Z.heap.size Z w'):=fun Z hZ=>JA Z (HX.out Z (Qa hbr hZ)).2.2.2 k size aP bP 0 P.length cP P (rP.next hZ (La _)) (fun s hs=>by have:=HP.out.2.2.2.1 s hs;have:=Qs k;omega) (by have:=HP.out.2.2.1;have:=HP.out.2.2.2.2.2.1;omega) r HP.out.2.2.2.2.2.2
            have HK:Hid (∀Z,Below (w.heap.size+1) wr Z->Z.cell? ⟨w.heap.size,1,none⟩=some (.int .i64 k)∧Z.cell? ⟨w.heap.size,3,none⟩=some (.int .u64 size)):=fun Z hZ=>by
              obtain⟨_,c1,_,c3,_,_⟩:=(h6.same (hZ.block w.heap.size (IH _))).cells;exact⟨c1,c3⟩
            have hle:w.heap.size+1<=wr.heap.size:=h6.lt;have HRr:=Qd (LO hRt (LO hbr hle));obtain⟨_,c1,_,c3,_,_⟩:=h6.cells;have hls:w.heap.size+1<wr.heap.size:=Lf wr _ hRt.c0;clear hL rP hlt HLj h6 hRt hbr HPj
            go_upto_region 19 with (fail)
            go_region_held3 (fun Z=>Z.cell? ⟨w.heap.size,1,none⟩=some (.int .i64 k)∧Z.cell? ⟨w.heap.size,3,none⟩=some (.int .u64 size))
              (exact HK.out _ (by repeat (first|exact Lb _ _|refine IM ?_|refine Below.trans ?_ (hbR.mono (by first|omega|(simp;omega)))|refine Qaa ?_ (by omega)))) (first
              | (go_at_call 107;with_reducible refine(HRo.out _ (by first|exact Lb _ _|exact(Lb _ _).drew)).mono ?_;rintro e wR ⟨rfl,hbR⟩
                 have hR:=(HRr.out.1.drew).below hbR (by simp;omega)
                 have k0:=hR.c0;have k1:=hR.c1;have f0:=hR.f0;have f1:=hR.f1))
            all_goals go_wp2
            all_goals obtain⟨s0,s1,hch⟩:=QfY hR (size:Int) r
            all_goals refine LK (v := .tuple #[.agg #[.int .u64 size,.string r],.int .i64 0]) (by simp[results,results150,go_sem,s0,s1]) rfl ⟨rfl,?_⟩
            all_goals exact(Qa HRr.out.2.1.drew hbR).trans (hch.below (by rintro b rfl;omega))
theorem JH(w:World)(b off cap:Nat)(S:List Nat)(hr:RdU w (some ⟨b,off,none⟩) b off S.length S)(hm:S.length<=1048576) :
  Calls prog 141 #[.slice (some ⟨b,off,none⟩) S.length cap] w fun e w'=> ∃v,e= .returned v∧Cv.Own w' w.heap.size v S∧Below w.heap.size w w':=by
 have hb:=bal (Lb w.heap.size w) (.cells #[] 48);have ho:Cv.Own (w.alloc (.cells #[] 48)) w.heap.size (.slice (Zp w.heap.size) 0 0) []:=⟨rfl,.inr ⟨w.heap.size,0,_,rfl,La _,Lt w _,Ln _,by decide,rfl,rfl⟩⟩
 have HO:=Qd ho;have HR:=Qd (Qna (cap:=cap) (hr.next hb) (fun e=>by cases e))
 have HB:=Qd hb;have HE:=Lib.run_eql_slice_some_nil (P:=prog) w ⟨b,off,none⟩ S.length cap underlying66;clear hr ho hb
 go_enter func141,ntmps141
 go_wp2_with (at_builtin;refine Cv.QaG _ rfl _ _ rfl w.heap.size _ [] rfl HO.out _ S rfl HR.out ?c1 ?c2 ?_)
 case c1=>simp only[List.length_nil];omega
 case c2=>have:=HB.out.size;exact this
 intro v' w' o' g' _;have HY:Hid (Cv.Own w' w.heap.size v' S∧Below w.heap.size w w'):=⟨o',HB.out.trans ((Lb _ _).grown g' HB.out.size (fun k hk=>by cases hk;exact La _))⟩
 clear o' g';go_wp2
 go_ret
 exact⟨_,rfl,HY.out.1,HY.out.2⟩
abbrev zP:Obj := .cells #[.int .i64 0,.int .i64 0,.int .u64 0,.int .u64 0,.slice none 0 0,.slice none 0 0] 138
theorem QdP(w:World)(m:Nat)(k:Int)(L:LB)(hF:Frs w m k L)(n:Nat)(hn:L.length<n)(ao:OA)(ns c:Nat) :
  Calls prog 82 #[.pointer (some ⟨m+1,0,none⟩),.int .u64 n,.slice ao ns c] w fun e w'=>e= .returned (.tuple #[noP,.int .i64 30])∧Below w.heap.size w w':=by
 have hb:=bal (Lb w.heap.size w) zP;have HS:=QW _ m k L (hF.next hb (La _));have hn':(L.length:Int)<(n:Int):=by omega
 unfold zP at hb HS;clear hF hn
 go_enter func82,ntmps82
 go_wp2_with (go_at_call 132;with_reducible refine HS.mono ?_;rintro e w1 ⟨rfl,rfl⟩)
 refine LK (v := .tuple #[noP,.int .i64 30]) (by simp[results,results82,go_sem]) rfl ⟨rfl,?_⟩
 exact hb
theorem Qfb(w:World)(m:Nat)(k:Int)(L:LB)(hF:Frs w m k L)(n:Nat)(hn:n<=L.length)(ao:OA)(b off ns c:Nat)(S:List Nat)(hr:RdU w ao b off ns S)(hm:ns<=maxLen)(e0:Nat)(he:Cv.QN n S=e0)(h0:e0≠0) :
  Calls prog 82 #[.pointer (some ⟨m+1,0,none⟩),.int .u64 n,.slice ao ns c] w fun e w'=>e= .returned (.tuple #[noP,.int .i64 e0])∧Below w.heap.size w w':=by
 have hb:=bal (Lb w.heap.size w) zP;have HS:=(QW _ m k L (hF.next hb (La _)));have HC:=Cv.QeL n e0 (w.alloc zP) ao b off ns c S (QfQ (hr.next hb)) hm he h0;have hn':¬(L.length:Int)<(n:Int):=by omega
 have hz:¬(e0:Int)=0:=by omega
 have H6:=Qd (Yl w (.int .i64 0) (.int .i64 0) (.int .u64 0) (.int .u64 0) (.slice none 0 0) (.slice none 0 0));unfold zP at hb HS HC;clear hF hn hr hm he h0
 go_enter func82,ntmps82
 go_wp2_with (first
  | (go_at_call 132;with_reducible refine HS.mono ?_;rintro e w1 ⟨rfl,rfl⟩)
  | (go_at_call 140;with_reducible refine HC.mono ?_;rintro e w2 ⟨v2,rfl,_,hb2⟩;have h6:=H6.out.next hb2;obtain⟨k0,k1,k2,k3,k4,k5⟩:=h6.cells;have f0:=h6.fz))
 have hch:=Yw w2 w.heap.size (.int .i64 0) (.int .i64 0) (.int .u64 0) (.int .u64 0) (.slice none 0 0) (.slice none 0 0);have hF6:=h6.put (.int .i64 0) (.int .i64 0) (.int .u64 0) (.int .u64 0) (.slice none 0 0) (.slice none 0 0);unfold Yh at hch hF6;obtain⟨s0,s1,s2,s3,s4,s5⟩:=hF6.cells;refine LK (v := .tuple #[noP,.int .i64 e0]) (by simp[results,results82,go_sem,s0,s1,s2,s3,s4,s5]) rfl ⟨rfl,?_⟩
 exact(Qa hb hb2).trans (hch.below (by rintro b rfl;exact La _))
def dgB(c:Nat)(L:LB)(n:Nat)(S:List Nat):LB:=(Cv.rst 0 n S).map fun b=>nd c L b.1 b.2
theorem Qo4{n:Nat}{S:List Nat}(he:Cv.QN n S=0):∀b∈Cv.rst 0 n S,(b.2+1)*2^b.1<=n:=by
 obtain⟨h40,_,_,hc⟩:=Cv.Yu he;exact fun b hb=>(Cv.Qny (Cv.Qdr n S h40 hc) b hb).2
theorem Qds{n:Nat}{S:List Nat}(he:Cv.QN n S=0):S.length<=n∧0<S.length:=by
 obtain⟨h40,h0,_,hc⟩:=Cv.Yu he;refine⟨?_,h0.1⟩
 have key:∀(S:List Nat) (x n:Nat),Cv.QQ x S n->S.length+x<=n:=by
  intro S
  induction S with
  | nil=>intro x n h;have h':x<=n:=h;rw[N9];omega
  | cons i S ih=>
   intro x n h;have:=ih _ _ h.2;have:=h.1;rw[LD];omega
 have:=key S 0 n hc;omega
theorem Qhg(w:World)(m:Nat)(k:Int)(L:LB)(hF:Frs w m k L)(hL:L.length<=5000)(n:Nat)(hn:n<=L.length)(ao:OA)(b off c:Nat)(S:List Nat)(hr:RdU w ao b off S.length S)(he:Cv.QN n S=0)(D:LB)(hD:dgB (clk k) L n S=D) :
  Calls prog 82 #[.pointer (some ⟨m+1,0,none⟩),.int .u64 n,.slice ao S.length c] w fun e w'=> ∃vs vd,e= .returned (.tuple #[.agg #[.int .i64 2,.int .i64 k,.int .u64 0,.int .u64 n,vs,vd],.int .i64 0])∧Cv.Own w' w.heap.size vs S∧Qg w' w.heap.size vd D∧Below w.heap.size w w':=by
 obtain⟨hS1,hS0⟩:=Qds he;have hin:=Qo4 he;obtain⟨h40,_,_,hc⟩:=Cv.Yu he;obtain rfl:=hr.ptr hS0;obtain⟨o0,ho0⟩:∃o0,zP=o0:=⟨_,rfl⟩;have hb:=bal (Lb w.heap.size w) o0;have HS:=QW _ m k L (hF.next hb (La _));obtain⟨C,hC⟩:∃C,zl (Cv.rst 0 n S)=C:=⟨_,rfl⟩;have hlC:C.length<=1000000:=by rw[<-hC,Cv.Qy];have:=Cv.Qng n h40 S 0 hc;omega
 have HRs:Calls prog 140 #[.int .u64 n,.slice (some ⟨b,off,none⟩) S.length c] (w.alloc o0) fun e w'=> ∃ao g cap,e= .returned (.tuple #[.slice ao C.length cap,.int .i64 0])∧RdB w' ao g 0 C.length C∧Below (w.alloc o0).heap.size (w.alloc o0) w':=by
  refine(Cv.QkU n (w.alloc o0) (some ⟨b,off,none⟩) b off S.length c S (QfQ (hr.next hb)) (by omega)).mono fun e w' ⟨v,e1,e2,e3⟩=> ?_
  rw[he] at e1;rw[Cv.rstS,Lm he,hC] at e2;obtain⟨ao,g,n',cap,rfl,hr',_⟩:=Jd e2 (fun x hx=>by
   rw[<-hC] at hx;obtain⟨b0,hb0,rfl⟩:=List.mem_map.1 hx;exact(Qbe (hin b0 hb0) h40).1)
  obtain rfl:=hr'.len;exact⟨ao,g,cap,e1,hr',e3⟩
 have hds:dgs (clk k) L C=some D:=by rw[<-hC,Ox (fun b hb=>Lu (hin b hb) hn),<-hD];rfl
 have HD:Hid (∀W ao g cap,Below w.heap.size w W->RdB W ao g 0 C.length C->Calls prog 106 #[.pointer (some ⟨m+1,0,none⟩),.slice ao C.length cap] W fun e w'=>Below W.heap.size W w' ∧ ∃ad md cd,e= .returned (.tuple #[.slice ad md cd,.bool true])∧Qg w' W.heap.size (.slice ad md cd) D):=fun W ao g cap hb hr=>by
  refine(Ub W m k L (hF.next hb (La _)) ao g 0 cap C hr (by omega)).mono ?_
  rintro e w' ⟨hb',⟨h1,_⟩|⟨D',h1,v,rfl,ho⟩⟩
  ·rw[hds] at h1;cases h1
  ·rw[hds] at h1;injection h1 with h1
   subst h1;obtain⟨ad,md,cd,rfl⟩:=Cv.Ql ho;exact⟨hb',ad,md,cd,rfl,ho⟩
 have HSt:Hid (∀W,Below w.heap.size w W->Calls prog 134 #[.pointer (some ⟨m+1,0,none⟩)] W fun e w'=>e= .returned (.int .i64 k)∧W=w'):=fun W hb=>(YU W m k L (hF.next hb (La _))).mono fun _ _ h=>⟨h.1,h.2.symm⟩
 have HCl:Hid (∀W,Below w.heap.size w W->Calls prog 141 #[.slice (some ⟨b,off,none⟩) S.length c] W fun e w'=> ∃a1 n1 c1,e= .returned (.slice a1 n1 c1)∧Cv.Own w' W.heap.size (.slice a1 n1 c1) S∧Below W.heap.size W w'):=fun W hb=>(JH W b off c S (hr.next hb) (by omega)).mono fun e w' ⟨v,e1,e2,e3⟩=>by
  obtain⟨a1,n1,c1,rfl⟩:=Cv.Ql e2;exact⟨a1,n1,c1,e1,e2,e3⟩
 have hn':¬(L.length:Int)<(n:Int):=by omega
 have HP:Hid (∀W,Below (w.alloc o0).heap.size (w.alloc o0) W->Six W w.heap.size (.int .i64 0) (.int .i64 0) (.int .u64 0) (.int .u64 0) (.slice none 0 0) (.slice none 0 0)):=fun W hb=>Six.next (show Six (w.alloc o0) _ _ _ _ _ _ _ by rw[<-ho0];exact Yl w _ _ _ _ _ _) hb
 rw[<-ho0] at hb HS HP HRs;unfold zP at hb HS HP HRs;clear hF hn hr hL ho0 hin hds hD hlC hC hS1 hS0 hc h40 he
 go_enter func82,ntmps82
 go_wp2_with (first
  | (go_at_call 132;with_reducible refine HS.mono ?_;rintro e w0 ⟨rfl,rfl⟩)
  | (go_at_call 140;with_reducible refine HRs.mono ?_;rintro e w1 ⟨ao,g,cap,rfl,hr1,hb1⟩)
  | (go_at_call 106;with_reducible refine(HD.out _ _ _ _ (Qa hb hb1) hr1).mono ?_;rintro e w2 ⟨hb2,ad,md,cd,rfl,ho⟩)
  | (go_at_call 134;with_reducible refine(HSt.out _ (Qa (Qa hb hb1) hb2)).mono ?_;rintro e w3 ⟨rfl,rfl⟩)
  | (go_at_call 141;with_reducible refine(HCl.out _ (Qa (Qa hb hb1) hb2)).mono ?_;rintro e w4 ⟨a4,n4,c4,rfl,ho4,hb4⟩;have h6:=HP.out _ (Qa (Qa hb1 hb2) hb4);obtain⟨k0,k1,k2,k3,k4,k5⟩:=h6.cells;have f0:=h6.fz))
 have hF6:=h6.put (.int .i64 2) (.int .i64 k) (.int .u64 0) (.int .u64 n) (.slice a4 n4 c4) (.slice ad md cd);have hch:=Yw w4 w.heap.size (.int .i64 2) (.int .i64 k) (.int .u64 0) (.int .u64 n) (.slice a4 n4 c4) (.slice ad md cd);have hle:=(Qa hb1 hb2).size;unfold Yh at hF6 hch;obtain⟨s0,s1,s2,s3,s4,s5⟩:=hF6.cells;rw[LN] at hle;refine LK (v := .tuple #[.agg #[.int .i64 2,.int .i64 k,.int .u64 0,.int .u64 n,.slice a4 n4 c4,.slice ad md cd],.int .i64 0]) (by simp[results,results82,go_sem,s0,s1,s2,s3,s4,s5]) rfl ?_
 have hz1:=hb1.size;rw[LN] at hz1;refine⟨_,_,rfl,?_,?_,(Qa (Qa (Qa hb hb1) hb2) hb4).trans (hch.below (by rintro b rfl;exact La _))⟩
 ·exact(Qj ho4 fun g _ hg=>hch.block g (by omega)).mono (by omega)
 ·exact(Qj (Qx ho hb4 (La _)) fun g _ hg=>hch.block g (by omega)).mono (by omega)
end
section
open Cv (RdC zl cU)
theorem QaX(c:Nat)(L:LB)(n:Nat)(S:List Nat)(hn:n<=L.length)(he:Cv.QN n S=0):pB c (Cv.dnL 41 0 n) S (S.map fun i=>L.getD i ByteArray.empty) (dgB c L n S)=pks c (L.take n) 41:=by
 obtain⟨h40,_,_,hc⟩:=Cv.Yu he;have hrow:Cv.Row n 0 (Cv.dnL 41 0 n):=by rw[<-Cv.Q0 n h40];exact Cv.Ou 0 n (Ln _) h40
 have ha:=Qae hc;have hfr:Fr 0 n S:=fun i hi=>Cv.UL hc i hi
 rw[QnZ c L (Cv.dnL 41 0 n) 0 S _ _ [] hrow ha hfr rfl (by rw[Nd,QcG hrow ha hfr,<-Cv.OV n S h40 hc];rfl),<-Cv.Q0 n h40]
 exact(Ug c L n hn h40).1
theorem QdY{c:Nat}(hc:c<=32)(L:LB)(n:Nat)(S:List Nat):∀s∈dgB c L n S,s.size=c:=fun s hs=>by
 obtain⟨b,_,rfl⟩:=List.mem_map.1 hs;exact Ye hc _ _ _
theorem Qgr(c:Nat)(L:LB)(n:Nat)(S:List Nat):(dgB c L n S).length=(Cv.rst 0 n S).length:=LC _
theorem Qhh(w:World)(m:Nat)(k:Int)(L:LB)(hF:Frs w m k L)(hL:L.length<=5000)(n:Nat)(hn:n<=L.length)(ao:OA)(b off c:Nat)(S:List Nat)(hr:RdU w ao b off S.length S)(he:Cv.QN n S=0)(D:LB)(hD:dgB (clk k) L n S=D) :
  Calls prog 82 #[.pointer (some ⟨m+1,0,none⟩),.int .u64 n,.slice ao S.length c] w fun e w'=> ∃gs cs ad bd cd,e= .returned (.tuple #[.agg #[.int .i64 2,.int .i64 k,.int .u64 0,.int .u64 n,.slice (Zp gs) S.length cs,.slice ad D.length cd],.int .i64 0])∧RdU w' (Zp gs) gs 0 S.length S∧S.length<=cs∧RdS w' ad bd 0 D.length D∧D.length<=cd∧(ad=none->cd=0)∧Cv.Own w' w.heap.size (.slice (Zp gs) S.length cs) S∧Qg w' w.heap.size (.slice ad D.length cd) D∧Below w.heap.size w w' :=
 (Qhg w m k L hF hL n hn ao b off c S hr he D hD).mono fun e w' ⟨vs,vd,e1,e2,e3,e4⟩=>by
  obtain⟨gs,cs,rfl,_,hcs,_⟩:=Qh0 e2 (Qds he).2;obtain⟨ad,bd,cd,rfl,r3,hcd,hnd⟩:=QH e3 (fun s hs=>by rw[<-hD] at hs;rw[QdY (Qs k) _ _ _ s hs];have:=Qs k;omega)
  exact⟨gs,cs,ad,bd,cd,e1,QgT (l':=[]) (by rw[Nd];exact e2),hcs,r3,hcd,hnd,e2,e3,e4⟩
end
def pvB(k:Int)(L:LB)(n:Nat)(S:List Nat):PV:=⟨2,k,0,n,S,dgB (clk k) L n S⟩
theorem Oi{k:Int}(k1:1<=k)(k2:k<=32)(L:LB){n:Nat}(hn:n<=2^40){S:List Nat}(he:Cv.QN n S=0):Uu (pvB k L n S):=by
 have hck:(clk k:Int)=k:=by unfold clk;rw[Ld (by omega),Ld (by omega)];omega
 refine⟨?_,fun d hd=> ?_⟩
 ·show cnt 2 k 0 n S=some (dgB (clk k) L n S).length
  rw[Qgr,cnt,Lm ⟨k1,k2,hn⟩,Ld (by decide),Lm rfl,Lm ⟨rfl,he⟩]
 ·show(d.size:Int)=k
  rw[QdY (Qs k) L n S d hd];exact hck
section
variable {w:World} {a p:Nat} {U:Nat->Prop} {D:St.DV} {S:St.SV} {L:LB}
theorem Qcj{W:World}{ao:OA}{b off len:Nat}{l:List Nat}(h:RdU w ao b off len l)(hb:∀c,c<w.heap.size->c≠a->W.heap[c]? = w.heap[c]?)(hn:0<len->b≠a):RdU W ao b off len l :=
 ⟨h.hl,h.ptr,fun j v hv=>by
  have hc:=h.rng j v hv;have hlt:=Lf _ _ hc;exact(LI (a:=⟨b,off+j,none⟩) (hb b hlt (hn (by have:=(List.getElem?_eq_some_iff.1 hv).1;rw[show(Cv.cU l).length=l.length by simp[Cv.cU]] at this;have:=h.hl;omega)))).trans hc⟩
theorem QhO(w:World)(ht:Tb w)(h:Lg w 0 a p U D S L)(hL:L.length<=5000)(n:Nat)(hn:n<=L.length)(ao:OA)(b off len c:Nat)(X:List Nat)(hr:RdU w ao b off len X)(hb:0<len->b≠a)(he:Cv.QN n X=0) :
  Calls prog 38 #[Pq a,.int .u64 n,.slice ao len c] w fun e w'=>e= .returned (.tuple #[.string ⟨(enc (pvB S.k L n X)).toArray⟩,.int .i64 0])∧Below w.heap.size w w':=by
 refine QnV w ht h n ao len c _ 0 fun W m hT hbW hF=> ?_
 have hrW:=Qcj hr hbW hb;have hl:=hr.hl;subst hl;refine(Qhh W m S.k L hF hL n hn ao b off c X hrW he _ rfl).mono fun e w' z=> ?_
 obtain⟨gs,cs,ad,bd,cd,rfl,z1,z2,z3,z4,z5,z6,z7,z8⟩:=z;have hw:=Oi hF.k1 hF.k2 L (n:=n) (by omega) he
 refine⟨_,_,rfl,z8,fun W' hW'=> ?_⟩
 have hp:RdPC w' (Zp gs) gs 0 cs ad bd 0 cd (pvB S.k L n X):=⟨z1,z3,by show(0:Nat)<_;decide,by show n<_;omega,?_,?_,z4⟩
 ·exact Jt W' (hp.next hW') hw _ rfl
 ·show X.length<=_
  have:=(Qds he).1;omega
 ·show(dgB (clk (S.k:Int)) L n X).length<=_
  obtain⟨h40,_,_,hc⟩:=Cv.Yu he;rw[Qgr];have:=QfW h40 hc;omega
theorem QhN(w:World)(ht:Tb w)(h:Lg w 0 a p U D S L)(n:Nat)(ao:OA)(b off len c:Nat)(X:List Nat)(hr:RdU w ao b off len X)(hm:len<=maxLen)(hb:0<len->b≠a)(e0:Nat)(he:(if L.length<n then 30 else Cv.QN n X)=e0)(h0:e0≠0) :
  Calls prog 38 #[Pq a,.int .u64 n,.slice ao len c] w fun e w'=>e= .returned (.tuple #[.string ⟨#[]⟩,.int .i64 e0])∧Below w.heap.size w w':=by
 refine QnV w ht h n ao len c _ e0 fun W m hT hbW hF=> ?_
 have hrW:=Qcj hr hbW hb;have hen:∀W':World,Calls prog 77 #[noP,.int .i64 e0] W' fun e w''=>e= .returned (.tuple #[.string ⟨#[]⟩,.int .i64 e0])∧Below W'.heap.size W' w'':=fun W'=>J8 W' 0 0 0 0 none 0 0 none 0 0 e0 (by omega)
 by_cases hn:L.length<n
 ·rw[Lm hn] at he;subst he;exact(QdP W m S.k L hF n hn ao len c).mono fun e w' z=>⟨_,_,z.1,z.2,fun W' _=>hen W'⟩
 ·rw[Ld hn] at he;exact(Qfb W m S.k L hF n (by omega) ao b off len c X hrW hm e0 he h0).mono fun e w' z=>⟨_,_,z.1,z.2,fun W' _=>hen W'⟩
end
end Go.Proofs.YtoblgjledefdbaaGreatDoor
