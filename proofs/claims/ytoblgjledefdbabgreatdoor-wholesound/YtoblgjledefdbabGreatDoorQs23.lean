/- Own work. -/
import Derived.Test.YtoblgjledefdbabGreatDoorQs20
import Derived.Test.YtoblgjledefdbabGreatDoorQs22
set_option maxRecDepth 100000
set_option maxHeartbeats 8000000
namespace Go.Proofs.YtoblgjledefdbabGreatDoor
open Go.RowKit
attribute [local go_sem ↓] Go.wp_at_zero Go.wp_at_succ
open Go.Proofs.Tryz
section
open Cv (RdC zl cU tno)
open Pl (pw)
theorem QhZ{w:World}{B T s n:Nat}{y:Value}{cs:List Value}(h:w.ownsRow B T s y n cs){g:Nat}(hg:y.ownBlock=some g):B<=g ∧ ∃cur,w.heap[g]? = some (.cells cur T (0,0)):=by
 obtain⟨_,h2⟩:=h
 rcases h2 with ⟨rfl,_⟩|⟨g',cap,cur,rfl,hb,hh,_⟩
 ·cases hg
 ·cases hg;exact⟨hb,cur,hh⟩
theorem Qf0{w:World}{ao:OA}{b off len cap:Nat}{l:LB}(h:RdS w ao b off len l)(hn:ao=none->cap=0):RdC w (.slice ao len cap) len (l.map Value.string):=by
 refine⟨ao,cap,rfl,fun e=>⟨?_,hn e⟩,fun ad ha j c hj=> ?_⟩
 ·rcases Nat.eq_zero_or_pos len with h0|h0
  ·exact h0
  ·have:=h.ptr h0;rw[e] at this;cases this
 ·have hj':j<len:=by have:=(List.getElem?_eq_some_iff.1 hj).1;rw[LI,h.hl] at this;exact this
  have:=h.ptr (by omega)
  rw[ha] at this
  cases this;rw[Addr.add_mid];exact h.rng j c hj
theorem Qat(w:World){ops:Array Oper}{rest:List Oper}{o:Oper}{a:Act}{Q:Exit->Act->World->Prop}
  (hg:o.guard=none) (s x:Operand) (hop:o.op=Op.call { callee:=Callee.builtin Builtin.append,args:=#[s,x],argTypes:=#[22,22] })
  (B:Nat) (v:Value) (L:LB) (hs:a.eval s=v) (hown:Qg w B v L) (ao:OA) (b off len cap:Nat) (M:LB) (hx:a.eval x= .slice ao len cap) (hr:RdS w ao b off len M) (hn:ao=none->cap=0)
  (hlen:L.length+M.length<=1048576) (hB:B<=w.heap.size)
  (hK:∀v' w',Qg w' B v' (L++M)->w.grownBy w' v.ownBlock->(v'.ownBlock=v.ownBlock ∨ ∀g,v'.ownBlock=some g->w.heap.size<=g)->wpList prog ops Q rest (a.put o.dst v') w'):wpList prog ops Q (o::rest) a w:=by
 obtain⟨i0,hi,hz0,hz1,hz2⟩:=info_parts Tryz.infoS;have hl:=hr.hl;refine Cv.Yo w hg s x _ hop B 9 i0 (.string ByteArray.empty) 1 16 underlying22 hi hz0 hz1 hz2 rfl (by decide) v L.length (L.map Value.string) hs hown (.slice ao len cap) len (M.map Value.string) hx (Qf0 hr hn) (by rw[LI,hl,Nr]) (by intro u hu;obtain⟨y,_,rfl⟩:=List.mem_map.1 hu;rfl) (by unfold maxLen;omega) (by omega) hB ?_
 intro v' w' h;refine hK v' w' ?_ h.grown h.fresh
 rw[Qg,Lh,Nd,hl];exact h.own
theorem Qdw{w:World}{B T s n q:Nat}{y:Value}{xs:List Value}{cs:Array Value}{T':Nat}{fr:Nat×Nat}(h:w.ownsRow B T s y n xs)(hq:w.heap[q]? = some (.cells cs T' fr))(hT:T≠T'):∀g,y.ownBlock=some g->g≠q:=fun g hg e=>by
 subst e;obtain⟨_,cur,hc⟩:=QhZ h hg;rw[hq] at hc;injection hc with hc
 injection hc with _ h2 _
 exact hT h2.symm
structure Lw(w2 wr:World)(p q:Nat)(K:Int)(vs:Value)(S:List Nat)(X D P:LB):Prop where
 ow:Qg wr w2.heap.size vs P
 gc:∃a n c a' n' c',Gc wr p (.slice a n c) (.slice a' n' c')∧Gv wr w2.heap.size (.agg #[.slice a n c,.slice a' n' c']) S X
 rw:Rw wr w2.heap.size q K D
 hp:w2.heap.size<=p
 hq:w2.heap.size<=q
 below:Below w2.heap.size w2 wr
section
variable {w2 wr W:World} {p q:Nat} {K:Int} {vs:Value} {S:List Nat} {X D P:LB}
theorem Lw.next(h:Lw w2 wr p q K vs S X D P)(hb:Below wr.heap.size wr W):Lw w2 W p q K vs S X D P:=by
 obtain⟨a,n,c,a',n',c',g1,g2⟩:=h.gc;exact⟨Qv h.ow hb (Lb _),⟨a,n,c,a',n',c',g1.next hb,g2.next hb⟩,h.rw.next hb,h.hp,h.hq,Qa h.below hb⟩
theorem Rw.ty{RB:Nat}(h:Rw wr RB q K D):∃cs,wr.heap[q]? = some (.cells cs 169 (0,0)):=by
 obtain⟨_,_,_,_,h1,_⟩:=h.ex;exact⟨_,h1⟩
theorem Rw.low{RB:Nat}(h:Rw wr RB q K D)(hq:W.heap[q]? = wr.heap[q]?)(hb:Below RB wr W):Rw W RB q K D:=by
 obtain⟨da,db,dO,dc,h1,h2,h3,h4,h5⟩:=h.ex;refine⟨da,db,dO,dc,hq.trans h1,?_,h3,h4,h5⟩
 by_cases h0:0<D.length
 ·exact h2.same (hb.block db (h5 h0))
 ·exact⟨h2.hl,h2.ptr,fun j v hv=>absurd (List.getElem?_eq_some_iff.1 hv).1 (by rw[LI];omega),h2.sz⟩
theorem Qjs{RB:Nat}{a b:Value}(h:Rw wr RB q K D)(g:Gc wr p a b):p≠q:=fun e=>by
 subst e;obtain⟨cs,h1⟩:=h.ty;rw[g] at h1
 cases h1
theorem Lw.node{D':LB}(h:Lw w2 wr p q K vs S X D P)(hx:Bx q wr W)(hr:Rw W w2.heap.size q K D'):Lw w2 W p q K vs S X D' P:=by
 obtain⟨a,n,c,a',n',c',g1,g2⟩:=h.gc;obtain⟨cs,h1⟩:=h.rw.ty;refine⟨Qr h.ow fun g hg _=>hx.block g (LX h.ow g hg).2 (Qdw h.ow h1 (by decide) g hg),⟨a,n,c,a',n',c',(hx.block p g1.lt (Qjs h.rw g1)).trans g1,g2.bx h.rw hx⟩,hr,h.hp,h.hq,h.below.trans (hx.below h.hq h.below.size)⟩
theorem Lw.app{vs':Value}{P':LB}(h:Lw w2 wr p q K vs S X D P)(ho:Qg W w2.heap.size vs' P')(hg:wr.grownBy W vs.ownBlock):Lw w2 W p q K vs' S X D P'∧(∀p2 a b,Gc wr p2 a b->Gc W p2 a b)∧Below w2.heap.size wr W:=by
 obtain⟨a,n,c,a',n',c',g1,g2⟩:=h.gc;obtain⟨cs,h1⟩:=h.rw.ty;have hlo:∀g,vs.ownBlock=some g->w2.heap.size<=g:=fun g hg=>(LX h.ow g hg).1
 have hb:Below w2.heap.size wr W:=(Lc _ _).grown hg h.below.size hlo;have gcs:∀p2 a b,Gc wr p2 a b->Gc W p2 a b:=fun p2 a b g=>(hg.block p2 g.lt (fun e=>Qdw h.ow g (by decide) p2 e.symm rfl)).trans g
 have hq2:W.heap[q]? = wr.heap[q]? := hg.block q h.rw.lt (fun e=>Qdw h.ow h1 (by decide) q e.symm rfl)
 exact⟨⟨ho,⟨a,n,c,a',n',c',gcs _ _ _ g1,g2.low hb⟩,h.rw.low hq2 hb,h.hp,h.hq,h.below.trans hb⟩,gcs,hb⟩
theorem Lw.cut{S':List Nat}{X':LB}{a a':OA}{n c n' c':Nat}(h:Lw w2 wr p q K vs S X D P)(g:Gv wr w2.heap.size (.agg #[.slice a n c,.slice a' n' c']) S' X'):Lw w2 (put2 wr p (.slice a n c) (.slice a' n' c')) p q K vs S' X' D P:=by
 obtain⟨_,_,_,_,_,_,g1,_⟩:=h.gc;have hc:=QaU wr p (.slice a n c) (.slice a' n' c');have hb:Below w2.heap.size wr (put2 wr p (.slice a n c) (.slice a' n' c')):=hc.below (by rintro b rfl;exact h.hp)
 exact⟨Qr h.ow fun g hg _=>hc.block g (Qdw h.ow g1 (by decide) g hg),⟨_,_,_,_,_,_,g1.put _ _,g.low hb⟩,h.rw.low (hc.block q (Ne.symm (Qjs h.rw g1))) hb,h.hp,h.hq,h.below.trans hb⟩
end
theorem QjQ{w3 w4:World}{k:Int}{vs:Value}{sa da xa:OA}{sb so sc db dO dc xb xo xc:Nat}{S:List Nat}{X D:LB}(hb:Below w3.heap.size w3 w4)(ho:Qg w4 w3.heap.size vs [])(r1:RdU w3 sa sb so X.length S)(r2:RdS w3 xa xb xo X.length X)(r3:RdS w3 da db dO D.length D)(hc:X.length<=sc∧(sa=none->sc=0)∧D.length<=dc∧(da=none->dc=0)∧X.length<=xc∧(xa=none->xc=0)∧(∀s∈X,s.size<=1048576)∧S.length=X.length) :
  Lw w3 ((w4.alloc (.cells #[.slice sa X.length sc,.slice xa X.length xc] 167)).alloc (.cells #[.int .i64 k,.slice da D.length dc] 169)).drew w4.heap.size (w4.heap.size+1) k vs S X D []∧Lw w3 ((w4.alloc (.cells #[.int .i64 k,.slice da D.length dc] 169)).alloc (.cells #[.slice sa X.length sc,.slice xa X.length xc] 167)).drew (w4.heap.size+1) w4.heap.size k vs S X D []:=by
 obtain⟨a1,a2,a3,a4,a5,a6,_,a8⟩:=hc;have hz:=hb.size;have key:∀W,Below w4.heap.size w4 W->(Qg W w3.heap.size vs []∧Gv W w3.heap.size (.agg #[.slice sa X.length sc,.slice xa X.length xc]) S X∧RdS W da db dO D.length D∧Below w3.heap.size w3 W):=fun W hW=>by
  have hbW:=Qa hb hW;refine⟨Qv ho hW (Lb _),⟨sa,sb,so,sc,xa,xb,xo,xc,by rw[a8],by rw[a8];exact r1.next hbW,r2.next hbW (Lb _),by omega,a5,a2,a6,fun h=> ?_,fun h=> ?_⟩,r3.next hbW (Lb _),hbW⟩
  ·exact r1.lt (by omega)
  ·exact r2.lt h
 constructor
 ·obtain⟨e1,e2⟩:=Q9 w4 (.cells #[.slice sa X.length sc,.slice xa X.length xc] 167) (.cells #[.int .i64 k,.slice da D.length dc] 169);obtain⟨k1,k2,k3,k4⟩:=key _ (bal (bal (Lc w4.heap.size w4) (.cells #[.slice sa X.length sc,.slice xa X.length xc] 167)) (.cells #[.int .i64 k,.slice da D.length dc] 169)).drew;exact⟨k1,⟨_,_,_,_,_,_,e1,k2⟩,⟨da,db,dO,dc,e2,k3,a3,a4,fun h=>r3.lt h⟩,hz,by omega,k4⟩
 ·obtain⟨e1,e2⟩:=Q9 w4 (.cells #[.int .i64 k,.slice da D.length dc] 169) (.cells #[.slice sa X.length sc,.slice xa X.length xc] 167);obtain⟨k1,k2,k3,k4⟩:=key _ (bal (bal (Lc w4.heap.size w4) (.cells #[.int .i64 k,.slice da D.length dc] 169)) (.cells #[.slice sa X.length sc,.slice xa X.length xc] 167)).drew;exact⟨k1,⟨_,_,_,_,_,_,e2,k2⟩,⟨da,db,dO,dc,e1,k3,a3,a4,fun h=>r3.lt h⟩,by omega,hz,k4⟩
structure PF(c n:Nat)(M:List (Nat×Nat))(S:List Nat)(X D R:LB):Prop where
 pb:pB c M S X D=R
 row:∃p,Cv.Row n p M∧Fr p n S
 asc:Asc S
 len:X.length=S.length
 dig:(fB M S).length<=D.length
 hX:∀s∈X,s.size<=1048576
 hD:∀s∈D,s.size=c
 hm:S.length<=8796093022208
theorem PF.step{c n:Nat}{m:Nat×Nat}{M:List (Nat×Nat)}{S:List Nat}{X D R:LB}(h:PF c n (m::M) S X D R){t:Nat}(ht:bl S ((m.2+1)*pw m.1)=t) :
  t<=S.length∧In m.1 m.2 (S.take t)∧(tno m.1 m.2 (S.take t)).length<=D.length ∧ ∃R',R=vB c m.1 m.2 (S.take t) (X.take t) D::R'∧PF c n M (S.drop t) (X.drop t) (D.drop (tno m.1 m.2 (S.take t)).length) R':=by
 obtain⟨p,hr,hf⟩:=h.row;have hd:=h.dig;have hpb:=h.pb;rw[fB,ht,Lh] at hd;rw[pB,ht] at hpb;have l1:=Qjp h.asc hf hr.1;have l2:Fr ((m.2+1)*pw m.1) n (S.drop (bl S ((m.2+1)*pw m.1))):=Qc9 h.asc hf;rw[ht] at l1 l2;have hl:=h.len;have hm:=h.hm;refine⟨by rw[<-ht];exact Qcd _ _,l1,by omega,_,hpb.symm,⟨rfl,⟨_,hr.2.2.2,l2⟩,Jr h.asc _,by rw[LD,LD,hl],by rw[LD];omega,fun s hs=>h.hX s ((NY _ _).subset hs),fun s hs=>h.hD s ((NY _ _).subset hs),by rw[LD];omega⟩⟩
theorem Qkp{k:Int}{size:Nat}{S:List Nat}{X D:LB}(hl:S.length=X.length)(hns:X.length<=8796093022208)(hok:okB 2 k 0 size S D)(hsz:∀s∈X,s.size<=1048576):size<=2^40∧PF (clk k) size (Cv.dnL 41 0 size) S X D (pB (clk k) (Cv.dnL 41 0 size) S X D):=by
 obtain⟨⟨_,hk,_⟩,he,hf⟩:=hok;obtain⟨h40,_,_,hc⟩:=Cv.Yt he;have hrow:Cv.Row size 0 (Cv.dnL 41 0 size):=by rw[<-Cv.Yh size h40];exact Cv.QaH 0 size (Lm _) h40
 have ha:=Y9 hc;have hfr:Fr 0 size S:=fun i hi=>Cv.YL hc i hi
 have hck:(clk k:Int)=k:=Ut hk.1 hk.2;refine⟨h40,rfl,⟨0,hrow,hfr⟩,ha,hl.symm,?_,hsz,fun s hs=>by have:=hf.2 s hs;omega,by omega⟩
 rw[Qc3 hrow ha hfr,<-Cv.QbQ size S h40 hc,hf.1,Cv.rstS,Lo he];exact Lb _
theorem broot_ok (w:World) (ht:Tb w) (k:Int) (size:Nat) (sa:OA) (sb so sc:Nat) (S:List Nat) (X:LB) (hs:RdU w sa sb so X.length S) (hns:X.length<=8796093022208) (hsc:X.length<=sc) (hsn:sa=none->sc=0) (da:OA) (db dO dc:Nat) (D:LB) (hr:RdS w da db dO D.length D) (hm:D.length<=8796093022208) (hdc:D.length<=dc) (hdn:da=none->dc=0) (xa:OA) (xb xo xc:Nat) (hx:RdS w xa xb xo X.length X) (hxc:X.length<=xc) (hxn:xa=none->xc=0) (hok:okB 2 k 0 size S D) (hsz:∀s∈X,s.size<=1048576) (r:BA) (hq:dg (clk k) (QO size (Qx (clk k) (pB (clk k) (Cv.dnL 41 0 size) S X D)))=r) :
    Calls prog 50 #[vP 2 k 0 size (.slice sa X.length sc) (.slice da D.length dc),.slice xa X.length xc] w fun e w'=>e= .returned (.tuple #[.agg #[.int .u64 size,.string r],.int .i64 0])∧Below w.heap.size w w':=by
  obtain⟨h40,hpf⟩:=Qkp hs.hl hns hok hsz;obtain⟨M,hM⟩:∃M,Cv.dnL 41 0 size=M:=⟨_,rfl⟩;rw[hM] at hpf hq;obtain⟨P,hP⟩:∃P,pB (clk k) M S X D=P:=⟨_,rfl⟩;rw[hP] at hpf hq;have hMin:∀b∈M,(b.2+1)*2^b.1<=size:=by rw[<-hM];exact Qcm size h40
  have hMl:M.length<=41:=by rw[<-hM];exact Cv.Jv 41 0 size
  have hPl:P.length=M.length:=by rw[<-hP];exact QfR _ _ _ _ _
  have hPs:∀s∈P,s.size=clk k:=by rw[<-hP];exact Qg2 (Qn k) M S X D hpf.hD hpf.dig
  have HI:Hid (∀W,Calls prog 89 #[vP 2 k 0 size (.slice sa X.length sc) (.slice da D.length dc)] W fun e w'=>e= .returned (.bool true)∧Below W.heap.size W w'):=fun W=>Qbu W 2 k 0 size sa X.length sc da D.length dc true (LS hok.1)
  have HF:Hid (∀W,Below w.heap.size w W->Calls prog 90 #[vP 2 k 0 size (.slice sa X.length sc) (.slice da D.length dc)] W fun e w'=>e= .returned (.bool true)∧Below W.heap.size W w'):=fun W hb=>UV W 2 k 0 size sa sb so X.length sc S (hs.next hb) hns da db dO dc D (hr.next hb (Lb _)) hm _ rfl _ rfl true (LS hok.2)
  have HX:Hid (∀W,Below w.heap.size w W->RdS W xa xb xo X.length X∧RdU W sa sb so X.length S∧RdS W da db dO D.length D∧Tb W):=fun W hb=>⟨hx.next hb (Lb _),hs.next hb,hr.next hb (Lb _),ht.next hb⟩
  have HM:Hid (∀W,Calls prog 44 #[.int .u64 size] W fun e w'=> ∃ao g cap,e= .returned (.tuple #[.slice ao M.length cap,.int .i64 0])∧RdB w' ao g 0 M.length (zl M)∧Below W.heap.size W w'):=fun W=>by
    have h:=Cv.Q8 size W;rw[(JQ size h40).1,(JQ size h40).2,hM] at h;refine h.mono fun e w' ⟨v,e1,e2,e3⟩=> ?_
    obtain⟨ao,g,n',cap,rfl,hr',_⟩:=OP e2 (fun b hb=>by
      obtain⟨b0,hb0,rfl⟩:=List.mem_map.1 hb;exact(QgI (hMin b0 hb0) h40).1)
    have hl:=hr'.len;rw[Cv.Yd] at hl;subst hl;exact⟨ao,g,cap,e1,hr',e3⟩
  have HC:Hid (X.length<=sc∧(sa=none->sc=0)∧D.length<=dc∧(da=none->dc=0)∧X.length<=xc∧(xa=none->xc=0)∧(∀s∈X,s.size<=1048576)∧S.length=X.length):=⟨hsc,hsn,hdc,hdn,hxc,hxn,hsz,hs.hl⟩;have HP:Hid (PF (clk k) size M S X D P∧(∀b∈M,(b.2+1)*2^b.1<=size)∧P.length=M.length∧(∀s∈P,s.size=clk k)∧size<=2^40∧M.length<=41∧dg (clk k) (QO size (Qx (clk k) P))=r):=⟨hpf,hMin,hPl,hPs,h40,hMl,hq⟩;obtain⟨W0,hW0⟩:∃W0,(w.alloc (.cells #[.int .i64 2,.int .i64 k,.int .u64 ((0:Nat):Int),.int .u64 size,.slice sa X.length sc,.slice da D.length dc] 68)).alloc (.cells #[.int .u64 0,.string ⟨#[]⟩] 33)=W0:=⟨_,rfl⟩;obtain⟨hb,h6,hRt,hz⟩:=Yj hW0;rw[show((0:Nat):Int)=0 from rfl] at hW0 h6
  obtain⟨c0,c1,c2,c3,c4,c5⟩:=h6.cells;have HR:=Qc (Lx hRt hz);have H6:=Qc h6;have hn5:(X.length:Int)<=8796093022208:=by omega
  have hm5:(M.length:Int)<=41:=by omega
  clear hs hr hm hok h6 hRt hz hx hsz hpf hMin hPl hPs h40 hq hM hP hsc hsn hdc hdn hxc hxn ht hns;unfold vP at HI HF;rw[show((0:Nat):Int)=0 from rfl] at HI HF
  unfold vP;rw[show((0:Nat):Int)=0 from rfl]
  go_enter func50,ntmps50
  go_upto_region 3 with (first
    | (go_at_call 89;with_reducible refine(HI.out _).mono ?_;rintro e w1 ⟨rfl,hb1⟩;obtain⟨d0,d1,d2,d3,d4,d5⟩:=(H6.out.next hb1).cells)
    | (go_at_call 90;with_reducible refine(HF.out _ (Qa hb hb1)).mono ?_;rintro e w2 ⟨rfl,hb2⟩;obtain⟨g0,g1,g2,g3,g4,g5⟩:=(H6.out.next (Qa hb1 hb2)).cells))
  have hbw:=Qa (Qa hb hb1) hb2;have HR2:=Qc (Lx (HR.out.1.below (Qa hb1 hb2) (by rw[HR.out.2];omega)) (H6.out.next (Qa hb1 hb2)))
  clear hb hb1 hb2 c0 c1 c2 c3 c4 c5 d0 d1 d2 d3 d4 d5 HI HF HR H6 hW0;go_wp2
  go_loopg [36] X.length (fun g i wr=> ∃j:Nat,j<=X.length∧g=X.length-j∧i= .int .i64 j∧w2=wr)
  case atStart=>go_light;exact⟨0,Lm _,rfl,rfl,rfl⟩
  case round=>
    obtain⟨j,hj,rfl,rfl,rfl⟩:=hrel
    by_cases hlt:j<X.length
    · have hz:(j:Int)<(X.length:Int):=by omega
      have hz0:(0:Int)<=(j:Int):=Lf _;have hrd:=(HX.out w2 hbw).1;obtain rfl:=hrd.ptr (by omega)
      have cj:=hrd.at hlt;obtain⟨d,hd⟩:∃d,X.getD j ByteArray.empty=d:=⟨_,rfl⟩;rw[hd] at cj;have hk:=HC.out.2.2.2.2.2.2.1 _ (QI hlt);rw[hd] at hk;have hkz:¬(1048576:Int)<(d.size:Int):=by omega
      clear hd hrd hk;go_wp2
      go_roundg (X.length-(j+1))
      case rel=>go_light;exact⟨j+1,by omega,rfl,by go_num,rfl⟩
      case measure=>go_light;omega
    · obtain rfl:j=X.length:=by omega
      have hz:¬((X.length:Int)<(X.length:Int)):=by omega
      clear hlt hj
      go_upto_region 10 with (go_at_call 44;with_reducible refine(HM.out _).mono ?_;rintro e w3 ⟨ao,gM,capM,rfl,hrB,hb3⟩)
      have HMk:=QfJ w3 M.length (by omega)
      have HO:Hid (Qg (w3.alloc (.cells (madeCells #[.string ByteArray.empty] M.length) 9)) w3.heap.size (.slice (Zp w3.heap.size) 0 M.length) []):=QbK w3 _ (by omega)
      go_upto_region 11 with (fail)
      have hb4:=bal (Lc w3.heap.size w3) (.cells (madeCells #[.string ByteArray.empty] M.length) 9);generalize w3.alloc (.cells (madeCells #[.string ByteArray.empty] M.length) 9)=w4 at *;have h63:=HR2.out.2.next (Qa hb3 hb4);obtain⟨k0,k1,k2,k3,k4,k5⟩:=h63.cells;have hl4:w.heap.size<w4.heap.size:=h63.lt;have hl5:w.heap.size<=w4.heap.size:=I8 hl4;have hl6:w.heap.size<w4.heap.size+1:=Nat.lt_succ_of_lt hl4;have hbw3:=Qa hbw hb3;have HB:=Qc (Lx hrB (Lx hbw3 (Lx hb4 (Lx (HR2.out.1.below hb3 (Ll w2 _ HR2.out.1.c0)) (HR2.out.2.next hb3)))));clear HM hrB hb3 hb4 h63 hbw3 hbw g0 g1 g2 g3 g4 g5 HMk hz
      go_cut [11,12] from 54 to 62 (fun x y wx=> ∃p q,x=Zv p∧y=Zv q∧Lw w3 wx p q k (.slice (Zp w3.heap.size) 0 M.length) S X D [])
      case first=>
        go_region
        all_goals
          go_wp2
          go_meet
          case rel=>
            go_light;have hst:=QjQ (k:=k) HB.out.2.2.1 HO.out (HX.out w3 HB.out.2.1).2.1 (HX.out w3 HB.out.2.1).1 (HX.out w3 HB.out.2.1).2.2.1 HC.out
            first
              | with_reducible exact⟨_,_,rfl,rfl,hst.1⟩
              | with_reducible exact⟨_,_,rfl,rfl,hst.2⟩
      case rest=>
        obtain⟨p,q,rfl,rfl,hL⟩:=hcut;have HL:=Qc hL;clear hL HO k0 k1 k2 k3 k4 k5 hl4 hl5 hl6;go_wp2
        go_loopg [10,65] M.length (fun g vs i wr=> ∃(j:Nat) (S':List Nat) (X' D':LB),j<=M.length∧g=M.length-j∧i= .int .i64 j∧Hid (PF (clk k) size (M.drop j) S' X' D' (P.drop j))∧Hid (Lw w3 wr p q k vs S' X' D' (P.take j)))
        case atStart=>go_light;exact⟨0,S,X,D,Lm _,rfl,rfl,HP.out.1,HL.out⟩
        case round=>
          clear HL;obtain⟨j,S',X',D',hj,rfl,rfl,HPj,HLj⟩:=hrel
          by_cases hlt:j<M.length
          · have hz:(j:Int)<(M.length:Int):=by omega
            have hz0:(0:Int)<=(j:Int):=Lf _;have hrd:=HB.out.1.below HLj.out.below;obtain rfl:=hrd.addr (by omega)
            obtain⟨c0,c1⟩:=hrd.cell j hlt;obtain⟨⟨mh,mk⟩,hx⟩:∃x,M.getD j (0,0)=x:=⟨_,rfl⟩;rw[Cv.QnA,hx] at c0 c1;rw[Lp] at c0 c1;have hdr:M.drop j=(mh,mk)::M.drop (j+1):=by rw[<-hx];exact Cv.Qc0 (0,0) M j hlt
            have hmem:(mh,mk)∈M:=by rw[<-hx,La,Ld hlt];exact LN _
            have hend:(mk+1)*pw mh<=2^40:=Lt (HP.out.2.1 _ hmem) HP.out.2.2.2.2.1;have hmh:mh<=40:=(QgI (b:=(mh,mk)) hend (Lb _)).2.1;obtain⟨t,htt⟩:∃t,bl S' ((mk+1)*pw mh)=t:=⟨_,rfl⟩;have hPF:=HPj.out;rw[hdr] at hPF;obtain⟨t1,t2,t3,R',hR',hPF'⟩:=hPF.step (m:=(mh,mk)) htt;obtain⟨ga,gn,gc,ga',gn',gc',hgc,hgv⟩:=HLj.out.gc;obtain⟨o3,ho3⟩:∃o3,Obj.cells #[.int .i64 mh,.int .u64 mk] 131 (0,0)=o3:=⟨_,rfl⟩;have e3:=Lr wr o3;have hb2:=bal (Lc wr.heap.size wr) o3;obtain⟨V,hV⟩:∃V,wr.alloc o3=V:=⟨_,rfl⟩;rw[hV] at e3 hb2;rw[<-ho3] at e3 hV;have hgcV:=hgc.next hb2;obtain⟨g0,g1,_⟩:=hgcV.cells;have d0:V.cell? ⟨wr.heap.size,0,none⟩=some (.int .i64 mh):=by rw[cell_of_row _ _ 0 _ _ (0,0) e3];rfl
            have d1:V.cell? ⟨wr.heap.size,1,none⟩=some (.int .u64 mk):=by rw[cell_of_row _ _ 1 _ _ (0,0) e3];rfl
            obtain⟨pp,hpp⟩:∃pp,(mk+1)*pw mh=pp:=⟨_,rfl⟩;have HE:Hid (∀Z,Calls prog 92 #[.agg #[.int .i64 mh,.int .u64 mk]] Z fun e w'=>e= .returned (.int .u64 pp)∧Below Z.heap.size Z w'):=fun Z=>QgB Z mh mk hmh hend pp hpp
            have HCt:Hid (∀Z,Below V.heap.size V Z->Calls prog 91 #[.agg #[.slice ga gn gc,.slice ga' gn' gc'],.int .u64 pp] Z fun e w'=> ∃v1 v2,e= .returned (.tuple #[v1,v2])∧Gv w' w3.heap.size v1 (S'.take t) (X'.take t)∧Gv w' w3.heap.size v2 (S'.drop t) (X'.drop t)∧Below Z.heap.size Z w'):=fun Z hZ=>Qgy Z _ S' X' (hgv.next (Qa hb2 hZ)) hPF.len hPF.asc (by have:=hPF.hm;omega) pp t (by rw[<-hpp];exact htt)
            have HV:=Qc hb2;have HK:Hid (∀Z,Below V.heap.size V Z->Z.cell? ⟨p,0,none⟩=some (.slice ga gn gc)∧Z.cell? ⟨p,1,none⟩=some (.slice ga' gn' gc')∧Z.cell? ⟨wr.heap.size,0,none⟩=some (.int .i64 mh)∧Z.cell? ⟨wr.heap.size,1,none⟩=some (.int .u64 mk)):=fun Z hZ=>
              ⟨(hZ.cell (p:=⟨p,0,none⟩) (Ll V _ g0)).trans g0,(hZ.cell (p:=⟨p,1,none⟩) (Ll V _ g1)).trans g1,(hZ.cell (p:=⟨wr.heap.size,0,none⟩) (Ll V _ d0)).trans d0,(hZ.cell (p:=⟨wr.heap.size,1,none⟩) (Ll V _ d1)).trans d1⟩
            have hLV:=HLj.out.next hb2;have HLV:=Qc hLV;have HPV:=Qc (Lx hPF (Lx t1 (Lx t2 (Lx t3 (Lx hR' (Lx hPF' (Lx hmh hend)))))));clear hx hdr hmem hrd hpp hPF t1 t2 t3 hR' hPF' hend hmh htt hgc hgv hb2 hgcV hLV ho3 e3 HPj
            go_upto_region 15 with (fail)
            clear hV HLj c0 c1
            go_cut [15,16] from 69 to 75 (fun x y wx=> ∃p1 p2 a1 b1 a2 b2,x=Zv p1∧y=Zv p2∧Fi w3.heap.size V.heap.size V wx p1 p2 a1 b1 a2 b2 (S'.take t) (S'.drop t) (X'.take t) (X'.drop t))
            case first=>
              go_region_held3 (fun Z=>Z.cell? ⟨p,0,none⟩=some (.slice ga gn gc)∧Z.cell? ⟨p,1,none⟩=some (.slice ga' gn' gc')∧Z.cell? ⟨wr.heap.size,0,none⟩=some (.int .i64 mh)∧Z.cell? ⟨wr.heap.size,1,none⟩=some (.int .u64 mk))
                (exact HK.out _ (by repeat (first|exact Lc _ _|refine NF ?_|refine bal ?_ _|refine Qa ?_ hbc|refine Qa ?_ hbe|refine Qab ?_ (by omega)))) (first
                | (go_at_call 92;with_reducible refine(HE.out _).mono ?_;rintro e we ⟨rfl,hbe⟩
                   have s1:=hbe.size
                   try simp only[World.size_alloc,World.drew] at s1
                   first|(have y1:=(QaM V).1.next hbe;have y2:=(QaM V).2.next hbe)|(have y1:=(QgM V).next hbe)|skip)
                | (go_at_call 91;with_reducible refine(HCt.out _ (by repeat (first|exact Lc _ _|refine NF ?_|refine bal ?_ _|refine Qa ?_ hbe))).mono ?_;rintro e wc ⟨v1,v2,rfl,q1,q2,hbc⟩
                   obtain⟨sa1,sn1,sc1,xa1,xn1,xc1,rfl⟩:=q1.form;obtain⟨sa2,sn2,sc2,xa2,xn2,xc2,rfl⟩:=q2.form;have s2:=hbc.size
                   try simp only[World.size_alloc] at s2
                   first|(have x1:=y1.next hbc;have x2:=y2.next hbc)|(have x1:=y1.next hbc)|(have x1:=y1.next (Qa (bal (Lc _ _) _) hbc);have x2:=(Qda we).next hbc)|(have x1:=(Qdb we).1.next hbc;have x2:=(Qdb we).2.next hbc)|(have x1:=(Qda we).next hbc)|skip
                   try have v1:=x1.lt
                   try have v2:=x2.lt
                   try have u1:=IX x1.lt
                   try have u2:=IX x2.lt
                   try have u3:=IX y1.lt
                   try have u4:=Ne.symm u3
                   try have u5:=Ne.symm u1
                   try have u6:=Ne.symm u2
                   try obtain⟨k0,k1,kf⟩:=x1.cells
                   try obtain⟨m0,m1,mf⟩:=x2.cells))
              all_goals have hVc:Below V.heap.size V wc:=by repeat (first|exact Lc _ _|refine NF ?_|refine bal ?_ _|refine Qa ?_ hbc|refine Qa ?_ hbe)
              all_goals
                go_wp2
                go_meet
                case rel=>
                  go_light
                  first
                    | with_reducible exact⟨_,_,_,_,_,_,rfl,rfl,QgF q1 q2 hVc hVc.size⟩
                    | with_reducible exact⟨_,_,_,_,_,_,rfl,rfl,(QgF q2 q1 hVc hVc.size).swap⟩
                    | with_reducible exact⟨_,_,_,_,_,_,rfl,rfl,QgG q1 q2 hVc hVc.size x1 (by omega)⟩
                    | with_reducible exact⟨_,_,_,_,_,_,rfl,rfl,(QgG q2 q1 hVc hVc.size x1 (by omega)).swap⟩
                    | with_reducible exact⟨_,_,_,_,_,_,rfl,rfl,QgH q1 q2 hVc x1 x2 (by omega) (by omega) (by omega)⟩
                    | with_reducible exact⟨_,_,_,_,_,_,rfl,rfl,QgH q1 q2 hVc x2 x1 (by omega) (by omega) (by omega)⟩
            case rest=>
              obtain⟨p1,p2,a1,b1,a2,b2,rfl,rfl,F1,F2,F3,F4,F5⟩:=hcut;obtain⟨i0,i1,i2,i3⟩:=HK.out wc F5;obtain⟨k0,k1,_⟩:=F1.cells;have hLc:=HLV.out.next F5;have hT:=(HX.out wc (Qa HB.out.2.1 hLc.below)).2.2.2;obtain⟨hPF,t1,t2,t3,hR',hPF',hmh,hend⟩:=HPV.out;have hl1:(S'.take t).length<=8796093022208:=by have:=hPF.hm;rw[Lv];omega
              have HN:=Qhp q k mh mk hmh hend (S'.take t) (X'.take t) D' wc (.agg #[a1,b1]) hT hLc.rw F3 (by rw[Lv,Lv,hPF.len]) (Oq hPF.asc _) t2 t3 (fun s hs=>hPF.hX s ((Iy _ _).subset hs)) hPF.hD (by omega)
              obtain⟨x5,hx5⟩:∃x,vB (clk k) mh mk (S'.take t) (X'.take t) D'=x:=⟨_,rfl⟩;obtain⟨D5,hD5⟩:∃E,D'.drop (tno mh mk (S'.take t)).length=E:=⟨_,rfl⟩;simp only[] at hR' hPF';rw[hx5] at HN hR';rw[hD5] at HN hPF';have e1:P.drop (j+1)=R':=by
                have:=LZ (List.drop 1) hR'
                rwa [Ww,List.drop_one,List.tail_cons] at this
              have e0:P[j]? = some x5:=by
                have:=LZ (fun l=>l[0]?) hR'
                simpa using this
              have e2:P.take (j+1)=P.take j++[x5]:=by rw[Ix,e0];rfl
              have HZ:Hid (x5.size<=9223372036854775807):=by
                show x5.size<=_
                have:=HP.out.2.2.2.1 x5 (Nk e0);have:=Qn k;omega
              have HW:Hid (PF (clk k) size (M.drop (j+1)) (S'.drop t) (X'.drop t) D5 (P.drop (j+1))∧P.take (j+1)=P.take j++[x5]):=⟨by rw[e1];exact hPF',e2⟩
              obtain⟨sa2,sn2,sc2,xa2,xn2,xc2,hv2⟩:=F4.form;obtain⟨rfl,rfl⟩:a2= .slice sa2 sn2 sc2∧b2= .slice xa2 xn2 xc2:=by
                injection hv2 with hv2
                have:=LZ Array.toList hv2
                simpa using this
              have HLc:=Qc hLc;have HF2:=Qc (Lx F2 F4);have HJ:Hid ((P.take j).length<=41):=by show _<=_;rw[Lv];omega
              clear g0 g1 d0 d1 hT hPF t1 t2 t3 hR' hPF' hmh hend hl1 hx5 hD5 e0 e1 e2 hv2 hLc F1 F2 F3 F4 HPV HK HE HCt
              go_wp2_with (first
                | (go_at_call 93;with_reducible refine HN.mono ?_;rintro e w5 ⟨rfl,hr5,hx5⟩)
                | (at_builtin;refine Qat _ rfl _ _ rfl w3.heap.size _ (P.take j) rfl (Q4 (HLc.out.node hx5 hr5).ow _) (Zp w5.heap.size) w5.heap.size 0 1 1 [x5] rfl (YT w5 x5 HZ.out) (fun h=>by cases h) ?c1 ?c2 ?_))
              case c1=>have:=HJ.out;simp only[List.length_singleton];omega
              case c2=>have:=(bal (HLc.out.node hx5 hr5).below (.cells #[.string x5] 9)).size;exact this
              intro vs' w6 o6 gr6 _;have hbx:=bal (Lc w5.heap.size w5) (.cells #[.string x5] 9);obtain⟨L6,gcs,hb6⟩:=((HLc.out.node hx5 hr5).next hbx).app o6 gr6;have G2:Gc w5 p2 (.slice sa2 sn2 sc2) (.slice xa2 xn2 xc2):=(hx5.block p2 HF2.out.1.lt (Qjs HLc.out.rw HF2.out.1)).trans HF2.out.1;have G2:=gcs _ _ _ (G2.next hbx);have hG:=((HF2.out.2.bx HLc.out.rw hx5).next hbx).low hb6;obtain⟨m0,m1,_⟩:=G2.cells;obtain⟨_,_,_,_,_,_,gp,_⟩:=L6.gc;obtain⟨n0,n1,nf⟩:=gp.cells;have HL7:=Qc (L6.cut hG);clear i0 i1 i2 i3 k0 k1 HN hr5 hx5 o6 gr6 hbx L6 gcs hb6 G2 hG gp HLc HF2;go_wp2
              go_roundg (M.length-(j+1))
              case rel=>go_light;exact⟨j+1,_,_,_,by omega,rfl,by go_num,HW.out.1,by show Lw _ _ _ _ _ _ _ _ _ _;rw[HW.out.2];exact HL7.out⟩
              case measure=>go_light;omega
          · obtain rfl:j=M.length:=by omega
            have hz:¬((M.length:Int)<(M.length:Int)):=by omega
            have hL:=HLj.out;rw[Lu (by rw[HP.out.2.2.1];exact Lb _)] at hL
            obtain⟨aP,bP,cP,rfl,rP,_,_⟩:=QJ hL.ow (fun s hs=>by have:=HP.out.2.2.2.1 s hs;have:=Qn k;omega)
            have hbr:=Qa HB.out.2.1 hL.below;have h6:=HB.out.2.2.2.2.next hL.below;have hRt:=HB.out.2.2.2.1.below hL.below (Ll w3 _ HB.out.2.2.2.1.c0);have HRo:Hid (∀Z,Below wr.heap.size wr Z->Calls prog 46 #[.int .i64 k,.int .u64 size,.slice aP P.length cP] Z fun e w'=>e= .returned (.string r)∧Below Z.heap.size Z w'):=fun Z hZ=>OV Z (HX.out Z (Qa hbr hZ)).2.2.2 k size aP bP 0 P.length cP P (rP.next hZ (Lb _)) (fun s hs=>by have:=HP.out.2.2.2.1 s hs;have:=Qn k;omega) (by have:=HP.out.2.2.1;have:=HP.out.2.2.2.2.2.1;omega) r HP.out.2.2.2.2.2.2
            have HK:Hid (∀Z,Below (w.heap.size+1) wr Z->Z.cell? ⟨w.heap.size,1,none⟩=some (.int .i64 k)∧Z.cell? ⟨w.heap.size,3,none⟩=some (.int .u64 size)):=fun Z hZ=>by
              obtain⟨_,c1,_,c3,_,_⟩:=(h6.same (hZ.block w.heap.size (I1 _))).cells;exact⟨c1,c3⟩
            have hle:w.heap.size+1<=wr.heap.size:=h6.lt;have HRr:=Qc (Lx hRt (Lx hbr hle));obtain⟨_,c1,_,c3,_,_⟩:=h6.cells;have hls:w.heap.size+1<wr.heap.size:=Ll wr _ hRt.c0;clear hL rP hlt HLj h6 hRt hbr HPj
            go_upto_region 19 with (fail)
            go_region_held3 (fun Z=>Z.cell? ⟨w.heap.size,1,none⟩=some (.int .i64 k)∧Z.cell? ⟨w.heap.size,3,none⟩=some (.int .u64 size))
              (exact HK.out _ (by repeat (first|exact Lc _ _|refine NF ?_|refine Below.trans ?_ (hbR.mono (by first|omega|(simp;omega)))|refine Qab ?_ (by omega)))) (first
              | (go_at_call 46;with_reducible refine(HRo.out _ (by first|exact Lc _ _|exact(Lc _ _).drew)).mono ?_;rintro e wR ⟨rfl,hbR⟩
                 have hR:=(HRr.out.1.drew).below hbR (by simp;omega)
                 have k0:=hR.c0;have k1:=hR.c1;have f0:=hR.f0;have f1:=hR.f1))
            all_goals go_wp2
            all_goals obtain⟨s0,s1,hch⟩:=Uu hR (size:Int) r
            all_goals refine LA (v := .tuple #[.agg #[.int .u64 size,.string r],.int .i64 0]) (by simp[results,results50,go_sem,s0,s1]) rfl ⟨rfl,?_⟩
            all_goals exact(Qa HRr.out.2.1.drew hbR).trans (hch.below (by rintro b rfl;omega))
end
theorem QnS(s:BA):St.tx s.data.toList=s:=by
 cases s
 rfl
structure Has(k:Nat)(L:LB)(D:St.DV):Prop where
 k1:1<=k
 k2:k<=32
 few:L.length<=65536
 sz:∀s∈L,s.size<=1048576
 down:D.down=false
 i:(St.bA k (itL k L)).a <+: (St.Qh D.L St.nmI).now
 n:(St.bA k (itL k L)).b <+: (St.Qh D.L St.nmN).now
section
variable {k:Nat} {L:LB} {D:St.DV} {S:St.SV}
theorem Has.ok(h:Has k L D):St.OkA k (itL k L):=Qbv h.k1 h.k2 h.few h.sz
theorem Has.item(h:Has k L D)(hS:S.ends=(St.bA k (itL k L)).ends){i:Nat}{x:BA}(hx:L[i]? = some x):St.J8 D S i=(x.data.toList,0) :=
 St.Ql9 h.ok hS h.down h.i i _ (QjB k L i x hx)
theorem Has.get(h:Has k L D)(hS:S.ends=(St.bA k (itL k L)).ends){i:Nat}{x:BA}(hx:L[i]? = some x):gtD D S L i=(x,0):=by
 unfold gtD;rw[h.item hS hx,Le (fun q=>q rfl),Lo,QnS]
 rw[QnS,smL,La,No,hx];rfl
theorem Ql7(h1:1<=k)(h2:k<=32)(hf:L.length<=65536)(hs:∀s∈L,s.size<=1048576)(hd:D.down=false)(he:St.Ext k (itL k L) D.L):Has k L D :=
 ⟨h1,h2,hf,hs,hd,by rw[he.i];exact Wu,by rw[he.n];exact Wu⟩
theorem a_of{D D':St.DV}{S':St.SV}{e:Int}{x:BA}(hx:x.size<=1048576)(hf:S.ends.length<65536)(hk:S.k=k)(ha:St.Ur D S x.data.toList (mdL k L x)=(D',S',e)):aD D S L x=(D',S',if e=0 then L++[x] else L,e):=by
 unfold aD;rw[Le (by omega),Le (by omega),hk,ha]
end
theorem QpD{k c:Nat} : ∀(L:LB),(∀s∈L,s.size<=c)->(St.bA k (itL k L)).a.length<=(c+8)*L.length:=by
 intro L;refine St.Jb (P:=fun L=>(∀s∈L,s.size<=c)->(St.bA k (itL k L)).a.length<=(c+8)*L.length) (fun _=>by simp[itL,St.bA,St.BV.z]) (fun L x ih h=> ?_) L
 have h1:=ih fun y hy=>h y (NH _ hy)
 have h2:=h x (by simp)
 rw[Qet,St.Y4]
 show((St.bA k (itL k L)).a++St.Rc.pay x.data.toList).length<=_
 rw[Lh,St.Rc.pay_len,Lh,Nb,N9,Nr];have:x.data.toList.length=x.size:=by simp
 omega
theorem QjC{k c:Nat}(h1:1<=k)(h2:k<=32)(hc:c<=1048576){L:LB}(hf:L.length<=65536)(hs:∀s∈L,s.size<=c):(St.bA k (itL k L)).a.length+(St.bA k (itL k L)).b.length+(St.bA k (itL k L)).m.length<=(c+152)*L.length:=by
 have l:=(Qbv h1 h2 hf (fun s h=>Lt (hs s h) hc)).lens
 have a:=QpD (k:=k) L hs;have n:=St.Qcw L.length;have b:=l.b;have m:=l.m;rw[OD] at b m;rw[L4] at a ⊢;omega
theorem a_qt{k R:Nat}{L:LB}{x:BA}{D:St.DV}(h1:1<=k)(h2:k<=32)(hf:L.length<65536)(hs:∀s∈L++[x],s.size<=1048576)(hq:St.Qt R D)(he:St.Ext k (itL k L) D.L)(hR:(St.bA k (itL k (L++[x]))).a.length+(St.bA k (itL k (L++[x]))).b.length+(St.bA k (itL k (L++[x]))).m.length<=R)(hz:R<=268435456) :
  ∃D',aD D (St.sA k (itL k L)) L x=(D',St.sA k (itL k (L++[x])),L++[x],0)∧St.Qt R D'∧St.Ext k (itL k (L++[x])) D'.L∧D'.acts=D.acts+6:=by
 have hok:=Qbv h1 h2 (L:=L++[x]) (by rw[Lh,Nb];omega) hs
 have hok0:=Qbv h1 h2 (L:=L) (by omega) (fun s h=>hs s (NH _ h))
 rw[Qet] at hok hR ⊢;obtain⟨D',y1,y2,y3,y4⟩:=St.QnW hok hq he hR hz;refine⟨D',?_,y2,y3,y4⟩
 have he:(St.sA k (itL k L)).ends.length=L.length:=by
  show(St.bA k (itL k L)).ends.length=_
  rw[hok0.lens.ends,OD]
 rw[a_of (hs x (by simp)) (by omega) rfl y1,Lo rfl]
def Dw(w W:World)(p:Nat)(D:St.DV):Prop := ∃Sd,St.Dsk W p Sd D∧(∀b,Sd b->w.heap.size<=b)∧Below w.heap.size w W
def Nl(w W:World)(a p:Nat)(D:St.DV)(S:St.SV)(L:LB):Prop := ∃U,Lg W 0 a p U D S L∧(∀b,U b->w.heap.size<=b)∧Below w.heap.size w W
section
variable {w W W1:World} {a p:Nat} {D D':St.DV} {S S':St.SV} {L L':LB}
theorem Nl.below(h:Nl w W a p D S L):Below w.heap.size w W:=by obtain⟨_,_,_,hb⟩:=h;exact hb
theorem QoM(w:World)(n:Nat)(hn:n<=268435456):Calls prog 12 #[.int .i64 n] w fun e w'=> ∃p,e= .returned (Zv p)∧Dw w w' p (St.U8 n) :=
 (St.Qdk w n n (by omega) (by omega)).mono fun e w' z=>by
  obtain⟨p,Sd,z1,z2,z3,z4⟩:=z;exact⟨p,z1,Sd,z2,z3,z4⟩
theorem Dw.open(ht:Tb w){R:Nat}(hR:R<=268435456)(h:Dw w W p (St.U8 R))(k:Nat)(k1:1<=k)(k2:k<=32) :
  Calls prog 13 #[Zv p,.int .i64 k] W fun e w'=> ∃a,e= .returned (.tuple #[Zv a,.int .i64 0])∧Nl w w' a p (St.nD R 3) (St.sA k (itL k [])) []:=by
 obtain⟨Sd,h1,h2,h3⟩:=h;refine(QhS W (ht.next h3) R hR h1 (fun e=>by have:=ht.lt;have:=h2 _ e;omega) k k1 k2).mono fun e w' z=> ?_
 obtain⟨a,U,z1,z2,z3,z5⟩:=z;exact⟨a,z1,U,z2,fun b hb=>(z3 b hb).elim (h2 b) (fun e=>Lt h3.size e),h3.trans (z5.below h3.size h2)⟩
theorem Nl.tb(h:Nl w W a p D S L)(ht:Tb w):Tb W:=ht.next h.below
theorem Nl.root(h:Nl w W a p D S L)(ht:Tb w)(n:Nat)(hn:n<=L.length)(r:BA)(hq:rtD S.k L n=r):Calls prog 6 #[Zv a,.int .u64 n] W fun e w'=>e= .returned (.tuple #[.agg #[.int .u64 n,.string r],.int .i64 0])∧Below W.heap.size W w':=by
 have ht1:=h.tb ht;obtain⟨U,y1,y2,y3⟩:=h;exact Qex W ht1 y1 n hn r hq
end
namespace St
theorem QoH(k R j:Nat):Ext k [] (nD R j).L∧Qt R (nD R j):=⟨⟨rfl,rfl,rfl,fun _ _ _ _=>rfl⟩,rfl,rfl,Un,rfl⟩
theorem QpL{R:Nat}{D:DV}(h:Qt R D)(he:Oth D.L)(hR:R<=268435456)(ha:D.acts<=1000000):Rm 7 D:=⟨by omega,by have:=(J3 h.ord he).2;omega,by have:=h.tot;omega⟩
end St
structure Fit(k R c:Nat)(L:LB):Prop where
 k1:1<=k
 k2:k<=32
 c1:c<=1048576
 few:L.length<=65536
 sz:∀s∈L,s.size<=c
 room:(c+152)*L.length<=R
 top:R<=268435456
theorem Fit.init{k R c:Nat}{L:LB}{x:BA}(h:Fit k R c (L++[x])):Fit k R c L :=
 ⟨h.k1,h.k2,h.c1,by have:=h.few;simp at this;omega,fun s hs=>h.sz s (NH _ hs),by have:=h.room;rw[Lh,N9] at this;omega,h.top⟩
theorem Fit.szs{k R c:Nat}{L:LB}(h:Fit k R c L):∀s∈L,s.size<=1048576:=fun s hs=>Lt (h.sz s hs) h.c1
theorem Fit.has{k R c:Nat}{L:LB}{D:St.DV}(h:Fit k R c L)(hd:D.down=false)(he:St.Ext k (itL k L) D.L):Has k L D:=Ql7 h.k1 h.k2 h.few h.szs hd he
theorem QkH{k R c:Nat}{L:LB}(h:Fit k R c L):(St.sA k (itL k L)).ends.length=L.length:=by
 show(St.bA k (itL k L)).ends.length=_
 rw[(Qbv h.k1 h.k2 h.few h.szs).lens.ends,OD]
theorem Fit.one{k R c:Nat}{L:LB}{x:BA}{D:St.DV}(h:Fit k R c (L++[x]))(hq:St.Qt R D)(he:St.Ext k (itL k L) D.L) :
  ∃D',aD D (St.sA k (itL k L)) L x=(D',St.sA k (itL k (L++[x])),L++[x],0)∧St.Qt R D'∧St.Ext k (itL k (L++[x])) D'.L∧D'.acts=D.acts+6 :=
 a_qt h.k1 h.k2 (by have:=h.few;simp at this;omega) h.szs hq he (Lt (QjC h.k1 h.k2 h.c1 h.few h.sz) h.room) h.top
theorem QnC{k R c:Nat} : ∀(xs L:LB) (D:St.DV),Fit k R c (L++xs)->St.Qt R D->St.Ext k (itL k L) D.L->D.acts+6*xs.length<=1000000 ->
  ∃D',apD D (St.sA k (itL k L)) L xs=(D',St.sA k (itL k (L++xs)),L++xs,xs.length,0)∧St.Qt R D'∧St.Ext k (itL k (L++xs)) D'.L∧D'.acts=D.acts+6*xs.length∧RmA D (St.sA k (itL k L)) L xs
 | [],L,D,_,hq,he,_=>⟨D,by rw[L7];rfl,hq,by rw[L7];exact he,rfl,trivial⟩
 | x::xs,L,D,hf,hq,he,ha=>by
  rw[show L++x::xs=L++[x]++xs by simp] at hf ⊢
  have hf1:Fit k R c (L++[x]):=⟨hf.k1,hf.k2,hf.c1,by have:=hf.few;rw[Lh] at this;omega,fun s hs=>hf.sz s (NH _ hs),Lt (IG _ (by simp)) hf.room,hf.top⟩
  simp only[List.length_cons] at ha;obtain⟨D1,y1,y2,y3,y4⟩:=hf1.one hq he;obtain⟨D2,z1,z2,z3,z4,z5⟩:=QnC xs (L++[x]) D1 hf y2 y3 (by omega)
  refine⟨D2,?_,z2,z3,by rw[z4,y4,LJ];omega,?_⟩
  ·rw[apD,y1];simp only[if_true];rw[z1];rfl
  ·rw[RmA,y1];exact⟨St.QpL hq he.oth (hf.top) (by omega),fun _=>z5⟩
section
variable {w W W1:World} {a p:Nat} {D D':St.DV} {S S':St.SV} {L L' K:LB} {v:Value}
def Jl(w W:World)(a p:Nat)(D:St.DV)(S:St.SV)(L:LB)(v:Value)(K:LB):Prop :=
 ∃U,Lg W 0 a p U D S L∧(∀b,U b->w.heap.size<=b)∧Below w.heap.size w W∧Qg W w.heap.size v K ∧ ∀g,v.ownBlock=some g -> ¬U g
theorem Jl.nl(h:Jl w W a p D S L v K):Nl w W a p D S L:=by obtain⟨U,h1,h2,h3,_⟩:=h;exact⟨U,h1,h2,h3⟩
theorem Nl.jn(h:Nl w W a p D S L):Jl w W a p D S L (.slice none 0 0) []:=by obtain⟨U,h1,h2,h3⟩:=h;exact⟨U,h1,h2,h3,Uc _ _,fun g hg=>by cases hg⟩
theorem Jl.own(h:Jl w W a p D S L v K):Qg W w.heap.size v K:=by obtain⟨U,_,_,_,h4,_⟩:=h;exact h4
theorem Jl.next(h:Jl w W a p D S L v K)(hb:Below W.heap.size W W1):Jl w W1 a p D S L v K:=by
 obtain⟨U,h1,h2,h3,h4,h5⟩:=h;exact⟨U,h1.next hb,h2,Qa h3 hb,Qv h4 hb (Lb _),h5⟩
theorem Jl.append(h:Jl w W a p D S L v K)(ht:Tb w)(he:S.ends.length=L.length)(hb:Below W.heap.size W W1)(ao:OA)(b len cap:Nat)(xs:LB)(hr:RdS W1 ao b 0 len xs)(hlen:len<=1000000)(n3:0<len->b<w.heap.size∨W.heap.size<=b)(hR:RmA D S L xs)(n:Nat)(e0:Int)(hA:apD D S L xs=(D',S',L',n,e0)) :
  Calls prog 14 #[Zv a,.slice ao len cap] W1 fun e w'=>e= .returned (.tuple #[.int .i64 n,.int .i64 e0])∧Jl w w' a p D' S' L' v K:=by
 obtain⟨U,y1,y2,y3,y4,y5⟩:=h;have hb3:=Qa y3 hb;refine(Qeu W1 (ht.next hb3) (y1.next hb) he ao b len cap xs hr (by omega) (fun h0 hu=> ?_) hR n e0 hA).mono fun e w' z=>⟨z.1,?_⟩
 ·have:=y1.lt hu;have:=y2 b hu
  rcases n3 h0 with e|e <;> omega
 ·obtain⟨U',z1,z2,z3⟩:=z.2;have y6:=Qv y4 hb (Lb _);refine⟨U',z1,fun c hc=>(z2 c hc).elim (y2 c) (fun e=>Lt hb3.size e),hb3.trans (z3.below hb3.size y2),St.QK y6 fun g hg=>z3.block g (Oi y6 hg) (y5 g hg),fun g hg hu=> ?_⟩
  rcases z2 g hu with e|e
  ·exact y5 g hg e
  ·have:=Oi y6 hg;omega
theorem Jl.app(h:Jl w W a p D S L v K)(hb:Below W.heap.size W W1)(ty:Nat)(ad:Addr)(mc:Nat)(x:BA)(hr:∀j u,[Value.string x][j]? = some u->W1.cell? (ad.add j)=some u)(hlen:K.length+1<=1048576) :
  ∃v' w',(Builtin.append_ #[22,22] ty #[v,.slice (some ad) 1 mc]).run prog W1= .ok v' w'∧Jl w w' a p D S L v' (K++[x]):=by
 obtain⟨U,y1,y2,y3,y4,y5⟩:=h.next hb;obtain⟨v',w5,hap,o5,g5⟩:=QcI W1 ty w.heap.size v K y4 ad mc x hr hlen y3.size;refine⟨v',w5,hap,?_⟩
 have t5:St.Upo (fun b=>v.ownBlock=some b) W1 w5:=by
  rcases g5 with ⟨g,n,c,e1,e2,g3⟩|⟨g3,_⟩
  ·rw[e1];exact St.Upo.grown g3 (fun b hb=>by cases hb;rfl)
  ·exact St.Upo.grown g3 (fun b hb=>by cases hb)
 have hv5:∀b,v'.ownBlock=some b->v.ownBlock=some b∨W1.heap.size<=b:=fun b hb=>by
  rcases g5 with ⟨g',n,c,e1,e2,g3⟩|⟨_,g3⟩
  ·rw[e1];rw[e2] at hb;exact .inl hb
  ·exact .inr (g3 b hb)
 refine⟨U,y1.same fun x hx=>t5.block x (y1.lt hx) fun e=>y5 x e hx,y2,y3.trans (t5.below y3.size fun b hb=>(LX y4 b hb).1),o5,fun g hg hu=> ?_⟩
 rcases hv5 g hg with e|e
 ·exact y5 g e hu
 ·have:=y1.lt hu;omega
end
end Go.Proofs.YtoblgjledefdbabGreatDoor
