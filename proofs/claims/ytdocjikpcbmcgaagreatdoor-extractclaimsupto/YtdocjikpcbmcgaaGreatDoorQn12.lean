/- Own work. -/
import Derived.Test.YtdocjikpcbmcgaaGreatDoorQn11
set_option maxRecDepth 100000
set_option maxHeartbeats 8000000
namespace Go.Proofs.YtdocjikpcbmcgaaGreatDoor
open Go.RowKit
attribute [local go_sem ↓] Go.wp_at_zero Go.wp_at_succ
open Go.Proofs.Tryz
section
open Cv (RdC zl cU tno)
open Pl (pw)
theorem Qaw{w:World}{B T s n:Nat}{y:Value}{cs:List Value}(h:w.ownsRow B T s y n cs){g:Nat}(hg:y.ownBlock=some g):B<=g ∧ ∃cur,w.heap[g]? = some (.cells cur T (0,0)):=by
 obtain⟨_,h2⟩:=h
 rcases h2 with ⟨rfl,_⟩|⟨g',cap,cur,rfl,hb,hh,_⟩
 ·cases hg
 ·cases hg;exact⟨hb,cur,hh⟩
theorem Qf9{w:World}{ao:OA}{b off len cap:Nat}{l:LB}(h:RdS w ao b off len l)(hn:ao=none->cap=0):RdC w (.slice ao len cap) len (l.map Value.string):=by
 refine⟨ao,cap,rfl,fun e=>⟨?_,hn e⟩,fun ad ha j c hj => ?_⟩
 ·rcases Nat.eq_zero_or_pos len with h0|h0
  ·exact h0
  ·have:=h.ptr h0;rw[e] at this;cases this
 ·have xA:j<len:=by have:=(List.getElem?_eq_some_iff.1 hj).1;rw[Lx,h.hl] at this;exact this
  have:=h.ptr (by omega)
  rw[ha] at this
  cases this;rw[Addr.add_mid];exact h.rng j c hj
theorem QS(w:World){ops:Array Oper}{rest:List Oper}{o:Oper}{a:Act}{Q:Exit->Act->World->Prop}
  (hg:o.guard=none) (s x:Operand) (hop:o.op=Op.call { callee:=Callee.builtin Builtin.append,args:=#[s,x],argTypes:=#[22,22] })
  (B:Nat) (v:Value) (L:LB) (hs:a.eval s=v) (hown:Qk w B v L) (ao:OA) (b off len cap:Nat) (M:LB) (hx:a.eval x = .slice ao len cap) (hr:RdS w ao b off len M) (hn:ao=none->cap=0)
  (hlen:L.length+M.length<=1048576) (hB:B<=w.heap.size)
  (hK : ∀v' w',Qk w' B v' (L++M)->w.grownBy w' v.ownBlock->(v'.ownBlock=v.ownBlock ∨ ∀g,v'.ownBlock=some g->w.heap.size<=g)->wpList prog ops Q rest (a.put o.dst v') w'):wpList prog ops Q (o::rest) a w:=by
 obtain⟨i0,hi,xA,xB,xC⟩:=info_parts Tryz.infoS;have hl:=hr.hl;refine Cv.QG w hg s x _ hop B 9 i0 (.string ByteArray.empty) 1 16 underlying22 hi xA xB xC rfl (by decide) v L.length (L.map Value.string) hs hown (.slice ao len cap) len (M.map Value.string) hx (Qf9 hr hn) (by rw[Lx,hl,Iw]) (by intro u hu;obtain⟨y,_,rfl⟩:=List.mem_map.1 hu;rfl) (by unfold maxLen;omega) (by omega) hB ?_
 intro v' w' h;refine hK v' w' ?_ h.grown h.fresh
 rw[Qk,Lg,L8,hl];exact h.own
theorem QdS{w:World}{B T s n q:Nat}{y:Value}{xs:List Value}{cs:Array Value}{T':Nat}{fr:Nat×Nat}(h:w.ownsRow B T s y n xs)(hq:w.heap[q]? = some (.cells cs T' fr))(hT:T≠T') : ∀g,y.ownBlock=some g->g≠q:=fun g hg e=>by
 subst e;obtain⟨_,cur,hc⟩:=Qaw h hg;rw[hq] at hc;injection hc with hc
 injection hc with _ h2 _
 exact hT h2.symm
structure Lw(w2 wr:World)(p q:Nat)(K:Int)(vs:Value)(S:List Nat)(X D P:LB):Prop where
 ow:Qk wr w2.heap.size vs P
 gc : ∃a n c a' n' c',Gc wr p (.slice a n c) (.slice a' n' c')∧Gv wr w2.heap.size (.agg #[.slice a n c,.slice a' n' c']) S X
 rw:Rw wr w2.heap.size q K D
 hp:w2.heap.size<=p
 hq:w2.heap.size<=q
 below:Zb w2 wr
section
variable {w2 wr W:World} {p q:Nat} {K:Int} {vs:Value} {S:List Nat} {X D P:LB}
theorem Lw.next(h:Lw w2 wr p q K vs S X D P)(hb:Zb wr W):Lw w2 W p q K vs S X D P:=by
 obtain⟨a,n,c,a',n',c',g1,g2⟩:=h.gc;exact⟨Qm h.ow hb (Ld _),⟨a,n,c,a',n',c',g1.next hb,g2.next hb⟩,h.rw.next hb,h.hp,h.hq,Qa h.below hb⟩
theorem Rw.ty{RB:Nat}(h:Rw wr RB q K D) : ∃cs,wr.heap[q]? = some (.cells cs 162 (0,0)):=by
 obtain⟨_,_,_,_,h1,_⟩:=h.ex;exact⟨_,h1⟩
theorem Rw.low{RB:Nat}(h:Rw wr RB q K D)(hq:W.heap[q]? = wr.heap[q]?)(hb:Below RB wr W):Rw W RB q K D:=by
 obtain⟨da,db,dO,dc,h1,h2,h3,h4,h5⟩:=h.ex;refine⟨da,db,dO,dc,hq.trans h1,?_,h3,h4,h5⟩
 by_cases h0:0<D.length
 ·exact h2.same (hb.block db (h5 h0))
 ·exact⟨h2.hl,h2.ptr,fun j v hv=>absurd (List.getElem?_eq_some_iff.1 hv).1 (by rw[Lx];omega),h2.sz⟩
theorem Qjr{RB:Nat}{a b:Value}(h:Rw wr RB q K D)(g:Gc wr p a b):p≠q:=fun e=>by
 subst e;obtain⟨cs,h1⟩:=h.ty;rw[g] at h1
 cases h1
theorem Lw.node{D':LB}(h:Lw w2 wr p q K vs S X D P)(hx:Bx q wr W)(hr:Rw W w2.heap.size q K D'):Lw w2 W p q K vs S X D' P:=by
 obtain⟨a,n,c,a',n',c',g1,g2⟩:=h.gc;obtain⟨cs,h1⟩:=h.rw.ty;refine⟨Qi h.ow fun g hg _=>hx.block g (LP h.ow g hg).2 (QdS h.ow h1 (by decide) g hg),⟨a,n,c,a',n',c',(hx.block p g1.lt (Qjr h.rw g1)).trans g1,g2.bx h.rw hx⟩,hr,h.hp,h.hq,h.below.trans (hx.below h.hq h.below.size)⟩
theorem Lw.app{vs':Value}{P':LB}(h:Lw w2 wr p q K vs S X D P)(ho:Qk W w2.heap.size vs' P')(hg:wr.grownBy W vs.ownBlock):Lw w2 W p q K vs' S X D P'∧(∀p2 a b,Gc wr p2 a b->Gc W p2 a b)∧Below w2.heap.size wr W:=by
 obtain⟨a,n,c,a',n',c',g1,g2⟩:=h.gc;obtain⟨cs,h1⟩:=h.rw.ty;have xB : ∀g,vs.ownBlock=some g->w2.heap.size<=g:=fun g hg=>(LP h.ow g hg).1
 have hb:Below w2.heap.size wr W:=(Lb _ _).grown hg h.below.size xB;have xA : ∀p2 a b,Gc wr p2 a b->Gc W p2 a b:=fun p2 a b g=>(hg.block p2 g.lt (fun e=>QdS h.ow g (by decide) p2 e.symm rfl)).trans g
 have xC:W.heap[q]? = wr.heap[q]? := hg.block q h.rw.lt (fun e=>QdS h.ow h1 (by decide) q e.symm rfl)
 exact⟨⟨ho,⟨a,n,c,a',n',c',xA _ _ _ g1,g2.low hb⟩,h.rw.low xC hb,h.hp,h.hq,h.below.trans hb⟩,xA,hb⟩
theorem Lw.cut{S':List Nat}{X':LB}{a a':OA}{n c n' c':Nat}(h:Lw w2 wr p q K vs S X D P)(g:Gv wr w2.heap.size (.agg #[.slice a n c,.slice a' n' c']) S' X'):Lw w2 (put2 wr p (.slice a n c) (.slice a' n' c')) p q K vs S' X' D P:=by
 obtain⟨_,_,_,_,_,_,g1,_⟩:=h.gc;have hc:=O0 wr p (.slice a n c) (.slice a' n' c');have hb:Below w2.heap.size wr (put2 wr p (.slice a n c) (.slice a' n' c')):=hc.below (by rintro b rfl;exact h.hp)
 exact⟨Qi h.ow fun g hg _=>hc.block g (QdS h.ow g1 (by decide) g hg),⟨_,_,_,_,_,_,g1.put _ _,g.low hb⟩,h.rw.low (hc.block q (Ne.symm (Qjr h.rw g1))) hb,h.hp,h.hq,h.below.trans hb⟩
end
theorem QjG{w3 w4:World}{k:Int}{vs:Value}{sa da xa:OA}{sb so sc db dO dc xb xo xc:Nat}{S:List Nat}{X D:LB}(hb:Zb w3 w4)(ho:Qk w4 w3.heap.size vs [])(r1:RdU w3 sa sb so X.length S)(r2:RdS w3 xa xb xo X.length X)(r3:RdS w3 da db dO D.length D)(hc:X.length<=sc∧(sa=none->sc=0)∧D.length<=dc∧(da=none->dc=0)∧X.length<=xc∧(xa=none->xc=0)∧(∀s∈X,s.size<=1048576)∧S.length=X.length) :
  Lw w3 ((w4.alloc (.cells #[.slice sa X.length sc,.slice xa X.length xc] 160)).alloc (.cells #[.int .i64 k,.slice da D.length dc] 162)).drew w4.heap.size (w4.heap.size+1) k vs S X D []∧Lw w3 ((w4.alloc (.cells #[.int .i64 k,.slice da D.length dc] 162)).alloc (.cells #[.slice sa X.length sc,.slice xa X.length xc] 160)).drew (w4.heap.size+1) w4.heap.size k vs S X D []:=by
 obtain⟨a1,a2,a3,a4,a5,a6,_,a8⟩:=hc;have hz:=hb.size;have xB : ∀W,Zb w4 W->(Qk W w3.heap.size vs []∧Gv W w3.heap.size (.agg #[.slice sa X.length sc,.slice xa X.length xc]) S X∧RdS W da db dO D.length D∧Zb w3 W):=fun W hW=>by
  have xA:=Qa hb hW;refine⟨Qm ho hW (Ld _),⟨sa,sb,so,sc,xa,xb,xo,xc,by rw[a8],by rw[a8];exact r1.next xA,r2.next xA (Ld _),by omega,a5,a2,a6,fun h => ?_,fun h => ?_⟩,r3.next xA (Ld _),xA⟩
  ·exact r1.lt (by omega)
  ·exact r2.lt h
 constructor
 ·obtain⟨e1,e2⟩:=Yq w4 (.cells #[.slice sa X.length sc,.slice xa X.length xc] 160) (.cells #[.int .i64 k,.slice da D.length dc] 162);obtain⟨k1,k2,k3,k4⟩:=xB _ (bal (bal (Lb w4.heap.size w4) (.cells #[.slice sa X.length sc,.slice xa X.length xc] 160)) (.cells #[.int .i64 k,.slice da D.length dc] 162)).drew;exact⟨k1,⟨_,_,_,_,_,_,e1,k2⟩,⟨da,db,dO,dc,e2,k3,a3,a4,fun h=>r3.lt h⟩,hz,by omega,k4⟩
 ·obtain⟨e1,e2⟩:=Yq w4 (.cells #[.int .i64 k,.slice da D.length dc] 162) (.cells #[.slice sa X.length sc,.slice xa X.length xc] 160);obtain⟨k1,k2,k3,k4⟩:=xB _ (bal (bal (Lb w4.heap.size w4) (.cells #[.int .i64 k,.slice da D.length dc] 162)) (.cells #[.slice sa X.length sc,.slice xa X.length xc] 160)).drew;exact⟨k1,⟨_,_,_,_,_,_,e2,k2⟩,⟨da,db,dO,dc,e1,k3,a3,a4,fun h=>r3.lt h⟩,by omega,hz,k4⟩
structure PF(c n:Nat)(M:List (Nat×Nat))(S:List Nat)(X D R:LB):Prop where
 pb:pB c M S X D=R
 row : ∃p,Cv.Row n p M∧Fr p n S
 asc:Asc S
 len:X.length=S.length
 dig:(fB M S).length<=D.length
 hX : ∀s∈X,s.size<=1048576
 hD : ∀s∈D,s.size=c
 hm:S.length<=8796093022208
theorem PF.step{c n:Nat}{m:Nat×Nat}{M:List (Nat×Nat)}{S:List Nat}{X D R:LB}(h:PF c n (m::M) S X D R){t:Nat}(ht:bl S ((m.2+1)*pw m.1)=t) :
  t<=S.length∧In m.1 m.2 (S.take t)∧(tno m.1 m.2 (S.take t)).length<=D.length ∧ ∃R',R=vB c m.1 m.2 (S.take t) (X.take t) D::R'∧PF c n M (S.drop t) (X.drop t) (D.drop (tno m.1 m.2 (S.take t)).length) R':=by
 obtain⟨p,hr,hf⟩:=h.row;have hd:=h.dig;have xA:=h.pb;rw[fB,ht,Lg] at hd;rw[pB,ht] at xA;have l1:=Qjq h.asc hf hr.1;have l2:Fr ((m.2+1)*pw m.1) n (S.drop (bl S ((m.2+1)*pw m.1))):=QdE h.asc hf;rw[ht] at l1 l2;have hl:=h.len;have hm:=h.hm;refine⟨by rw[<-ht];exact QcM _ _,l1,by omega,_,xA.symm,⟨rfl,⟨_,hr.2.2.2,l2⟩,JC h.asc _,by rw[Lv,Lv,hl],by rw[Lv];omega,fun s hs=>h.hX s ((NU _ _).subset hs),fun s hs=>h.hD s ((NU _ _).subset hs),by rw[Lv];omega⟩⟩
theorem Qj7{k:Int}{size:Nat}{S:List Nat}{X D:LB}(hl:S.length=X.length)(hns:X.length<=8796093022208)(hok:okB 2 k 0 size S D)(hsz : ∀s∈X,s.size<=1048576):size<=2^40∧PF (clk k) size (Cv.dnL 41 0 size) S X D (pB (clk k) (Cv.dnL 41 0 size) S X D):=by
 obtain⟨⟨_,hk,_⟩,he,hf⟩:=hok;obtain⟨xB,_,_,hc⟩:=Cv.QJ he;have xA:Cv.Row size 0 (Cv.dnL 41 0 size):=by rw[<-Cv.QX size xB];exact Cv.OI 0 size (Ll _) xB
 have ha:=Y8 hc;have xC:Fr 0 size S:=fun i hi=>Cv.Yp hc i hi
 have xD:(clk k:Int)=k:=Qdu hk.1 hk.2;refine⟨xB,rfl,⟨0,xA,xC⟩,ha,hl.symm,?_,hsz,fun s hs=>by have:=hf.2 s hs;omega,by omega⟩
 rw[QdA xA ha xC,<-Cv.JS size S xB hc,hf.1,Cv.rstS,Lm he];exact Ld _
theorem broot_ok (w:World) (ht:Tb w) (k:Int) (size:Nat) (sa:OA) (sb so sc:Nat) (S:List Nat) (X:LB) (hs:RdU w sa sb so X.length S) (hns:X.length<=8796093022208) (hsc:X.length<=sc) (hsn:sa=none->sc=0) (da:OA) (db dO dc:Nat) (D:LB) (hr:RdS w da db dO D.length D) (hm:D.length<=8796093022208) (hdc:D.length<=dc) (hdn:da=none->dc=0) (xa:OA) (xb xo xc:Nat) (hx:RdS w xa xb xo X.length X) (hxc:X.length<=xc) (hxn:xa=none->xc=0) (hok:okB 2 k 0 size S D) (hsz : ∀s∈X,s.size<=1048576) (r:BA) (hq:dg (clk k) (QI size (Qr (clk k) (pB (clk k) (Cv.dnL 41 0 size) S X D)))=r) :
    Zr 64 #[vP 2 k 0 size (.slice sa X.length sc) (.slice da D.length dc),.slice xa X.length xc] w (.tuple #[.agg #[.int .u64 (size:Int),.string r],.int .i64 0]):=by
  obtain⟨h40,hpf⟩:=Qj7 hs.hl hns hok hsz;obtain⟨M,hM⟩:=Ze (Cv.dnL 41 0 size);rw[hM] at hpf hq;obtain⟨P,hP⟩:=Ze (pB (clk k) M S X D);rw[hP] at hpf hq;have hMin : ∀b∈M,(b.2+1)*2^b.1<=size:=by rw[<-hM];exact U4 size h40
  have hMl:M.length<=41:=by rw[<-hM];exact Cv.YS 41 0 size
  have hPl:P.length=M.length:=by rw[<-hP];exact QdT _ _ _ _ _
  have hPs : ∀s∈P,s.size=clk k:=by rw[<-hP];exact Qg1 (Qp k) M S X D hpf.hD hpf.dig
  have HI:Hid (∀W,Zr 118 #[vP 2 k 0 size (.slice sa X.length sc) (.slice da D.length dc)] W (.bool true)):=fun W=>QbY W 2 k 0 size sa X.length sc da D.length dc true (Ln hok.1)
  have HF:Hr w 119 #[vP 2 k 0 size (.slice sa X.length sc) (.slice da D.length dc)] (.bool true):=fun W hb=>Jg W 2 k 0 size sa sb so X.length sc S (hs.next hb) hns da db dO dc D (hr.next hb (Ld _)) hm _ rfl _ rfl true (Ln hok.2)
  have HX:Hid (∀W,Zb w W->RdS W xa xb xo X.length X∧RdU W sa sb so X.length S∧RdS W da db dO D.length D∧Tb W):=fun W hb=>⟨hx.next hb (Ld _),hs.next hb,hr.next hb (Ld _),ht.next hb⟩
  have HM:Hid (∀W,Calls prog 75 #[.int .u64 (size:Int)] W fun e w' => ∃ao g cap,e = .returned (.tuple #[.slice ao M.length cap,.int .i64 0])∧RdB w' ao g 0 M.length (zl M)∧Zb W w'):=fun W=>by
    have h:=Cv.YH size W;rw[(YM size h40).1,(YM size h40).2,hM] at h;refine h.mono fun e w' ⟨v,e1,e2,e3⟩ => ?_
    obtain⟨ao,g,n',cap,rfl,hr',_⟩:=Y4 e2 (fun b hb=>by
      obtain⟨b0,hb0,rfl⟩:=List.mem_map.1 hb;exact(UF (hMin b0 hb0) h40).1)
    have hl:=hr'.len;rw[Cv.QC] at hl;subst hl;exact⟨ao,g,cap,e1,hr',e3⟩
  have HC:Hid (X.length<=sc∧(sa=none->sc=0)∧D.length<=dc∧(da=none->dc=0)∧X.length<=xc∧(xa=none->xc=0)∧(∀s∈X,s.size<=1048576)∧S.length=X.length):=⟨hsc,hsn,hdc,hdn,hxc,hxn,hsz,hs.hl⟩;have HP:Hid (PF (clk k) size M S X D P∧(∀b∈M,(b.2+1)*2^b.1<=size)∧P.length=M.length∧(∀s∈P,s.size=clk k)∧size<=2^40∧M.length<=41∧dg (clk k) (QI size (Qr (clk k) P))=r):=⟨hpf,hMin,hPl,hPs,h40,hMl,hq⟩;obtain⟨W0,hW0⟩:=Ze ((w.alloc (.cells #[.int .i64 2,.int .i64 k,.int .u64 ((0:Nat):Int),.int .u64 (size:Int),.slice sa X.length sc,.slice da D.length dc] 55)).alloc (.cells #[.int .u64 0,.string ⟨#[]⟩] 30));obtain⟨hb,h6,hRt,hz⟩:=QO hW0;rw[show((0:Nat):Int)=0 from rfl] at hW0 h6
  obtain⟨c0,c1,c2,c3,c4,c5⟩:=h6.cells;have HR:=Qe (Lo hRt hz);have H6:=Qe h6;have hn5:(X.length:Int)<=8796093022208:=by omega
  have hm5:(M.length:Int)<=41:=by omega
  clear hs hr hm hok h6 hRt hz hx hsz hpf hMin hPl hPs h40 hq hM hP hsc hsn hdc hdn hxc hxn ht hns;unfold vP at HI HF;rw[show((0:Nat):Int)=0 from rfl] at HI HF
  unfold vP;rw[show((0:Nat):Int)=0 from rfl]
  go_enter func64,ntmps64
  go_upto_region 3 with (first
    | (go_at_call 118;with_reducible refine(HI.out _).mono ?_;rintro e w1 ⟨rfl,hb1⟩;obtain⟨d0,d1,d2,d3,d4,d5⟩:=(H6.out.next hb1).cells)
    | (go_at_call 119;with_reducible refine(HF.out _ (Qa hb hb1)).mono ?_;rintro e w2 ⟨rfl,hb2⟩;obtain⟨g0,g1,g2,g3,g4,g5⟩:=(H6.out.next (Qa hb1 hb2)).cells))
  have hbw:=Qa (Qa hb hb1) hb2;have HR2:=Qe (Lo (HR.out.1.below (Qa hb1 hb2) (by rw[HR.out.2];omega)) (H6.out.next (Qa hb1 hb2)))
  clear hb hb1 hb2 c0 c1 c2 c3 c4 c5 d0 d1 d2 d3 d4 d5 HI HF HR H6 hW0;go_wp2
  go_loopg [36] X.length (fun g i wr => ∃j:Nat,j<=X.length∧g=X.length - j∧i = .int .i64 (j:Int)∧w2=wr)
  case atStart=>go_light;exact⟨0,Ll _,rfl,rfl,rfl⟩
  case round =>
    obtain⟨j,hj,rfl,rfl,rfl⟩:=hrel
    by_cases hlt:j<X.length
    · have hz:(j:Int)<(X.length:Int):=by omega
      have hz0:(0:Int)<=(j:Int):=Lf _;have hrd:=(HX.out w2 hbw).1;obtain rfl:=hrd.ptr (by omega)
      have cj:=hrd.at hlt;obtain⟨d,hd⟩:=Ze (X.getD j ByteArray.empty);rw[hd] at cj;have hk:=HC.out.2.2.2.2.2.2.1 _ (Qv hlt);rw[hd] at hk;have hkz : ¬(1048576:Int)<(d.size:Int):=by omega
      clear hd hrd hk;go_wp2
      go_roundg (X.length - (j+1))
      case rel=>go_light;exact⟨j+1,by omega,rfl,by go_num,rfl⟩
      case measure=>go_light;omega
    · obtain rfl:j=X.length:=by omega
      have hz : ¬((X.length:Int)<(X.length:Int)):=by omega
      clear hlt hj
      go_upto_region 10 with (go_at_call 75;with_reducible refine(HM.out _).mono ?_;rintro e w3 ⟨ao,gM,capM,rfl,hrB,hb3⟩)
      have HMk:=QjH w3 M.length (by omega)
      have HO:Hid (Qk (w3.alloc (.cells (madeCells #[.string ByteArray.empty] M.length) 9)) w3.heap.size (.slice (some ⟨w3.heap.size,0,none⟩) 0 M.length) []):=Qe4 w3 _ (by omega)
      go_upto_region 11 with (fail)
      have hb4:=bal (Lb w3.heap.size w3) (.cells (madeCells #[.string ByteArray.empty] M.length) 9);generalize w3.alloc (.cells (madeCells #[.string ByteArray.empty] M.length) 9)=w4 at *;have h63:=HR2.out.2.next (Qa hb3 hb4);obtain⟨k0,k1,k2,k3,k4,k5⟩:=h63.cells;have hl4:w.heap.size<w4.heap.size:=h63.lt;have hl5:w.heap.size<=w4.heap.size:=Nat.le_of_lt hl4;have hl6:w.heap.size<w4.heap.size+1:=Nat.lt_succ_of_lt hl4;have hbw3:=Qa hbw hb3;have HB:=Qe (Lo hrB (Lo hbw3 (Lo hb4 (Lo (HR2.out.1.below hb3 (Lh w2 _ HR2.out.1.c0)) (HR2.out.2.next hb3)))));clear HM hrB hb3 hb4 h63 hbw3 hbw g0 g1 g2 g3 g4 g5 HMk hz
      go_cut [11,12] from 54 to 62 (fun x y wx => ∃p q,x = .pointer (some ⟨p,0,none⟩)∧y = .pointer (some ⟨q,0,none⟩)∧Lw w3 wx p q k (.slice (some ⟨w3.heap.size,0,none⟩) 0 M.length) S X D [])
      case first =>
        go_region
        all_goals
          go_wp2
          go_meet
          case rel =>
            go_light;have hst:=QjG (k:=k) HB.out.2.2.1 HO.out (HX.out w3 HB.out.2.1).2.1 (HX.out w3 HB.out.2.1).1 (HX.out w3 HB.out.2.1).2.2.1 HC.out
            first
              | with_reducible exact⟨_,_,rfl,rfl,hst.1⟩
              | with_reducible exact⟨_,_,rfl,rfl,hst.2⟩
      case rest =>
        obtain⟨p,q,rfl,rfl,hL⟩:=hcut;have HL:=Qe hL;clear hL HO k0 k1 k2 k3 k4 k5 hl4 hl5 hl6;go_wp2
        go_loopg [10,65] M.length (fun g vs i wr => ∃(j:Nat) (S':List Nat) (X' D':LB),j<=M.length∧g=M.length - j∧i = .int .i64 (j:Int)∧Hid (PF (clk k) size (M.drop j) S' X' D' (P.drop j))∧Hid (Lw w3 wr p q k vs S' X' D' (P.take j)))
        case atStart=>go_light;exact⟨0,S,X,D,Ll _,rfl,rfl,HP.out.1,HL.out⟩
        case round =>
          clear HL;obtain⟨j,S',X',D',hj,rfl,rfl,HPj,HLj⟩:=hrel
          by_cases hlt:j<M.length
          · have hz:(j:Int)<(M.length:Int):=by omega
            have hz0:(0:Int)<=(j:Int):=Lf _;have hrd:=HB.out.1.below HLj.out.below;obtain rfl:=hrd.addr (by omega)
            obtain⟨c0,c1⟩:=hrd.cell j hlt;obtain⟨⟨mh,mk⟩,hx⟩ : ∃x,M.getD j (0,0)=x:=⟨_,rfl⟩;rw[Cv.Uz,hx] at c0 c1;rw[Lr] at c0 c1;have hdr:M.drop j=(mh,mk)::M.drop (j+1):=by rw[<-hx];exact Cv.Qa5 (0,0) M j hlt
            have hmem:(mh,mk)∈M:=by rw[<-hx,La,Lc hlt];exact LG _
            have hend:(mk+1)*pw mh<=2^40:=Lz (HP.out.2.1 _ hmem) HP.out.2.2.2.2.1;have hmh:mh<=40:=(UF (b:=(mh,mk)) hend (Ld _)).2.1;obtain⟨t,htt⟩:=Ze (bl S' ((mk+1)*pw mh));have hPF:=HPj.out;rw[hdr] at hPF;obtain⟨t1,t2,t3,R',hR',hPF'⟩:=hPF.step (m:=(mh,mk)) htt;obtain⟨ga,gn,gc,ga',gn',gc',hgc,hgv⟩:=HLj.out.gc;obtain⟨o3,ho3⟩:=Ze (Obj.cells #[.int .i64 (mh:Int),.int .u64 (mk:Int)] 83 (0,0));have e3:=Lu wr o3;have hb2:=bal (Lb wr.heap.size wr) o3;obtain⟨V,hV⟩:=Ze (wr.alloc o3);rw[hV] at e3 hb2;rw[<-ho3] at e3 hV;have hgcV:=hgc.next hb2;obtain⟨g0,g1,_⟩:=hgcV.cells;have d0:V.cell? ⟨wr.heap.size,0,none⟩=some (.int .i64 (mh:Int)):=by rw[cell_of_row _ _ 0 _ _ (0,0) e3];rfl
            have d1:V.cell? ⟨wr.heap.size,1,none⟩=some (.int .u64 (mk:Int)):=by rw[cell_of_row _ _ 1 _ _ (0,0) e3];rfl
            obtain⟨pp,hpp⟩:=Ze ((mk+1)*pw mh);have HE:Hid (∀Z,Zr 121 #[.agg #[.int .i64 (mh:Int),.int .u64 (mk:Int)]] Z (.int .u64 (pp:Int))):=fun Z=>QgE Z mh mk hmh hend pp hpp
            have HCt:Hid (∀Z,Zb V Z->Calls prog 120 #[.agg #[.slice ga gn gc,.slice ga' gn' gc'],.int .u64 (pp:Int)] Z fun e w' => ∃v1 v2,e = .returned (.tuple #[v1,v2])∧Gv w' w3.heap.size v1 (S'.take t) (X'.take t)∧Gv w' w3.heap.size v2 (S'.drop t) (X'.drop t)∧Zb Z w'):=fun Z hZ=>QgA Z _ S' X' (hgv.next (Qa hb2 hZ)) hPF.len hPF.asc (by have:=hPF.hm;omega) pp t (by rw[<-hpp];exact htt)
            have HV:=Qe hb2;have HK:Hid (∀Z,Zb V Z->Z.cell? ⟨p,0,none⟩=some (.slice ga gn gc)∧Z.cell? ⟨p,1,none⟩=some (.slice ga' gn' gc')∧Z.cell? ⟨wr.heap.size,0,none⟩=some (.int .i64 (mh:Int))∧Z.cell? ⟨wr.heap.size,1,none⟩=some (.int .u64 (mk:Int))):=fun Z hZ =>
              ⟨(hZ.cell (p:=⟨p,0,none⟩) (Lh V _ g0)).trans g0,(hZ.cell (p:=⟨p,1,none⟩) (Lh V _ g1)).trans g1,(hZ.cell (p:=⟨wr.heap.size,0,none⟩) (Lh V _ d0)).trans d0,(hZ.cell (p:=⟨wr.heap.size,1,none⟩) (Lh V _ d1)).trans d1⟩
            have hLV:=HLj.out.next hb2;have HLV:=Qe hLV;have HPV:=Qe (Lo hPF (Lo t1 (Lo t2 (Lo t3 (Lo hR' (Lo hPF' (Lo hmh hend)))))));clear hx hdr hmem hrd hpp hPF t1 t2 t3 hR' hPF' hend hmh htt hgc hgv hb2 hgcV hLV ho3 e3 HPj
            go_upto_region 15 with (fail)
            clear hV HLj c0 c1
            go_cut [15,16] from 69 to 75 (fun x y wx => ∃p1 p2 a1 b1 a2 b2,x = .pointer (some ⟨p1,0,none⟩)∧y = .pointer (some ⟨p2,0,none⟩)∧Fi w3.heap.size V.heap.size V wx p1 p2 a1 b1 a2 b2 (S'.take t) (S'.drop t) (X'.take t) (X'.drop t))
            case first =>
              go_region_held3 (fun Z=>Z.cell? ⟨p,0,none⟩=some (.slice ga gn gc)∧Z.cell? ⟨p,1,none⟩=some (.slice ga' gn' gc')∧Z.cell? ⟨wr.heap.size,0,none⟩=some (.int .i64 (mh:Int))∧Z.cell? ⟨wr.heap.size,1,none⟩=some (.int .u64 (mk:Int)))
                (exact HK.out _ (by repeat (first|exact Lb _ _|refine LK ?_|refine bal ?_ _|refine Qa ?_ hbc|refine Qa ?_ hbe|refine Qam ?_ (by omega)))) (first
                | (go_at_call 121;with_reducible refine(HE.out _).mono ?_;rintro e we ⟨rfl,hbe⟩
                   have s1:=hbe.size
                   try simp only[World.size_alloc,World.drew] at s1
                   first|(have y1:=(Qa7 V).1.next hbe;have y2:=(Qa7 V).2.next hbe)|(have y1:=(QgM V).next hbe)|skip)
                | (go_at_call 120;with_reducible refine(HCt.out _ (by repeat (first|exact Lb _ _|refine LK ?_|refine bal ?_ _|refine Qa ?_ hbe))).mono ?_;rintro e wc ⟨v1,v2,rfl,q1,q2,hbc⟩
                   obtain⟨sa1,sn1,sc1,xa1,xn1,xc1,rfl⟩:=q1.form;obtain⟨sa2,sn2,sc2,xa2,xn2,xc2,rfl⟩:=q2.form;have s2:=hbc.size
                   try simp only[World.size_alloc] at s2
                   first|(have x1:=y1.next hbc;have x2:=y2.next hbc)|(have x1:=y1.next hbc)|(have x1:=y1.next (Qa (bal (Lb _ _) _) hbc);have x2:=(QdF we).next hbc)|(have x1:=(QdG we).1.next hbc;have x2:=(QdG we).2.next hbc)|(have x1:=(QdF we).next hbc)|skip
                   try have v1:=x1.lt
                   try have v2:=x2.lt
                   try have u1:=I_ x1.lt
                   try have u2:=I_ x2.lt
                   try have u3:=I_ y1.lt
                   try have u4:=Ne.symm u3
                   try have u5:=Ne.symm u1
                   try have u6:=Ne.symm u2
                   try obtain⟨k0,k1,kf⟩:=x1.cells
                   try obtain⟨m0,m1,mf⟩:=x2.cells))
              all_goals have hVc:Zb V wc:=by repeat (first|exact Lb _ _|refine LK ?_|refine bal ?_ _|refine Qa ?_ hbc|refine Qa ?_ hbe)
              all_goals
                go_wp2
                go_meet
                case rel =>
                  go_light
                  first
                    | with_reducible exact⟨_,_,_,_,_,_,rfl,rfl,QgG q1 q2 hVc hVc.size⟩
                    | with_reducible exact⟨_,_,_,_,_,_,rfl,rfl,(QgG q2 q1 hVc hVc.size).swap⟩
                    | with_reducible exact⟨_,_,_,_,_,_,rfl,rfl,QgH q1 q2 hVc hVc.size x1 (by omega)⟩
                    | with_reducible exact⟨_,_,_,_,_,_,rfl,rfl,(QgH q2 q1 hVc hVc.size x1 (by omega)).swap⟩
                    | with_reducible exact⟨_,_,_,_,_,_,rfl,rfl,QgI q1 q2 hVc x1 x2 (by omega) (by omega) (by omega)⟩
                    | with_reducible exact⟨_,_,_,_,_,_,rfl,rfl,QgI q1 q2 hVc x2 x1 (by omega) (by omega) (by omega)⟩
            case rest =>
              obtain⟨p1,p2,a1,b1,a2,b2,rfl,rfl,F1,F2,F3,F4,F5⟩:=hcut;obtain⟨i0,i1,i2,i3⟩:=HK.out wc F5;obtain⟨k0,k1,_⟩:=F1.cells;have hLc:=HLV.out.next F5;have hT:=(HX.out wc (Qa HB.out.2.1 hLc.below)).2.2.2;obtain⟨hPF,t1,t2,t3,hR',hPF',hmh,hend⟩:=HPV.out;have hl1:(S'.take t).length<=8796093022208:=by have:=hPF.hm;rw[Lq];omega
              have HN:=Qhy q k mh mk hmh hend (S'.take t) (X'.take t) D' wc (.agg #[a1,b1]) hT hLc.rw F3 (by rw[Lq,Lq,hPF.len]) (OD hPF.asc _) t2 t3 (fun s hs=>hPF.hX s ((Is _ _).subset hs)) hPF.hD (by omega)
              obtain⟨x5,hx5⟩:=Ze (vB (clk k) mh mk (S'.take t) (X'.take t) D');obtain⟨D5,hD5⟩:=Ze (D'.drop (tno mh mk (S'.take t)).length);simp only[] at hR' hPF';rw[hx5] at HN hR';rw[hD5] at HN hPF';have e1:P.drop (j+1)=R':=by
                have:=LU (List.drop 1) hR'
                rwa [Wa,List.drop_one,List.tail_cons] at this
              have e0:P[j]? = some x5:=by
                have:=LU (fun l=>l[0]?) hR'
                simpa using this
              have e2:P.take (j+1)=P.take j++[x5]:=by rw[Nz,e0];rfl
              have HZ:Hid (x5.size<=9223372036854775807):=by
                show x5.size<=_
                have:=HP.out.2.2.2.1 x5 (Ni e0);have:=Qp k;omega
              have HW:Hid (PF (clk k) size (M.drop (j+1)) (S'.drop t) (X'.drop t) D5 (P.drop (j+1))∧P.take (j+1)=P.take j++[x5]):=⟨by rw[e1];exact hPF',e2⟩
              obtain⟨sa2,sn2,sc2,xa2,xn2,xc2,hv2⟩:=F4.form;obtain⟨rfl,rfl⟩:a2 = .slice sa2 sn2 sc2∧b2 = .slice xa2 xn2 xc2:=by
                injection hv2 with hv2
                have:=LU Array.toList hv2
                simpa using this
              have HLc:=Qe hLc;have HF2:=Qe (Lo F2 F4);have HJ:Hid ((P.take j).length<=41):=by show _<=_;rw[Lq];omega
              clear g0 g1 d0 d1 hT hPF t1 t2 t3 hR' hPF' hmh hend hl1 hx5 hD5 e0 e1 e2 hv2 hLc F1 F2 F3 F4 HPV HK HE HCt
              go_wp2_with (first
                | (go_at_call 122;with_reducible refine HN.mono ?_;rintro e w5 ⟨rfl,hr5,hx5⟩)
                | (at_builtin;refine QS _ rfl _ _ rfl w3.heap.size _ (P.take j) rfl (Y0 (HLc.out.node hx5 hr5).ow _) (some ⟨w5.heap.size,0,none⟩) w5.heap.size 0 1 1 [x5] rfl (YO w5 x5 HZ.out) (fun h=>by cases h) ?c1 ?c2 ?_))
              case c1=>have:=HJ.out;simp only[List.length_singleton];omega
              case c2=>have:=(bal (HLc.out.node hx5 hr5).below (.cells #[.string x5] 9)).size;exact this
              intro vs' w6 o6 gr6 _;have hbx:=bal (Lb w5.heap.size w5) (.cells #[.string x5] 9);obtain⟨L6,gcs,hb6⟩:=((HLc.out.node hx5 hr5).next hbx).app o6 gr6;have G2:Gc w5 p2 (.slice sa2 sn2 sc2) (.slice xa2 xn2 xc2):=(hx5.block p2 HF2.out.1.lt (Qjr HLc.out.rw HF2.out.1)).trans HF2.out.1;have G2:=gcs _ _ _ (G2.next hbx);have hG:=((HF2.out.2.bx HLc.out.rw hx5).next hbx).low hb6;obtain⟨m0,m1,_⟩:=G2.cells;obtain⟨_,_,_,_,_,_,gp,_⟩:=L6.gc;obtain⟨n0,n1,nf⟩:=gp.cells;have HL7:=Qe (L6.cut hG);clear i0 i1 i2 i3 k0 k1 HN hr5 hx5 o6 gr6 hbx L6 gcs hb6 G2 hG gp HLc HF2;go_wp2
              go_roundg (M.length - (j+1))
              case rel=>go_light;exact⟨j+1,_,_,_,by omega,rfl,by go_num,HW.out.1,by show Lw _ _ _ _ _ _ _ _ _ _;rw[HW.out.2];exact HL7.out⟩
              case measure=>go_light;omega
          · obtain rfl:j=M.length:=by omega
            have hz : ¬((M.length:Int)<(M.length:Int)):=by omega
            have hL:=HLj.out;rw[LD (by rw[HP.out.2.2.1];exact Ld _)] at hL
            obtain⟨aP,bP,cP,rfl,rP,_,_⟩:=Qt hL.ow (fun s hs=>by have:=HP.out.2.2.2.1 s hs;have:=Qp k;omega)
            have hbr:=Qa HB.out.2.1 hL.below;have h6:=HB.out.2.2.2.2.next hL.below;have hRt:=HB.out.2.2.2.1.below hL.below (Lh w3 _ HB.out.2.2.2.1.c0);have HRo:Hid (∀Z,Zb wr Z->Zr 81 #[.int .i64 k,.int .u64 (size:Int),.slice aP P.length cP] Z (.string r)):=fun Z hZ=>Qcr Z (HX.out Z (Qa hbr hZ)).2.2.2 k size aP bP 0 P.length cP P (rP.next hZ (Ld _)) (fun s hs=>by have:=HP.out.2.2.2.1 s hs;have:=Qp k;omega) (by have:=HP.out.2.2.1;have:=HP.out.2.2.2.2.2.1;omega) r HP.out.2.2.2.2.2.2
            have HK:Hid (∀Z,Below (w.heap.size+1) wr Z->Z.cell? ⟨w.heap.size,1,none⟩=some (.int .i64 k)∧Z.cell? ⟨w.heap.size,3,none⟩=some (.int .u64 (size:Int))):=fun Z hZ=>by
              obtain⟨_,c1,_,c3,_,_⟩:=(h6.same (hZ.block w.heap.size (NR _))).cells;exact⟨c1,c3⟩
            have hle:w.heap.size+1<=wr.heap.size:=h6.lt;have HRr:=Qe (Lo hRt (Lo hbr hle));obtain⟨_,c1,_,c3,_,_⟩:=h6.cells;have hls:w.heap.size+1<wr.heap.size:=Lh wr _ hRt.c0;clear hL rP hlt HLj h6 hRt hbr HPj
            go_upto_region 19 with (fail)
            go_region_held3 (fun Z=>Z.cell? ⟨w.heap.size,1,none⟩=some (.int .i64 k)∧Z.cell? ⟨w.heap.size,3,none⟩=some (.int .u64 (size:Int)))
              (exact HK.out _ (by repeat (first|exact Lb _ _|refine LK ?_|refine Below.trans ?_ (hbR.mono (by first|omega|(simp;omega)))|refine Qam ?_ (by omega)))) (first
              | (go_at_call 81;with_reducible refine(HRo.out _ (by first|exact Lb _ _|exact(Lb _ _).drew)).mono ?_;rintro e wR ⟨rfl,hbR⟩
                 have hR:=(HRr.out.1.drew).below hbR (by simp;omega)
                 have k0:=hR.c0;have k1:=hR.c1;have f0:=hR.f0;have f1:=hR.f1))
            all_goals go_wp2
            all_goals obtain⟨s0,s1,hch⟩:=Yr hR (size:Int) r
            all_goals refine Lp (v := .tuple #[.agg #[.int .u64 (size:Int),.string r],.int .i64 0]) (by simp[results,results64,go_sem,s0,s1]) rfl ⟨rfl,?_⟩
            all_goals exact(Qa HRr.out.2.1.drew hbR).trans (hch.below (by rintro b rfl;omega))
end
section
open Cv (RdC zl cU cov)
open Pl (pw)
theorem Qdd{w W:World}{B T s n:Nat}{v:Value}{xs:List Value}(h:w.ownsRow B T s v n xs)(hb:Zb w W):W.ownsRow B T s v n xs :=
 Qi h fun g hg _=>hb.block g (LP h g hg).2
theorem Qm9{w:World}{g0:Nat}{u0 u1:Value}{L0 L1:List (Int×Nat)}(c0:w.cell? ⟨g0,0,none⟩=some u0)(c1:w.cell? ⟨g0,1,none⟩=some u1)(r0:RdC w u0 L0.length (Cv.cB L0))(r1:RdC w u1 L1.length (Cv.cB L1)):CatB w g0 [u0,u1] [L0,L1]:=by
 refine⟨rfl,fun j hj => ?_,fun j hj => ?_⟩
 ·match j with
  | 0=>exact c0
  | 1=>exact c1
  | n+2=>simp at hj;omega
 ·match j with
  | 0=>exact r0
  | 1=>exact r1
  | n+2=>simp at hj;omega
def Rh(w:World)(g n:Nat)(d:BA):Prop:=w.heap[g]? = some (.cells #[.int .u64 (n:Int),.string d] 30 (0,0))
section
variable {w W:World} {g n:Nat} {d:BA}
theorem Rh.cells(t:Rh w g n d):w.cell? ⟨g,0,none⟩=some (.int .u64 (n:Int))∧w.cell? ⟨g,1,none⟩=some (.string d) :=
 ⟨by rw[cell_of_row w g 0 _ _ (0,0) t];rfl,by rw[cell_of_row w g 1 _ _ (0,0) t];rfl⟩
theorem Rh.fz(t:Rh w g n d)(j:Nat):w.frozen? ⟨g,j,none⟩=false:=frozen_of_row w g j _ _ t
theorem Rh.lt(t:Rh w g n d):g<w.heap.size:=(Array.getElem?_eq_some_iff.1 t).1
theorem Rh.same(t:Rh w g n d)(hb:W.heap[g]? = w.heap[g]?):Rh W g n d:=hb.trans t
theorem Rh.next(t:Rh w g n d)(hb:Zb w W):Rh W g n d:=t.same (hb.block g t.lt)
theorem Qcn(w:World)(n:Nat)(d:BA):Rh (w.alloc (.cells #[.int .u64 (n:Int),.string d] 30)) w.heap.size n d:=Lu w _
def putR(w:World)(g n:Nat)(d:BA):World:=(w.setCell ⟨g,0,none⟩ (.int .u64 (n:Int))).setCell ⟨g,1,none⟩ (.string d)
theorem Rh.put(t:Rh w g n d)(n':Nat)(d':BA):Rh (putR w g n' d') g n' d':=by
 have h0:=LI w g 0 _ _ (.int .u64 (n':Int)) t;exact LI _ g 1 _ _ (.string d') h0
theorem O1(w:World)(g n:Nat)(d:BA):ChT (fun x=>x=g) w (putR w g n d):=((ChT.refl (fun x=>x=g) w).set g 0 _ rfl).set g 1 _ rfl
end
section
variable {w W:World} {s0:Nat} {kd k:Int} {old size:Nat} {vs vd:Value} {n1 n2:Nat} {d1 d2:BA}
end
end
def dep(ops:List Oper)(i k:Nat):Bool:=match ops[i]? with|some o=>o.after.toList.any (fun e=>e.on == k && Region.binds .any e)|none=>false
def Qg3(ops:List Oper)(sl ns:List Nat)(size:Nat):Bool :=
 ops.map (·.dst) == sl.map (fun t=>if t<size then some t else none) && (List.range sl.length).all (fun j=>decide (sl.getD j 0<size) || ns.contains j) && (List.range sl.length).all (fun j=>(List.range j).all fun k=>sl.getD k 0 != sl.getD j 0) &&
 (List.range ops.length).all (fun j=>match ops[j]? with|none=>false|some o=>o.after.all (fun e => !Region.binds .any e || decide (e.on<j)) && (match o.guard with|none=>true|some (g,_)=>o.after.toList.any fun e=>e.on == g && Region.binds .any e))
def QnZ(P:Program)(Q:Exit->Act->World->Prop)(ops:List Oper)(sl:List Nat)(vs:List Value)(a0:Act)(I:(Nat->Bool)->World->Prop)(j:Nat)(o:Oper):Prop :=
 ∀(L:Nat->Bool) (a:Act) (w:World) (K:Act->World->Prop),I L w->L j=false->(∀i k,L i=true->dep ops i k=true->L k=true) ->
  (∀t,sl.contains t=false->a.tmps.getD t undef=a0.tmps.getD t undef) ->
  (∀k,(o.after.toList.any fun e=>e.on == k && Region.binds .any e)=true->a.tmps.getD (sl.getD k 0) undef=vs.getD k undef) ->
  (∀v w',(o.dst=none∨v=vs.getD j undef)->I (fun i=>if i=j then true else L i) w'->K (a.put o.dst v) w') ->
  match o.guard with
  | none=>o.wp P a w K Q
  | some (g,want) => ∃b,a.tmps.getD (sl.getD g 0) undef = .bool b∧(if b=want then o.wp P a w K Q else K (a.put o.dst undef) w)
theorem QeQ(a:Act){t:Nat}(h : ¬t<a.tmps.size):a.tmps.getD t undef=undef:=by simp[Array.getD,h]
theorem Qe8 : ∀(sl:List Nat) (vs:List Value) (a:Act) (k:Nat),k<sl.length->sl.length=vs.length->sl.getD k 0<a.tmps.size->(∀i j,i<j->j<sl.length->sl.getD i 0≠sl.getD j 0)->(UI a sl vs).tmps.getD (sl.getD k 0) undef=vs.getD k undef
 | [],_,_,_,h,_,_,_=>by simp at h
 | _::_,[],_,_,_,h,_,_=>by simp at h
 | u::sl,v::vs,a,0,_,_,hlt,hne=>by
  have hn:sl.contains u=false:=by
   cases hc:sl.contains u with
   | false=>rfl
   | true =>
    obtain⟨i,hi,hu⟩:=LS (List.contains_iff_mem.1 hc)
    exfalso
    refine hne 0 (i+1) (by omega) (by simp;omega) ?_
    simp[List.getD_eq_getElem?_getD,List.getElem?_eq_getElem hi,hu]
  rw[UI]
  show(UI _ sl vs).tmps.getD u undef=v
  rw[Ou sl vs _ u hn,QbU _ u v (show u<a.tmps.size from hlt)]
 | u::sl,v::vs,a,k+1,hk,hl,hlt,hne=>by
  rw[UI]
  show(UI _ sl vs).tmps.getD (sl.getD k 0) undef=vs.getD k undef
  refine Qe8 sl vs _ k (by simpa using hk) (by simpa using hl) ?_ (fun i j hij hj => ?_)
  ·have h2:sl.getD k 0<a.tmps.size:=hlt
   simpa [Act.put] using h2
  ·have:=hne (i+1) (j+1) (by omega) (by simpa using hj)
   simpa using this
theorem Qhq{a a0:Act}{sl:List Nat}{vs:List Value}(hd:a.defers=a0.defers)(hs:a.tmps.size=a0.tmps.size)(ho : ∀t,sl.contains t=false->a.tmps.getD t undef=a0.tmps.getD t undef)
  (hv : ∀k,k<sl.length->a.tmps.getD (sl.getD k 0) undef=vs.getD k undef) (hl:sl.length=vs.length) (hne : ∀i j,i<j->j<sl.length->sl.getD i 0≠sl.getD j 0):a=UI a0 sl vs:=by
 have ht:a.tmps=(UI a0 sl vs).tmps:=by
  apply Array.ext
  ·rw[Qc6,hs]
  ·intro t h1 h2;have e1:a.tmps.getD t undef=a.tmps[t]:=by simp[Array.getD,h1]
   have e2:(UI a0 sl vs).tmps.getD t undef=(UI a0 sl vs).tmps[t]:=by simp[Array.getD,h2]
   rw[<-e1,<-e2]
   cases hc:sl.contains t with
   | false=>rw[ho t hc,Ou sl vs a0 t hc]
   | true =>
    obtain⟨k,hk,hu⟩:=LS (List.contains_iff_mem.1 hc);have e3:sl.getD k 0=t:=by rw[La,Lc hk];exact hu
    rw[<-e3,hv k hk,Qe8 sl vs a0 k hk hl (by rw[e3,<-hs];exact h1) hne]
 have xA:=hd.trans (QaO sl vs a0).symm
 cases a
 cases hp:UI a0 sl vs;rw[hp] at ht xA;simp only at ht xA;rw[ht,xA]
theorem Yo{P:Program}{ops:Array Oper}{Q:Exit->Act->World->Prop}{id:Nat}{a0:Act}{w0:World}(hm:P.follows .mixedOrders=true)
  (sl ns:List Nat) (vs:List Value) (hok:Qg3 ops.toList sl ns a0.tmps.size=true) (hl:sl.length=vs.length) (hu : ∀j∈ns,vs.getD j undef=undef)
  (I:(Nat->Bool)->World->Prop) (h0 : ∀w,w.heap=w0.heap->Zb w0 w->I (fun _=>false) w)
  (step:Qa2 (QnZ P Q ops.toList sl vs a0 I) 0 ops.toList)
  (fin : ∀L w,(∀k,k<sl.length->L k=true)->I L w->Q .normal (UI a0 sl vs) w):(Code.region id ops true).wp P Q a0 w0:=by
 simp only[Qg3,Bool.and_eq_true] at hok;obtain⟨⟨⟨hd,yB⟩,xR⟩,xO⟩:=hok;have xV:ops.toList.map (·.dst)=sl.map (fun t=>if t<a0.tmps.size then some t else none):=by simpa using hd
 have yA:ops.size=sl.length:=by have:=LU List.length xV;simpa using this
 have xU : ∀(j:Nat) (o:Oper),ops[j]? = some o->o.dst=if sl.getD j 0<a0.tmps.size then some (sl.getD j 0) else none:=fun j o ho=>by
  have h1:(ops.toList.map (·.dst))[j]? = some o.dst:=by
   rw[No,ND,ho];rfl
  rw[xV,No] at h1;rw[La]
  cases hs:sl[j]? with
  | none=>rw[hs] at h1;cases h1
  | some x=>rw[hs] at h1;simpa using h1.symm
 have xX : ∀j,j<sl.length -> ¬sl.getD j 0<a0.tmps.size->vs.getD j undef=undef:=fun j hj hn=>by
  have:=List.all_eq_true.1 yB j (by simpa using hj)
  simp only[Bool.or_eq_true,decide_eq_true_eq] at this
  rcases this with h|h
  ·exact absurd h hn
  ·exact hu j (List.contains_iff_mem.1 h)
 have xS : ∀j k,k<j->j<sl.length->sl.getD k 0≠sl.getD j 0:=fun j k hk hj=>by
  have h1:=List.all_eq_true.1 xR j (by simpa using hj)
  have h2:=List.all_eq_true.1 h1 k (by simpa using hk)
  simpa using h2
 have ne : ∀j k,j<sl.length->k<sl.length->j≠k->sl.getD j 0≠sl.getD k 0:=fun j k hj hk h=>by
  rcases I8 j k with h'|h'
  ·exact xS k j h' hk
  ·exact(xS j k (by omega) hj).symm
 have xM : ∀(j:Nat) (o:Oper),ops[j]? = some o->(∀e∈o.after,Region.binds .any e=true->e.on<j)∧(∀g want,o.guard=some (g,want)->(o.after.toList.any fun e=>e.on == g && Region.binds .any e)=true):=fun j o ho=>by
  have hj:j<ops.size:=(Array.getElem?_eq_some_iff.1 ho).1
  have h1:=List.all_eq_true.1 xO j (by simpa using hj)
  rw[ND,ho] at h1;simp only[Bool.and_eq_true] at h1;refine⟨fun e he hb => ?_,fun g want hg => ?_⟩
  ·have:=Array.all_eq_true_iff_forall_mem.1 h1.1 e he
   simpa [hb] using this
  ·have:=h1.2;rw[hg] at this;exact this
 have xL : ∀j,j<sl.length->sl.contains (sl.getD j 0)=true:=fun j hj=>by
  rw[La,Lc hj];simp
 have xN : ∀(fuel:Nat) (listed:Array Bool) (a:Act) (w:World),listed.size=ops.size->cntU (fun k=>listed.getD k false) ops.size<=fuel ->
   I (fun k=>listed.getD k false) w->(∀i k,listed.getD i false=true->dep ops.toList i k=true->listed.getD k false=true)->a.defers=a0.defers->a.tmps.size=a0.tmps.size->(∀t,sl.contains t=false->a.tmps.getD t undef=a0.tmps.getD t undef) ->
   (∀k,k<sl.length->listed.getD k false=true->a.tmps.getD (sl.getD k 0) undef=vs.getD k undef)->wpAny P .any ops Q fuel listed a w:=by
  intro fuel;have xA : ∀(listed:Array Bool) (a:Act) (w:World),(∀k,k<ops.size->listed.getD k false=true)->I (fun k=>listed.getD k false) w->a.defers=a0.defers->a.tmps.size=a0.tmps.size->(∀t,sl.contains t=false->a.tmps.getD t undef=a0.tmps.getD t undef) ->
    (∀k,k<sl.length->listed.getD k false=true->a.tmps.getD (sl.getD k 0) undef=vs.getD k undef)->Q .normal a w:=fun listed a w hall hI hde hts hsm hΦ=>by
   rw[Qhq hde hts hsm (fun k hk=>hΦ k hk (hall k (by omega))) hl (fun i j hij hj=>xS j i hij hj)]
   exact fin _ w (fun k hk=>hall k (by omega)) hI
  induction fuel with
  | zero =>
   intro listed a w hsz hc hI hcl hde hts hsm hΦ;have hall:=QcS (Nat.le_zero.1 hc);refine⟨?_,xA listed a w hall hI hde hts hsm hΦ⟩
   apply List.eq_nil_iff_forall_not_mem.2
   intro i hi;obtain⟨h1,o,ho,_⟩:=mem_ready.1 hi;have xD:i<ops.size:=(Array.getElem?_eq_some_iff.1 ho).1
   have h2:=hall i xD;simp[Array.getD,hsz,xD] at h1 h2;rw[h2] at h1;cases h1
  | succ fuel ih =>
   intro listed a w hsz hc hI hcl hde hts hsm hΦ;have gd : ∀i,i<ops.size->listed.getD i true=listed.getD i false:=fun i hi=>by simp[Array.getD,hsz,hi]
   refine⟨fun hr => ?_,fun i hi => ?_⟩
   ·refine xA listed a w ?_ hI hde hts hsm hΦ
    have : ∀n,∀k,k<n->k<ops.size->listed.getD k false=true:=by
     intro n
     induction n with
     | zero=>intro k hk;omega
     | succ n ihn =>
      intro k hk hks
      by_cases hlk:listed.getD k false=true
      ·exact hlk
      ·exfalso
       have xK:k∈Region.ready .any ops listed:=by
        refine mem_ready.2 ⟨by rw[gd k hks];simpa using hlk,ops[k],Nl hks,fun e he hb => ?_⟩
        have h1:=(xM k ops[k] (Nl hks)).1 e he hb;exact ihn e.on (by omega) (by omega)
       rw[hr] at xK;cases xK
    exact fun k hk=>this (k+1) k (by omega) hk
   ·obtain⟨h1,o,ho,xQ⟩:=mem_ready.1 hi;have xD:i<ops.size:=(Array.getElem?_eq_some_iff.1 ho).1
    have xG:=xU i o ho;have st:=Ox step (by rw[ND];exact ho)
    rw[Lr] at st;have xH : ∀k,(o.after.toList.any fun e=>e.on == k && Region.binds .any e)=true->listed.getD k false=true:=fun k hk=>by
     obtain⟨e,he,h2⟩:=Qdq hk;simp only[Bool.and_eq_true,beq_iff_eq] at h2;obtain⟨rfl,xE⟩:=h2;exact xQ e he xE
    have xT : ∀k,(o.after.toList.any fun e=>e.on == k && Region.binds .any e)=true->k<i:=fun k hk=>by
     obtain⟨e,he,h2⟩:=Qdq hk;simp only[Bool.and_eq_true,beq_iff_eq] at h2;obtain⟨rfl,xE⟩:=h2;exact(xM i o ho).1 e he xE
    have xY : ∀k,(o.after.toList.any fun e=>e.on == k && Region.binds .any e)=true->a.tmps.getD (sl.getD k 0) undef=vs.getD k undef:=fun k hk =>
     hΦ k (by have:=xT k hk;omega) (xH k hk)
    have xB:(fun k=>(listed.setIfInBounds i true).getD k false)=fun k=>if k=i then true else listed.getD k false:=by
     funext k
     by_cases e:k=i
     ·subst e;simp[Array.getD,hsz,xD]
     ·by_cases h:k<listed.size
      ·simp[Array.getD,h,e,Ne.symm e]
      ·simp[Array.getD,h,e]
    have hK : ∀v w',(o.dst=none∨v=vs.getD i undef)->I (fun k=>if k=i then true else listed.getD k false) w'->wpAny P .any ops Q fuel (listed.setIfInBounds i true) (a.put o.dst v) w':=fun v w' hv hI'=>by
     refine ih _ _ _ (by simp[hsz]) ?_ (by rw[xB];exact hI') ?_ ?_ ?_ ?_ ?_
     ·have:=QbC (p:=fun k=>listed.getD k false) (q:=fun k=>(listed.setIfInBounds i true).getD k false) (i:=i) (by rw[<-gd i xD];exact h1) (by simp[Array.getD,hsz,xD]) (fun k hk=>by
       by_cases h:k<listed.size
       ·simp[Array.getD,h,Ne.symm hk]
       ·simp[Array.getD,h]) ops.size xD
      omega
     ·intro x y hx hxy;have e1:(listed.setIfInBounds i true).getD x false=if x=i then true else listed.getD x false:=congrFun xB x
      have e2:(listed.setIfInBounds i true).getD y false=if y=i then true else listed.getD y false:=congrFun xB y
      rw[e1] at hx;rw[e2]
      by_cases ey:y=i
      ·rw[Lm ey]
      ·rw[Le ey]
       by_cases ex:x=i
       ·subst ex;refine xH y ?_
        have xF:=hxy;unfold dep at xF;rw[ND,ho] at xF;exact xF
       ·rw[Le ex] at hx;exact hcl x y hx hxy
     ·rw[xG];split <;> exact hde
     ·rw[xG];split <;> simp[Act.put,hts]
     ·intro t ht;rw[xG]
      split
      ·rw[UQ]
       ·exact hsm t ht
       ·intro e;have:=xL i (by omega)
        rw[e,ht] at this;cases this
      ·exact hsm t ht
     ·intro k hk hlk
      by_cases e:k=i
      ·subst e;rw[xG]
       split
       ·rename_i hsl
        rw[QbU _ _ _ (by rw[hts];exact hsl)]
        rcases hv with hv|hv
        ·rw[xG,Lm hsl] at hv;cases hv
        ·exact hv
       ·rename_i hsl
        rw[xX k hk hsl];exact QeQ a (by rw[hts];exact hsl)
      ·have xJ:listed.getD k false=true:=by
        have e1:(listed.setIfInBounds i true).getD k false=if k=i then true else listed.getD k false:=congrFun xB k
        rw[e1,Le e] at hlk;exact hlk
       rw[xG]
       split
       ·rw[UQ _ _ _ _ (ne i k (by omega) hk (Ne.symm e))]
        exact hΦ k hk xJ
       ·exact hΦ k hk xJ
    have xC:=st (fun k=>listed.getD k false) a w (wpAny P .any ops Q fuel (listed.setIfInBounds i true)) hI (by rw[<-gd i xD];exact h1) hcl hsm xY hK
    unfold wpOp;simp only[ho]
    cases hg:o.guard with
    | none =>
     rw[hg] at xC;rw[Lm (by unfold Region.wanted;rw[hg])]
     exact Or.inl xC
    | some gw =>
     obtain⟨g,want⟩:=gw;rw[hg] at xC;obtain⟨b,xP,xC⟩:=xC;have xZ:=(xM i o ho).2 g want hg;have yC:g<i:=xT g xZ;have xI:sl.getD g 0<a.tmps.size:=by
      apply Classical.byContradiction
      intro hn;rw[QeQ a hn] at xP
      cases xP
     have hy:yielded ops a.tmps g=some b:=by
      have xW:ops[g]? = some ops[g]:=Nl (by omega)
      have h5:=xU g ops[g] xW;rw[Lm (by rw[<-hts];exact xI)] at h5
      have h7:a.tmps[sl.getD g 0]? = some (.bool b):=by
       rw[<-xP,Ir,Nl xI];rfl
      unfold yielded;rw[xW];simp only[Option.bind_some,h5,h7]
     have hw:Region.wanted o (yielded ops a.tmps)=(b == want):=by
      unfold Region.wanted;rw[hg];simp only[hy];cases b <;> cases want <;> rfl
     rw[hw]
     by_cases e:b=want
     ·rw[Lm e] at xC;rw[Lm (by rw[e];simp)]
      exact Or.inl xC
     ·rw[Le e] at xC;rw[Le (by simpa using e)]
      exact xC
 refine wp_region_any hm (xN ops.size _ a0 _ (by simp) ?_ ?_ ?_ rfl rfl (fun _ _=>rfl) ?_)
 ·rw[Om (q:=fun _=>false),QcR]
  ·exact Ld _
  ·intro k hk;simp[Array.getD,hk]
 ·have hf:(fun k=>(Array.replicate ops.size false).getD k false)=fun _=>false:=by
   funext k
   by_cases hk:k<ops.size
   ·simp[Array.getD,hk]
   ·simp[Array.getD,hk]
  rw[hf];exact h0 _ rfl ⟨rfl,rfl,rfl,Ld _,fun _ _=>rfl⟩
 ·intro i k hi hk
  exfalso
  by_cases hs:i<ops.size
  ·simp[Array.getD,hs] at hi
  ·simp[Array.getD,hs] at hi
 ·intro k hk hlk
  exfalso
  have:k<ops.size:=by omega
  simp[Array.getD,this] at hlk
section
open Cv (RdC zl cU cov)
open Pl (pw)
section
variable {w W:World} {g k:Nat} {h:Int}
end
section
variable {w W:World} {s0 q:Nat} {v u:Value} {T:List (Nat×Nat)} {P:LB}
end
theorem QjW{w:World}{B T s n m c:Nat}{ao:OA}{xs:List Value}(h:w.ownsRow B T s (.slice ao m c) n xs)(hn:0<n) : ∃g,ao=some ⟨g,0,none⟩∧B<=g∧g<w.heap.size:=by
 rcases h.2 with ⟨_,h3⟩|⟨g,_,_,h2,hg,hh,_⟩
 ·omega
 ·cases h2;exact⟨g,rfl,hg,(Array.getElem?_eq_some_iff.1 hh).1⟩
end
end Go.Proofs.YtdocjikpcbmcgaaGreatDoor
