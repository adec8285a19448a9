/- Own work. -/
import Derived.Test.YtdocjikpcbmcgaaGreatDoorQn05
set_option maxRecDepth 100000
set_option maxHeartbeats 8000000
namespace Go.Proofs.YtdocjikpcbmcgaaGreatDoor
open Go.RowKit
attribute [local go_sem ↓] Go.wp_at_zero Go.wp_at_succ
open Go.Proofs.Tryz
section
open Cv (RdC zl cU)
theorem Qi{w w':World}{B T s n:Nat}{x:Value}{cs:List Value}(h:w.ownsRow B T s x n cs)(hk : ∀g,x.ownBlock=some g->B<=g->w'.heap[g]? = w.heap[g]?):w'.ownsRow B T s x n cs:=by
 obtain⟨h1,h2⟩:=h;refine⟨h1,?_⟩
 rcases h2 with h2|⟨g,cap,cur,rfl,hg,hh,h3⟩
 ·exact .inl h2
 ·exact .inr ⟨g,cap,cur,rfl,hg,(hk g rfl hg).trans hh,h3⟩
structure ChT(S:Nat->Prop)(w w':World):Prop where
 os:w'.os=w.os
 tape:w'.tape=w.tape
 output:w'.output=w.output
 size:w'.heap.size=w.heap.size
 block : ∀b,¬S b->w'.heap[b]? = w.heap[b]?
theorem ChT.refl(S:Nat->Prop)(w:World):ChT S w w:=⟨rfl,rfl,rfl,rfl,fun _ _=>rfl⟩
theorem ChT.set{S:Nat->Prop}{w w':World}(h:ChT S w w')(b i:Nat)(v:Value)(hb:S b):ChT S w (w'.setCell ⟨b,i,none⟩ v):=by
 have h0:=(Lb 0 w').setCell (p:=⟨b,i,none⟩) (Ll _) v;refine⟨h0.os.trans h.os,h0.tape.trans h.tape,h0.output.trans h.output,by rw[<-h.size];simp,fun c hc => ?_⟩
 rw[<-h.block c hc];exact Below.heap_setCell _ _ _ _ (by show c≠b;rintro rfl;exact hc hb)
theorem ChT.drew{S:Nat->Prop}{w w':World}(h:ChT S w w'):ChT S w w'.drew:=⟨h.os,h.tape,h.output,h.size,h.block⟩
theorem YB{w:World}{u:Value}{m:Nat}{news:List Value}(h:RdC w u m news) : ∃ao cap,u = .slice ao m cap:=by
 obtain⟨ao,cap,e,_⟩:=h;exact⟨ao,cap,e⟩
def Six(w:World)(s:Nat)(a b c d e f:Value):Prop:=w.heap[s]? = some (.cells #[a,b,c,d,e,f] 55 (0,0))
section
variable {w W:World} {s:Nat} {a b c d e f:Value}
theorem Six.cells(h:Six w s a b c d e f):w.cell? ⟨s,0,none⟩=some a∧w.cell? ⟨s,1,none⟩=some b∧w.cell? ⟨s,2,none⟩=some c∧w.cell? ⟨s,3,none⟩=some d∧w.cell? ⟨s,4,none⟩=some e∧w.cell? ⟨s,5,none⟩=some f :=
 ⟨by rw[cell_of_row w s 0 _ _ (0,0) h];rfl,by rw[cell_of_row w s 1 _ _ (0,0) h];rfl,by rw[cell_of_row w s 2 _ _ (0,0) h];rfl,by rw[cell_of_row w s 3 _ _ (0,0) h];rfl,by rw[cell_of_row w s 4 _ _ (0,0) h];rfl,by rw[cell_of_row w s 5 _ _ (0,0) h];rfl⟩
theorem Six.fz(h:Six w s a b c d e f)(j:Nat):w.frozen? ⟨s,j,none⟩=false:=frozen_of_row w s j _ _ h
theorem Six.lt(h:Six w s a b c d e f):s<w.heap.size:=(Array.getElem?_eq_some_iff.1 h).1
theorem Six.same(h:Six w s a b c d e f)(hb:W.heap[s]? = w.heap[s]?):Six W s a b c d e f:=hb.trans h
theorem Six.next(h:Six w s a b c d e f)(hb:Zb w W):Six W s a b c d e f:=h.same (hb.block s h.lt)
theorem Q8(w:World)(a b c d e f:Value):Six (w.alloc (.cells #[a,b,c,d,e,f] 55)) w.heap.size a b c d e f:=Lu w _
def QZ(w:World)(s:Nat)(a b c d e f:Value):World:=(((((w.setCell ⟨s,0,none⟩ a).setCell ⟨s,1,none⟩ b).setCell ⟨s,2,none⟩ c).setCell ⟨s,3,none⟩ d).setCell ⟨s,4,none⟩ e).setCell ⟨s,5,none⟩ f
theorem Six.put(h:Six w s a b c d e f)(a' b' c' d' e' f':Value):Six (QZ w s a' b' c' d' e' f') s a' b' c' d' e' f':=by
 have h0:=LI w s 0 _ _ a' h;have h1:=LI _ s 1 _ _ b' h0;have h2:=LI _ s 2 _ _ c' h1;have h3:=LI _ s 3 _ _ d' h2;have h4:=LI _ s 4 _ _ e' h3;exact LI _ s 5 _ _ f' h4
theorem QQ(w:World)(s:Nat)(a b c d e f:Value):ChT (fun x=>x=s) w (QZ w s a b c d e f) :=
 ((((((ChT.refl (fun x=>x=s) w).set s 0 a rfl).set s 1 b rfl).set s 2 c rfl).set s 3 d rfl).set s 4 e rfl).set s 5 f rfl
end
theorem ChT.below{S:Nat->Prop}{w w':World}(h:ChT S w w'){B:Nat}(hS : ∀b,S b->B<=b):Below B w w' :=
 ⟨h.os,h.tape,h.output,Wp h.size.symm,fun b hb=>h.block b fun hs=>by have:=hS b hs;omega⟩
abbrev noP:Value := .agg #[.int .i64 0,.int .i64 0,.int .u64 0,.int .u64 0,.slice none 0 0,.slice none 0 0]
structure RdU(w:World)(ao:OA)(b off len:Nat)(l:List Nat):Prop where
 hl:l.length=len
 ptr:0<len->ao=some ⟨b,off,none⟩
 rng:w.rangeAt b off (cU l)
theorem RdU.at{w:World}{ao:OA}{b off len:Nat}{l:List Nat}(h:RdU w ao b off len l){j:Nat}(hj:j<len):w.cell? ⟨b,off+j,none⟩=some (.int .u64 (l.getD j 0:Nat)) :=
 h.rng j _ (by have:=h.hl;simp[List.getElem?_eq_getElem (show j<l.length by omega),List.getD_eq_getElem?_getD])
theorem RdU.lt{w:World}{ao:OA}{b off len:Nat}{l:List Nat}(h:RdU w ao b off len l)(h0:0<len):b<w.heap.size:=Lh w _ (h.at h0)
theorem RdU.next{w W:World}{ao:OA}{b off len:Nat}{l:List Nat}(h:RdU w ao b off len l)(hb:Zb w W):RdU W ao b off len l:=by
 refine⟨h.hl,h.ptr,fun j v hv => ?_⟩
 have:=h.rng j v hv;exact(hb.cell (Lh w _ this)).trans this
theorem Ql2{w:World}{ao:OA}{b off len cap:Nat}{l:List Nat}(h:RdU w ao b off len l)(hn:ao=none->cap=0):RdC w (.slice ao len cap) len (cU l):=by
 refine⟨ao,cap,rfl,fun e=>⟨?_,hn e⟩,fun ad ha j c hj => ?_⟩
 ·apply Classical.byContradiction
  intro h0;have:=h.ptr (by omega)
  rw[e] at this
  cases this
 ·have xA:j<len:=by have:=(List.getElem?_eq_some_iff.1 hj).1;rw[Lx,h.hl] at this;exact this
  have:=h.ptr (by omega)
  rw[ha] at this
  cases this;rw[Addr.add_mid];exact h.rng j c hj
theorem QlP{w:World}{B g n c:Nat}{l l':List Nat}(o:Cv.Own w B (.slice (some ⟨g,0,none⟩) n c) (l++l')):RdU w (some ⟨g,0,none⟩) g 0 l.length l :=
 ⟨rfl,fun _=>rfl,fun t v hv=>by
  have:=o.cells (g:=g) rfl t v (by rw[show cU (l++l')=cU l++cU l' from L8,LL (by have:=(List.getElem?_eq_some_iff.1 hv).1;simpa using this)];exact hv)
  rwa [Addr.add_mid] at this⟩
theorem RdU.same{w W:World}{ao:OA}{b off len:Nat}{l:List Nat}(h:RdU w ao b off len l)(hb:W.heap[b]? = w.heap[b]?):RdU W ao b off len l :=
 ⟨h.hl,h.ptr,fun j v hv=>(LC hb).trans (h.rng j v hv)⟩
theorem RdS.same{w W:World}{ao:OA}{b off len:Nat}{l:LB}(h:RdS w ao b off len l)(hb:W.heap[b]? = w.heap[b]?):RdS W ao b off len l :=
 ⟨h.hl,h.ptr,fun j v hv=>(LC hb).trans (h.rng j v hv),h.sz⟩
theorem Uo{w:World}{da:OA}{db dO dc H:Nat}{D:LB}(h:RdS w da db dO D.length D)(hc:D.length<=dc)(hH:H<=D.length)(hn:da=none->dc=0){ax:OA}(hx:(if dc=H then da else Option.map (fun x=>x.add H) da)=ax):RdS w ax db (dO+H) (D.drop H).length (D.drop H)∧(ax=none->dc - H=0):=by
 refine⟨⟨rfl,fun h0 => ?_,fun j v hj => ?_,fun s hs=>h.sz s (LV hs)⟩,fun e => ?_⟩
 ·rw[Lv] at h0;rw[Le (by omega),h.ptr (by omega)] at hx
  rw[<-hx];simp[Addr.add_mid]
 ·rw[IW,Np] at hj;have:=h.rng (H+j) v hj
  rwa [<-Ik] at this
 ·rw[e] at hx
  split at hx
  ·omega
  ·have:da=none:=by simpa using hx
   have:=hn this;omega
theorem O4{w:World}{da:OA}{db dO:Nat}{D:LB}(h:RdS w da db dO D.length D){H:Nat}(hH:H<=D.length):RdS w da db dO (D.take H).length (D.take H):=by
 refine⟨rfl,fun h0=>h.ptr ?_,fun j v hj => ?_,fun s hs=>h.sz s (Nf hs)⟩
 ·rw[Lq] at h0;omega
 ·refine h.rng j v ?_
  rw[IX,Nc] at hj
  split at hj
  ·exact hj
  ·cases hj
structure Bx(q:Nat)(w w':World):Prop where
 os:w'.os=w.os
 tape:w'.tape=w.tape
 output:w'.output=w.output
 size:w.heap.size<=w'.heap.size
 block : ∀b,b<w.heap.size->b≠q->w'.heap[b]? = w.heap[b]?
section
variable {q:Nat} {w w1 w2:World}
theorem Bx.refl(q:Nat)(w:World):Bx q w w:=⟨rfl,rfl,rfl,Ld _,fun _ _ _=>rfl⟩
theorem Bx.next(h:Bx q w w1)(hb:Zb w1 w2):Bx q w w2:=⟨hb.os.trans h.os,hb.tape.trans h.tape,hb.output.trans h.output,Lz h.size hb.size,fun b h1 h2=>(hb.block b (L5 h1 h.size)).trans (h.block b h1 h2)⟩
theorem Bx.put(h:Bx q w w1)(hc:ChT (fun b=>b=q) w1 w2):Bx q w w2:=⟨hc.os.trans h.os,hc.tape.trans h.tape,hc.output.trans h.output,by rw[hc.size];exact h.size,fun b h1 h2=>(hc.block b h2).trans (h.block b h1 h2)⟩
theorem Bx.trans{w0:World}(h0:Bx q w0 w)(h:Bx q w w1):Bx q w0 w1:=⟨h.os.trans h0.os,h.tape.trans h0.tape,h.output.trans h0.output,Lz h0.size h.size,fun b h1 h2=>(h.block b (L5 h1 h0.size) h2).trans (h0.block b h1 h2)⟩
theorem Bx.below(h:Bx q w w1){B:Nat}(hB:B<=q)(hw:B<=w.heap.size):Below B w w1:=⟨h.os,h.tape,h.output,h.size,fun b hb=>h.block b (by omega) (by omega)⟩
end
end
section
open Cv (RdC zl cU)
open Pl (pw)
theorem Qn2{S:List Nat}(hp:Asc S){j:Nat}(hj:j<S.length)(x:Nat):S.getD j 0<x↔j<bl S x:=by
 constructor
 ·intro h
  by_cases hb:j<bl S x
  ·exact hb
  ·have:S.getD j 0∈S.drop (bl S x):=by
    have e:S.getD j 0=(S.drop (bl S x)).getD (j - bl S x) 0:=by rw[Jk,show bl S x+(j - bl S x)=j by omega]
    rw[e,La,Lc (by rw[Lv];omega)]
    exact LG _
   have:=QeV hp this;omega
 ·intro h;have:S.getD j 0∈S.take (bl S x):=by
   rw[<-OO 0 S h,La,Lc (by rw[Lq];omega)]
   exact LG _
  exact QgW hp this
theorem Qjm(w:World)(ao:OA)(b off len cap:Nat)(S:List Nat)(r:RdU w ao b off len S)(hp:Asc S)(hm:len<=8796093022208)(x t:Nat)(ht:bl S x=t) :
  Calls prog 167 #[.slice ao len cap,.int .u64 (x:Int)] w fun e w'=>e = .returned (.int .i64 (t:Int))∧w=w':=by
 have hl:=r.hl;have xF:t<=len:=by rw[<-ht,<-hl];exact QcM _ _
 have HR:Hid (RdU w ao b off len S):=r;have HB:Hid (∀j,j<len->(S.getD j 0<x↔j<t)):=fun j hj=>by rw[<-ht];exact Qn2 hp (by omega) x
 clear r hp ht hl
 go_enter func167,ntmps167;go_wp2
 go_loopg [5,6] len (fun g lo hi wr => ∃a z:Nat,a<=t∧t<=z∧z<=len∧g=z - a∧lo = .int .i64 (a:Int)∧hi = .int .i64 (z:Int)∧w=wr)
 case atStart=>go_light;exact⟨0,len,Ll _,xF,Ld _,rfl,rfl,rfl,rfl⟩
 case round =>
  obtain⟨a,z,h1,h2,h3,rfl,rfl,rfl,rfl⟩:=hrel
  by_cases hlt:a<z
  ·obtain⟨d,hd⟩:=Ze ((z - a) / 2);have hz:(a:Int)<(z:Int):=by omega
   have xE:(z:Int) - (a:Int)=((z - a:Nat):Int):=by omega
   have xA:((z - a:Nat):Int) / 2=(d:Int):=by omega
   have xJ:Int.tdiv ((z - a:Nat):Int) 2=(d:Int):=by rw[Int.tdiv_eq_ediv_of_nonneg (by omega)];exact xA
   have xC:(a:Int)+(d:Int)=((a+d:Nat):Int):=by omega
   have xB:a+d<len:=by omega
   have xK:((a+d:Nat):Int)<(len:Int):=by omega
   have xL:(0:Int)<=((a+d:Nat):Int):=by omega
   obtain rfl:=HR.out.ptr (by omega)
   have c1:=HR.out.at xB;have hq:=HB.out (a+d) xB;obtain⟨y,hy⟩:=Ze (S.getD (a+d) 0);rw[hy] at c1 hq;have xI:a+d<z:=by omega
   have xH:a<=a+d:=by omega
   generalize a+d=m at *
   by_cases hy2:y<x
   ·have xG:(y:Int)<(x:Int):=by omega
    have xD:=hq.1 hy2;clear hq hy hd xA;go_wp2
    go_roundg (z - (m+1))
    case rel=>go_light;exact⟨m+1,z,by omega,h2,h3,rfl,by go_num,rfl,rfl⟩
    case measure=>go_light;omega
   ·have xG : ¬(y:Int)<(x:Int):=by omega
    have xD : ¬m<t:=fun h=>hy2 (hq.2 h)
    clear hq hy hd xA;go_wp2
    go_roundg (m - a)
    case rel=>go_light;exact⟨a,m,h1,by omega,by omega,rfl,rfl,rfl,rfl⟩
    case measure=>go_light;omega
  ·obtain rfl:a=z:=by omega
   obtain rfl:a=t:=by omega
   have hz : ¬(a:Int)<(a:Int):=by omega
   clear hlt;go_wp2
   go_ret
   exact⟨rfl,rfl⟩
theorem QgE(w:World)(h k:Nat)(hh:h<=40)(hk:(k+1)*pw h<=2^40)(p:Nat)(hp:(k+1)*pw h=p) :
  Zr 121 #[.agg #[.int .i64 (h:Int),.int .u64 (k:Int)]] w (.int .u64 (p:Int)):=by
 have hb:=bal (Lb w.heap.size w) (.cells #[.int .i64 (h:Int),.int .u64 (k:Int)] 83);have xB:(0:Int)<=(h:Int):=Lf _;have xC:(h:Int)<64:=by omega
 have xD : ¬(h:Int)<0:=by omega
 have xA:k+1<=2^40:=Lz (Ny _ (Pl.QF h)) hk;have e0:IntKind.u64.wrap ((k:Int)+1)=((k+1:Nat):Int):=by rw[IntKind.wrap_u64];omega
 have e1:IntKind.u64.wrap (((k:Int)+1)*(2:Int)^h)=(p:Int):=by
  have e:((k:Int)+1)*((2:Int)^h)=(p:Int):=by rw[<-hp];simp[pw]
  rw[e,IntKind.wrap_u64];omega
 clear hp hh hk xA
 go_enter func121,ntmps121;go_wp2
 go_ret
 exact⟨rfl,hb⟩
theorem Qkh{w:World}{da:OA}{db dO dc H:Nat}{D:List Nat}(h:RdU w da db dO D.length D)(hc:D.length<=dc)(hH:H<=D.length)(hn:da=none->dc=0){ax:OA}(hx:(if dc=H then da else Option.map (fun x=>x.add H) da)=ax):RdU w ax db (dO+H) (D.drop H).length (D.drop H)∧(ax=none->dc - H=0):=by
 refine⟨⟨rfl,fun h0 => ?_,fun j v hj => ?_⟩,fun e => ?_⟩
 ·rw[Lv] at h0;rw[Le (by omega),h.ptr (by omega)] at hx
  rw[<-hx];simp[Addr.add_mid]
 ·have hj:((D.drop H).map (fun x:Nat=>Value.int .u64 (x:Int)))[j]? = some v:=hj
  rw[IW,Np] at hj;have:=h.rng (H+j) v hj
  rwa [<-Ik] at this
 ·rw[e] at hx
  split at hx
  ·omega
  ·have:da=none:=by simpa using hx
   have:=hn this;omega
theorem Qki{w:World}{da:OA}{db dO:Nat}{D:List Nat}(h:RdU w da db dO D.length D){H:Nat}(hH:H<=D.length):RdU w da db dO (D.take H).length (D.take H):=by
 refine⟨rfl,fun h0=>h.ptr ?_,fun j v hj => ?_⟩
 ·rw[Lq] at h0;omega
 ·refine h.rng j v ?_
  have hj:((D.take H).map (fun x:Nat=>Value.int .u64 (x:Int)))[j]? = some v:=hj
  rw[IX,Nc] at hj
  split at hj
  ·exact hj
  ·cases hj
structure Gv(w:World)(GB:Nat)(v:Value)(S:List Nat)(X:LB):Prop where
 ex : ∃sa sb so sc xa xb xo xc,v = .agg #[.slice sa S.length sc,.slice xa X.length xc]∧RdU w sa sb so S.length S∧RdS w xa xb xo X.length X∧S.length<=sc∧X.length<=xc∧(sa=none->sc=0)∧(xa=none->xc=0)∧(0<S.length->sb<GB)∧(0<X.length->xb<GB)
variable {GB:Nat}
theorem Gv.next{w W:World}{v:Value}{S:List Nat}{X:LB}(h:Gv w GB v S X)(hb:Zb w W):Gv W GB v S X:=by
 obtain⟨sa,sb,so,sc,xa,xb,xo,xc,e,r1,r2,h1,h2,h3,h4⟩:=h.ex;exact⟨sa,sb,so,sc,xa,xb,xo,xc,e,r1.next hb,r2.next hb (Ld _),h1,h2,h3,h4⟩
theorem Gv.low{w W:World}{v:Value}{S:List Nat}{X:LB}(h:Gv w GB v S X)(hb:Below GB w W):Gv W GB v S X:=by
 obtain⟨sa,sb,so,sc,xa,xb,xo,xc,e,r1,r2,h1,h2,h3,h4,h5,h6⟩:=h.ex;refine⟨sa,sb,so,sc,xa,xb,xo,xc,e,?_,?_,h1,h2,h3,h4,h5,h6⟩
 ·by_cases h0:0<S.length
  ·exact r1.same (hb.block sb (h5 h0))
  ·exact⟨r1.hl,r1.ptr,fun j v hv=>absurd (List.getElem?_eq_some_iff.1 hv).1 (by show ¬j<(S.map _).length;rw[Lx];omega)⟩
 ·by_cases h0:0<X.length
  ·exact r2.same (hb.block xb (h6 h0))
  ·exact⟨r2.hl,r2.ptr,fun j v hv=>absurd (List.getElem?_eq_some_iff.1 hv).1 (by rw[Lx];omega),r2.sz⟩
theorem QgA(w:World)(v:Value)(S:List Nat)(X:LB)(hg:Gv w GB v S X)(hX:X.length=S.length)(hp:Asc S)(hm:S.length<=8796093022208)(x t:Nat)(ht:bl S x=t) :
  Calls prog 120 #[v,.int .u64 (x:Int)] w fun e w' => ∃v1 v2,e = .returned (.tuple #[v1,v2])∧Gv w' GB v1 (S.take t) (X.take t)∧Gv w' GB v2 (S.drop t) (X.drop t)∧Zb w w':=by
 obtain⟨sa,sb,so,sc,xa,xb,xo,xc,rfl,r1,r2,h1,h2,h3,h4,h5,h6⟩:=hg.ex;have xI:t<=S.length:=by rw[<-ht];exact QcM _ _
 obtain⟨o1,xC⟩:=Ze (Obj.cells #[.slice sa S.length sc,.slice xa X.length xc] 160 (0,0));obtain⟨o2,xH⟩:=Ze (Obj.cells #[.slice none 0 0,.slice none 0 0] 160 (0,0));have xG:=bal (Lb w.heap.size w) o1;have xB:=bal (bal xG o2) o2;have HF:Calls prog 167 #[.slice sa S.length sc,.int .u64 (x:Int)] (((w.alloc o1).alloc o2).alloc o2) fun e w'=>e = .returned (.int .i64 (t:Int))∧((w.alloc o1).alloc o2).alloc o2=w':=Qjm _ sa sb so S.length sc S (r1.next xB) hp hm x t ht
 have HC:Hid (∀W,((w.alloc o1).alloc o2).alloc o2=W->(W.heap[w.heap.size]? = some o1∧W.heap[w.heap.size+1]? = some o2∧W.heap[w.heap.size+2]? = some o2)):=fun W hW=>by
  subst hW;have e1:=Lu w o1;have e2:=Lu (w.alloc o1) o2;have e3:=Lu ((w.alloc o1).alloc o2) o2;rw[LA] at e2;rw[LA,LA] at e3;refine⟨?_,?_,e3⟩
  ·rw[Cv.Q0 o2 (by rw[LA,LA];omega),Cv.Q0 o2 (by rw[LA];omega)];exact e1
  ·rw[Cv.Q0 o2 (by rw[LA,LA];omega)];exact e2
 have HG:Hid (RdU w sa sb so S.length S∧RdS w xa xb xo X.length X∧X.length=S.length∧(sa=none->sc=0)∧(xa=none->xc=0)∧(0<S.length->sb<GB)∧(0<X.length->xb<GB)∧Zb w (((w.alloc o1).alloc o2).alloc o2)):=⟨r1,r2,hX,h3,h4,h5,h6,xB⟩;rw[hX] at xC h2;rw[<-xC,<-xH] at HF HC HG;clear hp ht hg xG xB r1 r2 xC xH h3 h4 h5 h6;rw[hX];clear hX
 go_enter func120,ntmps120
 go_wp2_with (go_at_call 167;with_reducible refine HF.mono ?_;rintro e w' ⟨rfl,xD⟩)
 obtain⟨q0,q1,q2⟩:=HC.out _ xD;have hg:=HG.out;rw[xD] at hg;have c0:w'.cell? ⟨w.heap.size,0,none⟩=some (.slice sa S.length sc):=by rw[cell_of_row _ _ 0 _ _ (0,0) q0];rfl
 have c1:w'.cell? ⟨w.heap.size,1,none⟩=some (.slice xa S.length xc):=by rw[cell_of_row _ _ 1 _ _ (0,0) q0];rfl
 have d0:w'.cell? ⟨w.heap.size+1,0,none⟩=some (.slice none 0 0):=by rw[cell_of_row _ _ 0 _ _ (0,0) q1];rfl
 have d1:w'.cell? ⟨w.heap.size+1,1,none⟩=some (.slice none 0 0):=by rw[cell_of_row _ _ 1 _ _ (0,0) q1];rfl
 have f0:w'.cell? ⟨w.heap.size+1+1,0,none⟩=some (.slice none 0 0):=by rw[cell_of_row _ _ 0 _ _ (0,0) q2];rfl
 have f1:w'.cell? ⟨w.heap.size+1+1,1,none⟩=some (.slice none 0 0):=by rw[cell_of_row _ _ 1 _ _ (0,0) q2];rfl
 have z0:=fun j=>frozen_of_row w' (w.heap.size+1) j _ _ q1
 have z1:=fun j=>frozen_of_row w' (w.heap.size+1+1) j _ _ q2
 have HQ:=Qe hg;have HH:=Qe (Lo q1 q2);have t0:(0:Int)<=(t:Int):=Lf _;have t1:(t:Int)<=(sc:Int):=by omega
 have t2:(t:Int)<=(xc:Int):=by omega
 have t3:(t:Int)<=(S.length:Int):=by omega
 clear HF HC HG q0 q1 q2 hg xD
 go_region
 all_goals obtain⟨ax,xE⟩:=Ze (if sc=t then sa else Option.map (fun x=>x.add t) sa)
 all_goals obtain⟨ay,xF⟩:=Ze (if xc=t then xa else Option.map (fun x=>x.add t) xa)
 all_goals rw[xE,xF]
 all_goals obtain⟨r1,r2,hX,h3,h4,h5,h6,hb⟩:=HQ.out
 all_goals obtain⟨q1,q2⟩:=HH.out
 all_goals have k1:=LI _ _ 1 _ _ (.slice xa t xc) (LI w' (w.heap.size+1) 0 _ _ (.slice sa t sc) q1)
 all_goals have g1:=((ChT.refl (fun b=>b=w.heap.size+1) w').set (w.heap.size+1) 0 (.slice sa t sc) rfl).set (w.heap.size+1) 1 (.slice xa t xc) rfl
 all_goals generalize (w'.setCell ⟨w.heap.size+1,0,none⟩ (.slice sa t sc)).setCell ⟨w.heap.size+1,1,none⟩ (.slice xa t xc)=W1 at *
 all_goals have p2:=(g1.block (w.heap.size+2) (by omega)).trans q2
 all_goals have k2:=LI _ _ 1 _ _ (.slice ay (S.length - t) (xc - t)) (LI W1 (w.heap.size+1+1) 0 _ _ (.slice ax (S.length - t) (sc - t)) p2)
 all_goals have g2:=(((ChT.refl (fun b=>b=w.heap.size+1+1) W1).set (w.heap.size+1+1) 0 (.slice ax (S.length - t) (sc - t)) rfl).set (w.heap.size+1+1) 1 (.slice ay (S.length - t) (xc - t)) rfl)
 all_goals generalize (W1.setCell ⟨w.heap.size+1+1,0,none⟩ (.slice ax (S.length - t) (sc - t))).setCell ⟨w.heap.size+1+1,1,none⟩ (.slice ay (S.length - t) (xc - t))=W2 at *
 all_goals have k1:=(g2.block (w.heap.size+1) (by omega)).trans k1
 all_goals have xA:=((hb.trans (g1.below (B:=w.heap.size) (by rintro b rfl;omega))).trans (g2.below (B:=w.heap.size) (by rintro b rfl;omega))).drew
 all_goals have c0:W2.drew.cell? ⟨w.heap.size+1,0,none⟩=some (.slice sa t sc):=by rw[cell_of_row W2.drew _ 0 _ _ (0,0) k1];rfl
 all_goals have c1:W2.drew.cell? ⟨w.heap.size+1,1,none⟩=some (.slice xa t xc):=by rw[cell_of_row W2.drew _ 1 _ _ (0,0) k1];rfl
 all_goals have c2:W2.drew.cell? ⟨w.heap.size+1+1,0,none⟩=some (.slice ax (S.length - t) (sc - t)):=by rw[cell_of_row W2.drew _ 0 _ _ (0,0) k2];rfl
 all_goals have c3:W2.drew.cell? ⟨w.heap.size+1+1,1,none⟩=some (.slice ay (S.length - t) (xc - t)):=by rw[cell_of_row W2.drew _ 1 _ _ (0,0) k2];rfl
 all_goals generalize W2.drew=W3 at *
 all_goals clear k1 k2 g1 g2 p2 q1 q2 HH HQ d0 d1 f0 f1 z0 z1
 all_goals go_wp2
 all_goals refine Lp (v := .tuple #[.agg #[.slice sa t sc,.slice xa t xc],.agg #[.slice ax (S.length - t) (sc - t),.slice ay (S.length - t) (xc - t)]]) (by simp[results,results120,go_sem,c0,c1,c2,c3]) rfl ⟨_,_,rfl,?_,?_,xA⟩
 ·have l1:(S.take t).length=t:=by rw[Lq];omega
  have l2:(X.take t).length=t:=by rw[Lq];omega
  have u1:=Qki (r1.next xA) (H:=t) xI;have u2:=O4 (r2.next xA (Ld _)) (H:=t) (by omega)
  rw[l1] at u1;rw[l2] at u2;exact⟨sa,sb,so,sc,xa,xb,xo,xc,by rw[l1,l2],by rw[l1];exact u1,by rw[l2];exact u2,by omega,by omega,h3,h4,fun h=>h5 (by omega),fun h=>h6 (by omega)⟩
 ·have l1:(S.drop t).length=S.length - t:=Lv;have l2:(X.drop t).length=S.length - t:=by rw[Lv,hX]
  obtain⟨u1,n1⟩:=Qkh (r1.next xA) (H:=t) h1 xI h3 xE;obtain⟨u2,n2⟩:=Uo (r2.next xA (Ld _)) (H:=t) (by omega) (by omega) h4 xF
  exact⟨ax,sb,so+t,sc - t,ay,xb,xo+t,xc - t,by rw[l1,l2],u1,u2,by omega,by omega,n1,n2,fun h=>h5 (by omega),fun h=>h6 (by omega)⟩
end
section
open Cv (RdC zl cU tno)
open Pl (pw)
variable {GB RB:Nat}
structure Rw(w:World)(RB q:Nat)(K:Int)(D:LB):Prop where
 ex : ∃da db dO dc,w.heap[q]? = some (.cells #[.int .i64 K,.slice da D.length dc] 162 (0,0))∧RdS w da db dO D.length D∧D.length<=dc∧(da=none->dc=0)∧(0<D.length->db<RB)
section
variable {w W:World} {q:Nat} {K:Int} {D:LB}
theorem Rw.lt(h:Rw w RB q K D):q<w.heap.size:=by
 obtain⟨da,db,dO,dc,h1,_⟩:=h.ex;exact(Array.getElem?_eq_some_iff.1 h1).1
theorem Rw.next(h:Rw w RB q K D)(hb:Zb w W):Rw W RB q K D:=by
 have hl:=h.lt;obtain⟨da,db,dO,dc,h1,h2,h3,h4⟩:=h.ex;exact⟨da,db,dO,dc,(hb.block q hl).trans h1,h2.next hb (Ld _),h3,h4⟩
theorem Rw.cell(h:Rw w RB q K D){j:Nat}{u:Value}(hc:w.cell? ⟨q,j,none⟩=some u):u = .int .i64 K ∨ ∃a n c,u = .slice a n c:=by
 obtain⟨da,db,dO,dc,h1,_⟩:=h.ex;rw[cell_of_row w q j _ _ (0,0) h1] at hc
 match j,hc with
 | 0,hc=>exact .inl (by simpa using hc.symm)
 | 1,hc=>exact .inr ⟨da,_,dc,by simpa using hc.symm⟩
 | j+2,hc=>simp at hc
theorem Jh(hb:Bx q w W){b j:Nat}{u:Value}(hc:w.cell? ⟨b,j,none⟩=some u)(hne:b≠q):W.cell? ⟨b,j,none⟩=some u :=
 (LC (a:=⟨b,j,none⟩) (hb.block b (Lh w _ hc) hne)).trans hc
theorem RdU.bx{ao:OA}{b off len:Nat}{l:List Nat}(r:RdU w ao b off len l)(h:Rw w RB q K D)(hb:Bx q w W):RdU W ao b off len l :=
 ⟨r.hl,r.ptr,fun j v hv=>by
  have hc:=r.rng j v hv;refine Jh hb hc fun e => ?_
  subst e;obtain⟨x,_,hx⟩:=List.mem_map.1 (Ni hv)
  rcases h.cell hc with e|⟨a,n,c,e⟩
  ·rw[<-hx] at e;cases e
  ·rw[<-hx] at e;cases e⟩
theorem RdS.bx{ao:OA}{b off len:Nat}{l:LB}(r:RdS w ao b off len l)(h:Rw w RB q K D)(hb:Bx q w W):RdS W ao b off len l:=by
 refine⟨r.hl,r.ptr,fun j v hv => ?_,r.sz⟩
 have hc:=r.rng j v hv;refine Jh hb hc fun e => ?_
 subst e;obtain⟨x,_,hx⟩:=List.mem_map.1 (Ni hv)
 rcases h.cell hc with e|⟨a,n,c,e⟩
 ·rw[<-hx] at e;cases e
 ·rw[<-hx] at e;cases e
theorem Gv.bx{v:Value}{S:List Nat}{X:LB}(g:Gv w GB v S X)(h:Rw w RB q K D)(hb:Bx q w W):Gv W GB v S X:=by
 obtain⟨sa,sb,so,sc,xa,xb,xo,xc,e,r1,r2,h1,h2,h3,h4⟩:=g.ex;exact⟨sa,sb,so,sc,xa,xb,xo,xc,e,r1.bx h hb,r2.bx h hb,h1,h2,h3,h4⟩
theorem Tb.bx(ht:Tb w)(h:Rw w RB q K D)(hb:Bx q w W):Tb W :=
 ⟨fun j u hu=>by
  have hc:=ht.rs j u hu;refine Jh hb hc fun e => ?_
  rw[e] at hc;obtain⟨x,_,hx⟩:=List.mem_map.1 (Ni hu)
  rcases h.cell hc with e|⟨a,n,c,e⟩
  ·rw[<-hx] at e;cases e
  ·rw[<-hx] at e;cases e⟩
end
theorem Rw.take{w:World}{q:Nat}{K:Int}{D:LB}(h:Rw w RB q K D)(h0:0<D.length) : ∃db dO dc,w.cell? ⟨q,0,none⟩=some (.int .i64 K)∧w.cell? ⟨q,1,none⟩=some (.slice (some ⟨db,dO,none⟩) D.length dc)∧w.frozen? ⟨q,1,none⟩=false∧w.cell? ⟨db,dO,none⟩=some (.string (D.getD 0 ByteArray.empty))∧D.length<=dc ∧ ∀ax,(if dc=1 then some ⟨db,dO,none⟩ else some (Addr.add ⟨db,dO,none⟩ 1))=ax->Rw (w.setCell ⟨q,1,none⟩ (.slice ax (D.length - 1) (dc - 1))) RB q K (D.drop 1):=by
 obtain⟨da,db,dO,dc,h1,h2,h3,h4,h5⟩:=h.ex;obtain rfl:=h2.ptr h0;have c0:w.cell? ⟨db,dO+0,none⟩=some (.string (D.getD 0 ByteArray.empty)):=h2.rng 0 _ (by simp[List.getD_eq_getElem?_getD,h0])
 refine⟨db,dO,dc,by rw[cell_of_row w q 0 _ _ (0,0) h1];rfl,by rw[cell_of_row w q 1 _ _ (0,0) h1];rfl,frozen_of_row w q 1 _ _ h1,c0,h3,fun ax hax => ?_⟩
 have hd:=Uo h2 (H:=1) h3 (by omega) h4 (ax:=ax) (by rw[<-hax];rfl)
 have hl:(D.drop 1).length=D.length - 1:=Lv;have xA:db≠q:=fun e=>by
  subst e
  rcases h.cell c0 with e|⟨a,n,c,e⟩ <;> cases e
 refine⟨ax,db,dO+1,dc - 1,?_,?_,by omega,hd.2,fun _=>h5 h0⟩
 ·rw[hl];exact LI w q 1 _ _ _ h1
 ·exact hd.1.same (((ChT.refl (fun b=>b=q) w).set q 1 _ rfl).block db xA)
theorem Yq(w:World)(o1 o2:Obj):((w.alloc o1).alloc o2).heap[w.heap.size]? = some o1∧((w.alloc o1).alloc o2).heap[w.heap.size+1]? = some o2:=by
 have e2:=Lu (w.alloc o1) o2;rw[LA] at e2;exact⟨by rw[Cv.Q0 o2 (by rw[LA];omega)];exact Lu w o1,e2⟩
theorem Qhz(w:World)(q:Nat)(K:Int)(D:LB)(hr:Rw w RB q K D)(h0:0<D.length)(h k:Nat)(sa xa:OA)(sc xn xc:Nat)(d:BA)(hd:D.getD 0 ByteArray.empty=d)(E:LB)(hE:D.drop 1=E) :
  Calls prog 122 #[.pointer (some ⟨q,0,none⟩),.agg #[.int .i64 (h:Int),.int .u64 (k:Int)],.agg #[.slice sa 0 sc,.slice xa xn xc]] w fun e w'=>e = .returned (.string d)∧Rw w' RB q K E∧Bx q w w':=by
 obtain⟨o1,xA⟩:=Ze (Obj.cells #[.int .i64 (h:Int),.int .u64 (k:Int)] 83 (0,0));obtain⟨o2,xB⟩:=Ze (Obj.cells #[.slice sa 0 sc,.slice xa xn xc] 160 (0,0));have hb:=bal (bal (Lb w.heap.size w) o1) o2;obtain⟨e1,e2⟩:=Yq w o1 o2;have hq:=hr.lt;obtain⟨W,hW⟩:=Ze ((w.alloc o1).alloc o2);rw[hW] at hb e1 e2;rw[<-xA] at e1 hW;rw[<-xB] at e2 hW;clear xA xB o1 o2;obtain⟨db,dO,dc,c0,c1,f1,c2,h1,HT⟩:=(hr.next hb).take h0;rw[hd] at c2;have g0:W.cell? ⟨w.heap.size+1,0,none⟩=some (.slice sa 0 sc):=by rw[cell_of_row _ _ 0 _ _ (0,0) e2];rfl
 have HQ:=Qe (Lo HT (Lo hb hE));have n1:(1:Int)<=(D.length:Int):=by omega
 have n2:(0:Int)<(D.length:Int):=by omega
 have n3:(1:Int)<=(dc:Int):=by omega
 clear hr HT hd hb hE e1 e2
 by_cases hdc:dc=1
 ·subst hdc
  go_enter func122,ntmps122;go_wp2
  go_ret
  exact⟨rfl,by have:=HQ.out.1 _ (Lm trivial);rw[<-HQ.out.2.2];rwa [show D.length - 1=0 by omega] at this,((Bx.refl q w).next HQ.out.2.1).put ((ChT.refl _ W).set q 1 _ rfl)⟩
 ·go_enter func122,ntmps122;go_wp2
  go_ret
  exact⟨rfl,by rw[<-HQ.out.2.2];exact HQ.out.1 _ (Le hdc),((Bx.refl q w).next HQ.out.2.1).put ((ChT.refl _ W).set q 1 _ rfl)⟩
theorem QfC(w:World)(ht:Tb w)(q:Nat)(K:Int)(D:LB)(hr:Rw w RB q K D)(k:Nat)(sa:OA)(n sc xb xo xn xc:Nat)(h0:0<n)(hx0:0<xn)(x:BA)(hx:w.cell? ⟨xb,xo,none⟩=some (.string x))(hs:x.size<2305843009213693952)(d:BA)(hd:dg (clk K) (Qh x)=d) :
  Calls prog 122 #[.pointer (some ⟨q,0,none⟩),.agg #[.int .i64 0,.int .u64 (k:Int)],.agg #[.slice sa n sc,.slice (some ⟨xb,xo,none⟩) xn xc]] w fun e w'=>e = .returned (.string d)∧Rw w' RB q K D∧Bx q w w':=by
 obtain⟨o1,xB⟩:=Ze (Obj.cells #[.int .i64 0,.int .u64 (k:Int)] 83 (0,0));obtain⟨o2,xC⟩:=Ze (Obj.cells #[.slice sa n sc,.slice (some ⟨xb,xo,none⟩) xn xc] 160 (0,0));have hb:=bal (bal (Lb w.heap.size w) o1) o2;obtain⟨e1,e2⟩:=Yq w o1 o2;obtain⟨W,hW⟩:=Ze ((w.alloc o1).alloc o2);rw[hW] at hb e1 e2;rw[<-xB] at e1 hW;rw[<-xC] at e2 hW;clear xB xC o1 o2;have hR:=hr.next hb;obtain⟨da,db,dO,dc,h1,h2,h3,h4⟩:=hR.ex;have c0:W.cell? ⟨q,0,none⟩=some (.int .i64 K):=by rw[cell_of_row W q 0 _ _ (0,0) h1];rfl
 have g0:W.cell? ⟨w.heap.size+1,0,none⟩=some (.slice sa n sc):=by rw[cell_of_row _ _ 0 _ _ (0,0) e2];rfl
 have g1:W.cell? ⟨w.heap.size+1,1,none⟩=some (.slice (some ⟨xb,xo,none⟩) xn xc):=by rw[cell_of_row _ _ 1 _ _ (0,0) e2];rfl
 have g2:W.cell? ⟨w.heap.size,0,none⟩=some (.int .i64 0):=by rw[cell_of_row _ _ 0 _ _ (0,0) e1];rfl
 have g3:W.cell? ⟨xb,xo,none⟩=some (.string x):=(hb.cell (p:=⟨xb,xo,none⟩) (Lh w _ hx)).trans hx;have HL:=Qb1 W.drew (ht.next hb.drew) K x hs d hd;have HQ:=Qe (Lo hR hb);have n0 : ¬(n:Int)=0:=by omega
 have n1:(0:Int)<(xn:Int):=by omega
 clear hr hd hb e1 e2 h1 h2 h3 h4 hR ht hx hs h0 hx0
 go_enter func122,ntmps122;go_wp2
 go_region_with (go_at_call 116;with_reducible refine HL.mono ?_;rintro e w1 ⟨rfl,xA⟩)
 all_goals go_wp2
 all_goals go_ret
 all_goals exact⟨rfl,HQ.out.1.next (Qa (Lb _ W).drew xA),(Bx.refl q w).next (Qa HQ.out.2.drew xA)⟩
def Gc(w:World)(p:Nat)(a b:Value):Prop:=w.heap[p]? = some (.cells #[a,b] 160 (0,0))
section
variable {w W:World} {p:Nat} {a b:Value}
theorem Gc.lt(h:Gc w p a b):p<w.heap.size:=(Array.getElem?_eq_some_iff.1 h).1
theorem Gc.next(h:Gc w p a b)(hb:Zb w W):Gc W p a b:=(hb.block p h.lt).trans h
theorem Gc.cells(h:Gc w p a b):w.cell? ⟨p,0,none⟩=some a∧w.cell? ⟨p,1,none⟩=some b ∧ ∀j,w.frozen? ⟨p,j,none⟩=false :=
 ⟨by rw[cell_of_row w p 0 _ _ (0,0) h];rfl,by rw[cell_of_row w p 1 _ _ (0,0) h];rfl,fun j=>frozen_of_row w p j _ _ h⟩
theorem Gc.put(h:Gc w p a b)(a' b':Value):Gc ((w.setCell ⟨p,0,none⟩ a').setCell ⟨p,1,none⟩ b') p a' b':=LI _ p 1 _ _ b' (LI w p 0 _ _ a' h)
end
theorem Qam{B:Nat}{a Z:World}(h:Below B a Z){p i:Nat}{v:Value}(hp:B<=p):Below B a (Z.setCell ⟨p,i,none⟩ v) :=
 h.trans (((ChT.refl (fun b=>b=p) Z).set p i v rfl).below (by rintro b rfl;exact hp))
abbrev oz:Obj := .cells #[.slice none 0 0,.slice none 0 0] 160
theorem QdF(V:World):Gc (V.alloc oz) V.heap.size (.slice none 0 0) (.slice none 0 0):=Lu V _
theorem QgM(V:World):Gc (V.alloc oz).drew V.heap.size (.slice none 0 0) (.slice none 0 0):=Lu V _
theorem QdG(V:World):Gc ((V.alloc oz).alloc oz) V.heap.size (.slice none 0 0) (.slice none 0 0)∧Gc ((V.alloc oz).alloc oz) (V.heap.size+1) (.slice none 0 0) (.slice none 0 0):=Yq V oz oz
theorem Qa7(V:World):Gc ((V.alloc oz).alloc oz).drew V.heap.size (.slice none 0 0) (.slice none 0 0)∧Gc ((V.alloc oz).alloc oz).drew (V.heap.size+1) (.slice none 0 0) (.slice none 0 0):=Yq V oz oz
theorem Gv.form{w:World}{v:Value}{S:List Nat}{X:LB}(h:Gv w GB v S X) : ∃sa n sc xa m xc,v = .agg #[.slice sa n sc,.slice xa m xc]:=by
 obtain⟨sa,sb,so,sc,xa,xb,xo,xc,e,_⟩:=h.ex;exact⟨sa,_,sc,xa,_,xc,e⟩
theorem Gc.other{w W:World}{p:Nat}{a a':OA}{n n' c c':Nat}(h:Gc w p (.slice a n c) (.slice a' n' c'))(hb:ChT (fun b=>b=p) w W){b j:Nat}{u:Value}(hc:w.cell? ⟨b,j,none⟩=some u)(hu : ∀a n c,u ≠ .slice a n c):W.cell? ⟨b,j,none⟩=some u:=by
 refine(LC (a:=⟨b,j,none⟩) (hb.block b fun e => ?_)).trans hc
 subst e;rw[cell_of_row w b j _ _ (0,0) h] at hc
 match j,hc with
 | 0,hc=>exact hu a n c (by simpa using hc.symm)
 | 1,hc=>exact hu a' n' c' (by simpa using hc.symm)
 | j+2,hc=>simp at hc
theorem Gv.put{w W:World}{p:Nat}{a a':OA}{n n' c c':Nat}{v:Value}{S:List Nat}{X:LB}(g:Gv w GB v S X)(h:Gc w p (.slice a n c) (.slice a' n' c'))(hb:ChT (fun b=>b=p) w W):Gv W GB v S X:=by
 obtain⟨sa,sb,so,sc,xa,xb,xo,xc,e,r1,r2,h1,h2,h3,h4⟩:=g.ex;refine⟨sa,sb,so,sc,xa,xb,xo,xc,e,⟨r1.hl,r1.ptr,fun j u hu=>h.other hb (r1.rng j u hu) fun a n c ee => ?_⟩,⟨r2.hl,r2.ptr,fun j u hu=>h.other hb (r2.rng j u hu) fun a n c ee => ?_,r2.sz⟩,h1,h2,h3,h4⟩
 ·obtain⟨x,_,hx⟩:=List.mem_map.1 (Ni hu);rw[<-hx] at ee;cases ee
 ·obtain⟨x,_,hx⟩:=List.mem_map.1 (Ni hu);rw[<-hx] at ee;cases ee
abbrev put2(w:World)(p:Nat)(a b:Value):World:=(w.setCell ⟨p,0,none⟩ a).setCell ⟨p,1,none⟩ b
theorem O0(w:World)(p:Nat)(a b:Value):ChT (fun b=>b=p) w (put2 w p a b):=((ChT.refl (fun b=>b=p) w).set p 0 a rfl).set p 1 b rfl
def Fi(GB B:Nat)(V W:World)(p1 p2:Nat)(a1 b1 a2 b2:Value)(S1 S2:List Nat)(X1 X2:LB):Prop:=Gc W p1 a1 b1∧Gc W p2 a2 b2∧Gv W GB (.agg #[a1,b1]) S1 X1∧Gv W GB (.agg #[a2,b2]) S2 X2∧Below B V W
section
variable {B:Nat} {V wc:World} {a1 b1 a2 b2:Value} {S1 S2:List Nat} {X1 X2:LB} (q1:Gv wc GB (.agg #[a1,b1]) S1 X1) (q2:Gv wc GB (.agg #[a2,b2]) S2 X2) (hb:Below B V wc) (hB:B<=wc.heap.size)
theorem Fi.swap{W:World}{p1 p2:Nat}(h:Fi GB B V W p1 p2 a1 b1 a2 b2 S1 S2 X1 X2):Fi GB B V W p2 p1 a2 b2 a1 b1 S2 S1 X2 X1:=⟨h.2.1,h.1,h.2.2.2.1,h.2.2.1,h.2.2.2.2⟩
include q1 q2 hb hB in
theorem QgG:Fi GB B V ((wc.alloc (.cells #[a1,b1] 160)).alloc (.cells #[a2,b2] 160)) wc.heap.size (wc.heap.size+1) a1 b1 a2 b2 S1 S2 X1 X2:=by
 have h:=Yq wc (.cells #[a1,b1] 160) (.cells #[a2,b2] 160);have xA:=bal (bal (Lb wc.heap.size wc) (.cells #[a1,b1] 160)) (.cells #[a2,b2] 160);exact⟨h.1,h.2,q1.next xA,q2.next xA,hb.trans (xA.mono hB)⟩
include q1 q2 hb hB in
theorem QgH{p:Nat}{a a':OA}{n n' c c':Nat}(x:Gc wc p (.slice a n c) (.slice a' n' c'))(hp:B<=p):Fi GB B V ((put2 wc p a1 b1).alloc (.cells #[a2,b2] 160)) p wc.heap.size a1 b1 a2 b2 S1 S2 X1 X2:=by
 have hc:=O0 wc p a1 b1;have xA:=bal (Lb _ (put2 wc p a1 b1)) (.cells #[a2,b2] 160);have h2:=Lu (put2 wc p a1 b1) (.cells #[a2,b2] 160);rw[hc.size] at h2;exact⟨(x.put a1 b1).next xA,h2,(q1.put x hc).next xA,(q2.put x hc).next xA,(hb.trans (hc.below (B:=B) (by rintro b rfl;exact hp))).trans (xA.mono (by rw[hc.size];exact hB))⟩
include q1 q2 hb in
theorem QgI{p1 p2:Nat}{a a':OA}{n n' c c':Nat}{d d':OA}{m m' e e':Nat}(x1:Gc wc p1 (.slice a n c) (.slice a' n' c'))(x2:Gc wc p2 (.slice d m e) (.slice d' m' e'))(hp1:B<=p1)(hp2:B<=p2)(hne:p1≠p2):Fi GB B V (put2 (put2 wc p1 a1 b1) p2 a2 b2) p1 p2 a1 b1 a2 b2 S1 S2 X1 X2:=by
 have hc:=O0 wc p1 a1 b1;have y2:Gc (put2 wc p1 a1 b1) p2 (.slice d m e) (.slice d' m' e'):=(hc.block p2 (Ne.symm hne)).trans x2;have hd:=O0 (put2 wc p1 a1 b1) p2 a2 b2;exact⟨(hd.block p1 hne).trans (x1.put a1 b1),y2.put a2 b2,(q1.put x1 hc).put y2 hd,(q2.put x1 hc).put y2 hd,(hb.trans (hc.below (B:=B) (by rintro b rfl;exact hp1))).trans (hd.below (B:=B) (by rintro b rfl;exact hp2))⟩
end
theorem bnode_two (w:World) (ht:Tb w) (q:Nat) (K:Int) (D:LB) (hr:Rw w RB q K D) (h k:Nat) (hh:h+1<=40) (hk:(k+1)*pw (h+1)<=2^40) (va vx:Value) (S:List Nat) (X:LB) (hg:Gv w GB (.agg #[va,vx]) S X) (hX:X.length=S.length) (hp:Asc S) (h0:S≠[]) (hm:S.length<=8796093022208) (t:Nat) (htt:bl S ((2*k+1)*pw h)=t) (c1 c2:BA) (s1:c1.size<=32) (s2:c2.size<=32) (D1 D2:LB)
    (HI1 : ∀W v,Tb W->Rw W RB q K D->Gv W GB v (S.take t) (X.take t)->Calls prog 122 #[.pointer (some ⟨q,0,none⟩),.agg #[.int .i64 (h:Int),.int .u64 ((2*k:Nat):Int)],v] W fun e w'=>e = .returned (.string c1)∧Rw w' RB q K D1∧Bx q W w')
    (HI2 : ∀W v,Tb W->Rw W RB q K D1->Gv W GB v (S.drop t) (X.drop t)->Calls prog 122 #[.pointer (some ⟨q,0,none⟩),.agg #[.int .i64 (h:Int),.int .u64 ((2*k+1:Nat):Int)],v] W fun e w'=>e = .returned (.string c2)∧Rw w' RB q K D2∧Bx q W w')
    (d:BA) (hd:dg (clk K) (QH c1 c2)=d) :
    Calls prog 122 #[.pointer (some ⟨q,0,none⟩),.agg #[.int .i64 ((h+1:Nat):Int),.int .u64 (k:Int)],.agg #[va,vx]] w fun e w'=>e = .returned (.string d)∧Rw w' RB q K D2∧Bx q w w':=by
  obtain⟨o1,ho1⟩:=Ze (Obj.cells #[.int .i64 ((h+1:Nat):Int),.int .u64 (k:Int)] 83 (0,0));obtain⟨o2,ho2⟩:=Ze (Obj.cells #[va,vx] 160 (0,0));have hb:=bal (bal (Lb w.heap.size w) o1) o2;obtain⟨e1,e2⟩:=Yq w o1 o2;obtain⟨W,hW⟩:=Ze ((w.alloc o1).alloc o2);have hWs:W.heap.size=w.heap.size+1+1:=by rw[<-hW];simp
  rw[hW] at hb e1 e2;rw[<-ho1] at e1 hW;rw[<-ho2] at e2 hW;clear ho1 ho2 o1 o2;obtain⟨sa,sb,so,sc,xa,xb,xo,xc,hv,r1,r2,l1,l2,n1,n2,_⟩:=hg.ex;obtain⟨rfl,rfl⟩:va = .slice sa S.length sc∧vx = .slice xa X.length xc:=by
    injection hv with hv
    have:=LU Array.toList hv
    simpa using this
  obtain⟨n,hn⟩:=Ze S.length;have hn0:0<n:=by rw[<-hn];exact List.length_pos_iff.2 h0
  have hG:=hg.next hb;have hR:=hr.next hb;have hT:=ht.next hb;have g0:W.cell? ⟨w.heap.size+1,0,none⟩=some (.slice sa S.length sc):=by rw[cell_of_row _ _ 0 _ _ (0,0) e2];rfl
  have g1:W.cell? ⟨w.heap.size+1,1,none⟩=some (.slice xa X.length xc):=by rw[cell_of_row _ _ 1 _ _ (0,0) e2];rfl
  have b0:W.cell? ⟨w.heap.size,0,none⟩=some (.int .i64 ((h:Int)+1)):=by rw[cell_of_row _ _ 0 _ _ (0,0) e1];rfl
  have b1:W.cell? ⟨w.heap.size,1,none⟩=some (.int .u64 (k:Int)):=by rw[cell_of_row _ _ 1 _ _ (0,0) e1];rfl
  rw[hn] at g0;rw[hX,hn] at g1;have hkk:k<2^40:=by
    have:=Ny (k+1) (Pl.QF (h+1));omega
  have x1:IntKind.u64.wrap (2*(k:Int))=2*(k:Int):=by rw[IntKind.wrap_u64];omega
  have x2:IntKind.u64.wrap (2*(k:Int)+1)=2*(k:Int)+1:=by rw[IntKind.wrap_u64];omega
  have z1:((n:Int) == 0)=false:=beq_false_of_ne (by omega)
  have z2:((h:Int)+1 == 0)=false:=beq_false_of_ne (by omega)
  have HQ:=Qe (Lo hR (Lo hb (Lo hT hG)));have HW:=Qe hr.lt;rw[hX,hn] at HQ hG hW;clear hr hb e1 e2 hR ht hT hg r1 r2 hv hkk;rw[hX,hn];rw[show((h+1:Nat):Int)=(h:Int)+1 by omega] at *
  go_enter func122,ntmps122
  go_upto_region 9 with (fail)
  obtain⟨o3,ho3⟩:=Ze (Obj.cells #[.int .i64 (h:Int),.int .u64 (2*(k:Int))] 83 (0,0));obtain⟨o4,ho4⟩:=Ze (Obj.cells #[.int .i64 (h:Int),.int .u64 (2*(k:Int)+1)] 83 (0,0));obtain⟨e3,e4⟩:=Yq W o3 o4;have hb2:=bal (bal (Lb W.heap.size W) o3) o4;obtain⟨V,hV⟩:=Ze ((W.alloc o3).alloc o4);rw[hV] at e3 e4 hb2;rw[<-ho3] at e3 hV;rw[<-ho4] at e4 hV;rw[hV];rw[hWs] at e3 e4;clear hV hW;have g0:=(hb2.cell (p:=⟨w.heap.size+1,0,none⟩) (Lh W _ g0)).trans g0;have g1:=(hb2.cell (p:=⟨w.heap.size+1,1,none⟩) (Lh W _ g1)).trans g1;have d0:V.cell? ⟨w.heap.size+1+1,0,none⟩=some (.int .i64 (h:Int)):=by rw[cell_of_row _ _ 0 _ _ (0,0) e3];rfl
  have d1:V.cell? ⟨w.heap.size+1+1,1,none⟩=some (.int .u64 (2*(k:Int))):=by rw[cell_of_row _ _ 1 _ _ (0,0) e3];rfl
  have f0:V.cell? ⟨w.heap.size+1+1+1,0,none⟩=some (.int .i64 (h:Int)):=by rw[cell_of_row _ _ 0 _ _ (0,0) e4];rfl
  have f1:V.cell? ⟨w.heap.size+1+1+1,1,none⟩=some (.int .u64 (2*(k:Int)+1)):=by rw[cell_of_row _ _ 1 _ _ (0,0) e4];rfl
  obtain⟨pp,hpp⟩:=Ze ((2*k+1)*pw h);have hpl:(2*k+1)*pw h<=2^40:=by
    have:=Cv.YX h k;have:=LE (pw h) (show 2*k+1<=2*k+1+1 by omega)
    omega
  have HE:Hid (∀Z,Zr 121 #[.agg #[.int .i64 (h:Int),.int .u64 (2*(k:Int))]] Z (.int .u64 (pp:Int))):=fun Z=>by
    have:=QgE Z h (2*k) (by omega) hpl pp hpp
    rwa [show((2*k:Nat):Int)=2*(k:Int) by omega] at this
  have HCt:Hid (∀Z,Zb V Z->Calls prog 120 #[.agg #[.slice sa n sc,.slice xa n xc],.int .u64 (pp:Int)] Z fun e w' => ∃v1 v2,e = .returned (.tuple #[v1,v2])∧Gv w' GB v1 (S.take t) (X.take t)∧Gv w' GB v2 (S.drop t) (X.drop t)∧Zb Z w'):=fun Z hZ=>QgA Z _ S X (HQ.out.2.2.2.next (Qa hb2 hZ)) hX hp hm pp t (by rw[<-hpp];exact htt)
  have HV:=Qe hb2;have HK:Hid (∀Z,Zb V Z->Z.cell? ⟨w.heap.size+1,0,none⟩=some (.slice sa n sc)∧Z.cell? ⟨w.heap.size+1,1,none⟩=some (.slice xa n xc)∧Z.cell? ⟨w.heap.size+1+1,0,none⟩=some (.int .i64 (h:Int))∧Z.cell? ⟨w.heap.size+1+1,1,none⟩=some (.int .u64 (2*(k:Int)))):=fun Z hZ =>
    ⟨(hZ.cell (p:=⟨w.heap.size+1,0,none⟩) (Lh V _ g0)).trans g0,(hZ.cell (p:=⟨w.heap.size+1,1,none⟩) (Lh V _ g1)).trans g1,(hZ.cell (p:=⟨w.heap.size+1+1,0,none⟩) (Lh V _ d0)).trans d0,(hZ.cell (p:=⟨w.heap.size+1+1,1,none⟩) (Lh V _ d1)).trans d1⟩
  have y0:w.heap.size+1<V.heap.size:=Lh V _ g0;have y1:w.heap.size+1+1<V.heap.size:=Lh V _ d0;have y2:w.heap.size+1+1+1<V.heap.size:=Lh V _ f0;have y3:w.heap.size<V.heap.size:=by omega
  have HS:=Qe (Lo y0 (Lo y1 (Lo y2 HW.out)));have HI:=Qe (Lo HI1 HI2);have HJ:Hid (∀Z,Zb V Z->Z.cell? ⟨w.heap.size+1+1+1,0,none⟩=some (.int .i64 (h:Int))∧Z.cell? ⟨w.heap.size+1+1+1,1,none⟩=some (.int .u64 (2*(k:Int)+1))):=fun Z hZ =>
    ⟨(hZ.cell (p:=⟨w.heap.size+1+1+1,0,none⟩) (Lh V _ f0)).trans f0,(hZ.cell (p:=⟨w.heap.size+1+1+1,1,none⟩) (Lh V _ f1)).trans f1⟩
  have HD:=Qe hd;clear hpl hpp hb2 e3 e4 HI1 HI2 hd
  go_cut [10,11] from 60 to 66 (fun x y wx => ∃p1 p2 a1 b1 a2 b2,x = .pointer (some ⟨p1,0,none⟩)∧y = .pointer (some ⟨p2,0,none⟩)∧Fi GB V.heap.size V wx p1 p2 a1 b1 a2 b2 (S.take t) (S.drop t) (X.take t) (X.drop t))
  case first =>
    go_region_held3 (fun Z=>Z.cell? ⟨w.heap.size+1,0,none⟩=some (.slice sa n sc)∧Z.cell? ⟨w.heap.size+1,1,none⟩=some (.slice xa n xc)∧Z.cell? ⟨w.heap.size+1+1,0,none⟩=some (.int .i64 (h:Int))∧Z.cell? ⟨w.heap.size+1+1,1,none⟩=some (.int .u64 (2*(k:Int))))
      (exact HK.out _ (by repeat (first|exact Lb _ _|refine LK ?_|refine bal ?_ _|refine Qa ?_ hbc|refine Qa ?_ hbe|refine Qam ?_ (by omega)))) (first
      | (go_at_call 121;with_reducible refine(HE.out _).mono ?_;rintro e we ⟨rfl,hbe⟩
         have s1:=hbe.size
         try simp only[World.size_alloc,World.drew] at s1
         first|(have y1:=(Qa7 V).1.next hbe;have y2:=(Qa7 V).2.next hbe)|(have y1:=(QgM V).next hbe)|skip)
      | (go_at_call 120;with_reducible refine(HCt.out _ (by repeat (first|exact Lb _ _|refine LK ?_|refine bal ?_ _|refine Qa ?_ hbe))).mono ?_;rintro e wc ⟨v1,v2,rfl,q1,q2,hbc⟩
         obtain⟨sa1,sn1,sc1,xa1,xn1,xc1,rfl⟩:=q1.form;obtain⟨sa2,sn2,sc2,xa2,xn2,xc2,rfl⟩:=q2.form;have s2:=hbc.size
         try simp only[World.size_alloc] at s2
         first|(have x1:=y1.next hbc;have x2:=y2.next hbc)|(have x1:=y1.next hbc)|(have x1:=y1.next (Qa (bal (Lb _ _) _) hbc);have x2:=(QdF we).next hbc)|(have x1:=(QdG we).1.next hbc;have x2:=(QdG we).2.next hbc)|(have x1:=(QdF we).next hbc)|skip
         try have v1:=x1.lt
         try have v2:=x2.lt
         try have u1:=I_ x1.lt
         try have u2:=I_ x2.lt
         try have u3:=I_ y1.lt
         try have u4:=Ne.symm u3
         try have u5:=Ne.symm u1
         try have u6:=Ne.symm u2
         try obtain⟨k0,k1,kf⟩:=x1.cells
         try obtain⟨m0,m1,mf⟩:=x2.cells))
    all_goals have hVc:Zb V wc:=by repeat (first|exact Lb _ _|refine LK ?_|refine bal ?_ _|refine Qa ?_ hbc|refine Qa ?_ hbe)
    all_goals
      go_wp2
      go_meet
      case rel =>
        go_light
        first
          | with_reducible exact⟨_,_,_,_,_,_,rfl,rfl,QgG q1 q2 hVc hVc.size⟩
          | with_reducible exact⟨_,_,_,_,_,_,rfl,rfl,(QgG q2 q1 hVc hVc.size).swap⟩
          | with_reducible exact⟨_,_,_,_,_,_,rfl,rfl,QgH q1 q2 hVc hVc.size x1 (by omega)⟩
          | with_reducible exact⟨_,_,_,_,_,_,rfl,rfl,(QgH q2 q1 hVc hVc.size x1 (by omega)).swap⟩
          | with_reducible exact⟨_,_,_,_,_,_,rfl,rfl,QgI q1 q2 hVc x1 x2 (by omega) (by omega) (by omega)⟩
          | with_reducible exact⟨_,_,_,_,_,_,rfl,rfl,QgI q1 q2 hVc x2 x1 (by omega) (by omega) (by omega)⟩
  case rest =>
    obtain⟨p1,p2,a1,b1,a2,b2,rfl,rfl,F1,F2,F3,F4,F5⟩:=hcut;obtain⟨i0,i1,i2,i3⟩:=HK.out wc F5;obtain⟨j0,j1⟩:=HJ.out wc F5;obtain⟨k0,k1,_⟩:=F1.cells;obtain⟨m0,m1,_⟩:=F2.cells;have hVc:=Qa HV.out F5;have hR:=HQ.out.1.next hVc;have hT:=HQ.out.2.2.1.next hVc;have hq:q<w.heap.size:=HS.out.2.2.2;have hp2:p2≠q:=fun e=>by
      subst e;obtain⟨da,db,dO,dc,h1,_⟩:=hR.ex;rw[F2] at h1
      cases h1
    have H1:=HI.out.1 wc _ hT hR F3;have HR:=Qe (Lo hR (Lo hT (Lo F4 (Lo hq (Lo hp2 (Qa HQ.out.2.1 hVc))))));rw[show((2*k:Nat):Int)=2*(k:Int) by omega] at H1
    have HM:=Qe (Lo m0 (Lo m1 (Lo j0 j1)));clear g0 g1 d0 d1 f0 f1 hT hR hq hp2 F1 F2 F3 F4 m0 m1 j0 j1 y0 y1 y2 y3
    go_upto_region 11 with (go_at_call 122;with_reducible refine H1.mono ?_;rintro e w1 ⟨rfl,hR1,hx1⟩)
    have m0:=Jh hx1 HM.out.1 HR.out.2.2.2.2.1;have m1:=Jh hx1 HM.out.2.1 HR.out.2.2.2.2.1;have j0:=Jh hx1 HM.out.2.2.1 (by have:=HR.out.2.2.2.1;omega)
    have j1:=Jh hx1 HM.out.2.2.2 (by have:=HR.out.2.2.2.1;omega)
    have H2:=HI.out.2 w1 _ (HR.out.2.1.bx HR.out.1 hx1) hR1 (HR.out.2.2.1.bx HR.out.1 hx1);rw[show((2*k+1:Nat):Int)=2*(k:Int)+1 by omega] at H2
    have HT1:=Qe (HR.out.2.1.bx HR.out.1 hx1);have HX1:=Qe (Lo hR1 (((Bx.refl q w).next HR.out.2.2.2.2.2).trans hx1));clear i0 i1 i2 i3 k0 k1 hx1 hR1 H1
    go_upto_region 12 with (go_at_call 122;with_reducible refine H2.mono ?_;rintro e w2 ⟨rfl,hR2,hx2⟩)
    have H3:=OS w2 (HT1.out.bx HX1.out.1 hx2) K c1 c2 (by omega) (by omega) d HD.out
    obtain⟨da,db,dO,dc,h1,_⟩:=hR2.ex;have z0:w2.cell? ⟨q,0,none⟩=some (.int .i64 K):=by rw[cell_of_row w2 q 0 _ _ (0,0) h1];rfl
    have HX2:=Qe (Lo hR2 (HX1.out.2.trans hx2));clear m0 m1 j0 j1 h1 hx2 hR2 H2 HT1
    go_wp2_with (go_at_call 125;with_reducible refine H3.mono ?_;rintro e w3 ⟨rfl,hb3⟩)
    go_ret
    exact⟨rfl,HX2.out.1.next hb3,HX2.out.2.next hb3⟩
end
end Go.Proofs.YtdocjikpcbmcgaaGreatDoor
