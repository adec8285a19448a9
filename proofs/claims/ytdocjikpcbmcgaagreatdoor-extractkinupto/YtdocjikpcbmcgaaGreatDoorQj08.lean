/- Own work. -/
import Derived.Test.YtdocjikpcbmcgaaGreatDoorQj07
namespace Go.Proofs.YtdocjikpcbmcgaaGreatDoor
open Go.RowKit
attribute [local go_sem ↓] Go.wp_at_zero Go.wp_at_succ
section
open Cv (RdC zl cU)
theorem Qj{w w':World}{B T s n:Nat}{x:Value}{cs:List Value}(h:w.ownsRow B T s x n cs)(hk : ∀g,x.ownBlock=some g->B<=g->w'.heap[g]? = w.heap[g]?):w'.ownsRow B T s x n cs:=by
 obtain⟨h1,h2⟩:=h;refine⟨h1,?_⟩
 rcases h2 with h2|⟨g,cap,cur,rfl,hg,hh,h3⟩
 ·exact .inl h2
 ·exact .inr ⟨g,cap,cur,rfl,hg,(hk g rfl hg).trans hh,h3⟩
structure ChT(S:Nat->Prop)(w w':World):Prop where
 os:w'.os=w.os
 tape:w'.tape=w.tape
 output:w'.output=w.output
 size:w'.heap.size=w.heap.size
 block : ∀b,¬S b->w'.heap[b]? = w.heap[b]?
theorem ChT.refl(S:Nat->Prop)(w:World):ChT S w w:=⟨rfl,rfl,rfl,rfl,fun _ _=>rfl⟩
theorem ChT.set{S:Nat->Prop}{w w':World}(h:ChT S w w')(b i:Nat)(v:Value)(hb:S b):ChT S w (w'.setCell ⟨b,i,none⟩ v):=by
 have h0:=(Below.refl 0 w').setCell (p:=⟨b,i,none⟩) (Lf _) v;refine⟨h0.os.trans h.os,h0.tape.trans h.tape,h0.output.trans h.output,by rw[<-h.size];simp,fun c hc => ?_⟩
 rw[<-h.block c hc];exact Below.heap_setCell _ _ _ _ (by show c≠b;rintro rfl;exact hc hb)
theorem ChT.drew{S:Nat->Prop}{w w':World}(h:ChT S w w'):ChT S w w'.drew:=⟨h.os,h.tape,h.output,h.size,h.block⟩
theorem Qaz{w:World}{u:Value}{m:Nat}{news:List Value}(h:RdC w u m news) : ∃ao cap,u = .slice ao m cap:=by
 obtain⟨ao,cap,e,_⟩:=h;exact⟨ao,cap,e⟩
def Six(w:World)(s:Nat)(a b c d e f:Value):Prop:=w.heap[s]? = some (.cells #[a,b,c,d,e,f] 55 (0,0))
section
variable {w W:World} {s:Nat} {a b c d e f:Value}
theorem Six.cells(h:Six w s a b c d e f):w.cell? ⟨s,0,none⟩=some a∧w.cell? ⟨s,1,none⟩=some b∧w.cell? ⟨s,2,none⟩=some c∧w.cell? ⟨s,3,none⟩=some d∧w.cell? ⟨s,4,none⟩=some e∧w.cell? ⟨s,5,none⟩=some f :=
 ⟨by rw[cell_of_row w s 0 _ _ (0,0) h];rfl,by rw[cell_of_row w s 1 _ _ (0,0) h];rfl,by rw[cell_of_row w s 2 _ _ (0,0) h];rfl,by rw[cell_of_row w s 3 _ _ (0,0) h];rfl,by rw[cell_of_row w s 4 _ _ (0,0) h];rfl,by rw[cell_of_row w s 5 _ _ (0,0) h];rfl⟩
theorem Six.fz(h:Six w s a b c d e f)(j:Nat):w.frozen? ⟨s,j,none⟩=false:=frozen_of_row w s j _ _ h
theorem Six.lt(h:Six w s a b c d e f):s<w.heap.size:=(Lg.1 h).1
theorem Six.same(h:Six w s a b c d e f)(hb:W.heap[s]? = w.heap[s]?):Six W s a b c d e f:=hb.trans h
theorem Six.next(h:Six w s a b c d e f)(hb:Zb w W):Six W s a b c d e f:=h.same (hb.block s h.lt)
theorem QV(w:World)(a b c d e f:Value):Six (w.alloc (.cells #[a,b,c,d,e,f] 55)) w.heap.size a b c d e f:=heap_alloc_new w _
def QT(w:World)(s:Nat)(a b c d e f:Value):World:=(((((w.setCell ⟨s,0,none⟩ a).setCell ⟨s,1,none⟩ b).setCell ⟨s,2,none⟩ c).setCell ⟨s,3,none⟩ d).setCell ⟨s,4,none⟩ e).setCell ⟨s,5,none⟩ f
theorem Six.put(h:Six w s a b c d e f)(a' b' c' d' e' f':Value):Six (QT w s a' b' c' d' e' f') s a' b' c' d' e' f':=by
 have h0:=heap_setCell_same w s 0 _ _ a' h;have h1:=heap_setCell_same _ s 1 _ _ b' h0;have h2:=heap_setCell_same _ s 2 _ _ c' h1;have h3:=heap_setCell_same _ s 3 _ _ d' h2;have h4:=heap_setCell_same _ s 4 _ _ e' h3;exact heap_setCell_same _ s 5 _ _ f' h4
theorem QP(w:World)(s:Nat)(a b c d e f:Value):ChT (fun x=>x=s) w (QT w s a b c d e f) :=
 ((((((ChT.refl (fun x=>x=s) w).set s 0 a rfl).set s 1 b rfl).set s 2 c rfl).set s 3 d rfl).set s 4 e rfl).set s 5 f rfl
end
theorem ChT.below{S:Nat->Prop}{w w':World}(h:ChT S w w'){B:Nat}(hS : ∀b,S b->B<=b):Below B w w' :=
 ⟨h.os,h.tape,h.output,Iy h.size.symm,fun b hb=>h.block b fun hs=>by have:=hS b hs;omega⟩
abbrev noP:Value := .agg #[.int .i64 0,.int .i64 0,.int .u64 0,.int .u64 0,.slice none 0 0,.slice none 0 0]
structure RdU(w:World)(ao:OA)(b off len:Nat)(l:List Nat):Prop where
 hl:l.length=len
 ptr:0<len->ao=some ⟨b,off,none⟩
 rng:w.rangeAt b off (cU l)
theorem RdU.at{w:World}{ao:OA}{b off len:Nat}{l:List Nat}(h:RdU w ao b off len l){j:Nat}(hj:j<len):w.cell? ⟨b,off+j,none⟩=some (.int .u64 (l.getD j 0:Nat)) :=
 h.rng j _ (by have:=h.hl;simp[List.getElem?_eq_getElem (show j<l.length by omega),List.getD_eq_getElem?_getD])
theorem RdU.next{w W:World}{ao:OA}{b off len:Nat}{l:List Nat}(h:RdU w ao b off len l)(hb:Zb w W):RdU W ao b off len l:=by
 refine⟨h.hl,h.ptr,fun j v hv => ?_⟩
 have:=h.rng j v hv;exact(hb.cell (Lh w _ this)).trans this
theorem Qk2{w:World}{ao:OA}{b off len cap:Nat}{l:List Nat}(h:RdU w ao b off len l)(hn:ao=none->cap=0):RdC w (.slice ao len cap) len (cU l):=by
 refine⟨ao,cap,rfl,fun e=>⟨?_,hn e⟩,fun ad ha j c hj => ?_⟩
 ·apply Classical.byContradiction
  intro h0;have:=h.ptr (by omega)
  rw[e] at this
  cases this
 ·have hj':j<len:=by have:=(Lw.1 hj).1;rw[Ln,h.hl] at this;exact this
  have:=h.ptr (by omega)
  rw[ha] at this
  cases this;rw[Addr.add_mid];exact h.rng j c hj
theorem QkU{w:World}{B g n c:Nat}{l l':List Nat}(o:Cv.Own w B (.slice (some ⟨g,0,none⟩) n c) (l++l')):RdU w (some ⟨g,0,none⟩) g 0 l.length l :=
 ⟨rfl,fun _=>rfl,fun t v hv=>by
  have:=o.cells (g:=g) rfl t v (by rw[show cU (l++l')=cU l++cU l' from LK,LN (by have:=(Lw.1 hv).1;simpa using this)];exact hv)
  rwa [Addr.add_mid] at this⟩
theorem Jf{w:World}{da:OA}{db dO dc H:Nat}{D:LB}(h:RdS w da db dO D.length D)(hc:D.length<=dc)(hH:H<=D.length)(hn:da=none->dc=0){ax:OA}(hx:(if dc=H then da else Option.map (fun x=>x.add H) da)=ax):RdS w ax db (dO+H) (D.drop H).length (D.drop H)∧(ax=none->dc - H=0):=by
 refine⟨⟨rfl,fun h0 => ?_,fun j v hj => ?_,fun s hs=>h.sz s (LU hs)⟩,fun e => ?_⟩
 ·rw[LD] at h0;rw[if_neg (by omega),h.ptr (by omega)] at hx
  rw[<-hx];simp[Addr.add_mid]
 ·rw[I3,NL] at hj;have:=h.rng (H+j) v hj
  rwa [<-If] at this
 ·rw[e] at hx
  split at hx
  ·omega
  ·have:da=none:=by simpa using hx
   have:=hn this;omega
theorem Uk{w:World}{da:OA}{db dO:Nat}{D:LB}(h:RdS w da db dO D.length D){H:Nat}(hH:H<=D.length):RdS w da db dO (D.take H).length (D.take H):=by
 refine⟨rfl,fun h0=>h.ptr ?_,fun j v hj => ?_,fun s hs=>h.sz s (LJ hs)⟩
 ·rw[Lv] at h0;omega
 ·refine h.rng j v ?_
  rw[I4,Nf] at hj
  split at hj
  ·exact hj
  ·cases hj
structure Bx(q:Nat)(w w':World):Prop where
 os:w'.os=w.os
 tape:w'.tape=w.tape
 output:w'.output=w.output
 size:w.heap.size<=w'.heap.size
 block : ∀b,b<w.heap.size->b≠q->w'.heap[b]? = w.heap[b]?
section
variable {q:Nat} {w w1 w2:World}
theorem Bx.refl(q:Nat)(w:World):Bx q w w:=⟨rfl,rfl,rfl,Lb _,fun _ _ _=>rfl⟩
theorem Bx.next(h:Bx q w w1)(hb:Zb w1 w2):Bx q w w2:=⟨hb.os.trans h.os,hb.tape.trans h.tape,hb.output.trans h.output,Lm h.size hb.size,fun b h1 h2=>(hb.block b (LS h1 h.size)).trans (h.block b h1 h2)⟩
theorem Bx.put(h:Bx q w w1)(hc:ChT (fun b=>b=q) w1 w2):Bx q w w2:=⟨hc.os.trans h.os,hc.tape.trans h.tape,hc.output.trans h.output,by rw[hc.size];exact h.size,fun b h1 h2=>(hc.block b h2).trans (h.block b h1 h2)⟩
theorem Bx.below(h:Bx q w w1){B:Nat}(hB:B<=q)(hw:B<=w.heap.size):Below B w w1:=⟨h.os,h.tape,h.output,h.size,fun b hb=>h.block b (by omega) (by omega)⟩
end
end
section
open Cv (RdC zl cU tno)
open Pl (pw)
variable {GB RB:Nat}
section
variable {w W:World} {q:Nat} {K:Int} {D:LB}
end
theorem Jh(w:World)(o1 o2:Obj):((w.alloc o1).alloc o2).heap[w.heap.size]? = some o1∧((w.alloc o1).alloc o2).heap[w.heap.size+1]? = some o2:=by
 have e2:=heap_alloc_new (w.alloc o1) o2;rw[Lp] at e2;exact⟨by rw[Cv.Ys o2 (by rw[Lp];omega)];exact heap_alloc_new w o1,e2⟩
section
variable {w W:World} {p:Nat} {a b:Value}
end
theorem QgN{B:Nat}{a Z:World}(h:Below B a Z){p i:Nat}{v:Value}(hp:B<=p):Below B a (Z.setCell ⟨p,i,none⟩ v) :=
 h.trans (((ChT.refl (fun b=>b=p) Z).set p i v rfl).below (by rintro b rfl;exact hp))
section
end
variable {GB RB:Nat}
abbrev oP(kd k:Int)(old size:Nat)(vs vd:Value):Obj := .cells #[.int .i64 kd,.int .i64 k,.int .u64 (old:Int),.int .u64 (size:Int),vs,vd] 55
abbrev vP(kd k:Int)(old size:Nat)(vs vd:Value):Value := .agg #[.int .i64 kd,.int .i64 k,.int .u64 (old:Int),.int .u64 (size:Int),vs,vd]
def fil(k:Int)(m:Nat)(D:LB):Prop:=D.length=m ∧ ∀d∈D,(d.size:Int)=k
instance (k:Int) (m:Nat) (D:LB):Decidable (fil k m D):=by unfold fil;infer_instance
end
section
open Pl (pw QK QB Ue)
open Cv (tno All Til But)
abbrev He:Type:=(Nat×Nat)×BA
def Fn(K:List He):Prop := ∀e∈K,∀e'∈K,e.1=e'.1->e.2=e'.2
def JD(h k:Nat)(e:He):Bool:=decide (e.1.1<h) && decide (e.1.2 / 2^(h - e.1.1)=k)
theorem Fn.filter{K:List He}(h:Fn K)(p:He->Bool):Fn (K.filter p):=fun e he e' he'=>h e (Nr.1 he).1 e' (Nr.1 he').1
theorem QdU{a h x k:Nat}(ha:a<=h)(hx:x / 2^(h - a)=k):x / 2^(h+1 - a)=k / 2:=by
 rw[show h+1 - a=(h - a)+1 by omega,LA,<-Nc,hx]
theorem Tl.some{c:Nat}{K:List He}{h k:Nat}{v:BA}(ht:Tl c K h k v)(hf:Fn K) : ∀e∈K,e.1=(h,k)->e.2=v:=by
 intro e he h1
 cases h with
 | zero=>exact hf e he _ ht h1
 | succ h =>
  rcases ht with ht|⟨hno,_⟩
  ·exact hf e he _ ht h1
  ·exact absurd (show((h+1,k),e.2)∈K by rw[<-h1];exact he) (hno e.2)
theorem Tl.keep{c:Nat}{K:List He}{p:He->Bool} : ∀ {h k:Nat} {v:BA},Tl c K h k v->(∀e∈K,e.1.1<=h->e.1.2 / 2^(h - e.1.1)=k->p e=true)->Tl c (K.filter p) h k v:=by
 intro h
 induction h with
 | zero =>
  intro k v ht hp;exact Nr.2 ⟨ht,hp _ ht (Lb _) (by simp)⟩
 | succ h ih =>
  intro k v ht hp
  rcases ht with ht|⟨hno,x,y,hx,hy,hv⟩
  ·exact .inl (Nr.2 ⟨ht,hp _ ht (Lb _) (by simp)⟩)
  ·refine .inr ⟨fun u hu=>hno u (Nr.1 hu).1,x,y,ih hx fun e he h1 h2=>hp e he (by omega) ?_,ih hy fun e he h1 h2=>hp e he (by omega) ?_,hv⟩
   ·rw[QdU h1 h2];omega
   ·rw[QdU h1 h2];omega
theorem Tl.mem{c:Nat}{K:List He} : ∀ {h k:Nat} {v:BA},Tl c K h k v -> ∃e,e∈K:=by
 intro h
 induction h with
 | zero=>intro k v ht;exact⟨_,ht⟩
 | succ h ih =>
  intro k v ht
  rcases ht with ht|⟨_,x,y,hx,_⟩
  ·exact⟨_,ht⟩
  ·exact ih hx
theorem Tl.size{c:Nat}(hc:c<=32){K:List He}(hK : ∀e∈K,e.2.size<=32) : ∀ {h k:Nat} {v:BA},Tl c K h k v->v.size<=32:=by
 intro h k v ht
 cases h with
 | zero=>exact hK _ ht
 | succ h =>
  rcases ht with ht|⟨_,x,y,_,_,rfl⟩
  ·exact hK _ ht
  ·rw[YS hc];exact hc
theorem Tl.down{c:Nat}{K:List He}{h k:Nat}{v:BA}(ht:Tl c K h k v)(hno : ∀e∈K,e.1≠(h,k)) : ∃g x y,h=g+1∧v=dg c (QE x y)∧Tl c (K.filter (JD (g+1) k)) g (2*k) x∧Tl c (K.filter (JD (g+1) k)) g (2*k+1) y:=by
 cases h with
 | zero=>exact absurd rfl (hno _ ht)
 | succ g =>
  rcases ht with ht|⟨_,x,y,hx,hy,hv⟩
  ·exact absurd rfl (hno _ ht)
  ·refine⟨g,x,y,rfl,hv,hx.keep fun e he h1 h2 => ?_,hy.keep fun e he h1 h2 => ?_⟩
   ·rw[JD,I5];exact⟨decide_eq_true (by omega),decide_eq_true (by rw[QdU h1 h2];omega)⟩
   ·rw[JD,I5];exact⟨decide_eq_true (by omega),decide_eq_true (by rw[QdU h1 h2];omega)⟩
theorem QdW{R:List (Nat×Nat)}{D:LB}(h:D.length=R.length){j:Nat}(hj:j<R.length):(R.zip D)[j]? = some (R.getD j (0,0),D.getD j ByteArray.empty):=by
 have hz:(R.zip D)[j]? = some (R[j],D[j]'(by omega)):=List.getElem?_zip_eq_some.2 ⟨Lc hj,Lc (show j<D.length by omega)⟩
 rw[hz,La,Lc hj,La,Lc (show j<D.length by omega)]
 rfl
theorem QdX{R:List (Nat×Nat)}{D:LB}(h:D.length=R.length):(R.zip D).length=R.length:=by rw[List.length_zip,h,Nat.min_self]
section
variable {c n:Nat} {S:List Nat} {X D:LB}
theorem Qe5(hp:Asc S){i j:Nat}(hi:i<S.length)(hj:j<S.length)(he:S.getD i 0=S.getD j 0):i=j:=by
 rw[La,Lc hi,La,Lc hj] at he;have he:S[i]=S[j]:=he;have hw:=Np.1 hp
 rcases Ii i j with h|h|h
 ·have:=hw i j hi hj h;omega
 ·exact h
 ·have:=hw j i hj hi h;omega
end
end
section
open Pl (pw QK QB Ue Qax JV)
open Cv (dnL cov QH Row Qgr UI)
theorem Qit(h x:Nat):dnL h x x=[]:=by
 induction h with
 | zero=>rfl
 | succ h ih=>rw[dnL,if_neg (by have:=QB h;omega)];exact ih
theorem Qjq{h j:Nat}(hj:h<=j):pw j=pw (j - h)*pw h:=by rw[<-Qax];congr 1;omega
theorem Qiu(h:Nat) : ∀j lo hi q,h<=j->hi - lo<pw j->(hi - lo) / pw h*pw h=q->dnL j lo hi=dnL j lo (lo+q)++dnL h (lo+q) hi:=by
 intro j
 induction j with
 | zero =>
  intro lo hi q hj _ _;obtain rfl:h=0:=by omega
  rfl
 | succ j ih =>
  intro lo hi q hj hl hq;have hp:=QB h;have hpj:=QB j
  by_cases he:h=j+1
  ·subst he;have:q=0:=by rw[<-hq,Il hl,IS]
   subst this
   show dnL (j+1) lo hi=dnL (j+1) lo lo++dnL (j+1) lo hi
   rw[Qit,NQ]
  ·have hj':h<=j:=by omega
   have hc:=Qjq hj';have hps:=QK j;rw[dnL,dnL]
   by_cases hf:pw j<=hi - lo
   ·have hq1:pw j<=q:=by
     rw[<-hq,hc];refine Lo _ ?_
     rw[Ih hp,<-hc];exact hf
    have e2:(hi - (lo+pw j)) / pw h*pw h=q - pw j:=by
     have e3:hi - lo=(hi - (lo+pw j))+pw (j - h)*pw h:=by rw[<-hc];omega
     rw[e3,Nat.add_mul_div_right _ _ hp,LI,<-hc] at hq;omega
    have:=ih (lo+pw j) hi (q - pw j) hj' (by omega) e2
    rw[show lo+pw j+(q - pw j)=lo+q by omega] at this
    rw[if_pos hf,if_pos (by omega),this,NW]
   ·have hq1 : ¬pw j<=q:=by
     have:=I_ (hi - lo) (pw h);omega
    rw[if_neg hf,if_neg (by omega)]
    exact ih lo hi q hj' (by omega) hq
theorem Qki(h:Nat) : ∀j lo hi,hi - lo<pw j->(∃c,hi - lo=c*pw h) -> ∀b∈dnL j lo hi,h<=b.1:=by
 intro j
 induction j with
 | zero=>intro lo hi _ _ b hb;cases hb
 | succ j ih =>
  intro lo hi hl hc b hb;obtain⟨c,hc⟩:=hc;have hps:=QK j;have hpj:=QB j;rw[dnL] at hb
  split at hb
  ·rename_i hf
   have hj:h<=j:=by
    apply Classical.byContradiction
    intro hlt;have h1:pw (j+1)<=pw h:=JV (by omega)
    have h2:c=0:=by
     apply Classical.byContradiction
     intro h0;have:=Lo (pw h) (show 1<=c by omega)
     omega
    subst h2;omega
   rcases LH.1 hb with rfl|hb
   ·exact hj
   ·refine ih (lo+pw j) hi (by omega) ⟨c - pw (j - h),?_⟩ b hb
    rw[Nat.sub_mul,<-Qjq hj,<-hc];omega
  ·exact ih lo hi (by omega) ⟨c,hc⟩ b hb
theorem Qfm{h k:Nat}(hk:0<k)(hl:k*pw h<=2^40):h<=40:=Cv.pw40 (Lm (by have:=Lo (pw h) hk;rwa [LP] at this) hl)
theorem Qde(h K:Nat)(hl:(2*K+1)*pw h<=2^40):cov 0 ((2*K+1)*pw h)=cov 0 (2*K*pw h)++[(h,2*K)]:=by
 have h40:=Qfm (by omega) hl
 have hp:=QB h;have e1:(2*K+1)*pw h=2*K*pw h+pw h:=by rw[LI,LP]
 have e2:2*K*pw h=K*pw (h+1):=(Cv.QJ K h).symm;have hps:=QK h;have h41:pw 41=2^41:=rfl;rw[QH _ hl,QH _ (by omega),Qiu (h+1) 41 0 ((2*K+1)*pw h) (2*K*pw h) (by omega) (by omega) ?_]
 ·rw[Ll]
  congr 1
  rw[dnL,if_pos (by omega),Ng _ hp,<-e1,Qit]
 ·rw[In,e1,e2]
  congr 1
  rw[I9,Nat.add_mul_div_right _ _ (QB _),Il (by omega),Ll]
theorem Qif(h K:Nat)(hl:2*K*pw h<=2^40) : ∀b∈cov 0 (2*K*pw h),h<b.1:=by
 intro b hb;have h41:pw 41=2^41:=rfl;rw[QH _ hl] at hb;exact Qki (h+1) 41 0 _ (by omega) ⟨K,by rw[In,Cv.QJ]⟩ b hb
theorem Qig:cov 0 0=[]:=Cv.Qih 0
def kb(m n:Nat):List (Nat×Nat):=cov 0 m++cov m n
theorem JO{m n:Nat}(hm:m<=n)(hn:n<=2^40):Row n 0 (kb m n):=Qgr (UI m n hm hn) (UI 0 m (Lf _) (by omega))
theorem OB{m n:Nat}(hm:m<=n)(hn:n<=2^40):(kb m n).length<=120:=by
 have h1:=Cv.Uu m (by omega)
 have h2:=Cv.OQ m n hm hn;rw[kb,Ld];omega
theorem Qbc{q:Nat} : ∀ {M:List (Nat×Nat)} {p:Nat},Row q p M->p<=q
 | [],_,h=>Iy h
 | m::M,p,h=>by
  have:=Qbc h.2.2.2;have h1:=Cv.Yr m.1 m.2;have h2:=h.1;omega
theorem Uy{q:Nat} : ∀ {M:List (Nat×Nat)} {p:Nat},Row q p M -> ∀b∈M,p<=b.2*pw b.1∧(b.2+1)*pw b.1<=q
 | [],_,_,b,hb=>by cases hb
 | m::M,p,h,b,hb=>by
  rcases LH.1 hb with rfl|hb
  ·exact⟨Iy h.1,Qbc h.2.2.2⟩
  ·have:=Uy h.2.2.2 b hb;have h1:=Cv.Yr m.1 m.2;have h2:=h.1;exact⟨by omega,this.2⟩
theorem Qgs{q:Nat} : ∀ {L:List (Nat×Nat)} {p:Nat},Row q p L -> ∀b∈L,∀b'∈L,(b.2+1)*pw b.1=(b'.2+1)*pw b'.1->b=b'
 | [],_,_,b,hb,_,_,_=>by cases hb
 | c::L,p,h,b,hb,b',hb',he=>by
  have hf:=Uy h.2.2.2
  rcases LH.1 hb with h1|h1
  ·rcases LH.1 hb' with h2|h2
   ·rw[h1,h2]
   ·have:=hf b' h2;have:=Cv.Yr b'.1 b'.2;rw[h1] at he;omega
  ·rcases LH.1 hb' with h2|h2
   ·have:=hf b h1;have:=Cv.Yr b.1 b.2;rw[h2] at he;omega
   ·exact Qgs h.2.2.2 b h1 b' h2 he
theorem Qjv{q:Nat} : ∀ {L:List (Nat×Nat)} {p:Nat},Row q p L -> ∀i j,i<L.length->j<L.length->L.getD i (0,0)=L.getD j (0,0)->i=j
 | [],_,_,i,_,hi,_,_=>by cases hi
 | c::L,p,h,i,j,hi,hj,he=>by
  have hf:=Uy h.2.2.2;have key : ∀t,t<L.length->L.getD t (0,0)≠c:=fun t ht e=>by
   have hm:L.getD t (0,0)∈L:=by rw[La,Lc ht];exact LO ht
   have h1:=hf _ hm;rw[e] at h1;have:=Cv.Yr c.1 c.2;omega
  rw[Lu] at hi hj
  cases i with
  | zero =>
   cases j with
   | zero=>rfl
   | succ j=>rw[List.getD_cons_zero,Nz] at he;exact absurd he.symm (key j (by omega))
  | succ i =>
   cases j with
   | zero=>rw[List.getD_cons_zero,Nz] at he;exact absurd he (key i (by omega))
   | succ j =>
    rw[Nz,Nz] at he;rw[Qjv h.2.2.2 i j (by omega) (by omega) he]
def dgK(c:Nat)(L:List (Nat×Nat))(D:LB):Nat->Nat->BA
 | 0,k=>if (0,k)∈L then D.getD (L.idxOf (0,k)) ⟨#[]⟩ else ⟨#[]⟩
 | h+1,k=>if (h+1,k)∈L then D.getD (L.idxOf (h+1,k)) ⟨#[]⟩ else dg c (QE (dgK c L D h (2*k)) (dgK c L D h (2*k+1)))
theorem QiN{b:Nat×Nat} : ∀ {L:List (Nat×Nat)} {j:Nat},j<L.length->L.getD j (0,0)=b->(∀t,t<j->L.getD t (0,0)≠b)->L.idxOf b=j
 | [],_,hj,_,_=>by cases hj
 | a::L,0,_,h,_=>by
  have h:a=b:=h;subst h;exact List.idxOf_cons_self
 | a::L,j+1,hj,h,hn=>by
  have h0:a≠b:=hn 0 (by omega)
  have h1:L.idxOf b=j:=QiN (show j<L.length by rw[Lu] at hj;omega) (by rw[Nz] at h;exact h) (fun t ht=>by have:=hn (t+1) (by omega);rwa [Nz] at this)
  rw[List.idxOf_cons,(beq_false_of_ne h0:(a == b)=false),cond_false,h1]
theorem Q5{L:List (Nat×Nat)}{j:Nat}(hj:j<L.length):L.getD j (0,0)∈L:=by
 rw[La,Lc hj];exact LO hj
theorem Qim{c:Nat}{L:List (Nat×Nat)}{D:LB}{h k j:Nat}(hj:j<L.length)(hb:L.getD j (0,0)=(h,k))(hn : ∀t,t<j->L.getD t (0,0)≠(h,k)):dgK c L D h k=D.getD j ⟨#[]⟩:=by
 have hm:(h,k)∈L:=by rw[<-hb];exact Q5 hj
 have hi:=QiN hj hb hn
 cases h with
 | zero=>rw[dgK,if_pos hm,hi]
 | succ h=>rw[dgK,if_pos hm,hi]
theorem Qil{c q p:Nat}{L:List (Nat×Nat)}{D:LB}(hr:Row q p L){j:Nat}(hj:j<L.length):dgK c L D (L.getD j (0,0)).1 (L.getD j (0,0)).2=D.getD j ⟨#[]⟩ :=
 Qim hj rfl fun t ht e=>by have:=Qjv hr t j (by omega) hj e;omega
theorem Qin{c:Nat}{L:List (Nat×Nat)}{D:LB}{k:Nat}(hn:(0,k) ∉ L):dgK c L D 0 k=⟨#[]⟩:=by rw[dgK,if_neg hn]
theorem Qbz{c:Nat}{L:List (Nat×Nat)}{D:LB}{h k:Nat}(hn:(h+1,k) ∉ L):dgK c L D (h+1) k=dg c (QE (dgK c L D h (2*k)) (dgK c L D h (2*k+1))):=by rw[dgK,if_neg hn]
theorem OT{c:Nat}(hc:c<=32){L:List (Nat×Nat)}{D:LB}(hD : ∀d∈D,d.size<=32)(h k:Nat):(dgK c L D h k).size<=32:=by
 have hg : ∀i,(D.getD i ⟨#[]⟩).size<=32:=fun i=>by
  by_cases hi:i<D.length
  ·rw[La,Lc hi];exact hD _ (LO hi)
  ·rw[La,NK (by omega)];exact Lf _
 cases h with
 | zero=>rw[dgK];split;exact hg _;exact Lf _
 | succ h=>rw[dgK];split;exact hg _;rw[YS hc];exact hc
structure Jn(c:Nat)(L:List (Nat×Nat))(D:LB)(F:Nat->Nat->BA):Prop where
 at' : ∀j,j<L.length->F (L.getD j (0,0)).1 (L.getD j (0,0)).2=D.getD j ⟨#[]⟩
 up : ∀h k,(h+1,k) ∉ L->F (h+1) k=dg c (QE (F h (2*k)) (F h (2*k+1)))
 sz : ∀h k,(F h k).size<=32
theorem QiQ{c q p:Nat}(hc:c<=32){L:List (Nat×Nat)}{D:LB}(hr:Row q p L)(hD : ∀d∈D,d.size<=32):Jn c L D (dgK c L D) :=
 ⟨fun _ hj=>Qil hr hj,fun _ _ hn=>Qbz hn,OT hc hD⟩
theorem Jn.join{c q p:Nat}{L:List (Nat×Nat)}{D:LB}{F:Nat->Nat->BA}(hJ:Jn c L D F)(hr:Row q p L){h k:Nat}(hb:(h,k)∈L){h' K:Nat}(hh:h<=h')(he:(K+1)*pw (h'+1)=(k+1)*pw h):F (h'+1) K=dg c (QE (F h' (2*K)) (F h' (2*K+1))) :=
 hJ.up h' K fun hm=>by
  have:=Qgs hr _ hm _ hb he;injection this with h1 _
  omega
end
section
open Pl (pw QK QB Ue)
section
variable (c:Nat) (L:LB) (M:Nat->Nat->Option Nat) (D:LB) (V:Nat->BA)
def xd:Nat->Nat->BA
 | 0,k=>match M 0 k with
  | some j=>D.getD j ByteArray.empty
  | none=>dg c (Qm (V k))
 | h+1,k=>match M (h+1) k with
  | some j=>D.getD j ByteArray.empty
  | none=>dg c (QE (xd h (2*k)) (xd h (2*k+1)))
def fp:Nat->Nat->Pq
 | 0,k=>match M 0 k with
  | some _=>none
  | none=>un (Qm (L.getD k ByteArray.empty)) (Qm (V k))
 | h+1,k=>match M (h+1) k with
  | some _=>none
  | none=>(un (QE (nd c L h (2*k)) (nd c L h (2*k+1))) (QE (xd c M D V h (2*k)) (xd c M D V h (2*k+1)))).or ((fp h (2*k)).or (fp h (2*k+1)))
def Vis(Q:Nat->Prop):Nat->Nat->Prop
 | 0,k=>M 0 k=none->Q k
 | h+1,k=>M (h+1) k=none->Vis Q h (2*k)∧Vis Q h (2*k+1)
end
section
variable {c:Nat} {L:LB} {M:Nat->Nat->Option Nat} {D:LB} {V:Nat->BA}
theorem Qc4{h k j:Nat}(e:M h k=some j):xd c M D V h k=D.getD j ByteArray.empty:=by
 cases h with
 | zero=>rw[xd,e]
 | succ h=>rw[xd,e]
theorem Jx{k:Nat}(e:M 0 k=none):xd c M D V 0 k=dg c (Qm (V k)):=by rw[xd,e]
theorem Jy{h k:Nat}(e:M (h+1) k=none):xd c M D V (h+1) k=dg c (QE (xd c M D V h (2*k)) (xd c M D V h (2*k+1))):=by rw[xd,e]
theorem Qcx{h k j:Nat}(e:M h k=some j):fp c L M D V h k=none:=by
 cases h with
 | zero=>rw[fp,e]
 | succ h=>rw[fp,e]
theorem Od{k:Nat}(e:M 0 k=none):fp c L M D V 0 k=un (Qm (L.getD k ByteArray.empty)) (Qm (V k)):=by rw[fp,e]
theorem OX{h k:Nat}(e:M (h+1) k=none):fp c L M D V (h+1) k=(un (QE (nd c L h (2*k)) (nd c L h (2*k+1))) (QE (xd c M D V h (2*k)) (xd c M D V h (2*k+1)))).or ((fp c L M D V h (2*k)).or (fp c L M D V h (2*k+1))):=by rw[fp,e]
theorem UR(hc:c<=32)(hM : ∀h k j,M h k=some j->j<D.length)(hD : ∀s∈D,s.size=c)(h k:Nat):(xd c M D V h k).size=c:=by
 cases e:M h k with
 | some j=>rw[Qc4 e];exact hD _ (QI (hM h k j e))
 | none =>
  cases h with
  | zero=>rw[Jx e,YS hc]
  | succ h=>rw[Jy e,YS hc]
theorem QiG(hc:c<=32)(hM : ∀h k j,M h k=some j->j<D.length)(hD : ∀s∈D,s.size=c) : ∀(h k:Nat) (q:BA×BA),nd c L h k=xd c M D V h k->fp c L M D V h k=some q->Clx c q:=by
 intro h
 induction h with
 | zero =>
  intro k q he hf
  cases e:M 0 k with
  | some j=>rw[Qcx e] at hf;cases hf
  | none =>
   rw[Od e] at hf;rw[Jx e] at he;obtain⟨h1,rfl⟩:=Qbj hf;exact⟨h1,he⟩
 | succ h ih =>
  intro k q he hf
  cases e:M (h+1) k with
  | some j=>rw[Qcx e] at hf;cases hf
  | none =>
   rw[OX e] at hf;rw[Jy e] at he
   rcases O6 hf with hf|⟨h0,hf⟩
   ·obtain⟨h1,rfl⟩:=Qbj hf;exact⟨h1,he⟩
   ·obtain⟨e1,e2⟩:=QcD (by rw[QD hc,UR hc hM hD]) (Jw h0)
    rcases O6 hf with hf|⟨_,hf⟩
    ·exact ih _ _ e1 hf
    ·exact ih _ _ e2 hf
theorem Qeg(hc:c<=32)(hM : ∀h k j,M h k=some j->j<D.length)(hD : ∀s∈D,s.size=c) : ∀(h k:Nat),nd c L h k=xd c M D V h k->fp c L M D V h k=none -> ∀g i,g<=h->i / 2^(h - g)=k->(∀t,g<t->t<=h->M t (i / 2^(t - g))=none)->nd c L g i=xd c M D V g i∧(g=0->M 0 i=none->L.getD i ByteArray.empty=V i):=by
 intro h
 induction h with
 | zero =>
  intro k he hf g i hg hi ht;obtain rfl:g=0:=by omega
  obtain rfl:i=k:=by rw[ND,Nj,Ib] at hi;exact hi
  refine⟨he,fun _ e => ?_⟩
  rw[Od e] at hf;exact QcA (Jw hf)
 | succ h ih =>
  intro k he hf g i hg hi ht
  by_cases hgh:g=h+1
  ·subst hgh;obtain rfl:i=k:=by rw[ND,Nj,Ib] at hi;exact hi
   exact⟨he,fun h0=>by omega⟩
  ·have e:=ht (h+1) (by omega) (Lb _)
   rw[hi] at e;rw[OX e] at hf;rw[Jy e] at he;obtain⟨h0,h12⟩:=or_none hf;obtain⟨h1,h2⟩:=or_none h12;obtain⟨e1,e2⟩:=QcD (by rw[QD hc,UR hc hM hD]) (Jw h0)
   have hk:i / 2^(h - g) / 2=k:=by
    rw[Nc,<-LA,show(h - g).succ=h+1 - g by omega];exact hi
   have hcase:i / 2^(h - g)=2*k∨i / 2^(h - g)=2*k+1:=by omega
   rcases hcase with hx|hx
   ·exact ih (2*k) e1 h1 g i (by omega) hx fun t h3 h4=>ht t h3 (by omega)
   ·exact ih (2*k+1) e2 h2 g i (by omega) hx fun t h3 h4=>ht t h3 (by omega)
theorem QlW{Q:Nat->Prop}{K:List He}(h1 : ∀e∈K,(∃j,M e.1.1 e.1.2=some j∧D.getD j ByteArray.empty=e.2)∨(M e.1.1 e.1.2=none∧e.1.1=0∧Q e.1.2∧e.2=dg c (Qm (V e.1.2))))(h2 : ∀h k j,M h k=some j -> ∃u,((h,k),u)∈K) : ∀(h k:Nat) (v:BA),Tl c K h k v->Vis M Q h k∧xd c M D V h k=v:=by
 intro h
 induction h with
 | zero =>
  intro k v ht
  rcases h1 _ ht with ⟨j,e,hv⟩|⟨e,_,hq,hv⟩
  ·exact⟨fun e'=>absurd (e.symm.trans e') (by simp),(Qc4 e).trans hv⟩
  ·exact⟨fun _=>hq,(Jx e).trans hv.symm⟩
 | succ h ih =>
  intro k v ht
  rcases ht with ht|⟨hno,x,y,hx,hy,rfl⟩
  ·rcases h1 _ ht with ⟨j,e,hv⟩|⟨_,e,_⟩
   ·exact⟨fun e'=>absurd (e.symm.trans e') (by simp),(Qc4 e).trans hv⟩
   ·cases e
  ·have e:M (h+1) k=none:=by
    cases e:M (h+1) k with
    | none=>rfl
    | some j=>obtain⟨u,hu⟩:=h2 _ _ j e;exact absurd hu (hno u)
   obtain⟨v1,e1⟩:=ih _ _ hx;obtain⟨v2,e2⟩:=ih _ _ hy;exact⟨fun _=>⟨v1,v2⟩,by rw[Jy e,e1,e2]⟩
theorem Qc5(L':LB) : ∀h k,xd c (fun _ _=>none) D (fun i=>L'.getD i ByteArray.empty) h k=nd c L' h k:=by
 intro h
 induction h with
 | zero=>intro k;rw[Jx rfl];rfl
 | succ h ih=>intro k;rw[Jy rfl,ih,ih];rfl
theorem QjS(n:Nat) : ∀h k,(k+1)*2^h<=n->Vis (fun _ _=>none) (fun i=>i<n) h k:=by
 intro h
 induction h with
 | zero=>intro k hk _;rw[Nj,NN] at hk;exact hk
 | succ h ih =>
  intro k hk _;have e:(k+1)*2^(h+1)=(2*k+1+1)*2^h:=by rw[LA,LY (2^h),<-L4];congr 1;omega
  rw[e] at hk;refine⟨ih _ (Lm (Lo _ (by omega)) hk),ih _ hk⟩
end
def bg(c:Nat):LB->LB->Pq
 | p::p2::P,q::q2::Q=>(un (UG p (QA c (p2::P))) (UG q (QA c (q2::Q)))).or (bg c (p2::P) (q2::Q))
 | _,_=>none
def tp(c n:Nat)(P Q:LB):Pq:=(un (QN n (QA c P)) (QN n (QA c Q))).or (bg c P Q)
theorem QfU(c:Nat) : ∀P,bg c P P=none
 | []=>rfl
 | [p]=>rfl
 | p::p2::P=>by rw[bg,Qbi];exact QfU c (p2::P)
theorem QgE(c n:Nat)(P:LB):tp c n P P=none:=by rw[tp,Qbi];exact QfU c P
theorem Qd2{c:Nat} : ∀(P Q:LB),P.length=Q.length->(∀s∈P,s.size=c)->(∀s∈Q,s.size=c)->QA c P=QA c Q -> ∀q,bg c P Q=some q->Clx c q
 | [],_,_,_,_,_,q,h=>by rw[bg] at h;cases h;all_goals (intros;contradiction)
 | [_],_,_,_,_,_,q,h=>by rw[bg] at h;cases h;all_goals (intros;contradiction)
 | p::p2::P,[],hl,_,_,_,q,h=>by cases hl
 | p::p2::P,[_],hl,_,_,_,q,h=>by simp at hl
 | p::p2::P,q::q2::Q,hl,hP,hQ,he,r,h=>by
  rw[QA,QA] at he;rw[bg] at h
  rcases O6 h with h|⟨h0,h⟩
  ·obtain⟨h1,rfl⟩:=Qbj h;exact⟨h1,he⟩
  ·obtain⟨_,e2⟩:=QdY (by rw[hP p (by simp),hQ q (by simp)]) (Jw h0)
   exact Qd2 (p2::P) (q2::Q) (by simpa using hl) (fun s hs=>hP s (LX _ hs)) (fun s hs=>hQ s (LX _ hs)) e2 r h
theorem Qd1{c:Nat} : ∀(P Q:LB),P.length=Q.length->(∀s∈P,s.size=c)->(∀s∈Q,s.size=c)->QA c P=QA c Q->bg c P Q=none->P=Q
 | [],[],_,_,_,_,_=>rfl
 | [],_::_,hl,_,_,_,_=>by cases hl
 | [p],[],hl,_,_,_,_=>by cases hl
 | [p],[q],_,_,_,he,_=>by rw[QA,QA] at he;rw[he]
 | [p],_::_::_,hl,_,_,_,_=>by simp at hl
 | p::p2::P,[],hl,_,_,_,h=>by cases hl
 | p::p2::P,[_],hl,_,_,_,h=>by simp at hl
 | p::p2::P,q::q2::Q,hl,hP,hQ,he,h=>by
  rw[QA,QA] at he;rw[bg] at h;obtain⟨h0,h⟩:=or_none h;obtain⟨e1,e2⟩:=QdY (by rw[hP p (by simp),hQ q (by simp)]) (Jw h0)
  rw[e1,Qd1 (p2::P) (q2::Q) (by simpa using hl) (fun s hs=>hP s (LX _ hs)) (fun s hs=>hQ s (LX _ hs)) e2 h]
theorem QjN{c n:Nat}{P Q:LB}(hl:P.length=Q.length)(hP : ∀s∈P,s.size=c)(hQ : ∀s∈Q,s.size=c)(he:dg c (QN n (QA c P))=dg c (QN n (QA c Q))){q:BA×BA}(h:tp c n P Q=some q):Clx c q:=by
 rw[tp] at h
 rcases O6 h with h|⟨h0,h⟩
 ·obtain⟨h1,rfl⟩:=Qbj h;exact⟨h1,he⟩
 ·exact Qd2 P Q hl hP hQ (QcO (Jw h0)) q h
theorem QeY{c n:Nat}{P Q:LB}(hl:P.length=Q.length)(hP : ∀s∈P,s.size=c)(hQ : ∀s∈Q,s.size=c)(h:tp c n P Q=none):P=Q:=by
 rw[tp] at h;obtain⟨h0,h⟩:=or_none h;exact Qd1 P Q hl hP hQ (QcO (Jw h0)) h
def fm(f:Nat->Nat->Pq):List (Nat×Nat)->Pq
 | []=>none
 | b::B=>(f b.1 b.2).or (fm f B)
theorem Qf6{f:Nat->Nat->Pq}{q:BA×BA} : ∀ {B:List (Nat×Nat)},fm f B=some q -> ∃b∈B,f b.1 b.2=some q
 | [],h=>by cases h
 | b::B,h=>by
  rcases O6 h with h|⟨_,h⟩
  ·exact⟨b,Nq ..,h⟩
  ·obtain⟨b',hb,h'⟩:=Qf6 h;exact⟨b',LX _ hb,h'⟩
theorem Qf5{f:Nat->Nat->Pq} : ∀ {B:List (Nat×Nat)},fm f B=none -> ∀b∈B,f b.1 b.2=none
 | [],_,b,hb=>by cases hb
 | m::B,h,b,hb=>by
  obtain⟨h1,h2⟩:=or_none h
  rcases LH.1 hb with rfl|hb
  ·exact h1
  ·exact Qf5 h2 b hb
def wk(c n:Nat)(L:LB)(M:Nat->Nat->Option Nat)(D:LB)(V:Nat->BA)(B:List (Nat×Nat)):Pq:=(tp c n (B.map fun b=>nd c L b.1 b.2) (B.map fun b=>xd c M D V b.1 b.2)).or (fm (fp c L M D V) B)
theorem Qe1{c n:Nat}{L:LB}{M:Nat->Nat->Option Nat}{D:LB}{V:Nat->BA}{B:List (Nat×Nat)}(hc:c<=32)(hM : ∀h k j,M h k=some j->j<D.length)(hD : ∀s∈D,s.size=c)(he:dg c (QN n (QA c (B.map fun b=>nd c L b.1 b.2)))=dg c (QN n (QA c (B.map fun b=>xd c M D V b.1 b.2)))) :
  (∃q,wk c n L M D V B=some q∧Clx c q)∨(wk c n L M D V B=none ∧ ∀b∈B,nd c L b.1 b.2=xd c M D V b.1 b.2∧fp c L M D V b.1 b.2=none):=by
 have hP : ∀s∈B.map fun b=>nd c L b.1 b.2,s.size=c:=fun s hs=>by
  obtain⟨b,_,rfl⟩:=LE.1 hs;exact QD hc _ _ _
 have hQ : ∀s∈B.map fun b=>xd c M D V b.1 b.2,s.size=c:=fun s hs=>by
  obtain⟨b,_,rfl⟩:=LE.1 hs;exact UR hc hM hD _ _
 have hl:(B.map fun b=>nd c L b.1 b.2).length=(B.map fun b=>xd c M D V b.1 b.2).length:=by rw[Ln,Ln]
 cases ht:tp c n (B.map fun b=>nd c L b.1 b.2) (B.map fun b=>xd c M D V b.1 b.2) with
 | some q=>exact .inl ⟨q,by rw[wk,ht];rfl,QjN hl hP hQ he ht⟩
 | none =>
  have ha:=List.map_inj_left.1 (QeY hl hP hQ ht)
  cases hf:fm (fp c L M D V) B with
  | some q =>
   obtain⟨b,hb,hq⟩:=Qf6 hf;exact .inl ⟨q,by rw[wk,ht,hf];rfl,QiG hc hM hD _ _ q (ha b hb) hq⟩
  | none=>exact .inr ⟨by rw[wk,ht,hf];rfl,fun b hb=>⟨ha b hb,Qf5 hf b hb⟩⟩
end
end Go.Proofs.YtdocjikpcbmcgaaGreatDoor
