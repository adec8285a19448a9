/- Own work. -/
import Derived.Shelf.Strings.OnBuilder
import Derived.Shelf.Strings.Repeat
import Derived.Test.YtoblgjledefdbaaGreatDoorQc13
set_option maxRecDepth 100000
set_option maxHeartbeats 8000000
namespace Go.Proofs.YtoblgjledefdbaaGreatDoor
open Go.RowKit
attribute [local go_sem ↓] Go.wp_at_zero Go.wp_at_succ
open Go.Proofs.Tryz
namespace St
open Rc
abbrev It:=List UInt8×LB
structure BV where
 ends:List Nat
 chain:BitVec 32
 a:List UInt8
 b:List UInt8
 m:List UInt8
def BV.z:BV:=⟨[],0#32,[],[],[]⟩
def BV.mk'(k:Nat)(B:BV)(x:It):MV:=nxM k B.ends B.chain (pay x.1) (YH (nn B.ends.length) x.2)
def BV.ad(k:Nat)(B:BV)(x:It):BV:=⟨B.ends++[(B.mk' k x).items],(B.mk' k x).chain,B.a++pay x.1,B.b++Rc.Qk (YH (nn B.ends.length) x.2),B.m++mrk (B.mk' k x)⟩
def bA(k:Nat)(A:List It):BV:=A.foldl (BV.ad k) BV.z
theorem Y8(k:Nat)(A:List It)(x:It):bA k (A++[x])=(bA k A).ad k x:=by simp[bA]
def sA(k:Nat)(A:List It):SV:=⟨k,(bA k A).ends,(bA k A).chain,false⟩
structure OkI(k n:Nat)(x:It):Prop where
 len:x.1.length<=1048576
 cnt:x.2.length=nn (n+1)-nn n
 sz:∀d∈x.2,d.size=k
structure OkA(k:Nat)(A:List It):Prop where
 k1:1<=k
 k2:k<=32
 few:A.length<=65536
 it:∀i x,A[i]? = some x->OkI k i x
theorem OkA.init{k:Nat}{A:List It}{x:It}(h:OkA k (A++[x])):OkA k A :=
 ⟨h.k1,h.k2,by have:=h.few;simp at this;omega,fun i y hy=>h.it i y (by rw[LE (List.getElem?_eq_some_iff.1 hy).1];exact hy)⟩
theorem OkA.last{k:Nat}{A:List It}{x:It}(h:OkA k (A++[x])):OkI k A.length x:=h.it A.length x (by simp)
theorem Uh(x:BA)(l:LB):Rc.Qk (x::l)=x.data.toList++Rc.Qk l:=by simp[Rc.Qk]
theorem Qid(p:Nat)(d:BA)(ds:LB):YH p (d::ds)=tx (nod p d.data.toList)::YH (p+1) ds:=by
 have e:(fun(i:Nat) (d:BA)=>tx (nod (p+(i+1)) d.data.toList))=fun i d=>tx (nod (p+1+i) d.data.toList):=by
  funext i d
  rw[show p+(i+1)=p+1+i by omega]
 simp[YH,List.mapIdx_cons,e]
theorem QbS(p:Nat)(ds:LB)(h:∀d∈ds,d.size<=32):(Rc.Qk (YH p ds)).length=40*ds.length:=by
 induction ds generalizing p with
 | nil=>rfl
 | cons d ds ih=>
  rw[Qid,Uh,Le,ih (p+1) (fun x hx=>h x (Ng _ hx)),QdC,Qc2 _ _ (by rw[Qe];exact h d (by simp)),LD]
  omega
structure LenA(k:Nat)(A:List It):Prop where
 ends:(bA k A).ends.length=A.length
 lst:lst (bA k A).ends=(bA k A).a.length
 a:(bA k A).a.length<=1048584*A.length
 b:(bA k A).b.length=40*nn A.length
 m:(bA k A).m.length=64*A.length
theorem Qj7(l:List Nat)(x:Nat):lst (l++[x])=x:=by simp[lst]
theorem OkA.lens{k:Nat}{A:List It} : OkA k A->LenA k A:=by
 refine Jf (P:=fun A=>OkA k A->LenA k A) (fun _=>⟨rfl,rfl,La _,rfl,rfl⟩) (fun A x ih h=> ?_) A
 have l:=ih h.init;have hx:=h.last;have hf:=h.few;simp only[List.length_append,List.length_cons,List.length_nil] at hf;have hm:=Qc1 A.length (by omega)
 have e:(bA k (A++[x]))=(bA k A).ad k x:=Y8 k A x;have ei:((bA k A).mk' k x).items=(bA k A).a.length+(x.1.length+8):=by
  show Go.Proofs.YtoblgjledefdbaaGreatDoor.St.lst (bA k A).ends+(pay x.1).length=_
  rw[l.lst,pay_len]
 refine⟨?_,?_,?_,?_,?_⟩
 ·rw[e];simp[BV.ad,l.ends]
 ·rw[e]
  show Go.Proofs.YtoblgjledefdbaaGreatDoor.St.lst ((bA k A).ends++[((bA k A).mk' k x).items])=((bA k A).a++pay x.1).length
  rw[Qj7,ei,Le,pay_len]
 ·rw[e]
  show((bA k A).a++pay x.1).length<=_
  have:=l.a;have:=hx.len;rw[Le,pay_len,Le];simp only[List.length_cons,List.length_nil];omega
 ·rw[e]
  show((bA k A).b++Rc.Qk (YH (nn (bA k A).ends.length) x.2)).length=_
  rw[Le,QbS _ _ (fun d hd=>by rw[hx.sz d hd];exact h.k2),l.b,hx.cnt,Le]
  simp only[List.length_cons,List.length_nil,Nat.zero_add];omega
 ·rw[e]
  show((bA k A).m++mrk ((bA k A).mk' k x)).length=_
  rw[Le,QmE _ ⟨by show(1:Int)<=(k:Int);have:=h.k1;omega,by show(k:Int)<=32;have:=h.k2;omega⟩,l.m,Le]
  simp only[List.length_cons,List.length_nil];omega
theorem Qn8(k:Nat)(A B:List It):(bA k A).a <+: (bA k (A++B)).a∧(bA k A).b <+: (bA k (A++B)).b∧(bA k A).m <+: (bA k (A++B)).m:=by
 refine Jf (P:=fun B=>(bA k A).a <+: (bA k (A++B)).a∧(bA k A).b <+: (bA k (A++B)).b∧(bA k A).m <+: (bA k (A++B)).m) (by simp) (fun B x ih=> ?_) B
 rw[<-LH,Y8];exact⟨ih.1.trans (Wa _ _),ih.2.1.trans (Wa _ _),ih.2.2.trans (Wa _ _)⟩
theorem Qgh(k:Nat)(A:List It)(j:Nat):(bA k (A.take j)).a <+: (bA k A).a∧(bA k (A.take j)).b <+: (bA k A).b∧(bA k (A.take j)).m <+: (bA k A).m:=by
 have:=Qn8 k (A.take j) (A.drop j)
 rwa [NA] at this
theorem QnJ(x:List UInt8)(h:x.length<=1048576):whl (pay x)=true:=by
 have:=QeP x [] h;rw[Nd] at this;unfold whl;rw[this];simp[pay_len]
end St
namespace St.Rc
def mC(m:MV):Array Value:=#[.int .i64 m.k,.int .u64 m.size,.int .u64 m.items,.int .u64 m.nodes,.int .u32 m.chain.toNat]
def pC(g:Nat):Array Value:=#[.slice (Zp g) 4 4,.slice (some ⟨g,4,none⟩) 1 1,.slice (some ⟨g,8,none⟩) 8 8,.slice (some ⟨g,16,none⟩) 8 8,.slice (some ⟨g,24,none⟩) 8 8,.slice (some ⟨g,32,none⟩) 4 4]
structure Mk(w W:World)(m:MV)(bm g bp:Nat)(l:List UInt8):Prop where
 hm:W.heap[bm]? = some (.cells (mC m) 239 (0,0))
 hp:W.heap[bp]? = some (.cells (pC g) 339 (0,0))
 row:Byt W g l
 len:l.length=64
 nm:bm≠g
 np:bp≠g
 lg:w.heap.size<=g
 bel:Below w.heap.size w W
theorem Mk.cells{w W:World}{m:MV}{bm g bp:Nat}{l:List UInt8}(h:Mk w W m bm g bp l) :
  W.cell? ⟨bm,0,none⟩=some (.int .i64 m.k)∧W.cell? ⟨bm,1,none⟩=some (.int .u64 m.size)∧W.cell? ⟨bm,2,none⟩=some (.int .u64 m.items)∧W.cell? ⟨bm,3,none⟩=some (.int .u64 m.nodes)∧W.cell? ⟨bm,4,none⟩=some (.int .u32 m.chain.toNat) ∧
  W.cell? ⟨bp,0,none⟩=some (.slice (Zp g) 4 4)∧W.cell? ⟨bp,1,none⟩=some (.slice (some ⟨g,4,none⟩) 1 1)∧W.cell? ⟨bp,2,none⟩=some (.slice (some ⟨g,8,none⟩) 8 8)∧W.cell? ⟨bp,3,none⟩=some (.slice (some ⟨g,16,none⟩) 8 8)∧W.cell? ⟨bp,4,none⟩=some (.slice (some ⟨g,24,none⟩) 8 8)∧W.cell? ⟨bp,5,none⟩=some (.slice (some ⟨g,32,none⟩) 4 4):=by
 refine⟨?_,?_,?_,?_,?_,?_,?_,?_,?_,?_,?_⟩
 iterate 5 (rw[cell_of_row W bm _ _ _ (0,0) h.hm];rfl)
 iterate 6 (rw[cell_of_row W bp _ _ _ (0,0) h.hp];rfl)
theorem Mk.upo{w W W':World}{m:MV}{bm g bp:Nat}{l l':List UInt8}(h:Mk w W m bm g bp l)(hu:Upo (fun b=>b=g) W W')(hr:Byt W' g l')(hl:l'.length=64):Mk w W' m bm g bp l' :=
 ⟨(hu.block bm (Array.getElem?_eq_some_iff.1 h.hm).1 h.nm).trans h.hm,(hu.block bp (Array.getElem?_eq_some_iff.1 h.hp).1 h.np).trans h.hp,hr,hl,h.nm,h.np,h.lg,hu.since h.bel h.lg⟩
theorem Mk.put{w W:World}{m:MV}{bm g bp:Nat}{l:List UInt8}(h:Mk w W m bm g bp l)(off len n:Nat)(ho:off+len<=64)(h8:len<=8)(hn:n<18446744073709551616) :
  Calls prog 264 #[.slice (some ⟨g,off,none⟩) len len,.int .u64 n] W fun e w'=>e= .returned (.tuple #[])∧Mk w w' m bm g bp (ovr l off (big len n)):=by
 refine(UA W g off len len n l h.row (by rw[h.len];exact ho) h8 hn).mono ?_
 rintro e w' ⟨rfl,hy,hu⟩;exact⟨rfl,h.upo hu hy (by rw[QaS _ _ _ (by rw[Qr,h.len];exact ho),h.len])⟩
theorem QmF(k a b c d:Nat):ovr (ovr (ovr (ovr (ovr (ovr (zer 64) 0 [109,115,102,1]) 4 (big 1 k)) 8 (big 8 a)) 16 (big 8 b)) 24 (big 8 c)) 32 (big 4 d)=Oo k a b c d++zer 4:=by
 have e64:zer 64=[]++zer 64:=rfl;rw[e64,YK [] _ _ 0 rfl,Ny,show([109,115,102,1]:List UInt8).length=4 from rfl,YK _ _ _ 4 rfl,Qr]
 rw[show zer (64-4-1)=zer 3++zer 56 from rfl,<-LH,YK _ _ _ 8 (by simp[Qr,QC]),Qr]
 rw[YK _ _ _ 16 (by simp[Qr,QC]),Qr,YK _ _ _ 24 (by simp[Qr,QC]),Qr,YK _ _ _ 32 (by simp[Qr,QC]),Qr]
 rw[Oo,show zer (56-8-8-8-4)=zer 24++zer 4 from rfl,LH _ (zer 24)]
theorem Mk.first{w W:World}{m:MV}{bm g bp:Nat}(h:Mk w W m bm g bp (zer 64)):∃W',(∀ty,(Builtin.copy_ #[127,9] ty #[.slice (Zp g) 4 4,.string ⟨#[109,115,102,1]⟩]).run prog W= .ok (goInt 4) W')∧Mk w W' m bm g bp (ovr (zer 64) 0 [109,115,102,1]):=by
 refine⟨W.setCells g 0 (cY [109,115,102,1]),fun ty=>QbH ty (k:=0) (n:=4) (m:=4) (o:=0) h.row (by rw[QC];decide) (fun _=>rfl) (La _),h.upo (Upo.sets (S:=fun b=>b=g) (.inl rfl) _ 0 _ (Upo.refl _ _)) (h.row.over 0 _ (by rw[QC];decide)) ?_⟩
 rw[QaS _ _ _ (by rw[QC];decide),QC]
theorem Mk.seal{w W:World}{m:MV}{bm g bp:Nat}{k a b c d:Nat}(h:Mk w W m bm g bp (ovr (ovr (ovr (ovr (ovr (ovr (zer 64) 0 [109,115,102,1]) 4 (big 1 k)) 8 (big 8 a)) 16 (big 8 b)) 24 (big 8 c)) 32 (big 4 d)))(t:BA)(ht:(⟨(sld (Oo k a b c d)).toArray⟩:BA)=t) :
  Calls prog 265 #[.slice (Zp g) 64 64] W fun e w'=>e= .returned (.string t)∧Below w.heap.size w w':=by
 have hr:=h.row;have hl:=h.len;rw[QmF] at hr hl;have htk:(Oo k a b c d++zer 4).take (64-4)=Oo k a b c d:=by
  rw[LG (by rw[JG];decide),Lr (by rw[JG];decide)]
 refine(Jg W g 64 64 _ hr hl (by decide) (La _) (by decide) t (by rw[htk];exact ht)).mono ?_
 rintro e w' ⟨rfl,_,hup⟩;exact⟨rfl,hup.since h.bel h.lg⟩
theorem Qka(w:World)(m:MV)(h1:m.size<18446744073709551616)(h2:m.items<18446744073709551616)(h3:m.nodes<18446744073709551616)(t:BA)(ht:(⟨(mrk m).toArray⟩:BA)=t) :
  Calls prog 177 #[.agg (mC m)] w fun e w'=>e= .returned (.string t)∧Below w.heap.size w w':=by
 obtain⟨mk,ma,mb,mc,md⟩:=m;have HS:=fun W=>Qdz W mk
 have h4:=md.isLt
 by_cases hk:1<=mk∧mk<=32
 ·rw[LV hk] at HS;rw[mrk,Lm hk] at ht;obtain⟨k,rfl⟩:∃k:Nat,mk=(k:Int):=⟨mk.toNat,by omega⟩
  simp only[Int.toNat_natCast] at ht h1 h2 h3;have hw:IntKind.u64.wrap (k:Int)=(k:Int):=by rw[IntKind.wrap_u64];omega
  obtain⟨d,hd⟩:∃d,md.toNat=d:=⟨_,rfl⟩;have hw2:IntKind.u64.wrap (d:Int)=(d:Int):=by rw[IntKind.wrap_u64];omega
  have H4:Hid (k<18446744073709551616∧ma<18446744073709551616∧mb<18446744073709551616∧mc<18446744073709551616∧d<18446744073709551616):=⟨by omega,h1,h2,h3,by omega⟩
  have hmk:∀u:World,(Instr.makeSlice 127 (.int .i64 64) (.int .i64 64)).run prog u= .ok (.slice (Zp u.heap.size) 64 64) (u.alloc (.cells (Array.replicate 64 (Value.int .u8 0)) 5)):=fun u=>U9 64 (by decide) u
  have HPP:Hid (∀W g,Calls prog 273 #[.slice (Zp g) 64 64] W fun e w'=>e= .returned (mP g)∧Below W.heap.size W w'):=fun W g=>QfF W g 64 64 (by decide)
  obtain⟨z64,hz⟩:∃z,Array.replicate 64 (Value.int .u8 0)=z:=⟨_,rfl⟩;rw[hz] at hmk;have HZ:Hid (Array.replicate 64 (Value.int .u8 0)=z64):=hz;have HT:Hid ((⟨(sld (Oo k ma mb mc d)).toArray⟩:BA)=t):=by rw[<-hd];exact ht
  clear ht hz h1 h2 h3 h4 hk;unfold mC;rw[hd]
  go_enter func177,ntmps177
  go_upto_region 5 with (first
   | (go_at_call 272;with_reducible refine(HS _).mono ?_;rintro e w1 ⟨rfl,rfl⟩)
   | (go_at_call 273;with_reducible refine(HPP.out _ _).mono ?_;rintro e w2 ⟨rfl,hb⟩;unfold mP))
  obtain⟨w3,hw3⟩:∃w3,w2.alloc (.cells (pC (w.heap.size+1)) 339)=w3:=⟨_,rfl⟩;obtain⟨wa,hwa⟩:∃wa,w.alloc (.cells (mC ⟨(k:Int),ma,mb,mc,md⟩) 239)=wa:=⟨_,rfl⟩;have M3:Mk w w3 ⟨(k:Int),ma,mb,mc,md⟩ w.heap.size (w.heap.size+1) w2.heap.size (zer 64):=by
   have hb':=hb;unfold mC at hwa;rw[hd] at hwa;rw[hwa] at hb';have hsa:wa.heap.size=w.heap.size+1:=by rw[<-hwa];simp
   have y0:Byt (wa.alloc (.cells z64 5)) (w.heap.size+1) (zer 64):=by
    rw[<-HZ.out,<-hsa];exact Oq wa 64
   have s2:w.heap.size+2<=w2.heap.size:=by have:=hb'.size;simp at this;omega
   have y2:=y0.next hb' (by simp;omega)
   have m2:w2.heap[w.heap.size]? = some (.cells (mC ⟨(k:Int),ma,mb,mc,md⟩) 239 (0,0)):=by
    rw[hb'.block _ (by simp;omega),(MapKept.heap_alloc wa _).2 _ (by omega),<-hwa,Ja]
    unfold mC;rw[hd]
   have b2:Below w.heap.size w w2:=Qa (by rw[<-hwa];exact bal (bal (Lb _ _) _) _) hb'
   rw[<-hw3];exact⟨(MapKept.heap_alloc w2 _).2 _ (by omega) |>.trans m2,Ja _ _,y2.same ((MapKept.heap_alloc w2 _).2 _ (by omega)),QC _,by omega,by omega,by omega,bal b2 _⟩
  unfold pC at hw3;rw[hw3];generalize w.heap.size+1=g at *;generalize w2.heap.size=bp at *;obtain⟨w4,hcp,M⟩:=M3.first;have HM:Hid (∀W l,Mk w W ⟨(k:Int),ma,mb,mc,md⟩ w.heap.size g bp l->W.cell? ⟨w.heap.size,0,none⟩=some (.int .i64 k)∧W.cell? ⟨w.heap.size,1,none⟩=some (.int .u64 ma)∧W.cell? ⟨w.heap.size,2,none⟩=some (.int .u64 mb)∧W.cell? ⟨w.heap.size,3,none⟩=some (.int .u64 mc)∧W.cell? ⟨w.heap.size,4,none⟩=some (.int .u32 d) ∧
    W.cell? ⟨bp,0,none⟩=some (.slice (Zp g) 4 4)∧W.cell? ⟨bp,1,none⟩=some (.slice (some ⟨g,4,none⟩) 1 1)∧W.cell? ⟨bp,2,none⟩=some (.slice (some ⟨g,8,none⟩) 8 8)∧W.cell? ⟨bp,3,none⟩=some (.slice (some ⟨g,16,none⟩) 8 8)∧W.cell? ⟨bp,4,none⟩=some (.slice (some ⟨g,24,none⟩) 8 8)∧W.cell? ⟨bp,5,none⟩=some (.slice (some ⟨g,32,none⟩) 4 4)):=fun W l h=>by
   have:=h.cells;simp only[hd] at this;exact this
  have p0:=(HM.out _ _ M3).2.2.2.2.2.1;obtain⟨c0,c1,c2,c3,c4,_,q1,q2,q3,q4,q5⟩:=HM.out _ _ M;clear hw3 hd hb HPP HS hmk hwa
  go_wp2_with (first
   | (refine Ur (by rfl) _ _ _ _ (by rfl) (by rfl) (by rfl) (hcp _) ?_)
   | (go_at_call 264;(first
     | (with_reducible refine(M.put 4 1 k (by decide) (by decide) H4.out.1).mono ?_)
     | (with_reducible refine(M.put 8 8 ma (by decide) (by decide) H4.out.2.1).mono ?_)
     | (with_reducible refine(M.put 16 8 mb (by decide) (by decide) H4.out.2.2.1).mono ?_)
     | (with_reducible refine(M.put 24 8 mc (by decide) (by decide) H4.out.2.2.2.1).mono ?_)
     | (with_reducible refine(M.put 32 4 d (by decide) (by decide) H4.out.2.2.2.2).mono ?_));rintro e w5 ⟨rfl,M⟩;obtain⟨c0,c1,c2,c3,c4,_,q1,q2,q3,q4,q5⟩:=HM.out _ _ M)
   | (go_at_call 265;with_reducible refine(M.seal t HT.out).mono ?_;rintro e w6 ⟨rfl,hb6⟩))
  go_ret
  exact⟨rfl,hb6⟩
 ·rw[Lx hk] at HS;rw[mrk,Ld hk] at ht;subst ht;unfold mC
  go_enter func177,ntmps177
  go_wp2_with (go_at_call 272;with_reducible refine(HS _).mono ?_;rintro e w1 ⟨rfl,rfl⟩)
  go_ret
  exact⟨rfl,bal (Lb _ _) _⟩
end St.Rc
namespace St
open Rc
theorem bdw{B:Nat}{w W:World}(h:Below B w W):Below B w W.drew:=⟨h.os,h.tape,h.output,h.size,h.block⟩
theorem Qpo{w W:World}(h:Below w.heap.size w W){g:Nat}(hg:w.heap.size<=g)(a b c d e:Value):Below w.heap.size w (((((W.setCell ⟨g,0,none⟩ a).setCell ⟨g,1,none⟩ b).setCell ⟨g,2,none⟩ c).setCell ⟨g,3,none⟩ d).setCell ⟨g,4,none⟩ e) :=
 Upo.below (S:=fun _=>False) (((((Upo.of h).set g 0 a (.inr hg)).set g 1 b (.inr hg)).set g 2 c (.inr hg)).set g 3 d (.inr hg) |>.set g 4 e (.inr hg)) (La _) (fun _ q=>q.elim)
theorem Qnk{W:World}{g:Nat}{x0 x1 x2 x3 x4:Value}{T:TypeId}(h:W.heap[g]? = some (.cells #[x0,x1,x2,x3,x4] T (0,0)))(a b c d e:Value):(((((W.setCell ⟨g,0,none⟩ a).setCell ⟨g,1,none⟩ b).setCell ⟨g,2,none⟩ c).setCell ⟨g,3,none⟩ d).setCell ⟨g,4,none⟩ e).heap[g]? = some (.cells #[a,b,c,d,e] T (0,0)):=by
 have h1:(W.setCell ⟨g,0,none⟩ a).heap[g]? = some (.cells #[a,x1,x2,x3,x4] T (0,0)):=Lp W g 0 _ _ a h;have h2:((W.setCell ⟨g,0,none⟩ a).setCell ⟨g,1,none⟩ b).heap[g]? = some (.cells #[a,b,x2,x3,x4] T (0,0)):=Lp _ g 1 _ _ b h1;have h3:(((W.setCell ⟨g,0,none⟩ a).setCell ⟨g,1,none⟩ b).setCell ⟨g,2,none⟩ c).heap[g]? = some (.cells #[a,b,c,x3,x4] T (0,0)):=Lp _ g 2 _ _ c h2;have h4:((((W.setCell ⟨g,0,none⟩ a).setCell ⟨g,1,none⟩ b).setCell ⟨g,2,none⟩ c).setCell ⟨g,3,none⟩ d).heap[g]? = some (.cells #[a,b,c,d,x4] T (0,0)):=Lp _ g 3 _ _ d h3;exact Lp _ g 4 _ _ e h4
section
variable {q p:Nat} {T:Nat->Prop} {D:DV} {S:SV}
theorem Qoo(c:BitVec 32)(s:List UInt8)(ss:LB):chn c s ss<4294967296:=Qja _
theorem Qhx(w:World)(h:Sk w q p T D S)(s:BA)(hs:s.size<=1073741824)(ao:OA)(b off len cap:Nat)(ss:LB)(hr:RdS w ao b off len ss)(hmx:len<=9223372036854775807)(m:MV)(hm:nxM S.k S.ends S.chain s.data.toList ss=m) :
  Calls prog 169 #[Pq q,.string s,.slice ao len cap] w fun e w'=>e= .returned (.agg (mC m))∧Below w.heap.size w w':=by
 obtain⟨hk1,hk2,hf,_,_,hl⟩:=h.small;have hb:=Qcf (S.ends.length+1);have hlt:=Qoo S.chain s.data.toList ss;obtain⟨cv,hcv⟩:∃c,chn S.chain s.data.toList ss=c:=⟨_,rfl⟩;have hz:=Qe s;have em:mC m=#[.int .i64 S.k,.int .u64 ((S.ends.length:Int)+1),.int .u64 ((lst S.ends:Int)+(s.size:Int)),.int .u64 ((nn (S.ends.length+1):Int)*40),.int .u32 cv]:=by
  rw[<-hm,mC,nxM,hz,hcv];simp only[BitVec.toNat_ofNat];rw[Nz (by omega)]
  simp
 rw[em];obtain⟨w1,hw1⟩:∃W,w.alloc (.cells #[.int .i64 0,.int .u64 0,.int .u64 0,.int .u64 0,.int .u32 0] 239)=W:=⟨_,rfl⟩;have u1:Below w.heap.size w w1:=by rw[<-hw1];exact bal (Lb _ _) _
 obtain⟨bo,hbo⟩:∃b,w.heap.size=b:=⟨_,rfl⟩;obtain⟨ea,ec,hcs⟩:=h.seen;have HC:Hid (∀W,Below w.heap.size w W->W.cell? ⟨q,1,none⟩=some (.int .i64 S.k)∧W.cell? ⟨q,2,none⟩=some (.slice ea S.ends.length ec)∧W.cell? ⟨q,3,none⟩=some (.int .u32 S.chain.toNat)):=fun W hW=>⟨(hcs W hW).2.1,(hcs W hW).2.2.1,(hcs W hW).2.2.2.1⟩
 have HS:Hid (∀W,Below w.heap.size w W->Calls prog 74 #[Pq q] W fun e w'=>e= .returned (.int .u64 S.ends.length)∧w'=W):=fun W hW=>QW W (h.next hW)
 have HL:Hid (∀W,Below w.heap.size w W->Calls prog 155 #[Pq q,.string ⟨#[105,116,101,109,115]⟩] W fun e w'=>e= .returned (.int .i64 (lst S.ends:Int))∧w'=W):=fun W hW=>Uc W (h.next hW)
 have HN:Hid (∀W,Calls prog 245 #[.int .i64 ((S.ends.length:Int)+1)] W fun e w'=>e= .returned (.int .u64 (nn (S.ends.length+1):Int))∧w'=W):=fun W=>by
  have:=YX W (S.ends.length+1) (by omega)
  rw[Wv] at this;exact this
 have HK:Hid (∀W,Below w.heap.size w W->Calls prog 267 #[.int .u32 S.chain.toNat,.string s,.slice ao len cap] W fun e w'=>e= .returned (.int .u32 cv)∧Below w.heap.size w w'∧Below W.heap.size W w'):=fun W hW=>
  (Qhn W S.chain s (by omega) ao b off len cap ss (hr.next hW (La _)) hmx cv hcv).mono fun e w' z=>⟨z.1,Qa hW z.2,z.2⟩
 clear hr hcs h hm em hcv hz hlt;generalize S.chain.toNat=cc at *;generalize nn (S.ends.length+1)=m1 at *;generalize lst S.ends=l1 at *;generalize S.k=k at *;generalize S.ends.length=n at *;generalize hsz:s.size=sz at *;have e1:IntKind.u64.wrap ((n:Int)+1)=(n:Int)+1:=Us _ (by omega) (by omega)
 have e2:IntKind.i64.wrap ((n:Int)+1)=(n:Int)+1:=by rw[Lz];omega
 have e3:IntKind.i64.wrap ((l1:Int)+(sz:Int))=(l1:Int)+(sz:Int):=by rw[Lz];omega
 have e4:IntKind.u64.wrap ((l1:Int)+(sz:Int))=(l1:Int)+(sz:Int):=Us _ (by omega) (by omega)
 have e5:IntKind.u64.wrap ((m1:Int)*40)=(m1:Int)*40:=Us _ (by omega) (by omega)
 have H5:Hid (∀W a b c d e,Below w.heap.size w W->Below w.heap.size w (((((W.setCell ⟨bo,0,none⟩ a).setCell ⟨bo,1,none⟩ b).setCell ⟨bo,2,none⟩ c).setCell ⟨bo,3,none⟩ d).setCell ⟨bo,4,none⟩ e)):=fun W a b c d e hW=>Qpo hW (by omega) a b c d e
 have HC5:Hid (∀W a b c d e,Below w.heap.size w W->(((((W.setCell ⟨bo,0,none⟩ a).setCell ⟨bo,1,none⟩ b).setCell ⟨bo,2,none⟩ c).setCell ⟨bo,3,none⟩ d).setCell ⟨bo,4,none⟩ e).cell? ⟨q,1,none⟩=some (.int .i64 k)∧(((((W.setCell ⟨bo,0,none⟩ a).setCell ⟨bo,1,none⟩ b).setCell ⟨bo,2,none⟩ c).setCell ⟨bo,3,none⟩ d).setCell ⟨bo,4,none⟩ e).cell? ⟨q,2,none⟩=some (.slice ea n ec)∧(((((W.setCell ⟨bo,0,none⟩ a).setCell ⟨bo,1,none⟩ b).setCell ⟨bo,2,none⟩ c).setCell ⟨bo,3,none⟩ d).setCell ⟨bo,4,none⟩ e).cell? ⟨q,3,none⟩=some (.int .u32 cc)):=fun W a b c d e hW=>HC.out _ (H5.out W a b c d e hW)
 have HW:=Qd hw1;have HB:=Qd hbo;have hco:w1.heap[bo]? = some (.cells #[.int .i64 0,.int .u64 0,.int .u64 0,.int .u64 0,.int .u32 0] 239 (0,0)):=by rw[<-hw1,<-hbo];exact Ja _ _
 have HO:Hid (∀W,Below w1.drew.heap.size w1.drew W -> ∀j,W.frozen? ⟨bo,j,none⟩=false):=fun W hW j=>frozen_of_row W bo j _ _ ((hW.block bo (Array.getElem?_eq_some_iff.1 hco).1).trans hco)
 have HP:Hid (∀W,Below w1.drew.heap.size w1.drew W->W.heap[bo]? = some (.cells #[.int .i64 0,.int .u64 0,.int .u64 0,.int .u64 0,.int .u32 0] 239 (0,0))):=fun W hW=>(hW.block bo (Array.getElem?_eq_some_iff.1 hco).1).trans hco
 clear hco;clear hw1 hbo
 go_enter func169,ntmps169
 go_upto_region 1 with (fail)
 rw[HW.out,HB.out];have u:=bdw u1
 go_region_held3 (fun Z=>Z.cell? ⟨q,1,none⟩=some (.int .i64 k)∧Z.cell? ⟨q,2,none⟩=some (.slice ea n ec)∧Z.cell? ⟨q,3,none⟩=some (.int .u32 cc)) (first|assumption|(with_reducible exact HC5.out _ _ _ _ _ _ u)|(with_reducible exact HC.out _ u)) (first
  | (go_at_call 74;(with_reducible refine(HS.out _ u).mono ?_);rintro e w2 ⟨rfl,rfl⟩)
  | (go_at_call 155;(with_reducible refine(HL.out _ u).mono ?_);rintro e w2 ⟨rfl,rfl⟩)
  | (go_at_call 245;(with_reducible refine(HN.out _).mono ?_);rintro e w2 ⟨rfl,rfl⟩)
  | (go_at_call 267;(with_reducible refine(HK.out _ u).mono ?_);rintro e w2 ⟨rfl,u,u2⟩;have hfz:=HO.out _ u2;have ⟨b0,b1,b2,b3,b4⟩:=YC (HP.out _ u2)))
 all_goals
  have z5:=H5.out w2 (.int .i64 k) (.int .u64 ((n:Int)+1)) (.int .u64 ((l1:Int)+(sz:Int))) (.int .u64 ((m1:Int)*40)) (.int .u32 cv) u;have z6:=YC (Qnk (HP.out _ u2) (.int .i64 k) (.int .u64 ((n:Int)+1)) (.int .u64 ((l1:Int)+(sz:Int))) (.int .u64 ((m1:Int)*40)) (.int .u32 cv));clear H5 HC5 HC HS HL HN HK HO HP hfz b0 b1 b2 b3 b4;generalize (((((w2.setCell ⟨bo,0,none⟩ (.int .i64 k)).setCell ⟨bo,1,none⟩ (.int .u64 ((n:Int)+1))).setCell ⟨bo,2,none⟩ (.int .u64 ((l1:Int)+(sz:Int)))).setCell ⟨bo,3,none⟩ (.int .u64 ((m1:Int)*40))).setCell ⟨bo,4,none⟩ (.int .u32 cv))=wz at *;obtain⟨y0,y1,y2,y3,y4⟩:=z6
  repeat go_step
  exact LK (v := .agg #[.int .i64 k,.int .u64 ((n:Int)+1),.int .u64 ((l1:Int)+(sz:Int)),.int .u64 ((m1:Int)*40),.int .u32 cv]) (by simp[results,results169,go_sem,y0,y1,y2,y3,y4]) rfl ⟨rfl,z5⟩
end
end St
section
open Go.Shelf
def Tryz.lays156_ren:Go.Shelf.Ren:=⟨fun|156=>173|165=>269|166=>270|169=>271|240=>345|241=>346|276=>395|277=>396|n=>n,fun|31=>22|9=>9|3=>3|4=>4|0=>0|20=>20|72=>330|76=>334|70=>328|37=>127|75=>333|127=>392|164=>320|5=>5|80=>336|n=>n,fun|n=>n⟩
theorem Tryz.lays156:Go.Proofs.Lays.n156 prog Tryz.lays156_ren := {
 mixed:=by kernel_rfl
 f156:=func173.trans (LW some (by kernel_rfl))
 f165:=func269.trans (LW some (by kernel_rfl))
 f166:=func270.trans (LW some (by kernel_rfl))
 f169:=func271.trans (LW some (by kernel_rfl))
 f240:=func345.trans (LW some (by kernel_rfl))
 f241:=func346.trans (LW some (by kernel_rfl))
 f276:=func395.trans (LW some (by kernel_rfl))
 f277:=func396.trans (LW some (by kernel_rfl))
 t0:=underlying0
 a0:=Tryz.isAgg0
 z0:=Tryz.sizeOf0
 v0:=Tryz.zeroValue0
 t3:=underlying3
 a3:=Tryz.isAgg3
 z3:=Tryz.sizeOf3
 v3:=Tryz.zeroValue3
 t4:=underlying4
 a4:=Tryz.isAgg4
 z4:=Tryz.sizeOf4
 v4:=Tryz.zeroValue4
 t9:=underlying9
 a9:=Tryz.isAgg9
 z9:=Tryz.sizeOf9
 v9:=Tryz.zeroValue9
 t20:=underlying20
 a20:=Tryz.isAgg20
 z20:=Tryz.sizeOf20
 v20:=Tryz.zeroValue20
 t31:=underlying22
 a31:=Tryz.isAgg22
 z31:=Tryz.sizeOf22
 v31:=Tryz.zeroValue22
 t37:=underlying127
 a37:=Tryz.isAgg127
 z37:=Tryz.sizeOf127
 v37:=Tryz.zeroValue127
 t70:=underlying328
 a70:=Tryz.isAgg328
 z70:=Tryz.sizeOf328
 v70:=Tryz.zeroValue328
 t72:=underlying330
 a72:=Tryz.isAgg330
 z72:=Tryz.sizeOf330
 v72:=Tryz.zeroValue330
 t75:=underlying333
 a75:=Tryz.isAgg333
 z75:=Tryz.sizeOf333
 v75:=Tryz.zeroValue333
 t76:=underlying334
 a76:=Tryz.isAgg334
 z76:=Tryz.sizeOf334
 v76:=Tryz.zeroValue334
 t127:=underlying392
 a127:=Tryz.isAgg392
 z127:=Tryz.sizeOf392
 v127:=Tryz.zeroValue392
 t164:=underlying320
 a164:=Tryz.isAgg320
 z164:=Tryz.sizeOf320
 v164:=Tryz.zeroValue320 }
theorem Tryz.Builder_Extra_156:Builder.Extra prog Tryz.lays156_ren := {
 sizeBuilder:=by kernel_rfl
 liesBuilder:=by kernel_rfl
 t5:=underlying5
 a5:=Tryz.isAgg5
 z5:=Tryz.sizeOf5
 v5:=Tryz.zeroValue5
 infoByte:=by kernel_rfl
 cellsByte:=by kernel_rfl
 sizeByte:=by kernel_rfl
 neB5:=by decide }
theorem Tryz.strings_Join_none(a:OA)(c:Nat)(sep:BA)(w:World) :
  Calls prog 173 #[.slice a 0 c,.string sep] w fun e w'=>e= .returned (.string ⟨#[]⟩)∧w'=w:=Any.strings_Join_none Tryz.lays156 Tryz.Builder_Extra_156 a c sep w
theorem Tryz.strings_Join(bk o c:Nat)(xs:LB)(sep:BA)(w:World)(hcells:∀(j:Nat) x,xs[j]? = some x->w.cell? ⟨bk,o+j,none⟩=some (.string x))(hbk:bk<w.heap.size)(hN:xs.length<=140737488355328)(hcap:xs.length<=c)(hlen:(Lib.join (xs.map (·.data.toList)) sep.data.toList).length<=140737488355328) :
  Calls prog 173 #[.slice (some ⟨bk,o,none⟩) xs.length c,.string sep] w fun e w'=>e= .returned (.string ⟨(Lib.join (xs.map (·.data.toList)) sep.data.toList).toArray⟩)∧Below w.heap.size w w':=Any.strings_Join Tryz.lays156 Tryz.Builder_Extra_156 bk o c xs sep w hcells hbk hN hcap hlen
theorem Qca(D:LB):Lib.join (D.map (·.data.toList)) []=YJ D:=by
 cases D with
 | nil=>rfl
 | cons d D=>rw[Iy,Lib.join_cons,Uh];simp[Lib.joinTail,YJ];rfl
theorem QhE(w:World)(da:OA)(db dO dc:Nat)(D:LB)(rd:RdS w da db dO D.length D)(hc:D.length<=dc)(hD:D.length<=140737488355328)(hl:(YJ D).length<=140737488355328) :
  Calls prog 173 #[.slice da D.length dc,.string ByteArray.empty] w fun e w'=>e= .returned (.string ⟨(YJ D).toArray⟩)∧Below w.heap.size w w':=by
 have he:ByteArray.empty.data.toList=[]:=rfl
 by_cases h0:D.length=0
 ·have:D=[]:=List.length_eq_zero_iff.1 h0;subst this;exact(Tryz.strings_Join_none da dc ByteArray.empty w).mono fun e w' h=>⟨h.1,by rw[h.2];exact Lb _ _⟩
 ·obtain rfl:=rd.ptr (by omega)
  have h:=Tryz.strings_Join db dO dc D ByteArray.empty w (fun j x hx=>rd.rng j _ (by rw[No,hx];rfl)) (rd.lt (by omega)) hD hc (by rw[he,Qca];exact hl)
  rw[he,Qca] at h;exact h
end
namespace St
open Go.Shelf
open Go.RowKit in
theorem Tryz.strings_Join_none(a:OA)(c:Nat)(sep:BA)(w:World) :
  Calls prog 173 #[.slice a 0 c,.string sep] w fun e w'=>e= .returned (.string ⟨#[]⟩)∧w'=w:=Any.strings_Join_none Tryz.lays156 Tryz.Builder_Extra_156 a c sep w
open Go.RowKit in
theorem Tryz.strings_Join(bk o c:Nat)(xs:LB)(sep:BA)(w:World)(hcells:∀(j:Nat) x,xs[j]? = some x->w.cell? ⟨bk,o+j,none⟩=some (.string x))(hbk:bk<w.heap.size)(hN:xs.length<=140737488355328)(hcap:xs.length<=c)(hlen:(Lib.join (xs.map (·.data.toList)) sep.data.toList).length<=140737488355328) :
  Calls prog 173 #[.slice (some ⟨bk,o,none⟩) xs.length c,.string sep] w fun e w'=>e= .returned (.string ⟨(Lib.join (xs.map (·.data.toList)) sep.data.toList).toArray⟩)∧Below w.heap.size w w':=Any.strings_Join Tryz.lays156 Tryz.Builder_Extra_156 bk o c xs sep w hcells hbk hN hcap hlen
end St
namespace St
open Rc
section
variable {q p:Nat} {T:Nat->Prop} {D:DV} {S:SV}
theorem SkM.cell{w W:World}{D':DV}{S':SV}(h:SkM w W q p T D' S'){b i:Nat}{v:Value}(hc:w.cell? ⟨b,i,none⟩=some v)(hT:¬T b):W.cell? ⟨b,i,none⟩=some v:=by
 obtain⟨T',_,_,h3⟩:=h;exact(LI (a:=⟨b,i,none⟩) (h3.block b (Lf _ _ hc) hT)).trans hc
theorem Y2{w w1 w2:World}{T1:Nat->Prop}{D2:DV}{S2:SV}(a2:∀x,T1 x->T x∨w.heap.size<=x)(a3:Upo T w w1)(h:SkM w1 w2 q p T1 D2 S2):SkM w w2 q p T D2 S2:=by
 obtain⟨T2,b1,b2,b3⟩:=h;refine⟨T2,b1,fun x hx=> ?_,a3.trans b3 (fun x hx ht=> ?_)⟩
 ·rcases b2 x hx with e|e
  ·exact a2 x e
  ·exact .inr (Lu a3.size e)
 ·rcases a2 x ht with e|e
  ·exact e
  ·omega
theorem SkM.limp{w W:World}{D':DV}(h:SkM w W q p T D' S):(W.cell? ⟨q,4,none⟩=some (.bool S.lame)∧W.frozen? ⟨q,4,none⟩=false)∧SkM w (W.setCell ⟨q,4,none⟩ (.bool true)) q p T D' { S with lame:=true } := by
 obtain⟨T',⟨S0,v,d1,d2,d3,d4,d5⟩,h2,h3⟩:=h;refine⟨⟨(YC d2.blk).2.2.2.2,frozen_of_row W q 4 _ _ d2.blk⟩,T',⟨S0,v,?_,⟨Lp W q 4 _ _ _ d2.blk,QK d2.own (fun g hg=>Below.heap_setCell _ _ _ _ (d4 g hg).1),d2.k1,d2.k2,d2.few,d2.low⟩,d3,d4,d5⟩,h2,h3.set q 4 _ ?_⟩
 ·exact d1.same (fun x hx=>Below.heap_setCell _ _ _ _ (fun e=>d3 (show S0 q from(show x=q from e) ▸ hx)))
 ·exact h2 q ((d5 q).2 (.inr (.inl rfl)))
theorem bdz(w:World):Below w.heap.size w w.drew:=bdw (Lb _ _)
theorem Qga(w:World)(h:Sk w q p T D S)(hr:Rmy D)(s t:BA)(hs:s.size<=maxLen)(ht:t.size<=140737488355328)(n:Nat)(hn:n<=9223372036854775807)(HL:Hid (∀W,Sk W q p T D S->Calls prog 155 #[Pq q,.string s] W fun e w'=>e= .returned (.int .i64 n)∧w'=W))(D':DV)(r:Int)(hD:wrD D s.data.toList (n:Int) t.data.toList=(D',r)) :
  Calls prog 171 #[Pq q,.string s,.string t] w fun e w'=>e= .returned (.int .i64 r)∧SkM w w' q p T D' S:=by
 have HW:Hid (∀W,Sk W q p T D S->Below w.heap.size w W->Calls prog 268 #[Pq p,.string s,.int .i64 n,.string t] W fun e w'=>e= .returned (.int .i64 r)∧SkM w w' q p T D' S):=fun W hW hb=>by
  have:=hW.write hr s t hs n (by omega) (by omega) ht
  rw[hD] at this;exact this.mono fun e w' z=>⟨z.1,z.2.first hb⟩
 have HC:Hid (∀W,Sk W q p T D S->W.cell? ⟨q,0,none⟩=some (Pq p)):=fun W hW=>by
  obtain⟨_,_,⟨c0,_⟩,_⟩:=hW.cells;exact c0
 have HC3:Hid (∀W,SkM w W q p T D' S->W.cell? ⟨q,0,none⟩=some (Pq p)):=fun W hW=>by
  obtain⟨T',hW,_⟩:=hW;obtain⟨_,_,⟨c0,_⟩,_⟩:=hW.cells;exact c0
 have tw:=h.next (bdz w);have ub:=bdz w;have c0:=HC.out _ h;clear h hr hs ht hn hD
 go_enter func171,ntmps171
 go_upto_region 1 with (fail)
 go_region_held3 (fun Z=>Z.cell? ⟨q,0,none⟩=some (Pq p)) (first|assumption|(with_reducible exact HC3.out _ t3)|(with_reducible exact HC.out _ tw)) (first
  | (go_at_call 155;(with_reducible refine(HL.out _ tw).mono ?_);rintro e w2 ⟨rfl,rfl⟩)
  | (go_at_call 268;(with_reducible refine(HW.out _ tw ub).mono ?_);rintro e w3 ⟨rfl,t3⟩))
 all_goals
  go_wp2
  go_ret
  exact⟨rfl,t3⟩
theorem Qbo(w:World)(ao:OA)(b off len cap:Nat)(ss:LB)(hr:RdS w ao b off len ss)(hc:len<=cap)(hl:len<=1000)(hf:(Rc.Qk ss).length<=140737488355328) :
  Calls prog 173 #[.slice ao len cap,.string ⟨#[]⟩] w fun e w'=>e= .returned (.string (tx (Rc.Qk ss)))∧Below w.heap.size w w':=by
 have hj:Lib.join (ss.map (·.data.toList)) []=Rc.Qk ss:=by
  cases ss with
  | nil=>rfl
  | cons d r=>rw[Iy,Lib.join_cons];simp[Lib.joinTail,Rc.Qk];rfl
 by_cases h0:0<len
 ·obtain rfl:=hr.ptr h0;have hlen:=hr.hl;subst hlen;have:=Tryz.strings_Join b off cap ss ⟨#[]⟩ w (fun j x hx=>hr.rng j _ (by rw[No,hx];rfl)) (hr.lt h0) (by omega) hc (by rw[show(ByteArray.mk #[]).data.toList=[] from rfl,hj];exact hf)
  rw[show(ByteArray.mk #[]).data.toList=[] from rfl,hj] at this
  exact this
 ·obtain rfl:len=0:=by omega
  have:ss=[]:=List.length_eq_zero_iff.1 hr.hl;subst this;exact(Tryz.strings_Join_none ao cap ⟨#[]⟩ w).mono fun e w' h=>⟨h.1,by rw[h.2];exact Lb _ _⟩
theorem Qiy(w:World)(h:Sk w q p T D S)(hr:Rmy D)(bs bp:Nat)(hcs:w.cell? ⟨bs,0,none⟩=some (Pq q))(t:BA)(hcp:w.cell? ⟨bp,0,none⟩=some (.string t))(ht:t.size<=140737488355328)(D':DV)(r:Int)(hD:wrD D nmI (lst S.ends:Int) t.data.toList=(D',r)) :
  Calls prog 170 #[Pq bs,Pq bp] w fun e w'=>e= .returned (.int .i64 r)∧SkM w w' q p T D' S:=by
 have HW:=Qd (Qga w h hr ⟨#[105,116,101,109,115]⟩ t (by decide) ht (lst S.ends) (by have:=h.small.2.2.2.2.2;omega) (fun W hW=>Uc W hW) D' r hD)
 clear h hr hD
 go_enter func170,ntmps170
 go_wp2_with (go_at_call 171;refine HW.out.mono ?_;rintro e w1 ⟨rfl,t1⟩)
 go_ret
 exact⟨rfl,t1⟩
theorem Qiz(w:World)(h:Sk w q p T D S)(hr:Rmy D)(bs br:Nat)(hcs:w.cell? ⟨bs,0,none⟩=some (Pq q))(ao:OA)(b off len cap:Nat)(ss:LB)(hcr:w.cell? ⟨br,0,none⟩=some (.slice ao len cap))(hrd:RdS w ao b off len ss)(hc:len<=cap)(hl:len<=1000)(hf:(Rc.Qk ss).length<=1000000)(ns:¬T bs)(nr:¬T br)(D':DV)(r:Int)(hD:wrD D nmN ((nn S.ends.length*40:Nat):Int) (Rc.Qk ss)=(D',r)) :
  Calls prog 172 #[Pq bs,Pq br] w fun e w'=>e= .returned (.int .i64 r)∧SkM w w' q p T D' S:=by
 have HJ:Hid (∀W,Below w.heap.size w W->Calls prog 173 #[.slice ao len cap,.string ⟨#[]⟩] W fun e w'=>e= .returned (.string (tx (Rc.Qk ss)))∧Below w.heap.size w w'):=fun W hW=>(Qbo W ao b off len cap ss (hrd.next hW (La _)) hc hl (by omega)).mono fun e w' z=>⟨z.1,Qa hW z.2⟩
 have HW:Hid (∀W,Below w.heap.size w W->Calls prog 171 #[Pq q,.string ⟨#[110,111,100,101,115]⟩,.string (tx (Rc.Qk ss))] W fun e w'=>e= .returned (.int .i64 r)∧SkM w w' q p T D' S):=fun W hW=>
  (Qga W (h.next hW) hr ⟨#[110,111,100,101,115]⟩ (tx (Rc.Qk ss)) (by decide) (by rw[Ji];omega) (nn S.ends.length*40) (by have:=Qcf S.ends.length;have:=h.small.2.2.1;omega) (fun W hW=>OI W hW) D' r hD).mono fun e w' z=>⟨z.1,z.2.first hW⟩
 have HC:Hid (∀W,Below w.heap.size w W->W.cell? ⟨bs,0,none⟩=some (Pq q)∧W.cell? ⟨br,0,none⟩=some (.slice ao len cap)):=fun W hW=>⟨(hW.cell (p:=⟨bs,0,none⟩) (Lf _ _ hcs)).trans hcs,(hW.cell (p:=⟨br,0,none⟩) (Lf _ _ hcr)).trans hcr⟩
 have HC3:Hid (∀W,SkM w W q p T D' S->W.cell? ⟨bs,0,none⟩=some (Pq q)∧W.cell? ⟨br,0,none⟩=some (.slice ao len cap)):=fun W hW=>⟨hW.cell hcs ns,hW.cell hcr nr⟩
 have u:=bdz w;clear h hr hD hrd hc hl hf
 go_enter func172,ntmps172
 go_upto_region 1 with (fail)
 go_region_held3 (fun Z=>Z.cell? ⟨bs,0,none⟩=some (Pq q)∧Z.cell? ⟨br,0,none⟩=some (.slice ao len cap)) (first|assumption|(with_reducible exact HC3.out _ t3)|(with_reducible exact HC.out _ u)) (first
  | (go_at_call 173;(with_reducible refine(HJ.out _ u).mono ?_);rintro e w2 ⟨rfl,u⟩)
  | (go_at_call 171;(with_reducible refine(HW.out _ u).mono ?_);rintro e w3 ⟨rfl,t3⟩))
 all_goals
  go_wp2
  go_ret
  exact⟨rfl,t3⟩
theorem QiC(w:World)(h:Sk w q p T D S)(hr:Rmy D)(bs bm:Nat)(hcs:w.cell? ⟨bs,0,none⟩=some (Pq q))(m:MV)(h1:m.size<18446744073709551616)(h2:m.items<18446744073709551616)(h3:m.nodes<18446744073709551616)(hcm:w.cell? ⟨bm,0,none⟩=some (.int .i64 m.k)∧w.cell? ⟨bm,1,none⟩=some (.int .u64 m.size)∧w.cell? ⟨bm,2,none⟩=some (.int .u64 m.items)∧w.cell? ⟨bm,3,none⟩=some (.int .u64 m.nodes)∧w.cell? ⟨bm,4,none⟩=some (.int .u32 m.chain.toNat))(ns:¬T bs)(nm:¬T bm)(D':DV)(r:Int)(hD:wrD D nmM ((S.ends.length*64:Nat):Int) (mrk m)=(D',r)) :
  Calls prog 176 #[Pq bs,Pq bm] w fun e w'=>e= .returned (.int .i64 r)∧SkM w w' q p T D' S:=by
 obtain⟨m0,m1,m2,m3,m4⟩:=hcm;have HJ:Hid (∀W,Below w.heap.size w W->Calls prog 177 #[.agg #[.int .i64 m.k,.int .u64 m.size,.int .u64 m.items,.int .u64 m.nodes,.int .u32 m.chain.toNat]] W fun e w'=>e= .returned (.string (tx (mrk m)))∧Below w.heap.size w w'):=fun W hW=>(Qka W m h1 h2 h3 (tx (mrk m)) rfl).mono fun e w' z=>⟨z.1,Qa hW z.2⟩
 have hml:(mrk m).length<=64:=by
  unfold mrk
  split
  ·rw[JR,JG];omega
  ·simp
 have HW:Hid (∀W,Below w.heap.size w W->Calls prog 171 #[Pq q,.string ⟨#[109,97,114,107,115]⟩,.string (tx (mrk m))] W fun e w'=>e= .returned (.int .i64 r)∧SkM w w' q p T D' S):=fun W hW=>
  (Qga W (h.next hW) hr ⟨#[109,97,114,107,115]⟩ (tx (mrk m)) (by decide) (by rw[Ji];omega) (S.ends.length*64) (by have:=h.small.2.2.1;omega) (fun W hW=>OH W hW) D' r hD).mono fun e w' z=>⟨z.1,z.2.first hW⟩
 have up:∀ {b i:Nat} {v:Value} {W:World},w.cell? ⟨b,i,none⟩=some v->Below w.heap.size w W->W.cell? ⟨b,i,none⟩=some v:=fun {b i v W} hc hW=>(hW.cell (p:=⟨b,i,none⟩) (Lf _ _ hc)).trans hc
 have HC:Hid (∀W,Below w.heap.size w W->W.cell? ⟨bs,0,none⟩=some (Pq q)∧W.cell? ⟨bm,0,none⟩=some (.int .i64 m.k)∧W.cell? ⟨bm,1,none⟩=some (.int .u64 m.size)∧W.cell? ⟨bm,2,none⟩=some (.int .u64 m.items)∧W.cell? ⟨bm,3,none⟩=some (.int .u64 m.nodes)∧W.cell? ⟨bm,4,none⟩=some (.int .u32 m.chain.toNat)):=fun W hW=>⟨up hcs hW,up m0 hW,up m1 hW,up m2 hW,up m3 hW,up m4 hW⟩
 have HC3:Hid (∀W,SkM w W q p T D' S->W.cell? ⟨bs,0,none⟩=some (Pq q)∧W.cell? ⟨bm,0,none⟩=some (.int .i64 m.k)∧W.cell? ⟨bm,1,none⟩=some (.int .u64 m.size)∧W.cell? ⟨bm,2,none⟩=some (.int .u64 m.items)∧W.cell? ⟨bm,3,none⟩=some (.int .u64 m.nodes)∧W.cell? ⟨bm,4,none⟩=some (.int .u32 m.chain.toNat)):=fun W hW=>⟨hW.cell hcs ns,hW.cell m0 nm,hW.cell m1 nm,hW.cell m2 nm,hW.cell m3 nm,hW.cell m4 nm⟩
 have u:=bdz w;clear h hr hD up hml h1 h2 h3;obtain⟨mk,ma,mb,mc,md⟩:=m;simp only at *;generalize tx (mrk ⟨mk,ma,mb,mc,md⟩)=tm at *;generalize md.toNat=mdn at *
 go_enter func176,ntmps176
 go_upto_region 1 with (fail)
 go_region_held3 (fun Z=>Z.cell? ⟨bs,0,none⟩=some (Pq q)∧Z.cell? ⟨bm,0,none⟩=some (.int .i64 mk)∧Z.cell? ⟨bm,1,none⟩=some (.int .u64 ma)∧Z.cell? ⟨bm,2,none⟩=some (.int .u64 mb)∧Z.cell? ⟨bm,3,none⟩=some (.int .u64 mc)∧Z.cell? ⟨bm,4,none⟩=some (.int .u32 mdn)) (first|assumption|(with_reducible exact HC3.out _ t3)|(with_reducible exact HC.out _ u)) (first
  | (go_at_call 177;(with_reducible refine(HJ.out _ u).mono ?_);rintro e w2 ⟨rfl,u⟩)
  | (go_at_call 171;(with_reducible refine(HW.out _ u).mono ?_);rintro e w3 ⟨rfl,t3⟩))
 all_goals
  go_wp2
  go_ret
  exact⟨rfl,t3⟩
theorem QiA(w:World)(h:Sk w q p T D S)(hr:Rmy D)(bs:Nat)(hcs:w.cell? ⟨bs,0,none⟩=some (Pq q))(D':DV)(r:Int)(hD:YI D nmI=(D',r)) :
  Calls prog 174 #[Pq bs] w fun e w'=>e= .returned (.int .i64 r)∧SkM w w' q p T D' S:=by
 have HW:Hid (Calls prog 157 #[Pq p,.string ⟨#[105,116,101,109,115]⟩] w fun e w'=>e= .returned (.int .i64 r)∧SkM w w' q p T D' S):=by
  have:=h.sync hr ⟨#[105,116,101,109,115]⟩ (by decide)
  rw[show(ByteArray.mk #[105,116,101,109,115]).data.toList=nmI from rfl,hD] at this
  exact this
 obtain⟨_,_,⟨c0,_⟩,_⟩:=h.cells;clear h hr hD
 go_enter func174,ntmps174
 go_wp2_with (go_at_call 157;refine HW.out.mono ?_;rintro e w1 ⟨rfl,t1⟩)
 go_ret
 exact⟨rfl,t1⟩
theorem QiB(w:World)(h:Sk w q p T D S)(hr:Rmy D)(bs:Nat)(hcs:w.cell? ⟨bs,0,none⟩=some (Pq q))(D':DV)(r:Int)(hD:YI D nmN=(D',r)) :
  Calls prog 175 #[Pq bs] w fun e w'=>e= .returned (.int .i64 r)∧SkM w w' q p T D' S:=by
 have HW:Hid (Calls prog 157 #[Pq p,.string ⟨#[110,111,100,101,115]⟩] w fun e w'=>e= .returned (.int .i64 r)∧SkM w w' q p T D' S):=by
  have:=h.sync hr ⟨#[110,111,100,101,115]⟩ (by decide)
  rw[show(ByteArray.mk #[110,111,100,101,115]).data.toList=nmN from rfl,hD] at this
  exact this
 obtain⟨_,_,⟨c0,_⟩,_⟩:=h.cells;clear h hr hD
 go_enter func175,ntmps175
 go_wp2_with (go_at_call 157;refine HW.out.mono ?_;rintro e w1 ⟨rfl,t1⟩)
 go_ret
 exact⟨rfl,t1⟩
theorem QiD(w:World)(h:Sk w q p T D S)(hr:Rmy D)(bs:Nat)(hcs:w.cell? ⟨bs,0,none⟩=some (Pq q))(D':DV)(r:Int)(hD:YI D nmM=(D',r)) :
  Calls prog 178 #[Pq bs] w fun e w'=>e= .returned (.int .i64 r)∧SkM w w' q p T D' S:=by
 have HW:Hid (Calls prog 157 #[Pq p,.string ⟨#[109,97,114,107,115]⟩] w fun e w'=>e= .returned (.int .i64 r)∧SkM w w' q p T D' S):=by
  have:=h.sync hr ⟨#[109,97,114,107,115]⟩ (by decide)
  rw[show(ByteArray.mk #[109,97,114,107,115]).data.toList=nmM from rfl,hD] at this
  exact this
 obtain⟨_,_,⟨c0,_⟩,_⟩:=h.cells;clear h hr hD
 go_enter func178,ntmps178
 go_wp2_with (go_at_call 157;refine HW.out.mono ?_;rintro e w1 ⟨rfl,t1⟩)
 go_ret
 exact⟨rfl,t1⟩
end
end St
namespace St
abbrev dv:Value := .slice none 0 0
def resO(r:Result Value):Option (Value×World) :=
 match r with
 | .ok v w=>some (v,w)
 | .halt _ _=>none
theorem Qne(r:Result Value)(hs:(resO r).isSome=true)(d:Value×World):r= .ok ((resO r).getD d).1 ((resO r).getD d).2:=by
 cases r with
 | ok v w=>rfl
 | halt x w=>cases hs
noncomputable def appR (t ty:Nat) (v u:Value) (w:World):Option (Value×World):=resO ((Builtin.append_ #[t,t] ty #[v,u]).run prog w)
theorem QaI{t ty:Nat}{v u v':Value}{w w':World}(h:(Builtin.append_ #[t,t] ty #[v,u]).run prog w= .ok v' w'):appR t ty v u w=some (v',w'):=LW resO h
theorem Qk4(t ty:Nat)(v u:Value)(w:World)(hs:(appR t ty v u w).isSome=true):(Builtin.append_ #[t,t] ty #[v,u]).run prog w= .ok ((appR t ty v u w).getD (dv,w)).1 ((appR t ty v u w).getD (dv,w)).2:=Qne _ hs (dv,w)
theorem JJ(ρ:Operand->Value)(d:Option Tmp)(s x:Operand)(t ty:Nat)(ps:String)(af:Array Edge)(gd:Option (Nat×Bool))(w:World)(hs:(appR t ty (ρ s) (ρ x) w).isSome=true) :
  (execOp ρ { dst:=d,op:=Op.call { callee:=Callee.builtin Builtin.append,args:=#[s,x],argTypes:=#[t,t] },type:=ty,pos:=ps,after:=af,guard:=gd }).run prog w= .ok (.value ((appR t ty (ρ s) (ρ x) w).getD (dv,w)).1) ((appR t ty (ρ s) (ρ x) w).getD (dv,w)).2:=by
 have hrun:=Qk4 t ty (ρ s) (ρ x) w hs;generalize (appR t ty (ρ s) (ρ x) w).getD (dv,w)=r at *;simp[execOp,resolve,invoke,builtin,hrun,Result.andThen]
end St
namespace St
open Rc
attribute [local go_sem ↓] JJ
theorem Qc8(w:World)(a:Value)(T:TypeId):∀j u,[a][j]? = some u->(w.alloc (.cells #[a] T)).cell? ((⟨w.heap.size,0,none⟩:Addr).add j)=some u:=fun j u hu=>by
 rw[Addr.add_mid,Nq,Lo]
 simpa using hu
def QnO(w w':World)(v v':Value):Prop:=(∃g n cap,v= .slice (Zp g) n cap∧v'= .slice (Zp g) (n+1) cap∧w.grownBy w' (some g))∨(w.grownBy w' none ∧ ∀g,v'.ownBlock=some g->w.heap.size<=g)
theorem Qik(w:World)(ty B:Nat)(v:Value)(L:List Nat)(hown:OwnE w B v L)(ad:Addr)(mc:Nat)(z:Nat)(hr:∀j u,[Value.int .i64 z][j]? = some u->w.cell? (ad.add j)=some u)
  (hlen:L.length+1<=1048576) (hB:B<=w.heap.size) :
  ∃v' w',(Builtin.append_ #[167,167] ty #[v,.slice (some ad) 1 mc]).run prog w= .ok v' w'∧OwnE w' B v' (L++[z])∧QnO w w' v v':=by
 obtain⟨i0,hi,hz0,hz1,hz2⟩:=info_parts Tryz.infoE;have hap:∀ {w':World} {v':Value} {n:Nat},n=L.length+1->w'.ownsRow B 3 1 v' n (cE L++[.int .i64 z])->OwnE w' B v' (L++[z]):=fun hn h=>by
  rw[OwnE,cE,LL,Le,LD,N9,Lo,<-hn];exact h
 have h1c:∀u∈([.int .i64 z]:List Value),u.oneCell'=true:=by intro u hu;simp at hu;subst hu;rfl
 have hown0:=hown
 rcases hown.2 with ⟨rfl,h0⟩|⟨g,cp,cur,rfl,hgb,hh,hc⟩
 ·have hL:L=[]:=List.length_eq_zero_iff.1 h0;subst hL;obtain⟨v',w',hrun,r1,r2,_⟩:=run_append_own (P:=prog) w w.heap.size 167 ty 3 i0 (.int .i64 0) 1 8 underlying167 hi hz0 hz1 hz2 rfl (by decide) _ 0 [] (Np _ _ _ _) ad 1 mc [.int .i64 z] rfl hr h1c (by decide) (by decide) (La _)
  exact⟨v',w',hrun,hap rfl (by simpa [cE] using World.ownsRow.mono r1 hB),.inr ⟨r2,fun k hk=>(LY r1 k hk).1⟩⟩
 ·by_cases hfit:L.length+1<=cp
  ·obtain⟨w',hrun,r1,r2⟩:=run_append_fits (P:=prog) w B 167 ty 3 i0 1 underlying167 hi hz1 g L.length cp (cE L) hown0 ad 1 mc [.int .i64 z] rfl hr h1c hfit;exact⟨_,w',hrun,hap rfl r1,.inl ⟨g,L.length,cp,rfl,rfl,r2⟩⟩
  ·obtain⟨v',w',hrun,r1,r2⟩:=run_append_arg_grows (P:=prog) w 167 ty 3 i0 (.int .i64 0) 1 8 underlying167 hi hz0 hz1 hz2 rfl (by decide) ⟨g,0,none⟩ L.length cp (cE L) hown0.1 (II hown0 rfl) ad 1 mc [.int .i64 z] rfl hr (by omega) (by unfold maxLen;omega) (by omega)
   exact⟨v',w',hrun,hap rfl (World.ownsRow.mono r1 hB),.inr ⟨r2,fun k hk=>(LY r1 k hk).1⟩⟩
section
variable {q p:Nat} {T:Nat->Prop} {D:DV} {S:SV}
theorem U0(w:World)(h:Sk w q p T D S)(m:MV)(h1:m.items<=268435456)(h2:S.ends.length<65536) :
  Calls prog 179 #[Pq q,.agg (mC m)] w fun e w'=>e= .returned (.tuple #[])∧SkM w w' q p T D { S with ends:=S.ends++[m.items],chain:=m.chain } := by
 obtain⟨S0,v,d1,d2,d3,d4,d5⟩:=h;obtain⟨ao,cap,rfl,_⟩:=JN d2.own;obtain⟨mk,ma,mb,mc,md⟩:=m;simp only at h1;have hw:IntKind.i64.wrap (mb:Int)=(mb:Int):=by rw[Lz];omega
 obtain⟨w1,hw1⟩:∃W,w.alloc (.cells #[.int .i64 mk,.int .u64 ma,.int .u64 mb,.int .u64 mc,.int .u32 md.toNat] 239)=W:=⟨_,rfl⟩;have u1:Below w.heap.size w w1:=by rw[<-hw1];exact bal (Lb _ _) _
 have k1:w1.heap[w.heap.size]? = some (.cells #[.int .i64 mk,.int .u64 ma,.int .u64 mb,.int .u64 mc,.int .u32 md.toNat] 239 (0,0)):=by rw[<-hw1];exact Ja _ _
 rw[show mC ⟨mk,ma,mb,mc,md⟩=#[.int .i64 mk,.int .u64 ma,.int .u64 mb,.int .u64 mc,.int .u32 md.toNat] from rfl]
 have s1:Sto w1 q p (.slice ao S.ends.length cap) S:=d2.same (u1.block q d2.lt) (fun g hg=>u1.block g (JO d2.own hg))
 obtain⟨w2,hw2⟩:∃W,(w1.alloc (.cells #[.int .i64 mb] 3)).drew=W:=⟨_,rfl⟩;have u2:Below w1.heap.size w1 w2:=by rw[<-hw2];exact Qi (bal (Lb _ _) _) 1
 have s2:Sto w2 q p (.slice ao S.ends.length cap) S:=s1.same (u2.block q s1.lt) (fun g hg=>u2.block g (JO s1.own hg))
 obtain⟨v',w3,hap,o3,g3⟩:=Qik w2 167 0 _ S.ends s2.own ⟨w1.heap.size,0,none⟩ 1 mb (by rw[<-hw2];exact Qc8 _ _ _) (by omega) (Ln _)
 have t3:Upo (fun x=>(Value.slice ao S.ends.length cap).ownBlock=some x) w2 w3:=by
  rcases g3 with ⟨g,n,c,e1,e2,g3⟩|⟨g3,_⟩
  ·rw[e1];exact Upo.grown g3 (fun b hb=>by cases hb;rfl)
  ·exact Upo.grown g3 (fun b hb=>by cases hb)
 have hv3:∀g,v'.ownBlock=some g->(Value.slice ao S.ends.length cap).ownBlock=some g∨w2.heap.size<=g:=fun g hg=>by
  rcases g3 with ⟨g',n,c,e1,e2,g3⟩|⟨_,g3⟩
  ·rw[e1];rw[e2] at hg;exact .inl hg
  ·exact .inr (g3 g hg)
 obtain⟨ao3,cap3,rfl,_⟩:=JN o3;have hq2:q<w2.heap.size:=s2.lt;have kq:w3.heap[q]? = some (.cells #[Pq p,.int .i64 S.k,.slice ao S.ends.length cap,.int .u32 S.chain.toNat,.bool S.lame] 169 (0,0)):=(t3.block q hq2 (fun e=>(d4 q e).1 rfl)).trans s2.blk
 have km:w3.heap[w.heap.size]? = some (.cells #[.int .i64 mk,.int .u64 ma,.int .u64 mb,.int .u64 mc,.int .u32 md.toNat] 239 (0,0)):=by
  have hz:=(Array.getElem?_eq_some_iff.1 k1).1
  refine(t3.block _ (by have:=u2.size;omega) (fun e=> ?_)).trans ((u2.block _ hz).trans k1)
  have:=JO d2.own e;omega
 obtain⟨c0,c1,c2,c3,c4⟩:=YC s2.blk;obtain⟨x0,x1,x2,x3,x4⟩:=YC ((u2.block _ (Array.getElem?_eq_some_iff.1 k1).1).trans k1)
 obtain⟨_,_,c2a,_,_⟩:=YC s1.blk;obtain⟨_,_,x2a,_,_⟩:=YC k1;have HW1:=Qd hw1;have HW2:=Qd hw2;have ha:=QaI hap;have f2:w3.frozen? ⟨q,2,none⟩=false:=frozen_of_row w3 q 2 _ _ kq;have f3:w3.frozen? ⟨q,3,none⟩=false:=frozen_of_row w3 q 3 _ _ kq;obtain⟨y0,y1,y2,y3,y4⟩:=YC kq;obtain⟨z0,z1,z2,z3,z4⟩:=YC km;obtain⟨bm,hbm⟩:∃b,w.heap.size=b:=⟨_,rfl⟩;have HBm:=Qd hbm;rw[hbm] at x2a x0 x1 x2 x3 x4 z0 z1 z2 z3 z4;rw[<-hw2] at c2 x2 ha;have hl3:(S.ends++[mb]).length=S.ends.length+1:=by simp
 rw[hl3] at ha o3 hv3;have hne:¬bm=q:=by have:=d2.lt;omega
 have hne2:¬q=bm:=fun e=>hne e.symm
 have HZ:Hid (SkM w ((w3.setCell ⟨q,2,none⟩ (.slice ao3 (S.ends.length+1) cap3)).setCell ⟨q,3,none⟩ (.int .u32 md.toNat)) q p T D { S with ends:=S.ends++[mb],chain:=md }):=by
  have ub:Below w.heap.size w w2:=Qa u1 u2;have kq2:((w3.setCell ⟨q,2,none⟩ (.slice ao3 (S.ends.length+1) cap3)).setCell ⟨q,3,none⟩ (.int .u32 md.toNat)).heap[q]? = some (.cells #[Pq p,.int .i64 S.k,.slice ao3 (S.ends.length+1) cap3,.int .u32 md.toNat,.bool S.lame] 169 (0,0)) :=
   Lp _ q 3 _ _ _ (Lp w3 q 2 _ _ _ kq)
  have up:Upo (fun x=>x=q∨(Value.slice ao S.ends.length cap).ownBlock=some x) w ((w3.setCell ⟨q,2,none⟩ (.slice ao3 (S.ends.length+1) cap3)).setCell ⟨q,3,none⟩ (.int .u32 md.toNat)) :=
   (((Upo.of ub).trans t3 (fun x _ e=> .inr e)).set q 2 _ (.inl (.inl rfl))).set q 3 _ (.inl (.inl rfl))
  have oth:∀x,x≠q->((w3.setCell ⟨q,2,none⟩ (.slice ao3 (S.ends.length+1) cap3)).setCell ⟨q,3,none⟩ (.int .u32 md.toNat)).heap[x]? = w3.heap[x]? := fun x hx=>(Below.heap_setCell _ _ _ _ hx).trans (Below.heap_setCell _ _ _ _ hx)
  have hvq:∀g,(Value.slice ao3 (S.ends.length+1) cap3).ownBlock=some g->g≠q ∧ ¬S0 g:=fun g hg=>by
   rcases hv3 g hg with e|e
   ·exact d4 g e
   ·exact⟨by omega,fun hs=>by have:=d1.lt hs;have:=ub.size;omega⟩
  refine⟨fun x=>S0 x∨x=q∨(Value.slice ao3 (S.ends.length+1) cap3).ownBlock=some x,⟨S0,.slice ao3 (S.ends.length+1) cap3,?_,⟨kq2,QK (v := .slice ao3 (S.ends.length+1) cap3) o3 (fun g hg=>oth g (hvq g hg).1),d2.k1,d2.k2,by simp;omega,fun e he=> ?_⟩,d3,hvq,fun _=>Iff.rfl⟩,fun x hx=> ?_,up.mono (fun x _ e=>(d5 x).2 (.inr e))⟩
  ·exact d1.keep up (fun x hx e=>by
    rcases e with rfl|e
    ·exact d3 hx
    ·exact(d4 x e).2 hx)
  ·rcases List.mem_append.1 he with e1|e1
   ·exact d2.low e e1
   ·rw[List.mem_singleton.1 e1];exact h1
  ·rcases hx with e|e|e
   ·exact .inl ((d5 x).2 (.inl e))
   ·exact .inl ((d5 x).2 (.inr (.inl e)))
   ·rcases hv3 x e with e|e
    ·exact .inl ((d5 x).2 (.inr (.inr e)))
    ·exact .inr (by have:=ub.size;omega)
 clear hw1 hw2 hbm u1 u2 s1 s2 hap o3 g3 t3 hv3 kq km k1 d1 d2 d3 d4 d5 h1 h2 hq2
 go_enter func179,ntmps179
 go_upto_region 1 with (fail)
 rw[HW1.out,HBm.out]
 go_region
 all_goals
  go_wp2;exact bodyPost_end (results_none rfl _ prog _) rfl ⟨rfl,HZ.out⟩
end
end St
end Go.Proofs.YtoblgjledefdbaaGreatDoor
