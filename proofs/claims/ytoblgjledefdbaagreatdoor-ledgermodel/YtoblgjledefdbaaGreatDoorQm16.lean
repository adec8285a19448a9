/- Own work. -/
import Derived.Test.YtoblgjledefdbaaGreatDoorQm15
set_option maxRecDepth 100000
set_option maxHeartbeats 2000000
namespace Go.Proofs.YtoblgjledefdbaaGreatDoor
open Go.RowKit
open Go.Proofs.Tryz
namespace St
structure RdF(w:World)(ao:OA)(b off:Nat)(l:List (List UInt8×List UInt8)):Prop where
 ptr:0<l.length->ao=some ⟨b,off,none⟩
 c0 : ∀j,j<l.length->w.cell? ⟨b,off+j*2,none⟩=some (.string ⟨(l.getD j ([],[])).1.toArray⟩)
 c1 : ∀j,j<l.length->w.cell? ⟨b,off+j*2+1,none⟩=some (.string ⟨(l.getD j ([],[])).2.toArray⟩)
section
variable {w W:World} {ao:OA} {b off:Nat} {l:List (List UInt8×List UInt8)}
theorem RdF.lt(h:RdF w ao b off l)(h0:0<l.length):b<w.heap.size:=Ln w _ (h.c0 0 h0)
theorem RdF.same(h:RdF w ao b off l)(hb:0<l.length->W.heap[b]? = w.heap[b]?):RdF W ao b off l :=
 ⟨h.ptr,fun j hj=>(LD (a:=⟨b,off+j*2,none⟩) (hb (by omega))).trans (h.c0 j hj),fun j hj=>(LD (a:=⟨b,off+j*2+1,none⟩) (hb (by omega))).trans (h.c1 j hj)⟩
theorem RdF.next(h:RdF w ao b off l)(hb:Below w.heap.size w W):RdF W ao b off l:=h.same fun h0=>hb.block b (h.lt h0)
end
theorem Qjk : ∀(l:List (List UInt8×List UInt8)) (j:Nat),j<l.length->(cF l)[j*2]? = some (.string ⟨(l.getD j ([],[])).1.toArray⟩)∧(cF l)[j*2+1]? = some (.string ⟨(l.getD j ([],[])).2.toArray⟩)
 | [],j,h=>by simp at h
 | x::r,0,_=>⟨rfl,rfl⟩
 | x::r,j+1,h=>by
  have:=Qjk r j (by simpa using h)
  rw[show(j+1)*2=j*2+2 by omega]
  exact this
theorem QmB{w:World}{B:Nat}{v:Value}{l:List (List UInt8×List UInt8)}(h:OwnF w B v l) : ∃ao b cap,v = .slice ao l.length cap∧RdF w ao b 0 l∧l.length<=cap∧(0<l.length->B<=b):=by
 rcases h.2 with ⟨e1,e2⟩|⟨g,cap,cur,e1,e2,hb,h1,h2,h3,h4⟩
 ·refine⟨none,0,0,by rw[e1,e2],⟨fun h0 => ?_,fun j hj => ?_,fun j hj => ?_⟩,by omega,fun h0 => ?_⟩ <;> omega
 ·have xA : ∀i,i<l.length*2->w.cell? ⟨g,i,none⟩=(cF l)[i]? := fun i hi=>by
   rw[cell_of_row w g i cur _ (0,0) hb];have:=Lw (fun x=>x[i]?) h4
   simp only[List.getElem?_take,if_pos hi] at this
   rw[NU] at this;exact this
  refine⟨some ⟨g,0,none⟩,g,cap,e1,⟨fun _=>rfl,fun j hj => ?_,fun j hj => ?_⟩,h1,fun _=>e2⟩
  ·rw[Lm,xA _ (by omega)];exact(Qjk l j hj).1
  ·rw[Lm,xA _ (by omega)];exact(Qjk l j hj).2
structure Fm(w:World)(m:Nat)(R:List UInt8->FR)(L:List (List UInt8×FV)):Prop where
 mp:Mv w m (OO L R)
 ord:Ord L
 fil : ∀s∈Qh L,Fil w (Qe L s) (R s)
 apart : ∀s∈Qh L,∀t∈Qh L,s≠t -> ∀x,Blk (R s) x->Blk (R t) x->False
 nm : ∀s∈Qh L,s.length<=maxLen
 cnt:L.length<=1099511627776
theorem Fm.put{w W:World}{m:Nat}{R:List UInt8->FR}{L:List (List UInt8×FV)}{s:List UInt8}{f:FV}{r:FR}(h:Fm w m R L)(hf:Fil w f r)(hs:s.length<=maxLen)
  (hap : ∀t∈Qh L,t≠s -> ∀x,Blk (R t) x->Blk r x->False) (hc:L.length<1099511627776)
  (hmp:Mv W m (updF (OO L R) s (if f.gone then none else some (Y6 f r)))) (hu:Upo (fun x=>x=m) w W):Fm W m (J5 R s r) (QW L s f):=by
 have kt : ∀x,Ty w x 5->W.heap[x]? = w.heap[x]? := fun x hx=>hu.block x hx.lt (hx.mv h.mp)
 have xA : ∀t,t∈Qh (QW L s f)->t≠s->t∈Qh L:=fun t ht hne=>by
  have:=(Jo h.ord s f t).1 ht
  rwa [Le hne] at this
 refine⟨by rw[QeC h.ord];exact hmp,YI h.ord s f,fun t ht => ?_,fun t ht u hu' hne x hx hy => ?_,fun t ht => ?_,?_⟩
 ·rw[QP h.ord,J5]
  by_cases e:t=s
  ·rw[Lk e,Lk e];exact hf.same fun x hx=>kt x (hf.blk hx)
  ·rw[Le e,Le e];have:=h.fil t (xA t ht e);exact this.same fun x hx=>kt x (this.blk hx)
 ·simp only[J5] at hx hy
  by_cases e:t=s
  ·rw[Lk e] at hx;have e2:u≠s:=fun q=>hne (e.trans q.symm)
   rw[Le e2] at hy;exact hap u (xA u hu' e2) e2 x hy hx
  ·rw[Le e] at hx
   by_cases e2:u=s
   ·rw[Lk e2] at hy;exact hap t (xA t ht e) e x hx hy
   ·rw[Le e2] at hy;exact h.apart t (xA t ht e) u (xA u hu' e2) hne x hx hy
 ·by_cases e:t=s
  ·rw[e];exact hs
  ·exact h.nm t (xA t ht e)
 ·have:=U4 (L:=L) s f;omega
theorem Fm.same{w W:World}{m:Nat}{R:List UInt8->FR}{L:List (List UInt8×FV)}(h:Fm w m R L)(hm:W.heap[m]? = w.heap[m]?)(hb : ∀x,Ty w x 5->W.heap[x]? = w.heap[x]?):Fm W m R L :=
 ⟨h.mp.same hm,h.ord,fun s hs=>(h.fil s hs).same fun x hx=>hb x ((h.fil s hs).blk hx),h.apart,h.nm,h.cnt⟩
def YB(l:List (List UInt8×List UInt8)):List (List UInt8×FV):=l.foldl (fun acc x=>if x.2=[] then acc else QW acc x.1 ⟨x.2,x.2⟩) []
theorem Qie(l:List (List UInt8×List UInt8))(x:List UInt8×List UInt8):YB (l++[x])=if x.2=[] then YB l else QW (YB l) x.1 ⟨x.2,x.2⟩:=by simp[YB]
theorem Qey(l:List (List UInt8×List UInt8)):(YB l).length<=l.length:=by
 suffices h : ∀(l:List (List UInt8×List UInt8)) (acc:List (List UInt8×FV)),(l.foldl (fun acc x=>if x.2=[] then acc else QW acc x.1 ⟨x.2,x.2⟩) acc).length<=acc.length+l.length from by simpa [YB] using h l []
 intro l
 induction l with
 | nil=>intro acc;simp
 | cons x r ih =>
  intro acc;rw[Wa];have:=ih (if x.2=[] then acc else QW acc x.1 ⟨x.2,x.2⟩)
  split at this
  ·rw[Lk (by assumption)];simp;omega
  ·rw[Le (by assumption)]
   have q:=U4 (L:=acc) x.1 ⟨x.2,x.2⟩;simp;omega
theorem QkZ(w:World)(s:BA)(cap:Nat)(hc:s.size<=cap):Rw (w.alloc (.cells (bytesRow s cap) 5 ((bytesRow s cap).size,(bytesRow s cap).size+1))) (some ⟨w.heap.size,0,none⟩) w.heap.size cap s.data.toList:=by
 have hd:s.data.size=s.size:=rfl;have xA:(bytesRow s cap).size=cap:=by simp only[bytesRow,Array.size_append,Array.size_map,Array.size_replicate,hd];omega
 refine⟨.inr rfl,fun e=>(by cases e),fun _=>⟨_,_,Yq _ _⟩,by rw[Qb];exact hc,fun _ j v hv => ?_,fun _ j hj=>⟨?_,?_⟩⟩
 ·have hj:j<s.data.size:=by have:=(List.getElem?_eq_some_iff.1 hv).1;rw[Qp,Np] at this;exact this
  rw[Lm,World.cell?_alloc_mark,bytesRow_at s cap j hj,<-hv]
  simp[cY,Array.getElem?_eq_getElem hj]
 ·rw[Lm,World.cell?_alloc_mark,Nf (by omega)];rfl
 ·rw[Lm,World.frozen?_alloc_mark,xA]
  simp;omega
theorem QhK(W:World)(t:BA) : ∃c W',(convert 9 127 (.string t)).run prog W = .ok (.slice (some ⟨W.heap.size,0,none⟩) t.size c) W'∧Rw W' (some ⟨W.heap.size,0,none⟩) W.heap.size c t.data.toList∧Below W.heap.size W W'∧W.heap.size<W'.heap.size:=by
 have h:=run_bytes_of_string (P:=prog) W 9 127 5 t underlying9 underlying127 underlying5;exact⟨_,_,h,QkZ W.drew t _ (grownCap_ge W t.size 0 5),(Qf (Lb _ W) 1).alloc (La _) _,by show W.drew.heap.size<(W.drew.alloc _).heap.size;simp⟩
theorem Qbz(w:World)(ao:OA)(b off c:Nat)(l:List (List UInt8×List UInt8))(hr:RdF w ao b off l)(hs : ∀x∈l,x.1.length<=maxLen∧x.2.length<=268435456)(hl:l.length<=1099511627776) :
  Calls prog 51 #[.slice ao l.length c] w fun e w' => ∃R,e = .returned (.map (some w.heap.size))∧Fm w' w.heap.size R (YB l)∧(∀s∈Qh (YB l),∀x,Blk (R s) x->w.heap.size<=x)∧Below w.heap.size w w':=by
 have yQ := @run_makeMap prog;obtain⟨n,hn⟩:=Ze l.length;have HH:Hid (RdF w ao b off l∧(∀x∈l,x.1.length<=maxLen∧x.2.length<=268435456)∧l.length=n∧n<=1099511627776):=⟨hr,hs,hn,by omega⟩
 rw[hn];clear hr hs hl hn
 go_enter func51,ntmps51;go_wp2
 go_loopg [9] n (fun g i wr => ∃(j:Nat) (R:List UInt8->FR),j<=n∧g=n - j∧i = .int .i64 (j:Int)∧Fm wr w.heap.size R (YB (l.take j))∧(∀s∈Qh (YB (l.take j)),∀x,Blk (R s) x->w.heap.size<=x)∧Below w.heap.size w wr)
 case atStart =>
  refine⟨0,fun _=>fr0,Ll _,rfl,rfl,⟨?_,Ul,fun s h=>(by cases h),fun s h=>(by cases h),fun s h=>(by cases h),Ll _⟩,fun s h=>(by cases h),bal (Lb _ _) _⟩
  have:=Qkj w;exact this
 case round =>
  obtain⟨j,R,hj,rfl,rfl,hF,xA,hb⟩:=hrel
  by_cases hlt:j<n
  ·obtain⟨x,hx⟩:=Ze (l.getD j ([],[]));have yE:x∈l:=by
    rw[<-hx,Ld,Lh (by rw[HH.out.2.2.1];exact hlt)]
    exact L3 _
   obtain⟨xI,xJ⟩:=HH.out.2.1 x yE;have rr:=HH.out.1.next hb;have c0:=rr.c0 j (by rw[HH.out.2.2.1];exact hlt)
   have c1:=rr.c1 j (by rw[HH.out.2.2.1];exact hlt)
   rw[hx] at c0 c1;have ea:=rr.ptr (by rw[HH.out.2.2.1];omega)
   obtain⟨nm,xU⟩ : ∃nm:BA,(⟨x.1.toArray⟩:BA)=nm:=⟨_,rfl⟩;obtain⟨dt,xR⟩ : ∃dt:BA,(⟨x.2.toArray⟩:BA)=dt:=⟨_,rfl⟩;rw[xU] at c0;rw[xR] at c1;have xH:nm.data.toList=x.1:=by rw[<-xU]
   have xB:dt.data.toList=x.2:=by rw[<-xR]
   have yO:(0:Int)<=(j:Int):=by omega
   have yP:(j:Int)<(n:Int):=by omega
   have hw:IntKind.i64.wrap ((j:Int)+1)=(j:Int)+1:=by have:=HH.out.2.2.2;rw[Lr];omega
   have yD:l.take (j+1)=l.take j++[x]:=by rw[<-hx];exact UX _ _ _ (by rw[HH.out.2.2.1];exact hlt)
   have xD:=Qie (l.take j) x;rw[<-yD] at xD;have HG:Hid (Fm wr w.heap.size R (YB (l.take j))∧(∀s∈Qh (YB (l.take j)),∀x,Blk (R s) x->w.heap.size<=x)∧Below w.heap.size w wr∧j<n∧nm.data.toList=x.1∧dt.data.toList=x.2∧x.1.length<=maxLen∧x.2.length<=268435456∧YB (l.take (j+1))=if x.2=[] then YB (l.take j) else QW (YB (l.take j)) x.1 ⟨x.2,x.2⟩):=⟨hF,xA,hb,hlt,xH,xB,xI,xJ,xD⟩
   subst ea;obtain⟨w1,xL⟩:=Ze (wr.alloc (.cells #[.string nm,.string dt] 72));have HW:Hid (wr.alloc (.cells #[.string nm,.string dt] 72)=w1):=xL;have yB:Below wr.heap.size wr w1:=by rw[<-xL];exact bal (Lb _ _) _
   have k1:w1.heap[wr.heap.size]? = some (.cells #[.string nm,.string dt] 72 (0,0)):=by rw[<-xL];exact Yq _ _
   have d0:w1.cell? ⟨wr.heap.size,0,none⟩=some (.string nm):=by rw[cell_of_row w1 wr.heap.size 0 _ _ (0,0) k1];rfl
   have d1:w1.cell? ⟨wr.heap.size,1,none⟩=some (.string dt):=by rw[cell_of_row w1 wr.heap.size 1 _ _ (0,0) k1];rfl
   have xE:Hid (Below wr.heap.size wr w1∧w1.heap[wr.heap.size]? = some (.cells #[.string nm,.string dt] 72 (0,0))):=⟨yB,k1⟩;clear hF xA hb hx yE xI xJ rr xU xR xH xB yD xD xL yB k1 hlt hj
   go_upto_region 5 with (fail)
   rw[HW.out]
   by_cases hd0:dt.size=0
   ·have hz : ¬((dt.size:Int) > 0):=by omega
    have HF:Hid (Fm w1 w.heap.size R (YB (l.take (j+1)))∧(∀s∈Qh (YB (l.take (j+1))),∀x,Blk (R s) x->w.heap.size<=x)∧Below w.heap.size w w1):=by
     obtain⟨hF,xA,hb,hlt,xH,xB,xI,xJ,xD⟩:=HG.out;have:x.2=[]:=by rw[<-xB];exact List.length_eq_zero_iff.1 (by rw[Qb];exact hd0)
     rw[Lk this] at xD;rw[xD];exact⟨hF.same (xE.out.1.block _ hF.mp.lt) (fun x hx=>xE.out.1.block x hx.lt),xA,Qa hb xE.out.1⟩
    clear hd0;go_wp2
    go_roundg (n - (j+1))
    case rel=>go_light;exact⟨j+1,R,by have:=HG.out.2.2.2.1;omega,rfl,by go_num,HF.out⟩
    case measure=>go_light;have:=HG.out.2.2.2.1;omega
   ·have hz:(0:Int)<(dt.size:Int):=by omega
    obtain⟨cp,w2,yL,xW,xG,xM⟩:=QhK w1.drew dt;have xC:Below w1.heap.size w1 w2:=⟨xG.os,xG.tape,xG.output,xG.size,xG.block⟩;have HS:=Qcw w2 (some ⟨w1.heap.size,0,none⟩) w1.heap.size dt.size cp dt.data.toList none 0 0 0 0 [] xW (QdV w2 0) (Qb dt) rfl (Ll _) (La _) rfl (by have:=HG.out.2.2.2.2.2;rw[<-this.1,Qb] at this;omega)
    have xN:Hid (∀W,Below w1.heap.size w1 W->W.cell? ⟨wr.heap.size,0,none⟩=some (.string nm)∧W.cell? ⟨wr.heap.size,1,none⟩=some (.string dt)):=fun W hW=>by
     have e:=(hW.block wr.heap.size (Array.getElem?_eq_some_iff.1 xE.out.2).1).trans xE.out.2
     exact⟨by rw[cell_of_row W wr.heap.size 0 _ _ (0,0) e];rfl,by rw[cell_of_row W wr.heap.size 1 _ _ (0,0) e];rfl⟩
    have xO:Hid (∀(w3:World) b' h' d',Rw w3 b' h' d' dt.data.toList->Upo (fun x=>(none:OA)=some ⟨0,0,none⟩∧x=0) w2 w3->((b'=none∧h'=0)∨(w2.heap.size<=h'∧h'<w3.heap.size)) ->
      ∃w4,(Instr.mapUpdate 96 (.map (some w.heap.size)) (.string nm) (fv (some ⟨w1.heap.size,0,none⟩) dt.size cp b' dt.size d' dt.size)).run prog w3 = .ok () w4 ∧ ∃R',Fm w4 w.heap.size R' (YB (l.take (j+1)))∧(∀s∈Qh (YB (l.take (j+1))),∀x,Blk (R' s) x->w.heap.size<=x)∧Below w.heap.size w w4∧w4.cell? ⟨wr.heap.size,0,none⟩=some (.string nm)∧w4.cell? ⟨wr.heap.size,1,none⟩=some (.string dt)):=fun w3 b' h' d' r3 u3 loc=>by
     obtain⟨hF,xA,hb,hlt,xH,xB,xI,xJ,xD⟩:=HG.out;have xP:Below w2.heap.size w2 w3:=⟨u3.os,u3.tape,u3.output,u3.size,fun x hx=>u3.block x hx (fun q=>by cases q.1)⟩
     have xQ:Below wr.heap.size wr w3:=Qa xE.out.1 (Qa xC xP);have yA:Fm w3 w.heap.size R (YB (l.take j)):=hF.same (xQ.block _ hF.mp.lt) (fun x hx=>xQ.block x hx.lt)
     have xS:Fil w3 ⟨x.2,x.2⟩ ⟨some ⟨w1.heap.size,0,none⟩,w1.heap.size,cp,b',h',d',dt.size⟩:=by
      rw[<-xB];refine⟨xW.same fun _=>xP.block _ xM,r3,by rw[Qb];exact La _,by rw[Qb];exact La _,rfl,fun _ e => ?_,by rw[xB];exact xJ,by rw[xB];exact xJ⟩
      rcases loc with ⟨q,_⟩|q
      ·rw[q] at e;cases e
      ·show w1.heap.size≠h'
       have:w1.heap.size<w2.heap.size:=xM;omega
     have hg:(⟨x.2,x.2⟩:FV).gone=false:=by
      cases e:(⟨x.2,x.2⟩:FV).gone
      ·rfl
      ·have:=(UM.1 e).1;rw[<-xB,Qb] at this;exact absurd this hd0
     have yN : ¬x.2=[]:=fun e=>hd0 (by rw[<-Qb,xB,e];rfl)
     rw[Le yN] at xD;have xT:=Qey (l.take j);have yK:(YB (l.take j)).length<1099511627776:=by
      rw[Lz] at xT;have:=HH.out.2.2.2;omega
     obtain⟨w4,h1,h2,h3⟩:=yA.mp.write underlying96 (Oj hF.ord) (Qbx _ R) (by rw[OL];unfold maxLen;omega) (s:=nm) (by rw[<-Qb,xH];exact xI) (fv (some ⟨w1.heap.size,0,none⟩) dt.size cp b' dt.size d' dt.size)
     refine⟨w4,h1,J5 R x.1 ⟨some ⟨w1.heap.size,0,none⟩,w1.heap.size,cp,b',h',d',dt.size⟩,?_⟩
     have xV : ∀t∈Qh (YB (l.take j)),∀y,Blk (R t) y->y<wr.heap.size:=fun t ht y hy=>((hF.fil t ht).blk hy).lt
     have xK : ∀y,Blk (⟨some ⟨w1.heap.size,0,none⟩,w1.heap.size,cp,b',h',d',dt.size⟩:FR) y->wr.heap.size<=y:=fun y hy=>by
      have:=xE.out.1.size
      rcases hy with ⟨_,e⟩|⟨e,e2⟩
      ·simp only at e;omega
      ·rcases loc with ⟨q,_⟩|q
       ·simp only at e;rw[q] at e;cases e
       ·simp only at e2;have:w1.heap.size<w2.heap.size:=xM;omega
     have xF:Upo (fun x=>x=w.heap.size) w3 w4:=Upo.grown h3 (fun b e=>by injection e with e;exact e.symm)
     rw[xD];refine⟨yA.put xS xI (fun t ht _ y h1 h2=>by have:=xV t ht y h1;have:=xK y h2;omega) yK ?_ xF,fun t ht y hy => ?_,?_,?_⟩
     ·rw[hg,<-xH];have e:Y6 ⟨x.2,x.2⟩ ⟨some ⟨w1.heap.size,0,none⟩,w1.heap.size,cp,b',h',d',dt.size⟩=fv (some ⟨w1.heap.size,0,none⟩) dt.size cp b' dt.size d' dt.size:=by
       simp only[Y6,<-xB,Qb]
      rw[e];exact h2
     ·simp only[J5] at hy;have yR:=hb.size
      by_cases e:t=x.1
      ·rw[Lk e] at hy;have:=xK y hy;omega
      ·rw[Le e] at hy;refine xA t ?_ y hy
       have:=(Jo hF.ord x.1 ⟨x.2,x.2⟩ t).1 ht
       rwa [Le e] at this
     ·have:=Qa hb xQ;exact⟨xF.os.trans this.os,xF.tape.trans this.tape,xF.output.trans this.output,Lu this.size xF.size,fun y hy=>(xF.block y (by have:=this.size;omega) (fun e=>by omega)).trans (this.block y hy)⟩
     ·have q:=xN.out w3 (Qa xC xP);have hm:=hF.mp.lt;have yC:w4.heap[wr.heap.size]? = w3.heap[wr.heap.size]? := xF.block _ (Ln _ _ q.1) (fun e=>by omega)
      exact⟨(LD (a:=⟨wr.heap.size,0,none⟩) yC).trans q.1,(LD (a:=⟨wr.heap.size,1,none⟩) yC).trans q.2⟩
    have xX:=Qd xC;clear xW xG xC xM hd0
    go_upto_region 6 with (fail)
    obtain⟨yG,yH⟩:=xN.out _ xX.out;have xZ:Calls prog 101 #[.agg #[.slice (some ⟨w1.heap.size,0,none⟩) dt.size cp,.slice none 0 0,.int .i64 0]] w2 fun e w' => ∃b' h' d',e = .returned (fv (some ⟨w1.heap.size,0,none⟩) dt.size cp b' dt.size d' dt.size)∧Rw w' b' h' d' dt.data.toList∧Upo (fun x=>(none:OA)=some ⟨0,0,none⟩∧x=0) w2 w'∧((b'=none∧h'=0)∨(w2.heap.size<=h'∧h'<w'.heap.size)):=HS.mono fun e w' q=>by obtain⟨b',h',d',q1,q2,q3,q4,_⟩:=q;exact⟨b',h',d',q1,q2,q3,q4⟩
    clear HS
    go_region_with (go_at_call 101;with_reducible refine xZ.mono ?_;rintro e w3 ⟨b',h',d',rfl,r3,u3,loc⟩;obtain⟨yI,yJ⟩:=xN.out w3 (Qa xX.out ⟨u3.os,u3.tape,u3.output,u3.size,fun x hx=>u3.block x hx (fun q=>by cases q.1)⟩);obtain⟨w4,yM,R',xY⟩:=xO.out w3 b' h' d' r3 u3 loc)
    all_goals
     have yF:=Qd xY;clear xY yM yL yG yH yI yJ d0 d1 r3 u3 loc xZ c0 c1;go_wp2
     go_roundg (n - (j+1))
     case rel=>go_light;obtain⟨q1,q2,q3,_⟩:=yF.out;exact⟨j+1,R',by have:=HG.out.2.2.2.1;omega,rfl,by go_num,q1,q2,q3⟩
     case measure=>go_light;have:=HG.out.2.2.2.1;omega
  ·obtain rfl:j=n:=by omega
   have hc : ¬((j:Int)<(j:Int)):=by omega
   have HR:Hid (Fm wr w.heap.size R (YB l)∧(∀s∈Qh (YB l),∀x,Blk (R s) x->w.heap.size<=x)∧Below w.heap.size w wr):=by
    rw[Lo (by rw[HH.out.2.2.1];exact La _)] at hF xA
    exact⟨hF,xA,hb⟩
   clear hF xA hb hlt hj;go_wp2
   go_ret
   exact⟨rfl,R,HR.out⟩
def J9(D:DV)(ks:List Bool):DV := { D with L:=YB (aft ks D.L 0),down:=true }
theorem Qc4{ks:List Bool} : ∀ {L:List (List UInt8×FV)} {i:Nat} {x:List UInt8×List UInt8},x∈aft ks L i -> ∃f j,(x.1,f)∈L∧x.2=(stay ks f j).1
 | [],_,_,h=>by simp[aft] at h
 | (s,f)::r,i,x,h=>by
  simp only[aft] at h
  split at h
  ·obtain⟨f',j,h1,h2⟩:=Qc4 h;exact⟨f',j,LT _ h1,h2⟩
  ·rcases List.mem_cons.1 h with h|h
   ·exact⟨f,i,by rw[h];simp,by rw[h]⟩
   ·obtain⟨f',j,h1,h2⟩:=Qc4 h;exact⟨f',j,LT _ h1,h2⟩
theorem Qc3(ks:List Bool) : ∀(L:List (List UInt8×FV)) (i:Nat),(aft ks L i).length<=L.length
 | [],_=>by simp[aft]
 | (s,f)::r,i=>by
  have:=Qc3 ks r (stay ks f i).2;simp only[aft]
  split
  ·simp;omega
  ·simp;omega
theorem Qne(ks:List Bool)(f:FV)(i:Nat)(h1:f.now.length<=268435456)(h2:f.syn.length<=268435456):(stay ks f i).1.length<=268435456:=by
 rw[Qk7,slen]
 split
 ·exact h2
 ·split
  ·exact h1
  ·exact h2
section
variable {p m:Nat} {R:List UInt8->FR} {ka:OA} {kb ko kc:Nat} {D:DV}
theorem Dk.aft_ok{w:World}(h:Dk w p m R ka kb ko kc D none)(ks:List Bool):(∀x∈aft ks D.L 0,x.1.length<=maxLen∧x.2.length<=268435456)∧(aft ks D.L 0).length<=1099511627776:=by
 refine⟨fun x hx => ?_,Lu (Qc3 _ _ _) h.cnt⟩
 obtain⟨f,j,h1,h2⟩:=Qc4 hx;have hk:x.1∈Qh D.L:=List.mem_map.2 ⟨_,h1,rfl⟩;have hF:=h.fil x.1 hk (by simp)
 rw[Qbn h.ord h1] at hF;exact⟨h.nm _ hk,by rw[h2];exact Qne _ _ _ hF.b1 hF.b2⟩
theorem Qbt(w:World)(h:Dk w p m R ka kb ko kc D none)(ao:OA)(b o c:Nat)(ks:List Bool)(hk:RdL w ao b o ks)(hkl:ks.length<=9223372036854775807) :
  Calls prog 330 #[.pointer (some ⟨p,0,none⟩),.slice ao ks.length c] w fun e w' => ∃m' R',e = .returned (.int .i64 170)∧Dk w' p m' R' ka kb ko kc (J9 D ks) none∧(∀x,YN p m' R' kb (J9 D ks) x->x=p∨(0<D.ks.length∧x=kb)∨w.heap.size<=x)∧Upo (fun x=>x=p) w w':=by
 have HA:=QhG w h ao b o c ks hk hkl;have HH:=Qd h;clear hk hkl;have HL:Hid (∀W v,OwnF W w.heap.size v (aft ks D.L 0)->Below w.heap.size w W->Calls prog 51 #[v] W fun e w' => ∃R,e = .returned (.map (some W.heap.size))∧Fm w' W.heap.size R (YB (aft ks D.L 0))∧(∀s∈Qh (YB (aft ks D.L 0)),∀x,Blk (R s) x->W.heap.size<=x)∧Below W.heap.size W w'):=fun W v ho hb=>by
  obtain⟨xH,b',c',rfl,hr,_⟩:=QmB ho;exact Qbz W xH b' 0 c' _ hr (HH.out.aft_ok ks).1 (HH.out.aft_ok ks).2
 have HC:Hid (∀W,Below w.heap.size w W->(∀j,W.frozen? ⟨p,j,none⟩=false)∧W.cell? ⟨p,1,none⟩=some (.map (some m))∧W.cell? ⟨p,6,none⟩=some (.bool D.down)):=fun W hb=>by
  have:=HH.out.next hb;exact⟨this.frz,this.cells.2.1,this.cells.2.2.2.2.2.2⟩
 clear h
 go_enter func330,ntmps330
 go_upto_region 2 with (first
  | (go_at_call 17;(with_reducible refine HA.mono ?_);rintro e w1 ⟨v,rfl,ho,xD⟩;obtain⟨va,vc,rfl⟩:=Qx ho)
  | (go_at_call 51;(with_reducible refine(HL.out _ _ ho xD).mono ?_);rintro e w2 ⟨R',rfl,hF,xA,xC⟩;obtain⟨fz,c1,c6⟩:=HC.out w2 (Qa xD xC)))
 obtain⟨w3,xE⟩:=Ze (w2.setCell ⟨p,1,none⟩ (.map (some w1.heap.size)));have h2:=HH.out.next (Qa xD xC);have xG:=HH.out.lt (.inl rfl);have j3:w3.heap[p]? = some (.cells #[.int .i64 (D.free:Int),.map (some w1.heap.size),.int .i64 (D.acts:Int),.int .i64 D.fa,.int .i64 D.fk,.slice ka D.ks.length kc,.bool D.down] 98 (0,0)):=by
  rw[<-xE];exact Lp w2 p 1 _ _ _ h2.blk
 have u3:Upo (fun x=>x=p) w2 w3:=by rw[<-xE];exact(Upo.refl (fun x=>x=p) w2).set _ _ _ (.inl rfl)
 have f3:=fun j=>frozen_of_row w3 p j _ _ j3
 have d6:w3.cell? ⟨p,6,none⟩=some (.bool D.down):=by rw[cell_of_row w3 p 6 _ _ (0,0) j3];rfl
 have HF:Hid (Fm w2 w1.heap.size R' (YB (aft ks D.L 0))∧(∀s∈Qh (YB (aft ks D.L 0)),∀x,Blk (R' s) x->w1.heap.size<=x)∧Below w.heap.size w w2∧Upo (fun x=>x=p) w2 w3∧p<w.heap.size∧w.heap.size<=w1.heap.size∧w3.heap[p]? = some (.cells #[.int .i64 (D.free:Int),.map (some w1.heap.size),.int .i64 (D.acts:Int),.int .i64 D.fa,.int .i64 D.fk,.slice ka D.ks.length kc,.bool D.down] 98 (0,0))):=⟨hF,xA,Qa xD xC,u3,xG,xD.size,j3⟩
 rw[xE];clear xE hF xA xC u3 xG j3 h2 fz c1 c6 ho xD HA HL HC;go_wp2
 go_ret
 obtain⟨hF,xA,xC,u3,xG,hz,j3⟩:=HF.out;have j4:(w3.setCell ⟨p,6,none⟩ (.bool true)).heap[p]? = some (.cells #[.int .i64 (D.free:Int),.map (some w1.heap.size),.int .i64 (D.acts:Int),.int .i64 D.fa,.int .i64 D.fk,.slice ka D.ks.length kc,.bool true] 98 (0,0)):=Lp w3 p 6 _ _ _ j3;have u4:Upo (fun x=>x=p) w2 (w3.setCell ⟨p,6,none⟩ (.bool true)):=u3.set _ _ _ (.inl rfl)
 have hu:Upo (fun x=>x=p) w (w3.setCell ⟨p,6,none⟩ (.bool true)):=(Upo.of xC).trans u4 (fun _ _ q=>q)
 have xF:w1.heap.size≠p:=by omega
 have kt : ∀x,Ty w2 x 5->(w3.setCell ⟨p,6,none⟩ (.bool true)).heap[x]? = w2.heap[x]? := fun x hx=>u4.block x hx.lt (hx.ne ⟨_,_,(HH.out.next xC).blk⟩ (by decide))
 have xB:Fm (w3.setCell ⟨p,6,none⟩ (.bool true)) w1.heap.size R' (YB (aft ks D.L 0)):=hF.same (u4.block _ hF.mp.lt xF) kt;have kk:0<D.ks.length->(w3.setCell ⟨p,6,none⟩ (.bool true)).heap[kb]? = w.heap[kb]? := fun h0=>hu.block kb (HH.out.kt h0).lt (HH.out.kbp h0).1
 refine⟨w1.heap.size,R',rfl,⟨j4,xB.mp,xB.ord,fun s hs _=>xB.fil s hs,fun s hs x hx=>(xB.fil s hs).blk hx,xB.apart,xB.nm,xB.cnt,HH.out.kp.same kk,fun h0=>(HH.out.kt h0).same (kk h0),HH.out.kl,HH.out.fr,HH.out.ac,HH.out.ft⟩,fun x hx => ?_,hu⟩
 rcases hx with rfl|rfl|⟨s,hs,hx⟩|hx
 ·exact .inl rfl
 ·exact .inr (.inr hz)
 ·exact .inr (.inr (by have:=xA s hs x hx;omega))
 ·exact .inr (.inl hx)
def Ui(D:DV)(s:List UInt8)(f:FV):DV×Int :=
 let q:=Yt { D with acts:=D.acts+1 }
 if q.2.1=1 then (q.1,171) else if q.2.1=2 then (q.1,172) else if q.2.1=4 then (J9 q.1 q.2.2,170) else
  if q.2.1=3 then (Q9 q.1 s f,171) else if q.2.1=5 then (J9 (Q9 q.1 s f) q.2.2,170) else (Q9 q.1 s f,0)
theorem Qke(D:DV):(Yt D).1.L=D.L∧(Yt D).1.free=D.free∧(Yt D).1.down=D.down∧(Yt D).1.acts=D.acts∧((Yt D).1.ks=D.ks∨(Yt D).1.ks=[])∧((Yt D).2.2=D.ks∨(Yt D).2.2=[]):=by
 unfold Yt
 split
 ·exact⟨rfl,rfl,rfl,rfl,.inl rfl,.inr rfl⟩
 ·split
  ·exact⟨rfl,rfl,rfl,rfl,.inl rfl,.inr rfl⟩
  ·exact⟨rfl,rfl,rfl,rfl,.inr rfl,.inl rfl⟩
theorem Qoe{D:DV}(h:D.fk=0∨(1<=D.fk∧D.fk<=5∧1<=D.fa∧D.fa<=9223372036854775807)):(Yt D).2.1=0∨(Yt D).2.1=1∨(Yt D).2.1=2∨(Yt D).2.1=3∨(Yt D).2.1=4∨(Yt D).2.1=5:=by
 unfold Yt
 split
 ·exact .inl rfl
 ·split
  ·exact .inl rfl
  ·show D.fk=0∨_
   have:D.fk=0∨D.fk=1∨D.fk=2∨D.fk=3∨D.fk=4∨D.fk=5:=by omega
   exact this
structure Do(w:World)(p m:Nat)(R:List UInt8->FR)(kb ko:Nat)(D:DV)(fn:Nat)(caps:Array Value)(s:List UInt8)(f:FV):Prop where
 call : ∀(W:World) ka2 kc2 (D2:DV),Dk W p m R ka2 kb ko kc2 D2 none->D2.L=D.L->D2.free=D.free->Upo (fun x=>x=p) w W->Calls prog fn caps W fun e w'=>e = .returned (.tuple #[]) ∧ ∃R',Dk w' p m R' ka2 kb ko kc2 (Q9 D2 s f) none∧(∀x,(∃t∈Qh (Q9 D2 s f).L,Blk (R' t) x)->(∃t∈Qh D.L,Blk (R t) x)∨W.heap.size<=x)∧Upo (fun x=>x=p∨x=m ∨ ∃t∈Qh D.L,Blk (R t) x) W w'
theorem Qc2(w:World)(h:Dk w p m R ka kb ko kc D none)(hac:D.acts+1<=4611686018427387904)(fn:Nat)(caps:Array Value)(s:List UInt8)(f:FV)(hD:Do w p m R kb ko D fn caps s f)(hfn:fn=343∨fn=247∨fn=250) :
  Calls prog 246 #[.pointer (some ⟨p,0,none⟩),.func (.func fn) #[] caps] w fun e w' => ∃m' R' ka' kc',e = .returned (.int .i64 (Ui D s f).2)∧Dk w' p m' R' ka' kb ko kc' (Ui D s f).1 none∧(∀x,YN p m' R' kb (Ui D s f).1 x->YN p m R kb D x∨w.heap.size<=x)∧Upo (YN p m R kb D) w w':=by
 obtain⟨c0,c1,c2,c3,c4,c5,c6⟩:=h.cells;have fz:=h.frz;have e0:IntKind.i64.wrap ((D.acts:Int)+1)=((D.acts+1:Nat):Int):=by rw[Lr];omega
 obtain⟨ac,xG⟩:=Ze (D.acts+1);rw[xG] at e0;obtain⟨w1,xO⟩:=Ze (w.setCell ⟨p,2,none⟩ (.int .i64 (ac:Int)));have xU:Hid (w.setCell ⟨p,2,none⟩ (.int .i64 (ac:Int))=w1):=xO;have u1:Upo (fun x=>x=p) w w1:=by rw[<-xO];exact(Upo.refl (fun x=>x=p) w).set _ _ _ (.inl rfl)
 have h1:Dk w1 p m R ka kb ko kc { D with acts:=ac } none:=by
  refine h.re (D' := { D with acts:=ac }) u1 rfl ?_ (.inl ⟨rfl,rfl⟩) h.fr (by show ac<=_;omega) h.ft
  rw[<-xO];exact Lp w p 2 _ _ _ h.blk
 have HM:=Qmh w1 h1;obtain⟨M,hM⟩:=Ze (Yt { D with acts:=ac })
 obtain⟨m1,m2,m3,m4,m5,m6⟩:=Qke { D with acts:=ac }
 have mk:=Qoe h1.ft;rw[hM] at HM m1 m2 m3 m4 m5 m6 mk;have xH:Ui D s f=if M.2.1=1 then (M.1,171) else if M.2.1=2 then (M.1,172) else if M.2.1=4 then (J9 M.1 M.2.2,170) else if M.2.1=3 then (Q9 M.1 s f,171) else if M.2.1=5 then (J9 (Q9 M.1 s f) M.2.2,170) else (Q9 M.1 s f,0):=by
  simp only[Ui,xG,hM]
 obtain⟨D2,K,ks⟩:=M;simp only at HM m1 m2 m3 m4 m5 m6 mk xH;have HH:Hid (Dk w p m R ka kb ko kc D none∧Upo (fun x=>x=p) w w1∧D2.L=D.L∧D2.free=D.free∧(D2.ks=D.ks∨D2.ks=[])∧(ks=D.ks∨ks=[])∧Do w p m R kb ko D fn caps s f):=⟨h,u1,m1,m2,m5,m6,hD⟩
 have HA:=Qd xH;simp only[QaI] at HM;clear h u1 h1 hac xG xO hM m1 m2 m3 m4 m5 m6 xH hD
 go_enter func246,ntmps246
 go_upto_region 2 with (fail)
 rw[xU.out]
 go_upto_region 3 with (go_at_call 329;with_reducible refine HM.mono ?_;rintro e w2 ⟨xD,xE,qa,qc,x,rfl,xW,xZ,xS⟩)
 obtain⟨w3,xP⟩:=Ze (w2.alloc (.cells #[.int .i64 x,.int .i64 K,.slice qa ks.length qc] 37));have xM:Below w2.heap.size w2 w3:=by rw[<-xP];exact bal (Lb _ _) _
 have k3:w3.heap[w2.heap.size]? = some (.cells #[.int .i64 x,.int .i64 K,.slice qa ks.length qc] 37 (0,0)):=by rw[<-xP];exact Yq _ _
 rw[xP];obtain⟨b0,b1,b2⟩:=Qs k3;have HG:Hid (Dk w3 p m R xD kb ko xE D2 none∧RdL w3 qa kb ko ks∧Upo (fun x=>x=p) w w3∧ks.length<=9223372036854775807∧w3.heap[w2.heap.size]? = some (.cells #[.int .i64 x,.int .i64 K,.slice qa ks.length qc] 37 (0,0))∧w.heap.size<=w2.heap.size):=by
  refine⟨xW.next xM,xZ.next xM,(HH.out.2.1.trans xS (fun _ _ q=>q)).next xM,?_,k3,Lu HH.out.2.1.size xS.size⟩
  have:=HH.out.1.kl
  rcases HH.out.2.2.2.2.2.1 with e|e
  ·rw[e];omega
  ·rw[e];simp
 have xF : ∀x,YN p m R kb D2 x->YN p m R kb D x:=fun x hx=>by
  obtain⟨_,_,e1,_,e2,_⟩:=HH.out
  rcases hx with e|e|⟨t,ht,e⟩|⟨h0,e⟩
  ·exact .inl e
  ·exact .inr (.inl e)
  ·exact .inr (.inr (.inl ⟨t,by rw[<-e1];exact ht,e⟩))
  ·rcases e2 with q|q
   ·exact .inr (.inr (.inr ⟨by rw[<-q];exact h0,e⟩))
   ·rw[q] at h0;simp at h0
 have xJ:=Qd xF;have xK:Hid (∀W,Upo (fun x=>x=p) w W->Upo (YN p m R kb D) w W):=fun W hW=>hW.mono (fun _ _ e => .inl e)
 clear xP xM k3 xW xZ xS xF HM c0 c1 c2 c3 c4 c5 c6 fz e0 xU
 by_cases k1:K=1
 ·subst k1;have HE:Hid (Ui D s f=(D2,171)):=by show _=_;rw[HA.out];rfl
  clear mk HA hfn;go_wp2
  go_ret
  rw[HE.out];exact⟨m,R,xD,xE,rfl,HG.out.1,fun x hx => .inl (xJ.out x hx),xK.out _ HG.out.2.2.1⟩
 by_cases k2:K=2
 ·subst k2;have HE:Hid (Ui D s f=(D2,172)):=by show _=_;rw[HA.out];rfl
  clear mk HA hfn k1;go_wp2
  go_ret
  rw[HE.out];exact⟨m,R,xD,xE,rfl,HG.out.1,fun x hx => .inl (xJ.out x hx),xK.out _ HG.out.2.2.1⟩
 by_cases k4:K=4
 ·subst k4;have HE:Hid (Ui D s f=(J9 D2 ks,170)):=by show _=_;rw[HA.out];rfl
  have xQ:=Qbt w3 HG.out.1 qa kb ko qc ks HG.out.2.1 HG.out.2.2.2.1;clear mk HA hfn k1 k2
  go_wp2_with (go_at_call 330;with_reducible refine xQ.mono ?_;rintro e w4 ⟨m',R',rfl,xB,xC,xA⟩)
  go_ret
  rw[HE.out];refine⟨m',R',xD,xE,rfl,xB,fun y hy => ?_,xK.out _ (HG.out.2.2.1.trans xA (fun _ _ q=>q))⟩
  rcases xC y hy with e|e|e
  ·exact .inl (.inl e)
  ·exact .inl (xJ.out y (.inr (.inr (.inr e))))
  ·exact .inr (Lu HG.out.2.2.1.size e)
 have e1:(K == 1)=false:=by simpa using k1
 have e2:(K == 2)=false:=by simpa using k2
 have e4:(K == 4)=false:=by simpa using k4
 have xI:Hid (Ui D s f=if K=3 then (Q9 D2 s f,171) else if K=5 then (J9 (Q9 D2 s f) ks,170) else (Q9 D2 s f,0)):=by show _=_;rw[HA.out,Le k1,Le k2,Le k4]
 have xT:=HH.out.2.2.2.2.2.2.call w3 xD xE D2 HG.out.1 HH.out.2.2.1 HH.out.2.2.2.1 HG.out.2.2.1;have xL:=Qd xT;have HK:Hid (K=0∨K=3∨K=5):=by show _∨_;omega
 clear HA mk k1 k2 k4 xT
 go_upto_region 10 with (fail)
 go_cut [28] from 29 to 29 (fun x wx => ∃R',Dk wx p m R' xD kb ko xE (Q9 D2 s f) none∧(∀x,(∃t∈Qh (Q9 D2 s f).L,Blk (R' t) x)->(∃t∈Qh D.L,Blk (R t) x)∨w3.heap.size<=x)∧Upo (fun x=>x=p∨x=m ∨ ∃t∈Qh D.L,Blk (R t) x) w3 wx)
 case first =>
  rcases hfn with rfl|rfl|rfl
  ·go_wp2_with (go_at_call 343;(with_reducible refine xL.out.mono ?_);rintro e w4 ⟨rfl,R',xB,xC,xA⟩)
   go_meet
   case rel=>exact⟨R',xB,xC,xA⟩
  ·go_wp2_with (go_at_call 247;(with_reducible refine xL.out.mono ?_);rintro e w4 ⟨rfl,R',xB,xC,xA⟩)
   go_meet
   case rel=>exact⟨R',xB,xC,xA⟩
  ·go_wp2_with (go_at_call 250;(with_reducible refine xL.out.mono ?_);rintro e w4 ⟨rfl,R',xB,xC,xA⟩)
   go_meet
   case rel=>exact⟨R',xB,xC,xA⟩
 case rest =>
  obtain⟨R',xB,xC,xA⟩:=hcut;obtain⟨w4,yD⟩ : ∃W,W=wc:=⟨_,rfl⟩;subst yD;obtain⟨h0,_,e1,e2,e3,xV,_⟩:=HH.out;obtain⟨g1,g2,g3,g4,g5,g6⟩:=HG.out;have xR : ∀x,(x=p∨x=m ∨ ∃t∈Qh D.L,Blk (R t) x)->YN p m R kb D x:=fun x hx=>hx.elim .inl (fun q=>q.elim (fun e => .inr (.inl e)) (fun e => .inr (.inr (.inl e))))
  have k4:=(xA.block w2.heap.size (Array.getElem?_eq_some_iff.1 g5).1 (fun q=>by have:=h0.lt (xR _ q);omega)).trans g5
  obtain⟨b0,b1,b2⟩:=Qs k4;have r4:RdL w4 qa kb ko ks:=g2.same fun hk0=>by
   have xY:0<D.ks.length:=by
    rcases xV with q|q
    ·rw[<-q];exact hk0
    ·rw[q] at hk0;simp at hk0
   refine xA.block kb (g2.lt hk0) (fun q => ?_)
   have yA:=h0.kbp xY
   rcases q with q|q|⟨t,ht,q⟩
   ·exact yA.1 q
   ·exact yA.2 q
   ·exact((h0.low t ht kb q).ne (h0.kt xY) (by decide)) rfl
  have xX:Upo (YN p m R kb D) w w4:=(xK.out _ g3).trans xA (fun x _ q=>xR x q)
  have xN : ∀x,YN p m R' kb (Q9 D2 s f) x->YN p m R kb D x∨w.heap.size<=x:=fun y hy=>by
   rcases hy with q|q|q|⟨q0,q⟩
   ·exact .inl (.inl q)
   ·exact .inl (.inr (.inl q))
   ·rcases xC y q with q|q
    ·exact .inl (.inr (.inr (.inl q)))
    ·exact .inr (Lu g3.size q)
   ·exact .inl (xJ.out y (.inr (.inr (.inr ⟨q0,q⟩))))
  have HZ:Hid (Dk w4 p m R' xD kb ko xE (Q9 D2 s f) none∧RdL w4 qa kb ko ks∧Upo (YN p m R kb D) w w4∧(∀x,YN p m R' kb (Q9 D2 s f) x->YN p m R kb D x∨w.heap.size<=x)∧ks.length<=9223372036854775807∧p<w.heap.size):=⟨xB,r4,xX,xN,g4,h0.lt (.inl rfl)⟩;clear h0 e1 e2 e3 xV g1 g2 g3 g4 g5 g6 xR k4 r4 xX xN xB xC xA HG xJ xK xL hfn
  by_cases k3:K=3
  ·subst k3;have HE:Hid (Ui D s f=(Q9 D2 s f,171)):=by show _=_;rw[xI.out];rfl
   clear xI HK;go_wp2
   go_ret
   rw[HE.out];exact⟨m,R',xD,xE,rfl,HZ.out.1,HZ.out.2.2.2.1,HZ.out.2.2.1⟩
  by_cases k5:K=5
  ·subst k5;have HE:Hid (Ui D s f=(J9 (Q9 D2 s f) ks,170)):=by show _=_;rw[xI.out];rfl
   have xQ:=Qbt w4 HZ.out.1 qa kb ko qc ks HZ.out.2.1 HZ.out.2.2.2.2.1;clear xI HK k3
   go_wp2_with (go_at_call 330;with_reducible refine xQ.mono ?_;rintro e w5 ⟨m',R5,rfl,yB,xN,yC⟩)
   go_ret
   rw[HE.out];refine⟨m',R5,xD,xE,rfl,yB,fun y hy => ?_,HZ.out.2.2.1.trans yC (fun x _ q => .inl q)⟩
   rcases xN y hy with q|q|q
   ·exact .inl (.inl q)
   ·exact HZ.out.2.2.2.1 y (.inr (.inr (.inr q)))
   ·exact .inr (Lu HZ.out.2.2.1.size q)
  ·obtain rfl:K=0:=by have:=HK.out;omega
   have HE:Hid (Ui D s f=(Q9 D2 s f,0)):=by show _=_;rw[xI.out];rfl
   clear xI HK k3 k5;go_wp2
   go_ret
   rw[HE.out];exact⟨m,R',xD,xE,rfl,HZ.out.1,HZ.out.2.2.2.1,HZ.out.2.2.1⟩
end
end St
end Go.Proofs.YtoblgjledefdbaaGreatDoor
