/- Own work. -/
import Derived.Test.YtoblgjledefdbaaGreatDoorQt06
set_option maxRecDepth 100000
set_option maxHeartbeats 2000000
namespace Go.Proofs.YtoblgjledefdbaaGreatDoor
open Go.RowKit
open Go.Proofs.Tryz
namespace St
structure RdF(w:World)(ao:OA)(b off:Nat)(l:List (List UInt8×List UInt8)):Prop where
 ptr:0<l.length->ao=some ⟨b,off,none⟩
 c0:∀j,j<l.length->w.cell? ⟨b,off+j*2,none⟩=some (.string ⟨(l.getD j ([],[])).1.toArray⟩)
 c1:∀j,j<l.length->w.cell? ⟨b,off+j*2+1,none⟩=some (.string ⟨(l.getD j ([],[])).2.toArray⟩)
section
variable {w W:World} {ao:OA} {b off:Nat} {l:List (List UInt8×List UInt8)}
theorem RdF.lt(h:RdF w ao b off l)(h0:0<l.length):b<w.heap.size:=Lo w _ (h.c0 0 h0)
theorem RdF.same(h:RdF w ao b off l)(hb:0<l.length->W.heap[b]? = w.heap[b]?):RdF W ao b off l :=
 ⟨h.ptr,fun j hj=>(LE (a:=⟨b,off+j*2,none⟩) (hb (by omega))).trans (h.c0 j hj),fun j hj=>(LE (a:=⟨b,off+j*2+1,none⟩) (hb (by omega))).trans (h.c1 j hj)⟩
theorem RdF.next(h:RdF w ao b off l)(hb:Bl w W):RdF W ao b off l:=h.same fun h0=>hb.block b (h.lt h0)
end
theorem QjV:∀(l:List (List UInt8×List UInt8)) (j:Nat),j<l.length->(cF l)[j*2]? = some (.string ⟨(l.getD j ([],[])).1.toArray⟩)∧(cF l)[j*2+1]? = some (.string ⟨(l.getD j ([],[])).2.toArray⟩)
 | [],j,h=>by simp at h
 | x::r,0,_=>⟨rfl,rfl⟩
 | x::r,j+1,h=>by
  have:=QjV r j (by simpa using h)
  rw[show(j+1)*2=j*2+2 by omega]
  exact this
theorem QhH{w:World}{B:Nat}{v:Value}{l:List (List UInt8×List UInt8)}(h:OwnF w B v l):∃ao b cap,v= .slice ao l.length cap∧RdF w ao b 0 l∧l.length<=cap∧(0<l.length->B<=b):=by
 rcases h.2 with ⟨e1,e2⟩|⟨g,cap,cur,e1,e2,hb,h1,h2,h3,h4⟩
 ·refine⟨none,0,0,by rw[e1,e2],⟨fun h0=> ?_,fun j hj=> ?_,fun j hj=> ?_⟩,by omega,fun h0=> ?_⟩ <;> omega
 ·have xA:∀i,i<l.length*2->w.cell? ⟨g,i,none⟩=(cF l)[i]? := fun i hi=>by
   rw[cell_of_row w g i cur _ (0,0) hb];have:=Lv (fun x=>x[i]?) h4
   simp only[List.getElem?_take,if_pos hi] at this
   rw[Nh] at this;exact this
  refine⟨Zp g,g,cap,e1,⟨fun _=>rfl,fun j hj=> ?_,fun j hj=> ?_⟩,h1,fun _=>e2⟩
  ·rw[Ll,xA _ (by omega)];exact(QjV l j hj).1
  ·rw[Ll,xA _ (by omega)];exact(QjV l j hj).2
structure Fm(w:World)(m:Nat)(R:List UInt8->FR)(L:List (List UInt8×FV)):Prop where
 mp:Mv w m (mapF L R)
 ord:Ord L
 fil:∀s∈Qg L,Fil w (Qe L s) (R s)
 apart:∀s∈Qg L,∀t∈Qg L,s≠t -> ∀x,Blk (R s) x->Blk (R t) x->False
 nm:∀s∈Qg L,s.length<=maxLen
 cnt:L.length<=1099511627776
variable{R:List UInt8->FR}{L:List (List UInt8×FV)}
theorem Fm.put{w W:World}{m:Nat}{s:List UInt8}{f:FV}{r:FR}(h:Fm w m R L)(hf:Fil w f r)(hs:s.length<=maxLen)
  (hap:∀t∈Qg L,t≠s -> ∀x,Blk (R t) x->Blk r x->False) (hc:L.length<1099511627776)
  (hmp:Mv W m (Ou (mapF L R) s (if f.gone then none else some (Uc f r)))) (hu:Upo (fun x=>x=m) w W):Fm W m (Ov R s r) (QL L s f):=by
 have kt:∀x,Ty w x 5->W.heap[x]? = w.heap[x]? := fun x hx=>hu.block x hx.lt (hx.mv h.mp)
 have xA:∀t,t∈Qg (QL L s f)->t≠s->t∈Qg L:=fun t ht hne=>by
  have:=(JM h.ord s f t).1 ht
  rwa [Le hne] at this
 refine⟨by rw[Qfc h.ord];exact hmp,Q3 h.ord s f,fun t ht=> ?_,fun t ht u hu' hne x hx hy=> ?_,fun t ht=> ?_,?_⟩
 ·rw[Qs h.ord,Ov]
  by_cases e:t=s
  ·rw[Lf e,Lf e];exact hf.same fun x hx=>kt x (hf.blk hx)
  ·rw[Le e,Le e];have:=h.fil t (xA t ht e);exact this.same fun x hx=>kt x (this.blk hx)
 ·simp only[Ov] at hx hy
  by_cases e:t=s
  ·rw[Lf e] at hx;have e2:u≠s:=fun q=>hne (e.trans q.symm)
   rw[Le e2] at hy;exact hap u (xA u hu' e2) e2 x hy hx
  ·rw[Le e] at hx
   by_cases e2:u=s
   ·rw[Lf e2] at hy;exact hap t (xA t ht e) e x hx hy
   ·rw[Le e2] at hy;exact h.apart t (xA t ht e) u (xA u hu' e2) hne x hx hy
 ·by_cases e:t=s
  ·rw[e];exact hs
  ·exact h.nm t (xA t ht e)
 ·have:=Jt (L:=L) s f;omega
theorem Fm.same{w W:World}{m:Nat}(h:Fm w m R L)(hm:W.heap[m]? = w.heap[m]?)(hb:∀x,Ty w x 5->W.heap[x]? = w.heap[x]?):Fm W m R L :=
 ⟨h.mp.same hm,h.ord,fun s hs=>(h.fil s hs).same fun x hx=>hb x ((h.fil s hs).blk hx),h.apart,h.nm,h.cnt⟩
def QM(l:List (List UInt8×List UInt8)):List (List UInt8×FV):=l.foldl (fun acc x=>if x.2=[] then acc else QL acc x.1 ⟨x.2,x.2⟩) []
theorem Qc8(l:List (List UInt8×List UInt8))(x:List UInt8×List UInt8):QM (l++[x])=if x.2=[] then QM l else QL (QM l) x.1 ⟨x.2,x.2⟩:=by simp[QM]
theorem Qe9(l:List (List UInt8×List UInt8)):(QM l).length<=l.length:=by
 suffices h:∀(l:List (List UInt8×List UInt8)) (acc:List (List UInt8×FV)),(l.foldl (fun acc x=>if x.2=[] then acc else QL acc x.1 ⟨x.2,x.2⟩) acc).length<=acc.length+l.length from by simpa [QM] using h l []
 intro l
 induction l with
 | nil=>intro acc;simp
 | cons x r ih=>
  intro acc;rw[Wo];have:=ih (if x.2=[] then acc else QL acc x.1 ⟨x.2,x.2⟩)
  split at this
  ·rw[Lf (by assumption)];simp;omega
  ·rw[Le (by assumption)]
   have q:=Jt (L:=acc) x.1 ⟨x.2,x.2⟩;simp;omega
theorem QlR(w:World)(s:BA)(cap:Nat)(hc:s.size<=cap):Rw (w.alloc (.cells (bytesRow s cap) 5 ((bytesRow s cap).size,(bytesRow s cap).size+1))) (Zp w.heap.size) w.heap.size cap s.data.toList:=by
 have hd:s.data.size=s.size:=rfl;have xA:(bytesRow s cap).size=cap:=by simp only[bytesRow,Array.size_append,Array.size_map,Array.size_replicate,hd];omega
 refine⟨.inr rfl,fun e=>(by cases e),fun _=>⟨_,_,Yc _ _⟩,by rw[Qb];exact hc,fun _ j v hv=> ?_,fun _ j hj=>⟨?_,?_⟩⟩
 ·have hj:j<s.data.size:=by have:=(List.getElem?_eq_some_iff.1 hv).1;rw[Qo,NF] at this;exact this
  rw[Ll,World.cell?_alloc_mark,bytesRow_at s cap j hj,<-hv]
  simp[cY,Array.getElem?_eq_getElem hj]
 ·rw[Ll,World.cell?_alloc_mark,L6 (by omega)];rfl
 ·rw[Ll,World.frozen?_alloc_mark,xA]
  simp;omega
theorem Qih(W:World)(t:BA):∃c W',(convert 9 127 (.string t)).run prog W= .ok (.slice (Zp W.heap.size) t.size c) W'∧Rw W' (Zp W.heap.size) W.heap.size c t.data.toList∧Bl W W'∧W.heap.size<W'.heap.size:=by
 have h:=run_bytes_of_string (P:=prog) W 9 127 5 t underlying9 underlying127 underlying5;exact⟨_,_,h,QlR W.drew t _ (grownCap_ge W t.size 0 5),(Qi (Lb _ W) 1).alloc (La _) _,by show W.drew.heap.size<(W.drew.alloc _).heap.size;simp⟩
theorem Qag(w:World)(ao:OA)(b off c:Nat)(l:List (List UInt8×List UInt8))(hr:RdF w ao b off l)(hs:∀x∈l,x.1.length<=maxLen∧x.2.length<=268435456)(hl:l.length<=1099511627776) :
  Calls prog 51 #[.slice ao l.length c] w fun e w'=> ∃R,e= .returned (.map (some w.heap.size))∧Fm w' w.heap.size R (QM l)∧(∀s∈Qg (QM l),∀x,Blk (R s) x->w.heap.size<=x)∧Bl w w':=by
 have yQ := @run_makeMap prog;obtain⟨n,hn⟩:=Ze l.length;have HH:Hid (RdF w ao b off l∧(∀x∈l,x.1.length<=maxLen∧x.2.length<=268435456)∧l.length=n∧n<=1099511627776):=⟨hr,hs,hn,by omega⟩
 rw[hn];clear hr hs hl hn
 go_enter func51,ntmps51;go_wp2
 go_loopg [9] n (fun g i wr=> ∃(j:Nat) (R:List UInt8->FR),j<=n∧g=n-j∧i= .int .i64 j∧Fm wr w.heap.size R (QM (l.take j))∧(∀s∈Qg (QM (l.take j)),∀x,Blk (R s) x->w.heap.size<=x)∧Bl w wr)
 case atStart=>
  refine⟨0,fun _=>fr0,Ln _,rfl,rfl,⟨?_,Ut,fun s h=>(by cases h),fun s h=>(by cases h),fun s h=>(by cases h),Ln _⟩,fun s h=>(by cases h),bal (Lb _ _) _⟩
  have:=QgF w;exact this
 case round=>
  obtain⟨j,R,hj,rfl,rfl,hF,xA,hb⟩:=hrel
  by_cases hlt:j<n
  ·obtain⟨x,hx⟩:=Ze (l.getD j ([],[]));have yE:x∈l:=by
    rw[<-hx,Ld,Lk (by rw[HH.out.2.2.1];exact hlt)]
    exact L8 _
   obtain⟨xI,xJ⟩:=HH.out.2.1 x yE;have rr:=HH.out.1.next hb;have c0:=rr.c0 j (by rw[HH.out.2.2.1];exact hlt)
   have c1:=rr.c1 j (by rw[HH.out.2.2.1];exact hlt)
   rw[hx] at c0 c1;have ea:=rr.ptr (by rw[HH.out.2.2.1];omega)
   obtain⟨nm,xU⟩:∃nm:BA,(⟨x.1.toArray⟩:BA)=nm:=⟨_,rfl⟩;obtain⟨dt,xR⟩:∃dt:BA,(⟨x.2.toArray⟩:BA)=dt:=⟨_,rfl⟩;rw[xU] at c0;rw[xR] at c1;have xH:nm.data.toList=x.1:=by rw[<-xU]
   have xB:dt.data.toList=x.2:=by rw[<-xR]
   have yO:(0:Int)<=(j:Int):=by omega
   have yP:(j:Int)<(n:Int):=by omega
   have hw:IntKind.i64.wrap ((j:Int)+1)=(j:Int)+1:=by have:=HH.out.2.2.2;rw[Lq];omega
   have yD:l.take (j+1)=l.take j++[x]:=by rw[<-hx];exact Y2 _ _ _ (by rw[HH.out.2.2.1];exact hlt)
   have xD:=Qc8 (l.take j) x;rw[<-yD] at xD;have HG:Hid (Fm wr w.heap.size R (QM (l.take j))∧(∀s∈Qg (QM (l.take j)),∀x,Blk (R s) x->w.heap.size<=x)∧Bl w wr∧j<n∧nm.data.toList=x.1∧dt.data.toList=x.2∧x.1.length<=maxLen∧x.2.length<=268435456∧QM (l.take (j+1))=if x.2=[] then QM (l.take j) else QL (QM (l.take j)) x.1 ⟨x.2,x.2⟩):=⟨hF,xA,hb,hlt,xH,xB,xI,xJ,xD⟩
   subst ea;obtain⟨w1,xL⟩:=Ze (wr.alloc (.cells #[.string nm,.string dt] 72));have HW:Hid (wr.alloc (.cells #[.string nm,.string dt] 72)=w1):=xL;have yB:Bl wr w1:=by rw[<-xL];exact bal (Lb _ _) _
   have k1:w1.heap[wr.heap.size]? = some (.cells #[.string nm,.string dt] 72 (0,0)):=by rw[<-xL];exact Yc _ _
   have d0:w1.cell? ⟨wr.heap.size,0,none⟩=some (.string nm):=by rw[cell_of_row w1 wr.heap.size 0 _ _ (0,0) k1];rfl
   have d1:w1.cell? ⟨wr.heap.size,1,none⟩=some (.string dt):=by rw[cell_of_row w1 wr.heap.size 1 _ _ (0,0) k1];rfl
   have xE:Hid (Bl wr w1∧w1.heap[wr.heap.size]? = some (.cells #[.string nm,.string dt] 72 (0,0))):=⟨yB,k1⟩;clear hF xA hb hx yE xI xJ rr xU xR xH xB yD xD xL yB k1 hlt hj
   go_upto_region 5 with (fail)
   rw[HW.out]
   by_cases hd0:dt.size=0
   ·have hz:¬((dt.size:Int) > 0):=by omega
    have HF:Hid (Fm w1 w.heap.size R (QM (l.take (j+1)))∧(∀s∈Qg (QM (l.take (j+1))),∀x,Blk (R s) x->w.heap.size<=x)∧Bl w w1):=by
     obtain⟨hF,xA,hb,hlt,xH,xB,xI,xJ,xD⟩:=HG.out;have:x.2=[]:=by rw[<-xB];exact List.length_eq_zero_iff.1 (by rw[Qb];exact hd0)
     rw[Lf this] at xD;rw[xD];exact⟨hF.same (xE.out.1.block _ hF.mp.lt) (fun x hx=>xE.out.1.block x hx.lt),xA,Qa hb xE.out.1⟩
    clear hd0;go_wp2
    go_roundg (n-(j+1))
    case rel=>go_light;exact⟨j+1,R,by have:=HG.out.2.2.2.1;omega,rfl,by go_num,HF.out⟩
    case measure=>go_light;have:=HG.out.2.2.2.1;omega
   ·have hz:(0:Int)<(dt.size:Int):=by omega
    obtain⟨cp,w2,yL,xW,xG,xM⟩:=Qih w1.drew dt;have xC:Bl w1 w2:=⟨xG.os,xG.tape,xG.output,xG.size,xG.block⟩;have HS:=Qc3 w2 (Zp w1.heap.size) w1.heap.size dt.size cp dt.data.toList none 0 0 0 0 [] xW (Qey w2 0) (Qb dt) rfl (Ln _) (La _) rfl (by have:=HG.out.2.2.2.2.2;rw[<-this.1,Qb] at this;omega)
    have xN:Hid (∀W,Bl w1 W->W.cell? ⟨wr.heap.size,0,none⟩=some (.string nm)∧W.cell? ⟨wr.heap.size,1,none⟩=some (.string dt)):=fun W hW=>by
     have e:=(hW.block wr.heap.size (Array.getElem?_eq_some_iff.1 xE.out.2).1).trans xE.out.2
     exact⟨by rw[cell_of_row W wr.heap.size 0 _ _ (0,0) e];rfl,by rw[cell_of_row W wr.heap.size 1 _ _ (0,0) e];rfl⟩
    have xO:Hid (∀(w3:World) b' h' d',Rw w3 b' h' d' dt.data.toList->Upo (fun x=>(none:OA)=Zp 0∧x=0) w2 w3->((b'=none∧h'=0)∨(w2.heap.size<=h'∧h'<w3.heap.size)) ->
      ∃w4,(Instr.mapUpdate 96 (.map (some w.heap.size)) (.string nm) (fv (Zp w1.heap.size) dt.size cp b' dt.size d' dt.size)).run prog w3= .ok () w4 ∧ ∃R',Fm w4 w.heap.size R' (QM (l.take (j+1)))∧(∀s∈Qg (QM (l.take (j+1))),∀x,Blk (R' s) x->w.heap.size<=x)∧Bl w w4∧w4.cell? ⟨wr.heap.size,0,none⟩=some (.string nm)∧w4.cell? ⟨wr.heap.size,1,none⟩=some (.string dt)):=fun w3 b' h' d' r3 u3 loc=>by
     obtain⟨hF,xA,hb,hlt,xH,xB,xI,xJ,xD⟩:=HG.out;have xP:Bl w2 w3:=⟨u3.os,u3.tape,u3.output,u3.size,fun x hx=>u3.block x hx (fun q=>by cases q.1)⟩
     have xQ:Bl wr w3:=Qa xE.out.1 (Qa xC xP);have yA:Fm w3 w.heap.size R (QM (l.take j)):=hF.same (xQ.block _ hF.mp.lt) (fun x hx=>xQ.block x hx.lt)
     have xS:Fil w3 ⟨x.2,x.2⟩ ⟨Zp w1.heap.size,w1.heap.size,cp,b',h',d',dt.size⟩:=by
      rw[<-xB];refine⟨xW.same fun _=>xP.block _ xM,r3,by rw[Qb];exact La _,by rw[Qb];exact La _,rfl,fun _ e=> ?_,by rw[xB];exact xJ,by rw[xB];exact xJ⟩
      rcases loc with ⟨q,_⟩|q
      ·rw[q] at e;cases e
      ·show w1.heap.size≠h'
       have:w1.heap.size<w2.heap.size:=xM;omega
     have hg:(⟨x.2,x.2⟩:FV).gone=false:=by
      cases e:(⟨x.2,x.2⟩:FV).gone
      ·rfl
      ·have:=(U3.1 e).1;rw[<-xB,Qb] at this;exact absurd this hd0
     have yN:¬x.2=[]:=fun e=>hd0 (by rw[<-Qb,xB,e];rfl)
     rw[Le yN] at xD;have xT:=Qe9 (l.take j);have yK:(QM (l.take j)).length<1099511627776:=by
      rw[Lx] at xT;have:=HH.out.2.2.2;omega
     obtain⟨w4,h1,h2,h3⟩:=yA.mp.write underlying96 (ON hF.ord) (Qb9 _ R) (by rw[Qaf];unfold maxLen;omega) (s:=nm) (by rw[<-Qb,xH];exact xI) (fv (Zp w1.heap.size) dt.size cp b' dt.size d' dt.size)
     refine⟨w4,h1,Ov R x.1 ⟨Zp w1.heap.size,w1.heap.size,cp,b',h',d',dt.size⟩,?_⟩
     have xV:∀t∈Qg (QM (l.take j)),∀y,Blk (R t) y->y<wr.heap.size:=fun t ht y hy=>((hF.fil t ht).blk hy).lt
     have xK:∀y,Blk (⟨Zp w1.heap.size,w1.heap.size,cp,b',h',d',dt.size⟩:FR) y->wr.heap.size<=y:=fun y hy=>by
      have:=xE.out.1.size
      rcases hy with ⟨_,e⟩|⟨e,e2⟩
      ·simp only at e;omega
      ·rcases loc with ⟨q,_⟩|q
       ·simp only at e;rw[q] at e;cases e
       ·simp only at e2;have:w1.heap.size<w2.heap.size:=xM;omega
     have xF:Upo (fun x=>x=w.heap.size) w3 w4:=Upo.grown h3 (fun b e=>by injection e with e;exact e.symm)
     rw[xD];refine⟨yA.put xS xI (fun t ht _ y h1 h2=>by have:=xV t ht y h1;have:=xK y h2;omega) yK ?_ xF,fun t ht y hy=> ?_,?_,?_⟩
     ·rw[hg,<-xH];have e:Uc ⟨x.2,x.2⟩ ⟨Zp w1.heap.size,w1.heap.size,cp,b',h',d',dt.size⟩=fv (Zp w1.heap.size) dt.size cp b' dt.size d' dt.size:=by
       simp only[Uc,<-xB,Qb]
      rw[e];exact h2
     ·simp only[Ov] at hy;have yR:=hb.size
      by_cases e:t=x.1
      ·rw[Lf e] at hy;have:=xK y hy;omega
      ·rw[Le e] at hy;refine xA t ?_ y hy
       have:=(JM hF.ord x.1 ⟨x.2,x.2⟩ t).1 ht
       rwa [Le e] at this
     ·have:=Qa hb xQ;exact⟨xF.os.trans this.os,xF.tape.trans this.tape,xF.output.trans this.output,Lr this.size xF.size,fun y hy=>(xF.block y (by have:=this.size;omega) (fun e=>by omega)).trans (this.block y hy)⟩
     ·have q:=xN.out w3 (Qa xC xP);have hm:=hF.mp.lt;have yC:w4.heap[wr.heap.size]? = w3.heap[wr.heap.size]? := xF.block _ (Lo _ _ q.1) (fun e=>by omega)
      exact⟨(LE (a:=⟨wr.heap.size,0,none⟩) yC).trans q.1,(LE (a:=⟨wr.heap.size,1,none⟩) yC).trans q.2⟩
    have xX:=Qc xC;clear xW xG xC xM hd0
    go_upto_region 6 with (fail)
    obtain⟨yG,yH⟩:=xN.out _ xX.out;have xZ:Calls prog 101 #[.agg #[.slice (Zp w1.heap.size) dt.size cp,.slice none 0 0,.int .i64 0]] w2 fun e w'=> ∃b' h' d',e= .returned (fv (Zp w1.heap.size) dt.size cp b' dt.size d' dt.size)∧Rw w' b' h' d' dt.data.toList∧Upo (fun x=>(none:OA)=Zp 0∧x=0) w2 w'∧((b'=none∧h'=0)∨(w2.heap.size<=h'∧h'<w'.heap.size)):=HS.mono fun e w' q=>by obtain⟨b',h',d',q1,q2,q3,q4,_⟩:=q;exact⟨b',h',d',q1,q2,q3,q4⟩
    clear HS
    go_region_with (go_at_call 101;with_reducible refine xZ.mono ?_;rintro e w3 ⟨b',h',d',rfl,r3,u3,loc⟩;obtain⟨yI,yJ⟩:=xN.out w3 (Qa xX.out ⟨u3.os,u3.tape,u3.output,u3.size,fun x hx=>u3.block x hx (fun q=>by cases q.1)⟩);obtain⟨w4,yM,R',xY⟩:=xO.out w3 b' h' d' r3 u3 loc)
    all_goals
     have yF:=Qc xY;clear xY yM yL yG yH yI yJ d0 d1 r3 u3 loc xZ c0 c1;go_wp2
     go_roundg (n-(j+1))
     case rel=>go_light;obtain⟨q1,q2,q3,_⟩:=yF.out;exact⟨j+1,R',by have:=HG.out.2.2.2.1;omega,rfl,by go_num,q1,q2,q3⟩
     case measure=>go_light;have:=HG.out.2.2.2.1;omega
  ·obtain rfl:j=n:=by omega
   have hc:¬((j:Int)<(j:Int)):=by omega
   have HR:Hid (Fm wr w.heap.size R (QM l)∧(∀s∈Qg (QM l),∀x,Blk (R s) x->w.heap.size<=x)∧Bl w wr):=by
    rw[Lp (by rw[HH.out.2.2.1];exact La _)] at hF xA
    exact⟨hF,xA,hb⟩
   clear hF xA hb hlt hj;go_wp2
   go_ret
   exact⟨rfl,R,HR.out⟩
def Oy(D:DV)(ks:List Bool):DV := { D with L:=QM (aft ks D.L 0),down:=true }
theorem Qbo{ks:List Bool} : ∀ {L:List (List UInt8×FV)} {i:Nat} {x:List UInt8×List UInt8},x∈aft ks L i -> ∃f j,(x.1,f)∈L∧x.2=(stay ks f j).1
 | [],_,_,h=>by simp[aft] at h
 | (s,f)::r,i,x,h=>by
  simp only[aft] at h
  split at h
  ·obtain⟨f',j,h1,h2⟩:=Qbo h;exact⟨f',j,LV _ h1,h2⟩
  ·rcases List.mem_cons.1 h with h|h
   ·exact⟨f,i,by rw[h];simp,by rw[h]⟩
   ·obtain⟨f',j,h1,h2⟩:=Qbo h;exact⟨f',j,LV _ h1,h2⟩
theorem QdB(ks:List Bool):∀(L:List (List UInt8×FV)) (i:Nat),(aft ks L i).length<=L.length
 | [],_=>by simp[aft]
 | (s,f)::r,i=>by
  have:=QdB ks r (stay ks f i).2;simp only[aft]
  split
  ·simp;omega
  ·simp;omega
theorem Qol(ks:List Bool)(f:FV)(i:Nat)(h1:f.now.length<=268435456)(h2:f.syn.length<=268435456):(stay ks f i).1.length<=268435456:=by
 rw[QaF,UK]
 split
 ·exact h2
 ·split
  ·exact h1
  ·exact h2
section
variable {p m:Nat} {R:List UInt8->FR} {ka:OA} {kb ko kc:Nat} {D:DV}
theorem Dk.aft_ok{w:World}(h:Dk w p m R ka kb ko kc D none)(ks:List Bool):(∀x∈aft ks D.L 0,x.1.length<=maxLen∧x.2.length<=268435456)∧(aft ks D.L 0).length<=1099511627776:=by
 refine⟨fun x hx=> ?_,Lr (QdB _ _ _) h.cnt⟩
 obtain⟨f,j,h1,h2⟩:=Qbo hx;have hk:x.1∈Qg D.L:=List.mem_map.2 ⟨_,h1,rfl⟩;have hF:=h.fil x.1 hk (by simp)
 rw[Qac h.ord h1] at hF;exact⟨h.nm _ hk,by rw[h2];exact Qol _ _ _ hF.b1 hF.b2⟩
theorem Qb4(w:World)(h:Dk w p m R ka kb ko kc D none)(ao:OA)(b o c:Nat)(ks:List Bool)(hk:RdL w ao b o ks)(hkl:ks.length<=9223372036854775807) :
  Calls prog 330 #[Pq p,.slice ao ks.length c] w fun e w'=> ∃m' R',e= .returned (.int .i64 170)∧Dk w' p m' R' ka kb ko kc (Oy D ks) none∧(∀x,YC p m' R' kb (Oy D ks) x->x=p∨(0<D.ks.length∧x=kb)∨w.heap.size<=x)∧Upo (fun x=>x=p) w w':=by
 have HA:=QcP w h ao b o c ks hk hkl;have HH:=Qc h;clear hk hkl;have HL:Hid (∀W v,OwnF W w.heap.size v (aft ks D.L 0)->Bl w W->Calls prog 51 #[v] W fun e w'=> ∃R,e= .returned (.map (some W.heap.size))∧Fm w' W.heap.size R (QM (aft ks D.L 0))∧(∀s∈Qg (QM (aft ks D.L 0)),∀x,Blk (R s) x->W.heap.size<=x)∧Bl W w'):=fun W v ho hb=>by
  obtain⟨xH,b',c',rfl,hr,_⟩:=QhH ho;exact Qag W xH b' 0 c' _ hr (HH.out.aft_ok ks).1 (HH.out.aft_ok ks).2
 have HC:Hid (∀W,Bl w W->(∀j,W.frozen? ⟨p,j,none⟩=false)∧W.cell? ⟨p,1,none⟩=some (.map (some m))∧W.cell? ⟨p,6,none⟩=some (.bool D.down)):=fun W hb=>by
  have:=HH.out.next hb;exact⟨this.frz,this.cells.2.1,this.cells.2.2.2.2.2.2⟩
 clear h
 go_enter func330,ntmps330
 go_upto_region 2 with (first
  | (go_at_call 17;(with_reducible refine HA.mono ?_);rintro e w1 ⟨v,rfl,ho,xD⟩;obtain⟨va,vc,rfl⟩:=Qu ho)
  | (go_at_call 51;(with_reducible refine(HL.out _ _ ho xD).mono ?_);rintro e w2 ⟨R',rfl,hF,xA,xC⟩;obtain⟨fz,c1,c6⟩:=HC.out w2 (Qa xD xC)))
 obtain⟨w3,xE⟩:=Ze (w2.setCell ⟨p,1,none⟩ (.map (some w1.heap.size)));have h2:=HH.out.next (Qa xD xC);have xG:=HH.out.lt (.inl rfl);have j3:w3.heap[p]? = some (.cells #[.int .i64 D.free,.map (some w1.heap.size),.int .i64 D.acts,.int .i64 D.fa,.int .i64 D.fk,.slice ka D.ks.length kc,.bool D.down] 98 (0,0)):=by
  rw[<-xE];exact Lm w2 p 1 _ _ _ h2.blk
 have u3:Upo (fun x=>x=p) w2 w3:=by rw[<-xE];exact(Upo.refl (fun x=>x=p) w2).set _ _ _ (.inl rfl)
 have f3:=fun j=>frozen_of_row w3 p j _ _ j3
 have d6:w3.cell? ⟨p,6,none⟩=some (.bool D.down):=by rw[cell_of_row w3 p 6 _ _ (0,0) j3];rfl
 have HF:Hid (Fm w2 w1.heap.size R' (QM (aft ks D.L 0))∧(∀s∈Qg (QM (aft ks D.L 0)),∀x,Blk (R' s) x->w1.heap.size<=x)∧Bl w w2∧Upo (fun x=>x=p) w2 w3∧p<w.heap.size∧w.heap.size<=w1.heap.size∧w3.heap[p]? = some (.cells #[.int .i64 D.free,.map (some w1.heap.size),.int .i64 D.acts,.int .i64 D.fa,.int .i64 D.fk,.slice ka D.ks.length kc,.bool D.down] 98 (0,0))):=⟨hF,xA,Qa xD xC,u3,xG,xD.size,j3⟩
 rw[xE];clear xE hF xA xC u3 xG j3 h2 fz c1 c6 ho xD HA HL HC;go_wp2
 go_ret
 obtain⟨hF,xA,xC,u3,xG,hz,j3⟩:=HF.out;have j4:(w3.setCell ⟨p,6,none⟩ (.bool true)).heap[p]? = some (.cells #[.int .i64 D.free,.map (some w1.heap.size),.int .i64 D.acts,.int .i64 D.fa,.int .i64 D.fk,.slice ka D.ks.length kc,.bool true] 98 (0,0)):=Lm w3 p 6 _ _ _ j3;have u4:Upo (fun x=>x=p) w2 (w3.setCell ⟨p,6,none⟩ (.bool true)):=u3.set _ _ _ (.inl rfl)
 have hu:Upo (fun x=>x=p) w (w3.setCell ⟨p,6,none⟩ (.bool true)):=(Upo.of xC).trans u4 (fun _ _ q=>q)
 have xF:w1.heap.size≠p:=by omega
 have kt:∀x,Ty w2 x 5->(w3.setCell ⟨p,6,none⟩ (.bool true)).heap[x]? = w2.heap[x]? := fun x hx=>u4.block x hx.lt (hx.ne ⟨_,_,(HH.out.next xC).blk⟩ (by decide))
 have xB:Fm (w3.setCell ⟨p,6,none⟩ (.bool true)) w1.heap.size R' (QM (aft ks D.L 0)):=hF.same (u4.block _ hF.mp.lt xF) kt;have kk:0<D.ks.length->(w3.setCell ⟨p,6,none⟩ (.bool true)).heap[kb]? = w.heap[kb]? := fun h0=>hu.block kb (HH.out.kt h0).lt (HH.out.kbp h0).1
 refine⟨w1.heap.size,R',rfl,⟨j4,xB.mp,xB.ord,fun s hs _=>xB.fil s hs,fun s hs x hx=>(xB.fil s hs).blk hx,xB.apart,xB.nm,xB.cnt,HH.out.kp.same kk,fun h0=>(HH.out.kt h0).same (kk h0),HH.out.kl,HH.out.fr,HH.out.ac,HH.out.ft⟩,fun x hx=> ?_,hu⟩
 rcases hx with rfl|rfl|⟨s,hs,hx⟩|hx
 ·exact .inl rfl
 ·exact .inr (.inr hz)
 ·exact .inr (.inr (by have:=xA s hs x hx;omega))
 ·exact .inr (.inl hx)
def Yw(D:DV)(s:List UInt8)(f:FV):DV×Int :=
 let q:=Yj { D with acts:=D.acts+1 }
 if q.2.1=1 then (q.1,171) else if q.2.1=2 then (q.1,172) else if q.2.1=4 then (Oy q.1 q.2.2,170) else
  if q.2.1=3 then (Q8 q.1 s f,171) else if q.2.1=5 then (Oy (Q8 q.1 s f) q.2.2,170) else (Q8 q.1 s f,0)
theorem QkX(D:DV):(Yj D).1.L=D.L∧(Yj D).1.free=D.free∧(Yj D).1.down=D.down∧(Yj D).1.acts=D.acts∧((Yj D).1.ks=D.ks∨(Yj D).1.ks=[])∧((Yj D).2.2=D.ks∨(Yj D).2.2=[]):=by
 unfold Yj
 split
 ·exact⟨rfl,rfl,rfl,rfl,.inl rfl,.inr rfl⟩
 ·split
  ·exact⟨rfl,rfl,rfl,rfl,.inl rfl,.inr rfl⟩
  ·exact⟨rfl,rfl,rfl,rfl,.inr rfl,.inl rfl⟩
theorem QpB(h:D.fk=0∨(1<=D.fk∧D.fk<=5∧1<=D.fa∧D.fa<=9223372036854775807)):(Yj D).2.1=0∨(Yj D).2.1=1∨(Yj D).2.1=2∨(Yj D).2.1=3∨(Yj D).2.1=4∨(Yj D).2.1=5:=by
 unfold Yj
 split
 ·exact .inl rfl
 ·split
  ·exact .inl rfl
  ·show D.fk=0∨_
   have:D.fk=0∨D.fk=1∨D.fk=2∨D.fk=3∨D.fk=4∨D.fk=5:=by omega
   exact this
structure Do(w:World)(p m:Nat)(R:List UInt8->FR)(kb ko:Nat)(D:DV)(fn:Nat)(caps:Array Value)(s:List UInt8)(f:FV):Prop where
 call:∀(W:World) ka2 kc2 (D2:DV),Dk W p m R ka2 kb ko kc2 D2 none->D2.L=D.L->D2.free=D.free->Upo (fun x=>x=p) w W->Calls prog fn caps W fun e w'=>e= .returned (.tuple #[]) ∧ ∃R',Dk w' p m R' ka2 kb ko kc2 (Q8 D2 s f) none∧(∀x,(∃t∈Qg (Q8 D2 s f).L,Blk (R' t) x)->(∃t∈Qg D.L,Blk (R t) x)∨W.heap.size<=x)∧Upo (fun x=>x=p∨x=m ∨ ∃t∈Qg D.L,Blk (R t) x) W w'
theorem QdA(w:World)(h:Dk w p m R ka kb ko kc D none)(hac:D.acts+1<=4611686018427387904)(fn:Nat)(caps:Array Value)(s:List UInt8)(f:FV)(hD:Do w p m R kb ko D fn caps s f)(hfn:fn=343∨fn=247∨fn=250) :
  Calls prog 246 #[Pq p,.func (.func fn) #[] caps] w fun e w'=> ∃m' R' ka' kc',e= .returned (.int .i64 (Yw D s f).2)∧Dk w' p m' R' ka' kb ko kc' (Yw D s f).1 none∧(∀x,YC p m' R' kb (Yw D s f).1 x->YC p m R kb D x∨w.heap.size<=x)∧Upo (YC p m R kb D) w w':=by
 obtain⟨c0,c1,c2,c3,c4,c5,c6⟩:=h.cells;have fz:=h.frz;have e0:IntKind.i64.wrap ((D.acts:Int)+1)=((D.acts+1:Nat):Int):=by rw[Lq];omega
 obtain⟨ac,xG⟩:=Ze (D.acts+1);rw[xG] at e0;obtain⟨w1,xO⟩:=Ze (w.setCell ⟨p,2,none⟩ (.int .i64 ac));have xU:Hid (w.setCell ⟨p,2,none⟩ (.int .i64 ac)=w1):=xO;have u1:Upo (fun x=>x=p) w w1:=by rw[<-xO];exact(Upo.refl (fun x=>x=p) w).set _ _ _ (.inl rfl)
 have h1:Dk w1 p m R ka kb ko kc { D with acts:=ac } none:=by
  refine h.re (D' := { D with acts:=ac }) u1 rfl ?_ (.inl ⟨rfl,rfl⟩) h.fr (by show ac<=_;omega) h.ft
  rw[<-xO];exact Lm w p 2 _ _ _ h.blk
 have HM:=Qnm w1 h1;obtain⟨M,hM⟩:=Ze (Yj { D with acts:=ac })
 obtain⟨m1,m2,m3,m4,m5,m6⟩:=QkX { D with acts:=ac }
 have mk:=QpB h1.ft;rw[hM] at HM m1 m2 m3 m4 m5 m6 mk;have xH:Yw D s f=if M.2.1=1 then (M.1,171) else if M.2.1=2 then (M.1,172) else if M.2.1=4 then (Oy M.1 M.2.2,170) else if M.2.1=3 then (Q8 M.1 s f,171) else if M.2.1=5 then (Oy (Q8 M.1 s f) M.2.2,170) else (Q8 M.1 s f,0):=by
  simp only[Yw,xG,hM]
 obtain⟨D2,K,ks⟩:=M;simp only at HM m1 m2 m3 m4 m5 m6 mk xH;have HH:Hid (Dk w p m R ka kb ko kc D none∧Upo (fun x=>x=p) w w1∧D2.L=D.L∧D2.free=D.free∧(D2.ks=D.ks∨D2.ks=[])∧(ks=D.ks∨ks=[])∧Do w p m R kb ko D fn caps s f):=⟨h,u1,m1,m2,m5,m6,hD⟩
 have HA:=Qc xH;simp only[Qbe] at HM;clear h u1 h1 hac xG xO hM m1 m2 m3 m4 m5 m6 xH hD
 go_enter func246,ntmps246
 go_upto_region 2 with (fail)
 rw[xU.out]
 go_upto_region 3 with (go_at_call 329;with_reducible refine HM.mono ?_;rintro e w2 ⟨xD,xE,qa,qc,x,rfl,xW,xZ,xS⟩)
 obtain⟨w3,xP⟩:=Ze (w2.alloc (.cells #[.int .i64 x,.int .i64 K,.slice qa ks.length qc] 37));have xM:Bl w2 w3:=by rw[<-xP];exact bal (Lb _ _) _
 have k3:w3.heap[w2.heap.size]? = some (.cells #[.int .i64 x,.int .i64 K,.slice qa ks.length qc] 37 (0,0)):=by rw[<-xP];exact Yc _ _
 rw[xP];obtain⟨b0,b1,b2⟩:=Qp k3;have HG:Hid (Dk w3 p m R xD kb ko xE D2 none∧RdL w3 qa kb ko ks∧Upo (fun x=>x=p) w w3∧ks.length<=9223372036854775807∧w3.heap[w2.heap.size]? = some (.cells #[.int .i64 x,.int .i64 K,.slice qa ks.length qc] 37 (0,0))∧w.heap.size<=w2.heap.size):=by
  refine⟨xW.next xM,xZ.next xM,(HH.out.2.1.trans xS (fun _ _ q=>q)).next xM,?_,k3,Lr HH.out.2.1.size xS.size⟩
  have:=HH.out.1.kl
  rcases HH.out.2.2.2.2.2.1 with e|e
  ·rw[e];omega
  ·rw[e];simp
 have xF:∀x,YC p m R kb D2 x->YC p m R kb D x:=fun x hx=>by
  obtain⟨_,_,e1,_,e2,_⟩:=HH.out
  rcases hx with e|e|⟨t,ht,e⟩|⟨h0,e⟩
  ·exact .inl e
  ·exact .inr (.inl e)
  ·exact .inr (.inr (.inl ⟨t,by rw[<-e1];exact ht,e⟩))
  ·rcases e2 with q|q
   ·exact .inr (.inr (.inr ⟨by rw[<-q];exact h0,e⟩))
   ·rw[q] at h0;simp at h0
 have xJ:=Qc xF;have xK:Hid (∀W,Upo (fun x=>x=p) w W->Upo (YC p m R kb D) w W):=fun W hW=>hW.mono (fun _ _ e=> .inl e)
 clear xP xM k3 xW xZ xS xF HM c0 c1 c2 c3 c4 c5 c6 fz e0 xU
 by_cases k1:K=1
 ·subst k1;have HE:Hid (Yw D s f=(D2,171)):=by show _=_;rw[HA.out];rfl
  clear mk HA hfn;go_wp2
  go_ret
  rw[HE.out];exact⟨m,R,xD,xE,rfl,HG.out.1,fun x hx=> .inl (xJ.out x hx),xK.out _ HG.out.2.2.1⟩
 by_cases k2:K=2
 ·subst k2;have HE:Hid (Yw D s f=(D2,172)):=by show _=_;rw[HA.out];rfl
  clear mk HA hfn k1;go_wp2
  go_ret
  rw[HE.out];exact⟨m,R,xD,xE,rfl,HG.out.1,fun x hx=> .inl (xJ.out x hx),xK.out _ HG.out.2.2.1⟩
 by_cases k4:K=4
 ·subst k4;have HE:Hid (Yw D s f=(Oy D2 ks,170)):=by show _=_;rw[HA.out];rfl
  have xQ:=Qb4 w3 HG.out.1 qa kb ko qc ks HG.out.2.1 HG.out.2.2.2.1;clear mk HA hfn k1 k2
  go_wp2_with (go_at_call 330;with_reducible refine xQ.mono ?_;rintro e w4 ⟨m',R',rfl,xB,xC,xA⟩)
  go_ret
  rw[HE.out];refine⟨m',R',xD,xE,rfl,xB,fun y hy=> ?_,xK.out _ (HG.out.2.2.1.trans xA (fun _ _ q=>q))⟩
  rcases xC y hy with e|e|e
  ·exact .inl (.inl e)
  ·exact .inl (xJ.out y (.inr (.inr (.inr e))))
  ·exact .inr (Lr HG.out.2.2.1.size e)
 have e1:(K == 1)=false:=by simpa using k1
 have e2:(K == 2)=false:=by simpa using k2
 have e4:(K == 4)=false:=by simpa using k4
 have xI:Hid (Yw D s f=if K=3 then (Q8 D2 s f,171) else if K=5 then (Oy (Q8 D2 s f) ks,170) else (Q8 D2 s f,0)):=by show _=_;rw[HA.out,Le k1,Le k2,Le k4]
 have xT:=HH.out.2.2.2.2.2.2.call w3 xD xE D2 HG.out.1 HH.out.2.2.1 HH.out.2.2.2.1 HG.out.2.2.1;have xL:=Qc xT;have HK:Hid (K=0∨K=3∨K=5):=by show _∨_;omega
 clear HA mk k1 k2 k4 xT
 go_upto_region 10 with (fail)
 go_cut [28] from 29 to 29 (fun x wx=> ∃R',Dk wx p m R' xD kb ko xE (Q8 D2 s f) none∧(∀x,(∃t∈Qg (Q8 D2 s f).L,Blk (R' t) x)->(∃t∈Qg D.L,Blk (R t) x)∨w3.heap.size<=x)∧Upo (fun x=>x=p∨x=m ∨ ∃t∈Qg D.L,Blk (R t) x) w3 wx)
 case first=>
  rcases hfn with rfl|rfl|rfl
  ·go_wp2_with (go_at_call 343;(with_reducible refine xL.out.mono ?_);rintro e w4 ⟨rfl,R',xB,xC,xA⟩)
   go_meet
   case rel=>exact⟨R',xB,xC,xA⟩
  ·go_wp2_with (go_at_call 247;(with_reducible refine xL.out.mono ?_);rintro e w4 ⟨rfl,R',xB,xC,xA⟩)
   go_meet
   case rel=>exact⟨R',xB,xC,xA⟩
  ·go_wp2_with (go_at_call 250;(with_reducible refine xL.out.mono ?_);rintro e w4 ⟨rfl,R',xB,xC,xA⟩)
   go_meet
   case rel=>exact⟨R',xB,xC,xA⟩
 case rest=>
  obtain⟨R',xB,xC,xA⟩:=hcut;obtain⟨w4,yD⟩:∃W,W=wc:=⟨_,rfl⟩;subst yD;obtain⟨h0,_,e1,e2,e3,xV,_⟩:=HH.out;obtain⟨g1,g2,g3,g4,g5,g6⟩:=HG.out;have xR:∀x,(x=p∨x=m ∨ ∃t∈Qg D.L,Blk (R t) x)->YC p m R kb D x:=fun x hx=>hx.elim .inl (fun q=>q.elim (fun e=> .inr (.inl e)) (fun e=> .inr (.inr (.inl e))))
  have k4:=(xA.block w2.heap.size (Array.getElem?_eq_some_iff.1 g5).1 (fun q=>by have:=h0.lt (xR _ q);omega)).trans g5
  obtain⟨b0,b1,b2⟩:=Qp k4;have r4:RdL w4 qa kb ko ks:=g2.same fun hk0=>by
   have xY:0<D.ks.length:=by
    rcases xV with q|q
    ·rw[<-q];exact hk0
    ·rw[q] at hk0;simp at hk0
   refine xA.block kb (g2.lt hk0) (fun q=> ?_)
   have yA:=h0.kbp xY
   rcases q with q|q|⟨t,ht,q⟩
   ·exact yA.1 q
   ·exact yA.2 q
   ·exact((h0.low t ht kb q).ne (h0.kt xY) (by decide)) rfl
  have xX:Upo (YC p m R kb D) w w4:=(xK.out _ g3).trans xA (fun x _ q=>xR x q)
  have xN:∀x,YC p m R' kb (Q8 D2 s f) x->YC p m R kb D x∨w.heap.size<=x:=fun y hy=>by
   rcases hy with q|q|q|⟨q0,q⟩
   ·exact .inl (.inl q)
   ·exact .inl (.inr (.inl q))
   ·rcases xC y q with q|q
    ·exact .inl (.inr (.inr (.inl q)))
    ·exact .inr (Lr g3.size q)
   ·exact .inl (xJ.out y (.inr (.inr (.inr ⟨q0,q⟩))))
  have HZ:Hid (Dk w4 p m R' xD kb ko xE (Q8 D2 s f) none∧RdL w4 qa kb ko ks∧Upo (YC p m R kb D) w w4∧(∀x,YC p m R' kb (Q8 D2 s f) x->YC p m R kb D x∨w.heap.size<=x)∧ks.length<=9223372036854775807∧p<w.heap.size):=⟨xB,r4,xX,xN,g4,h0.lt (.inl rfl)⟩;clear h0 e1 e2 e3 xV g1 g2 g3 g4 g5 g6 xR k4 r4 xX xN xB xC xA HG xJ xK xL hfn
  by_cases k3:K=3
  ·subst k3;have HE:Hid (Yw D s f=(Q8 D2 s f,171)):=by show _=_;rw[xI.out];rfl
   clear xI HK;go_wp2
   go_ret
   rw[HE.out];exact⟨m,R',xD,xE,rfl,HZ.out.1,HZ.out.2.2.2.1,HZ.out.2.2.1⟩
  by_cases k5:K=5
  ·subst k5;have HE:Hid (Yw D s f=(Oy (Q8 D2 s f) ks,170)):=by show _=_;rw[xI.out];rfl
   have xQ:=Qb4 w4 HZ.out.1 qa kb ko qc ks HZ.out.2.1 HZ.out.2.2.2.2.1;clear xI HK k3
   go_wp2_with (go_at_call 330;with_reducible refine xQ.mono ?_;rintro e w5 ⟨m',R5,rfl,yB,xN,yC⟩)
   go_ret
   rw[HE.out];refine⟨m',R5,xD,xE,rfl,yB,fun y hy=> ?_,HZ.out.2.2.1.trans yC (fun x _ q=> .inl q)⟩
   rcases xN y hy with q|q|q
   ·exact .inl (.inl q)
   ·exact HZ.out.2.2.2.1 y (.inr (.inr (.inr q)))
   ·exact .inr (Lr HZ.out.2.2.1.size q)
  ·obtain rfl:K=0:=by have:=HK.out;omega
   have HE:Hid (Yw D s f=(Q8 D2 s f,0)):=by show _=_;rw[xI.out];rfl
   clear xI HK k3 k5;go_wp2
   go_ret
   rw[HE.out];exact⟨m,R',xD,xE,rfl,HZ.out.1,HZ.out.2.2.2.1,HZ.out.2.2.1⟩
end
section
variable {w W:World} {p m:Nat} {R:List UInt8->FR} {ka:OA} {kb ko kc:Nat} {D:DV}
variable{s:List UInt8}{T:Nat->Prop}{r r':FR}
theorem Dk.stale(h:Dk w p m R ka kb ko kc D none)(hT:∀x,T x->s∈Qg D.L∧Blk (R s) x)(hu:Upo T w W)(ht:∀x,T x->Ty W x 5):Dk W p m R ka kb ko kc D (some s):=by
 have xA:∀x,T x->Ty w x 5:=fun x hx=>h.low s (hT x hx).1 x (hT x hx).2
 have hp:¬T p:=fun q=>(h.other (xA p q)).1 rfl
 have hm:¬T m:=fun q=>(h.other (xA m q)).2.1 rfl
 have hk:0<D.ks.length -> ¬T kb:=fun h0 q=>(h.other (xA kb q)).2.2 h0 rfl
 have kk:0<D.ks.length->W.heap[kb]? = w.heap[kb]? := fun h0=>hu.block kb (h.kt h0).lt (hk h0)
 refine⟨(hu.block p (h.lt (.inl rfl)) hp).trans h.blk,h.mp.same (hu.block m h.mp.lt hm),h.ord,fun t ht' hne=> ?_,fun t ht' x hx=> ?_,h.apart,h.nm,h.cnt,h.kp.same kk,fun h0=>(h.kt h0).same (kk h0),h.kl,h.fr,h.ac,h.ft⟩
 ·refine(h.fil t ht' (by simp)).same fun x hx=>hu.block x (h.low t ht' x hx).lt (fun q=> ?_)
  obtain⟨q1,q2⟩:=hT x q;exact h.apart t ht' s q1 (fun e=>hne (by rw[e])) x hx q2
 ·rcases Classical.em (T x) with q|q
  ·exact ht x q
  ·exact(h.low t ht' x hx).same (hu.block x (h.low t ht' x hx).lt q)
theorem Dk.file(h:Dk w p m R ka kb ko kc D none)(hr:(s∈Qg D.L∧r=R s)∨(s ∉ Qg D.L∧r=fr0∧Qe D.L s=fz)):Fil w (Qe D.L s) r ∧ ∀x,Blk r x->s∈Qg D.L∧Blk (R s) x:=by
 rcases hr with ⟨h1,rfl⟩|⟨h1,rfl,h3⟩
 ·exact⟨h.fil s h1 (by simp),fun x hx=>⟨h1,hx⟩⟩
 ·exact⟨by rw[h3];exact Qkw w,fun x hx=>(QjQ hx).elim⟩
theorem Qgm{w2 w3:World}{f:FV}(h:Dk w p m R ka kb ko kc D none)(hr:(s∈Qg D.L∧r=R s)∨(s ∉ Qg D.L∧r=fr0∧Qe D.L s=fz))
  (hT:∀x,T x->Blk r x) (hu:Upo T w w2) (hb':∀x,Blk r' x->Blk r x∨w.heap.size<=x) (hD:Dk w3 p m (Ov R s r') ka kb ko kc (Q8 D s f) none) (hu3:Upo (fun x=>x=p∨x=m) w2 w3) :
  ∃R',Dk w3 p m R' ka kb ko kc (Q8 D s f) none∧(∀x,(∃t∈Qg (Q8 D s f).L,Blk (R' t) x)->(∃t∈Qg D.L,Blk (R t) x)∨w.heap.size<=x)∧Upo (fun x=>x=p∨x=m ∨ ∃t∈Qg D.L,Blk (R t) x) w w3:=by
 have hf:=(h.file hr).2;refine⟨_,hD,fun x hx=> ?_,?_⟩
 ·obtain⟨t,ht,hx⟩:=hx;simp only[Ov] at hx
  by_cases e:t=s
  ·rw[Lf e] at hx
   rcases hb' x hx with q|q
   ·exact .inl ⟨s,(hf x q).1,(hf x q).2⟩
   ·exact .inr q
  ·rw[Le e] at hx;have:=(JM h.ord s f t).1 ht;rw[Le e] at this;exact .inl ⟨t,this,hx⟩
 ·refine(hu.mono (T:=fun x=>x=p∨x=m ∨ ∃t∈Qg D.L,Blk (R t) x) (fun x _ q=> .inr (.inr ⟨s,hf x (hT x q)⟩))).trans hu3 (fun x _ q=> ?_)
  rcases q with q|q
  ·exact .inl q
  ·exact .inr (.inl q)
theorem QbW(h:Dk w p m R ka kb ko kc D none)(hr:(s∈Qg D.L∧r=R s)∨(s ∉ Qg D.L∧r=fr0∧Qe D.L s=fz))(hb':∀x,Blk r' x->Blk r x∨w.heap.size<=x) :
  ∀t∈Qg D.L,t≠s -> ∀x,Blk (R t) x->Blk r' x->False:=fun t ht hne x h1 h2=>by
 rcases hb' x h2 with q|q
 ·obtain⟨q1,q2⟩:=(h.file hr).2 x q;exact h.apart t ht s q1 hne x h1 q2
 ·have:=(h.low t ht x h1).lt;omega
end
def Bx1(w:World)(b:Nat)(v:Value)(T:TypeId):Prop:=w.heap[b]? = some (.cells #[v] T (0,0))
theorem Bx1.at{w:World}{b:Nat}{v:Value}{T:TypeId}(h:Bx1 w b v T):w.cell? ⟨b,0,none⟩=some v:=by rw[cell_of_row w b 0 _ _ (0,0) h];rfl
section
variable {p m:Nat} {R:List UInt8->FR} {ka:OA} {kb ko kc:Nat} {D:DV}
theorem Qko(w:World)(h:Dk w p m R ka kb ko kc D none)(s t:BA)(hs:s.size<=maxLen)(k:Nat)(hk:k<=(Qe D.L s.data.toList).now.length)(hl:k+t.size<=268435456)(r:FR)(hr:(s.data.toList∈Qg D.L∧r=R s.data.toList)∨(s.data.toList ∉ Qg D.L∧r=fr0∧Qe D.L s.data.toList=fz))
  (hcnt:D.L.length<1099511627776) (hroom:k+t.size<=D.free+(Qe D.L s.data.toList).now.length) (hfr:D.free+(Qe D.L s.data.toList).now.length<=9223372036854775807)
  (bd bn bf bo bt:Nat) (x1:Bx1 w bd (Pq p) 25) (x2:Bx1 w bn (.string s) 9) (x3:w.heap[bf]? = some (.cells #[.slice r.a (Qe D.L s.data.toList).now.length r.c,.slice r.b (Qe D.L s.data.toList).syn.length r.d,.int .i64 r.s] 129 (0,0))) (x4:Bx1 w bo (.int .i64 k) 3) (x5:Bx1 w bt (.string t) 9) :
  Do w p m R kb ko D 343 #[Pq bd,Pq bn,Pq bf,Pq bo,Pq bt] s.data.toList ⟨wr (Qe D.L s.data.toList).now k t.data.toList,(Qe D.L s.data.toList).syn⟩:=by
 have xC:∀ {b:Nat} {cs:Array Value} {T:TypeId},w.heap[b]? = some (.cells cs T (0,0))->T≠98->b≠p:=fun {b cs T} hb hT e=>by
  rw[e,h.blk] at hb;injection hb with hb
  injection hb with _ hb _
  exact hT hb.symm
 refine⟨fun W ka2 kc2 D2 hD2 hL hF hW=> ?_⟩
 have y1:Bx1 W bd _ _:=(hW.block bd (Array.getElem?_eq_some_iff.1 x1).1 (xC x1 (by decide))).trans x1
 have y2:Bx1 W bn _ _:=(hW.block bn (Array.getElem?_eq_some_iff.1 x2).1 (xC x2 (by decide))).trans x2
 have y3:=(hW.block bf (Array.getElem?_eq_some_iff.1 x3).1 (xC x3 (by decide))).trans x3
 have y4:Bx1 W bo _ _:=(hW.block bo (Array.getElem?_eq_some_iff.1 x4).1 (xC x4 (by decide))).trans x4
 have y5:Bx1 W bt _ _:=(hW.block bt (Array.getElem?_eq_some_iff.1 x5).1 (xC x5 (by decide))).trans x5
 rw[<-hL] at hr y3 hk ⊢;rw[<-hL,<-hF] at hroom hfr;rw[<-hL] at hcnt;obtain⟨xA,xD⟩:=hD2.file hr;obtain⟨f0,xE⟩:=Ze (Qe D2.L s.data.toList);have xR:=Qc xE;rw[xE] at xA y3 hk hroom hfr ⊢;obtain⟨ra,rg,rc,rb,rh,rd,rs⟩:=r;obtain⟨n,hn⟩:=Ze f0.now.length;obtain⟨n2,xL⟩:=Ze f0.syn.length;simp only[hn,xL] at y3;have b1:=xA.b1;have HA:=Qb0 W ra rg n rc f0.now rb n2 rd rs k (min rs k) t xA.now hn (by omega) rfl (by omega)
 have HP:Hid (∀w2 a' g' c',Rw w2 a' g' c' (wr f0.now k t.data.toList)->Upo (fun b=>ra=Zp rg∧b=rg) W w2->((a'=ra∧g'=rg)∨(W.heap.size<=g'∧g'<w2.heap.size))->(ra=Zp rg->Ty w2 rg 5) ->
   Calls prog 248 #[Pq p,.string s,fv a' (wr f0.now k t.data.toList).length c' rb n2 rd (min rs k)] w2 fun e w'=>e= .returned (.tuple #[])∧(∃R',Dk w' p m R' ka2 kb ko kc2 (Q8 D2 s.data.toList ⟨wr f0.now k t.data.toList,f0.syn⟩) none∧(∀x,(∃t'∈Qg (Q8 D2 s.data.toList ⟨wr f0.now k t.data.toList,f0.syn⟩).L,Blk (R' t') x)->(∃t'∈Qg D2.L,Blk (R t') x)∨W.heap.size<=x)∧Upo (fun x=>x=p∨x=m ∨ ∃t'∈Qg D2.L,Blk (R t') x) W w')∧Upo (fun x=>x=p∨x=m) w2 w'):=fun w2 a' g' c' rw2 u2 loc ty2=>by
  have hT:∀x,(ra=Zp rg∧x=rg)->Blk ⟨ra,rg,rc,rb,rh,rd,rs⟩ x:=fun x q=> .inl q
  have xQ:=hD2.stale (s:=s.data.toList) (fun x q=>xD x (hT x q)) u2 (fun x q=>by rw[q.2];exact ty2 q.1)
  have xM:∀x,Blk ⟨a',g',c',rb,rh,rd,min rs k⟩ x->Blk ⟨ra,rg,rc,rb,rh,rd,rs⟩ x∨W.heap.size<=x:=fun x q=>by
   rcases q with ⟨q1,q2⟩|q
   ·simp only at q1 q2
    rcases loc with ⟨l1,l2⟩|l
    ·exact .inl (.inl ⟨by rw[<-l1,q1,l2],by rw[q2,l2]⟩)
    ·exact .inr (by omega)
   ·exact .inl (.inr q)
  have xG:Rw w2 rb rh rd f0.syn:=xA.syn.same fun e=>u2.block rh (xA.syn.ty e).lt (fun q=>xA.ap q.1 e q.2.symm)
  have xH:=Qqg f0.now k t.data.toList (by omega)
  rw[Qb] at xH;have xF:Fil w2 ⟨wr f0.now k t.data.toList,f0.syn⟩ ⟨a',g',c',rb,rh,rd,min rs k⟩:=by
   have s1:=xA.s1;have s2:=xA.s2;simp only at s1 s2;refine⟨rw2,xG,by simp only[xH];omega,by simp only;omega,?_,fun e1 e2=> ?_,by simp only[xH];omega,xA.b2⟩
   ·show f0.syn.take (min rs k)=(wr f0.now k t.data.toList).take (min rs k)
    have e:=Lv (List.take (min rs k)) xA.sm;simp only[List.take_take] at e;rw[show min (min rs k) rs=min rs k by omega] at e
    rw[e,wr,Lw,Lu (by simp;omega),Iu,show min (min rs k) k=min rs k by omega]
   ·simp only at e1 e2 ⊢
    rcases loc with ⟨l1,l2⟩|l
    ·rw[l2];exact xA.ap (by rw[<-l1,e1,l2]) e2
    ·have:=(xA.syn.ty e2).lt;simp only at this;omega
  have hc:=Uv w2 p m R ka2 kb ko kc2 D2 s ⟨wr f0.now k t.data.toList,f0.syn⟩ ⟨a',g',c',rb,rh,rd,min rs k⟩ xQ xF hs (QbW hD2 hr xM) hcnt (by rw[xE];omega) (by rw[xE];simp only[xH];omega)
  simp only[Uc,xL] at hc;refine hc.mono fun e w3 q=>⟨q.1,Qgm hD2 hr hT u2 xM q.2.1 q.2.2,q.2.2⟩
 have ne:∀ {b:Nat} {cs:Array Value} {T:TypeId},W.heap[b]? = some (.cells cs T (0,0))->T≠5->T≠98->(¬(ra=Zp rg∧b=rg))∧b≠p∧b≠m:=fun {b cs T} hb h1 h2=>
  ⟨fun q=>(Ty.ne ⟨_,_,hb⟩ (xA.now.ty q.1) h1) q.2,Ty.ne ⟨_,_,hb⟩ ⟨_,_,hD2.blk⟩ h2,Ty.mv ⟨_,_,hb⟩ hD2.mp⟩
 have xB:∀ {b:Nat} {cs:Array Value} {T:TypeId} (Z Z':World),W.heap[b]? = some (.cells cs T (0,0))->T≠5->T≠98->Upo (fun b=>ra=Zp rg∧b=rg) W Z->Upo (fun x=>x=p∨x=m) Z Z'->Z'.heap[b]? = some (.cells cs T (0,0)):=fun {b cs T} Z Z' hb h1 h2 hu hu'=>by
  obtain⟨n1,n2,n3⟩:=ne hb h1 h2;have xP:=(Array.getElem?_eq_some_iff.1 hb).1
  exact(hu'.block b (by have:=hu.size;omega) (fun q=>q.elim n2 n3)).trans ((hu.block b xP n1).trans hb)
 have xI:Hid (∀Z Z',Upo (fun b=>ra=Zp rg∧b=rg) W Z->Upo (fun x=>x=p∨x=m) Z Z'->Z'.cell? ⟨bd,0,none⟩=some (Pq p)∧Z'.cell? ⟨bn,0,none⟩=some (.string s)∧Z'.cell? ⟨bf,0,none⟩=some (.slice ra n rc)∧Z'.cell? ⟨bf,1,none⟩=some (.slice rb n2 rd)∧Z'.cell? ⟨bf,2,none⟩=some (.int .i64 rs)∧Z'.cell? ⟨bo,0,none⟩=some (.int .i64 k)∧Z'.cell? ⟨bt,0,none⟩=some (.string t)):=fun Z Z' hu hu'=>by
  obtain⟨a0,a1,a2⟩:=Qp (xB Z Z' y3 (by decide) (by decide) hu hu')
  exact⟨Bx1.at (xB Z Z' y1 (by decide) (by decide) hu hu'),Bx1.at (xB Z Z' y2 (by decide) (by decide) hu hu'),a0,a1,a2,Bx1.at (xB Z Z' y4 (by decide) (by decide) hu hu'),Bx1.at (xB Z Z' y5 (by decide) (by decide) hu hu')⟩
 obtain⟨c1,c2,c3,c4,c5,c6,c7⟩:=xI.out W W (Upo.refl _ _) (Upo.refl _ _);obtain⟨mk,xK⟩:=Ze (min rs k);rw[xK] at HA HP;have xO:Hid (∀Z,Upo (fun b=>ra=Zp rg∧b=rg) W Z->Upo (fun b=>ra=Zp rg∧b=rg) W.drew Z):=fun Z q=>⟨q.os,q.tape,q.output,q.size,q.block⟩
 have xN:Calls prog 344 #[.agg #[.slice ra n rc,.slice rb n2 rd,.int .i64 rs],.int .i64 k,.string t] W.drew fun e w'=> ∃a' g' c',e= .returned (fv a' (wr f0.now k t.data.toList).length c' rb n2 rd mk)∧Rw w' a' g' c' (wr f0.now k t.data.toList)∧Upo (fun b=>ra=Zp rg∧b=rg) W w'∧((a'=ra∧g'=rg)∨(W.heap.size<=g'∧g'<w'.heap.size))∧(ra=Zp rg->Ty w' rg 5):=by
  have q:=Qb0 W.drew ra rg n rc f0.now rb n2 rd rs k mk t (xA.now.same (W:=W.drew) fun _=>rfl) hn (by omega) xK (by omega)
  exact q.mono fun e w' q=>by
   obtain⟨a',g',c',q1,q2,q3,q4⟩:=q;exact⟨a',g',c',q1,q2,⟨q3.os,q3.tape,q3.output,q3.size,q3.block⟩,q4⟩
 clear HA x1 x2 x3 x4 x5 y1 y2 y3 y4 y5 xA xD hr hk hl hn xL hroom hfr hcnt xE hD2 hW h xC ne xB xK hs b1 xO
 go_enter func343,ntmps343
 go_upto_region 0 with (fail)
 go_region_held3 (fun Z=>Z.cell? ⟨bd,0,none⟩=some (Pq p)∧Z.cell? ⟨bn,0,none⟩=some (.string s)∧Z.cell? ⟨bf,0,none⟩=some (.slice ra n rc)∧Z.cell? ⟨bf,1,none⟩=some (.slice rb n2 rd)∧Z.cell? ⟨bf,2,none⟩=some (.int .i64 rs)∧Z.cell? ⟨bo,0,none⟩=some (.int .i64 k)∧Z.cell? ⟨bt,0,none⟩=some (.string t)) (first|assumption|(exact⟨c1,c2,c3,c4,c5,c6,c7⟩)|(exact xI.out _ _ u2 (Upo.refl _ _))|(exact xI.out _ _ u2 u3)) (first
  | (go_at_call 344;(with_reducible refine xN.mono ?_);rintro e w2 ⟨a',g',c',rfl,rw2,u2,loc,ty2⟩)
  | (go_at_call 248;(with_reducible refine(HP.out w2 a' g' c' rw2 u2 loc ty2).mono ?_);rintro e w3 ⟨rfl,xJ,u3⟩))
 go_wp2
 go_end0
 exact⟨rfl,xJ⟩
end
section
variable {p m:Nat} {R:List UInt8->FR} {ka:OA} {kb ko kc:Nat} {D:DV}
theorem Qpn(w:World)(h:Dk w p m R ka kb ko kc D none)(s:BA)(hs:s.size<=maxLen)(k:Nat)(hk:k<=(Qe D.L s.data.toList).now.length)(r:FR)(hr:(s.data.toList∈Qg D.L∧r=R s.data.toList)∨(s.data.toList ∉ Qg D.L∧r=fr0∧Qe D.L s.data.toList=fz))
  (hcnt:D.L.length<1099511627776) (hfr:D.free+(Qe D.L s.data.toList).now.length<=9223372036854775807)
  (bd bn bf bo:Nat) (x1:Bx1 w bd (Pq p) 25) (x2:Bx1 w bn (.string s) 9) (x3:w.heap[bf]? = some (.cells #[.slice r.a (Qe D.L s.data.toList).now.length r.c,.slice r.b (Qe D.L s.data.toList).syn.length r.d,.int .i64 r.s] 129 (0,0))) (x4:Bx1 w bo (.int .i64 k) 3) :
  Do w p m R kb ko D 247 #[Pq bd,Pq bn,Pq bf,Pq bo] s.data.toList ⟨(Qe D.L s.data.toList).now.take k,(Qe D.L s.data.toList).syn⟩:=by
 have xF:∀ {b:Nat} {cs:Array Value} {T:TypeId},w.heap[b]? = some (.cells cs T (0,0))->T≠98->b≠p:=fun {b cs T} hb hT e=>by
  rw[e,h.blk] at hb;injection hb with hb
  injection hb with _ hb _
  exact hT hb.symm
 refine⟨fun W ka2 kc2 D2 hD2 hL hF hW=> ?_⟩
 have y1:Bx1 W bd _ _:=(hW.block bd (Array.getElem?_eq_some_iff.1 x1).1 (xF x1 (by decide))).trans x1
 have y2:Bx1 W bn _ _:=(hW.block bn (Array.getElem?_eq_some_iff.1 x2).1 (xF x2 (by decide))).trans x2
 have y3:=(hW.block bf (Array.getElem?_eq_some_iff.1 x3).1 (xF x3 (by decide))).trans x3
 have y4:Bx1 W bo _ _:=(hW.block bo (Array.getElem?_eq_some_iff.1 x4).1 (xF x4 (by decide))).trans x4
 rw[<-hL] at hr y3 hk ⊢;rw[<-hL,<-hF] at hfr;rw[<-hL] at hcnt;obtain⟨xA,xH⟩:=hD2.file hr;obtain⟨f0,xD⟩:=Ze (Qe D2.L s.data.toList);have xO:=Qc xD;rw[xD] at xA y3 hk hfr ⊢;obtain⟨ra,rg,rc,rb,rh,rd,rs⟩:=r;obtain⟨n,hn⟩:=Ze f0.now.length;obtain⟨n2,xK⟩:=Ze f0.syn.length;simp only[hn,xK] at y3;have b1:=xA.b1;have HA:=QeZ W ra n rc rb n2 rd rs k (min rs k) (by omega) (by have:=xA.now.le;simp only at this;omega) rfl
 have HP:Hid (∀w2,Bl W w2->Calls prog 248 #[Pq p,.string s,fv ra k rc rb n2 rd (min rs k)] w2 fun e w'=>e= .returned (.tuple #[])∧(∃R',Dk w' p m R' ka2 kb ko kc2 (Q8 D2 s.data.toList ⟨f0.now.take k,f0.syn⟩) none∧(∀x,(∃t'∈Qg (Q8 D2 s.data.toList ⟨f0.now.take k,f0.syn⟩).L,Blk (R' t') x)->(∃t'∈Qg D2.L,Blk (R t') x)∨W.heap.size<=x)∧Upo (fun x=>x=p∨x=m ∨ ∃t'∈Qg D2.L,Blk (R t') x) W w')∧Upo (fun x=>x=p∨x=m) w2 w'):=fun w2 hb2=>by
  have u2:Upo (fun _=>False) W w2:=Upo.of hb2
  have xN:=hD2.stale (s:=s.data.toList) (T:=fun _=>False) (fun x q=>q.elim) u2 (fun x q=>q.elim)
  have xL:∀x,Blk ⟨ra,rg,rc,rb,rh,rd,min rs k⟩ x->Blk ⟨ra,rg,rc,rb,rh,rd,rs⟩ x∨W.heap.size<=x:=fun x q=> .inl q
  have xC:(f0.now.take k).length=k:=by simp;omega
  have xE:Fil w2 ⟨f0.now.take k,f0.syn⟩ ⟨ra,rg,rc,rb,rh,rd,min rs k⟩:=by
   have s1:=xA.s1;have s2:=xA.s2;simp only at s1 s2;refine⟨(xA.now.cut (k:=k) (by omega)).next hb2 (La _),xA.syn.next hb2 (La _),by simp only[xC];omega,by simp only;omega,?_,xA.ap,by simp only[xC];omega,xA.b2⟩
   show f0.syn.take (min rs k)=(f0.now.take k).take (min rs k)
   have e:=Lv (List.take (min rs k)) xA.sm;simp only[List.take_take] at e;rw[show min (min rs k) rs=min rs k by omega] at e
   rw[e,Iu,show min (min rs k) k=min rs k by omega]
  have hc:=Uv w2 p m R ka2 kb ko kc2 D2 s ⟨f0.now.take k,f0.syn⟩ ⟨ra,rg,rc,rb,rh,rd,min rs k⟩ xN xE hs (QbW hD2 hr xL) hcnt (by rw[xD];omega) (by rw[xD];simp only[xC];omega)
  simp only[Uc,xK,xC] at hc;refine hc.mono fun e w3 q=>⟨q.1,Qgm hD2 hr (T:=fun _=>False) (fun x q=>q.elim) u2 xL q.2.1 q.2.2,q.2.2⟩
 have ne:∀ {b:Nat} {cs:Array Value} {T:TypeId},W.heap[b]? = some (.cells cs T (0,0))->T≠5->T≠98->True∧b≠p∧b≠m:=fun {b cs T} hb h1 h2=>
  ⟨trivial,Ty.ne ⟨_,_,hb⟩ ⟨_,_,hD2.blk⟩ h2,Ty.mv ⟨_,_,hb⟩ hD2.mp⟩
 have xB:∀ {b:Nat} {cs:Array Value} {T:TypeId} (Z Z':World),W.heap[b]? = some (.cells cs T (0,0))->T≠5->T≠98->Bl W Z->Upo (fun x=>x=p∨x=m) Z Z'->Z'.heap[b]? = some (.cells cs T (0,0)):=fun {b cs T} Z Z' hb h1 h2 hu hu'=>by
  obtain⟨n1,n2,n3⟩:=ne hb h1 h2;have xC:=(Array.getElem?_eq_some_iff.1 hb).1
  exact(hu'.block b (by have:=hu.size;omega) (fun q=>q.elim n2 n3)).trans ((hu.block b xC).trans hb)
 have xG:Hid (∀Z Z',Bl W Z->Upo (fun x=>x=p∨x=m) Z Z'->Z'.cell? ⟨bd,0,none⟩=some (Pq p)∧Z'.cell? ⟨bn,0,none⟩=some (.string s)∧Z'.cell? ⟨bf,0,none⟩=some (.slice ra n rc)∧Z'.cell? ⟨bf,1,none⟩=some (.slice rb n2 rd)∧Z'.cell? ⟨bf,2,none⟩=some (.int .i64 rs)∧Z'.cell? ⟨bo,0,none⟩=some (.int .i64 k)):=fun Z Z' hu hu'=>by
  obtain⟨a0,a1,a2⟩:=Qp (xB Z Z' y3 (by decide) (by decide) hu hu')
  exact⟨Bx1.at (xB Z Z' y1 (by decide) (by decide) hu hu'),Bx1.at (xB Z Z' y2 (by decide) (by decide) hu hu'),a0,a1,a2,Bx1.at (xB Z Z' y4 (by decide) (by decide) hu hu')⟩
 obtain⟨c1,c2,c3,c4,c5,c6⟩:=xG.out W W (Lb _ _) (Upo.refl _ _);obtain⟨mk,xJ⟩:=Ze (min rs k);rw[xJ] at HA HP;have xM:Calls prog 249 #[.agg #[.slice ra n rc,.slice rb n2 rd,.int .i64 rs],.int .i64 k] W.drew fun e w'=>e= .returned (fv ra k rc rb n2 rd mk)∧Bl W w':=by
  have q:=QeZ W.drew ra n rc rb n2 rd rs k mk (by omega) (by have:=xA.now.le;simp only at this;omega) xJ
  exact q.mono fun e w' q=>⟨q.1,q.2.os,q.2.tape,q.2.output,q.2.size,q.2.block⟩
 clear HA x1 x2 x3 x4 y1 y2 y3 y4 xA xH hr hk hn xK hfr hcnt xD hD2 hW h xF ne xB xJ hs b1
 go_enter func247,ntmps247
 go_upto_region 0 with (fail)
 go_region_held3 (fun Z=>Z.cell? ⟨bd,0,none⟩=some (Pq p)∧Z.cell? ⟨bn,0,none⟩=some (.string s)∧Z.cell? ⟨bf,0,none⟩=some (.slice ra n rc)∧Z.cell? ⟨bf,1,none⟩=some (.slice rb n2 rd)∧Z.cell? ⟨bf,2,none⟩=some (.int .i64 rs)∧Z.cell? ⟨bo,0,none⟩=some (.int .i64 k)) (first|assumption|(exact⟨c1,c2,c3,c4,c5,c6⟩)|(exact xG.out _ _ u2 (Upo.refl _ _))|(exact xG.out _ _ u2 u3)) (first
  | (go_at_call 249;(with_reducible refine xM.mono ?_);rintro e w2 ⟨rfl,u2⟩)
  | (go_at_call 248;(with_reducible refine(HP.out w2 u2).mono ?_);rintro e w3 ⟨rfl,xI,u3⟩))
 go_wp2
 go_end0
 exact⟨rfl,xI⟩
end
section
variable {p m:Nat} {R:List UInt8->FR} {ka:OA} {kb ko kc:Nat} {D:DV}
theorem QmV(w:World)(h:Dk w p m R ka kb ko kc D none)(s:BA)(hs:s.size<=maxLen)(hcnt:D.L.length<1099511627776)(hfr:D.free+(Qe D.L s.data.toList).now.length<=9223372036854775807)
  (bd bn:Nat) (x1:Bx1 w bd (Pq p) 25) (x2:Bx1 w bn (.string s) 9) :
  Do w p m R kb ko D 250 #[Pq bd,Pq bn] s.data.toList ⟨(Qe D.L s.data.toList).now,(Qe D.L s.data.toList).now⟩:=by
 have xJ:∀ {b:Nat} {cs:Array Value} {T:TypeId},w.heap[b]? = some (.cells cs T (0,0))->T≠98->b≠p:=fun {b cs T} hb hT e=>by
  rw[e,h.blk] at hb;injection hb with hb
  injection hb with _ hb _
  exact hT hb.symm
 refine⟨fun W ka2 kc2 D2 hD2 hL hF hW=> ?_⟩
 have y1:Bx1 W bd _ _:=(hW.block bd (Array.getElem?_eq_some_iff.1 x1).1 (xJ x1 (by decide))).trans x1
 have y2:Bx1 W bn _ _:=(hW.block bn (Array.getElem?_eq_some_iff.1 x2).1 (xJ x2 (by decide))).trans x2
 rw[<-hL,<-hF] at hfr;rw[<-hL] at hcnt ⊢;obtain⟨r,hl,hr⟩:=hD2.look s hs;obtain⟨xA,xD⟩:=hD2.file hr;obtain⟨f0,xG⟩:=Ze (Qe D2.L s.data.toList);rw[xG] at xA hfr hl ⊢;obtain⟨ra,rg,rc,rb,rh,rd,rs⟩:=r;obtain⟨n,hn⟩:=Ze f0.now.length;obtain⟨n2,xI⟩:=Ze f0.syn.length;simp only[Uc,fv,hn,xI] at hl;have b1:=xA.b1;have s1:=xA.s1;have s2:=xA.s2;simp only at s1 s2;have HP:Hid (∀w2 b' h' d',Rw w2 b' h' d' f0.now->Upo (fun b=>rb=Zp rh∧b=rh) W w2->((b'=rb∧h'=rh)∨(W.heap.size<=h'∧h'<w2.heap.size))->(rb=Zp rh->Ty w2 rh 5) ->
   Calls prog 248 #[Pq p,.string s,fv ra n rc b' n d' n] w2 fun e w'=>e= .returned (.tuple #[])∧(∃R',Dk w' p m R' ka2 kb ko kc2 (Q8 D2 s.data.toList ⟨f0.now,f0.now⟩) none∧(∀x,(∃t'∈Qg (Q8 D2 s.data.toList ⟨f0.now,f0.now⟩).L,Blk (R' t') x)->(∃t'∈Qg D2.L,Blk (R t') x)∨W.heap.size<=x)∧Upo (fun x=>x=p∨x=m ∨ ∃t'∈Qg D2.L,Blk (R t') x) W w')∧Upo (fun x=>x=p∨x=m) w2 w'∧w'.cell? ⟨p,1,none⟩=some (.map (some m))):=fun w2 b' h' d' rw2 u2 loc ty2=>by
  have hT:∀x,(rb=Zp rh∧x=rh)->Blk ⟨ra,rg,rc,rb,rh,rd,rs⟩ x:=fun x q=> .inr q
  have xO:=hD2.stale (s:=s.data.toList) (fun x q=>xD x (hT x q)) u2 (fun x q=>by rw[q.2];exact ty2 q.1)
  have xL:∀x,Blk ⟨ra,rg,rc,b',h',d',n⟩ x->Blk ⟨ra,rg,rc,rb,rh,rd,rs⟩ x∨W.heap.size<=x:=fun x q=>by
   rcases q with q|⟨q1,q2⟩
   ·exact .inl (.inl q)
   ·simp only at q1 q2
    rcases loc with ⟨l1,l2⟩|l
    ·exact .inl (.inr ⟨by rw[<-l1,q1,l2],by rw[q2,l2]⟩)
    ·exact .inr (by omega)
  have xF:Rw w2 ra rg rc f0.now:=xA.now.same fun e=>u2.block rg (xA.now.ty e).lt (fun q=>xA.ap e q.1 q.2)
  have xE:Fil w2 ⟨f0.now,f0.now⟩ ⟨ra,rg,rc,b',h',d',n⟩:=by
   refine⟨xF,rw2,by simp only;omega,by simp only;omega,rfl,fun e1 e2=> ?_,xA.b1,xA.b1⟩
   simp only at e1 e2 ⊢
   rcases loc with ⟨l1,l2⟩|l
   ·rw[l2];exact xA.ap e1 (by rw[<-l1,e2,l2])
   ·have:=(xA.now.ty e1).lt;simp only at this;omega
  have hc:=Uv w2 p m R ka2 kb ko kc2 D2 s ⟨f0.now,f0.now⟩ ⟨ra,rg,rc,b',h',d',n⟩ xO xE hs (QbW hD2 hr xL) hcnt (by rw[xG];omega) (by rw[xG];simp only;omega)
  simp only[Uc,hn] at hc;refine hc.mono fun e w3 q=>⟨q.1,Qgm hD2 hr hT u2 xL q.2.1 q.2.2,q.2.2,q.2.1.cells.2.1⟩
 have ne:∀ {b:Nat} {cs:Array Value} {T:TypeId},W.heap[b]? = some (.cells cs T (0,0))->T≠5->(¬(rb=Zp rh∧b=rh))∧b≠m:=fun {b cs T} hb h1=>
  ⟨fun q=>(Ty.ne ⟨_,_,hb⟩ (xA.syn.ty q.1) h1) q.2,Ty.mv ⟨_,_,hb⟩ hD2.mp⟩
 have xB:∀ {b:Nat} {cs:Array Value} {T:TypeId} (Z Z':World),W.heap[b]? = some (.cells cs T (0,0))->T≠5->T≠98->Upo (fun b=>rb=Zp rh∧b=rh) W Z->Upo (fun x=>x=p∨x=m) Z Z'->Z'.heap[b]? = some (.cells cs T (0,0)):=fun {b cs T} Z Z' hb h1 h2 hu hu'=>by
  obtain⟨n1,n3⟩:=ne hb h1;have n2:b≠p:=Ty.ne ⟨_,_,hb⟩ ⟨_,_,hD2.blk⟩ h2;have xN:=(Array.getElem?_eq_some_iff.1 hb).1
  exact(hu'.block b (by have:=hu.size;omega) (fun q=>q.elim n2 n3)).trans ((hu.block b xN n1).trans hb)
 have xC:Hid (∀Z Z',Upo (fun b=>rb=Zp rh∧b=rh) W Z->Upo (fun x=>x=p∨x=m) Z Z'->Z'.cell? ⟨bd,0,none⟩=some (Pq p)∧Z'.cell? ⟨bn,0,none⟩=some (.string s)):=fun Z Z' hu hu'=>
  ⟨Bx1.at (xB Z Z' y1 (by decide) (by decide) hu hu'),Bx1.at (xB Z Z' y2 (by decide) (by decide) hu hu')⟩
 have xK:Hid (∀Z,Upo (fun b=>rb=Zp rh∧b=rh) W Z->Z.cell? ⟨p,1,none⟩=some (.map (some m))):=fun Z hu=>by
  have e:=(hu.block p (Array.getElem?_eq_some_iff.1 hD2.blk).1 (ne hD2.blk (by decide)).1).trans hD2.blk
  rw[cell_of_row Z p 1 _ _ (0,0) e];rfl
 obtain⟨c1,c2⟩:=xC.out W W (Upo.refl _ _) (Upo.refl _ _);have c3:=xK.out W (Upo.refl _ _);have xM:Calls prog 101 #[.agg #[.slice ra n rc,.slice rb n2 rd,.int .i64 rs]] W.drew fun e w'=> ∃b' h' d',e= .returned (fv ra n rc b' n d' n)∧Rw w' b' h' d' f0.now∧Upo (fun x=>rb=Zp rh∧x=rh) W w'∧((b'=rb∧h'=rh)∨(W.heap.size<=h'∧h'<w'.heap.size))∧(rb=Zp rh->Ty w' rh 5):=by
  have q:=Qc3 W.drew ra rg n rc f0.now rb rh n2 rd rs f0.syn (xA.now.same (W:=W.drew) fun _=>rfl) (xA.syn.same (W:=W.drew) fun _=>rfl) hn xI (by omega) (by omega) xA.sm (by omega)
  exact q.mono fun e w' q=>by
   obtain⟨b',h',d',q1,q2,q3,q4⟩:=q;exact⟨b',h',d',q1,q2,⟨q3.os,q3.tape,q3.output,q3.size,q3.block⟩,q4⟩
 have xP:=hl W.drew rfl;clear x1 x2 y1 y2 xA xD hr hn xI hfr hcnt xG hD2 hW h xJ ne xB hs b1 s1 s2 hl
 go_enter func250,ntmps250
 go_upto_region 0 with (fail)
 go_region_held3 (fun Z=>Z.cell? ⟨bd,0,none⟩=some (Pq p)∧Z.cell? ⟨bn,0,none⟩=some (.string s)∧Z.cell? ⟨p,1,none⟩=some (.map (some m))) (first|assumption|(exact⟨c1,c2,c3⟩)|(exact⟨(xC.out _ _ u2 (Upo.refl _ _)).1,(xC.out _ _ u2 (Upo.refl _ _)).2,xK.out _ u2⟩)|(exact⟨(xC.out _ _ u2 u3).1,(xC.out _ _ u2 u3).2,cm3⟩)) (first
  | (go_at_call 101;(with_reducible refine xM.mono ?_);rintro e w2 ⟨b',h',d',rfl,rw2,u2,loc,ty2⟩)
  | (go_at_call 248;(with_reducible refine(HP.out w2 b' h' d' rw2 u2 loc ty2).mono ?_);rintro e w3 ⟨rfl,xH,u3,cm3⟩))
 go_wp2
 go_end0
 exact⟨rfl,xH⟩
end
theorem YT{w:World}{i:Nat}(o:Obj)(h:i<w.heap.size):(w.alloc o).heap[i]? = w.heap[i]? := (MapKept.heap_alloc w o).2 i h
theorem QbI{w:World}{n:Nat}(o:Obj)(h:w.heap.size=n):(w.alloc o).heap[n]? = some o:=by rw[<-h];exact Yc w o
theorem Y6(w:World)(o:Obj):(w.alloc o).heap.size=w.heap.size+1:=by simp
theorem Qmx(w:World)(o1 o2 o3 o4:Obj):((((w.alloc o1).alloc o2).alloc o3).alloc o4).heap[w.heap.size]? = some o1∧((((w.alloc o1).alloc o2).alloc o3).alloc o4).heap[w.heap.size+1]? = some o2∧((((w.alloc o1).alloc o2).alloc o3).alloc o4).heap[w.heap.size+2]? = some o3∧((((w.alloc o1).alloc o2).alloc o3).alloc o4).heap[w.heap.size+3]? = some o4:=by
 have s1:=Y6 w o1;have s2:=Y6 (w.alloc o1) o2;have s3:=Y6 ((w.alloc o1).alloc o2) o3;refine⟨?_,?_,?_,QbI _ (by omega)⟩
 ·rw[YT _ (by omega),YT _ (by omega),YT _ (by omega)];exact Yc w o1
 ·rw[YT _ (by omega),YT _ (by omega)];exact QbI _ (by omega)
 ·rw[YT _ (by omega)];exact QbI _ (by omega)
def Left(w w':World)(p m:Nat)(R:List UInt8->FR)(kb ko:Nat)(D D':DV):Prop :=
 ∃m' R' ka' kc',Dk w' p m' R' ka' kb ko kc' D' none∧(∀x,YC p m' R' kb D' x->YC p m R kb D x∨w.heap.size<=x)∧Upo (YC p m R kb D) w w'
def wrD(D:DV)(s:List UInt8)(off:Int)(t:List UInt8):DV×Int :=
 if D.down then (D,170) else
 if off<0∨((Qe D.L s).now.length:Int)<off∨268435456-off<(t.length:Int) then (D,173) else
 if (D.free:Int)<off+(t.length:Int)-((Qe D.L s).now.length:Int) then (D,172) else
 Yw D s ⟨wr (Qe D.L s).now off.toNat t,(Qe D.L s).syn⟩
theorem Left.drew{w w':World}{p m:Nat}{kb ko:Nat}{D D':DV}(h:Left w w' p m R kb ko D D'):Left w w'.drew p m R kb ko D D':=by
 obtain⟨m',R',xA,xB,h1,h2,h3⟩:=h;exact⟨m',R',xA,xB,h1.same (fun _ _=>rfl),h2,h3.drew⟩
section
variable {p m:Nat} {R:List UInt8->FR} {ka:OA} {kb ko kc:Nat} {D:DV}
theorem QaV{w w':World}(h:Dk w p m R ka kb ko kc D none)(hb:Bl w w'):Left w w' p m R kb ko D D:=⟨m,R,ka,kc,h.next hb,fun _ hx=> .inl hx,Upo.of hb⟩
theorem QaU{w w1 w':World}{D':DV}(hb:Bl w w1)(hl:∃m' R' ka' kc',Dk w' p m' R' ka' kb ko kc' D' none∧(∀x,YC p m' R' kb D' x->YC p m R kb D x∨w1.heap.size<=x)∧Upo (YC p m R kb D) w1 w'):Left w w' p m R kb ko D D':=by
 obtain⟨m',R',ka',kc',h1,h2,h3⟩:=hl;exact⟨m',R',ka',kc',h1,fun x hx=>(h2 x hx).imp id (fun q=>Lr hb.size q),(Upo.of hb).trans h3 (fun _ _ q=>q)⟩
theorem Qbc(w:World)(h:Dk w p m R ka kb ko kc D none)(s t:BA)(hs:s.size<=maxLen)(off:Int)(ho1 : -9223372036854775808<=off)(ho2:off<=9223372036854775807)(ht:t.size<=140737488355328)(hac:D.acts+1<=4611686018427387904)(hcnt:D.L.length<1099511627776)(hfr:D.down=false->D.free+(Qe D.L s.data.toList).now.length<=9223372036854775807) :
  Calls prog 268 #[Pq p,.string s,.int .i64 off,.string t] w fun e w'=>e= .returned (.int .i64 (wrD D s.data.toList off t.data.toList).2)∧Left w w' p m R kb ko D (wrD D s.data.toList off t.data.toList).1:=by
 obtain⟨r,hl,hr⟩:=h.look s hs;obtain⟨xG,_⟩:=h.file hr;have xT:=xG.b1;obtain⟨f0,xD⟩:=Ze (Qe D.L s.data.toList);rw[xD] at hl xT hfr;obtain⟨n,hn⟩:=Ze f0.now.length;obtain⟨n2,xE⟩:=Ze f0.syn.length;simp only[Uc,fv,hn,xE] at hl;have xA:wrD D s.data.toList off t.data.toList=if D.down then (D,170) else if off<0∨(n:Int)<off∨268435456-off<(t.size:Int) then (D,173) else if (D.free:Int)<off+(t.size:Int)-(n:Int) then (D,172) else Yw D s.data.toList ⟨wr f0.now off.toNat t.data.toList,f0.syn⟩:=by
  simp only[wrD,xD,hn,Qb]
 obtain⟨w4,xH⟩:=Ze ((((w.alloc (.cells #[Pq p] 25)).alloc (.cells #[.string s] 9)).alloc (.cells #[.int .i64 off] 3)).alloc (.cells #[.string t] 9));have xC:Bl w w4:=by rw[<-xH];exact bal (bal (bal (bal (Lb _ _) _) _) _) _
 have xI:w4.heap.size=w.heap.size+4:=by rw[<-xH];simp
 have xU:=Qmx w (.cells #[Pq p] 25) (.cells #[.string s] 9) (.cells #[.int .i64 off] 3) (.cells #[.string t] 9);rw[xH] at xU;obtain⟨n1,xP,n3,n4⟩:=xU;have yC:=r;obtain⟨ra,rg,rc,rb,rh,rd,rs⟩:=r;simp only at hl;obtain⟨w5,xO⟩:=Ze (w4.alloc (.cells #[.slice ra n rc,.slice rb n2 rd,.int .i64 rs] 129));have h4:=h.next xC;obtain⟨c0,c1,c2,c3,c4,c5,c6⟩:=h4.cells;have a1:=Bx1.at n1;have a2:=Bx1.at xP;have xY:=hl w4.drew (xC.block m h.mp.lt);have xZ:=hl (w4.alloc (.cells #[.slice none 0 0,.slice none 0 0,.int .i64 0] 129)).drew ((YT _ h4.mp.lt).trans (xC.block m h.mp.lt));have xB:Bl w4 w5:=by rw[<-xO];exact bal (Lb _ _) _
 have HG:Hid (Dk w p m R ka kb ko kc D none∧Bl w w4∧Bl w4 w5∧w4.heap.size=w.heap.size+4∧n<=268435456∧(D.down=false->D.free+n<=9223372036854775807)∧t.size<=140737488355328∧D.acts+1<=4611686018427387904∧D.L.length<1099511627776∧Qe D.L s.data.toList=f0∧f0.now.length=n∧f0.syn.length=n2):=⟨h,xC,xB,xI,by omega,fun q=>by have:=hfr q;omega,ht,hac,hcnt,xD,hn,xE⟩
 have xR:=Qc xA;have yB:¬(p=w4.heap.size):=by have:=h.lt (.inl rfl);omega
 have a0:∀i j v,i<w4.heap.size->w4.cell? ⟨i,j,none⟩=some v->(w4.alloc (.cells #[.slice none 0 0,.slice none 0 0,.int .i64 0] 129)).cell? ⟨i,j,none⟩=some v:=fun i j v hi hv=>by
  unfold World.cell? at hv ⊢;rw[YT _ hi];exact hv
 have a3:=a0 _ _ _ (by omega) a1
 have a4:=a0 _ _ _ (by omega) a2
 have a5:=a0 _ _ _ (h4.lt (.inl rfl)) c1;clear a0;have xQ:Hid ((((w.alloc (.cells #[Pq p] 25)).alloc (.cells #[.string s] 9)).alloc (.cells #[.int .i64 off] 3)).alloc (.cells #[.string t] 9)=w4):=xH;have xM:Hid (w4.alloc (.cells #[.slice ra n rc,.slice rb n2 rd,.int .i64 rs] 129)=w5):=xO;have HN:Hid (Bx1 w4 w.heap.size (Pq p) 25∧Bx1 w4 (w.heap.size+1) (.string s) 9∧Bx1 w4 (w.heap.size+2) (.int .i64 off) 3∧Bx1 w4 (w.heap.size+3) (.string t) 9∧((s.data.toList∈Qg D.L∧(⟨ra,rg,rc,rb,rh,rd,rs⟩:FR)=R s.data.toList)∨(s.data.toList ∉ Qg D.L∧(⟨ra,rg,rc,rb,rh,rd,rs⟩:FR)=fr0∧Qe D.L s.data.toList=fz))):=⟨n1,xP,n3,n4,hr⟩;clear h xC xI xB hn xE xD hfr hac hcnt ht xT xG xA hr n1 xP n3 n4 h4 c0 c2 c3 c4 c5 c6 xH xO hl yC
 go_enter func268,ntmps268
 go_upto_region 1 with (fail)
 rw[show(w.heap.size+1+1:Nat)=w.heap.size+2 from rfl,xQ.out]
 go_region
 all_goals
  rw[xM.out];obtain⟨w6,xK⟩:=Ze w5.drew;rw[xK];obtain⟨h,xC,xB,xI,yA,hfr,ht,hac,hcnt,xD,hn,xE⟩:=HG.out;obtain⟨x1,x2,x4,x5,hr⟩:=HN.out;have xF:Bl w4 w6:=by rw[<-xK];exact⟨xB.os,xB.tape,xB.output,xB.size,xB.block⟩
  have x3:w6.heap[w4.heap.size]? = some (.cells #[.slice ra n rc,.slice rb n2 rd,.int .i64 rs] 129 (0,0)):=by rw[<-xK,<-xM.out];exact Yc w4 _
  have y1:Bx1 w6 w.heap.size _ _:=(xF.block _ (by omega)).trans x1
  have y2:Bx1 w6 (w.heap.size+1) _ _:=(xF.block _ (by omega)).trans x2
  have y4:Bx1 w6 (w.heap.size+2) _ _:=(xF.block _ (by omega)).trans x4
  have y5:Bx1 w6 (w.heap.size+3) _ _:=(xF.block _ (by omega)).trans x5
  have xJ:=Qa xC xF;have h6:=h.next xJ;obtain⟨c0,xW,c2,c3,c4,c5,c6⟩:=h6.cells;obtain⟨b0,b1,b2⟩:=Qp x3;have z1:=y1.at;have z2:=y2.at;have z4:=y4.at;have z5:=y5.at;have xA:=xR.out;have HS:Hid (Left w w6 p m R kb ko D D):=QaV h xJ;have HQ:Hid (Dk w6 p m R ka kb ko kc D none∧Bl w w6∧Bx1 w6 w.heap.size (Pq p) 25∧Bx1 w6 (w.heap.size+1) (.string s) 9∧Bx1 w6 (w.heap.size+2) (.int .i64 off) 3∧Bx1 w6 (w.heap.size+3) (.string t) 9∧w6.heap[w4.heap.size]? = some (.cells #[.slice ra n rc,.slice rb n2 rd,.int .i64 rs] 129 (0,0))):=⟨h6,xJ,y1,y2,y4,y5,x3⟩;clear xK h xC xB xI xD hn xE x1 x2 x4 x5 hr xF x3 y1 y2 y4 y5 xJ h6 xW c2 c3 c4 c5 b1 b2 a1 a2 a3 a4 a5 c1 xY xZ yB xM xQ xR hac hcnt
  by_cases hd:D.down=true
  ·rw[Lf hd] at xA;have HE:=Qc xA;clear xA;rw[hd] at c6;go_wp2
   go_ret
   rw[HE.out];exact⟨rfl,HS.out⟩
  rw[Le hd] at xA;have xN:D.down=false:=by simpa using hd
  rw[xN] at c6;have xV:=Qc xN;clear hd xN
  by_cases hc:off<0∨(n:Int)<off∨268435456-off<(t.size:Int)
  ·rw[Lf hc] at xA;have HE:=Qc xA;clear xA
   by_cases k1:off<0
   ·clear hc;go_wp2
    go_ret
    rw[HE.out];exact⟨rfl,HS.out⟩
   by_cases k2:(n:Int)<off
   ·clear hc;go_wp2
    go_ret
    rw[HE.out];exact⟨rfl,HS.out⟩
   have k3:268435456-off<(t.size:Int):=by omega
   have e1:IntKind.i64.wrap (268435456-off)=268435456-off:=by rw[Lq];omega
   clear hc;go_wp2
   go_ret
   rw[HE.out];exact⟨rfl,HS.out⟩
  rw[Le hc] at xA;have k1:¬off<0:=fun e=>hc (.inl e)
  have k2:¬(n:Int)<off:=fun e=>hc (.inr (.inl e))
  have k3:¬268435456-off<(t.size:Int):=fun e=>hc (.inr (.inr e))
  obtain⟨k,rfl⟩:∃k:Nat,off=(k:Int):=⟨off.toNat,by omega⟩
  have e1:IntKind.i64.wrap (268435456-(k:Int))=268435456-(k:Int):=by rw[Lq];omega
  have e2:IntKind.i64.wrap ((k:Int)+(t.size:Int))=(k:Int)+(t.size:Int):=by rw[Lq];omega
  have e3:IntKind.i64.wrap ((k:Int)+(t.size:Int)-(n:Int))=(k:Int)+(t.size:Int)-(n:Int):=by rw[Lq];omega
  go_upto_region 6 with (fail)
  by_cases hm:(D.free:Int)<(k:Int)+(t.size:Int)-(n:Int)
  ·rw[Lf hm] at xA;have HE:=Qc xA;clear xA
   go_region
   go_wp2
   go_ret
   rw[HE.out];exact⟨rfl,(HS.out.drew)⟩
  rw[Le hm] at xA;have HE:=Qc xA;have xL:Hid (Calls prog 246 #[Pq p,.func (.func 343) #[] #[Pq w.heap.size,.pointer (some ⟨w.heap.size+1,0,none⟩),Pq w4.heap.size,.pointer (some ⟨w.heap.size+2,0,none⟩),.pointer (some ⟨w.heap.size+3,0,none⟩)]] w6.drew fun e w'=>e= .returned (.int .i64 (wrD D s.data.toList (k:Int) t.data.toList).2)∧Left w w' p m R kb ko D (wrD D s.data.toList (k:Int) t.data.toList).1):=by
   obtain⟨h,xC,xB,xI,yA,hfr,ht,hac,hcnt,xD,hn,xE⟩:=HG.out;obtain⟨x1,x2,x4,x5,hr⟩:=HN.out;have hfr:=hfr xV.out;obtain⟨q1,q2,q3,q4,q5,q6,q7⟩:=HQ.out;have hf:Qe D.L s.data.toList=f0:=xD;have xX:Bl w w6.drew:=⟨q2.os,q2.tape,q2.output,q2.size,q2.block⟩;have xS:Dk w6.drew p m R ka kb ko kc D none:=q1.same (fun _ _=>rfl)
   have HD:=Qko w6.drew xS s t hs k (by rw[hf,hn];omega) (by omega) ⟨ra,rg,rc,rb,rh,rd,rs⟩ hr hcnt (by rw[hf,hn];omega) (by rw[hf,hn];omega) w.heap.size (w.heap.size+1) w4.heap.size (w.heap.size+2) (w.heap.size+3) q3 q4 (by rw[hf,hn,xE];exact q7) q5 q6
   have HZ:=QdA w6.drew xS hac _ _ _ _ HD (.inl rfl);rw[hf] at HZ;refine HZ.mono ?_
   rintro e w' ⟨m',R',yD,yE,rfl,hl⟩;rw[HE.out,LP];exact⟨rfl,QaU xX ⟨m',R',yD,yE,hl⟩⟩
  clear HE xA HS HQ HG HN
  go_region
  go_wp2_with (go_at_call 246;(with_reducible refine xL.out.mono ?_);rintro e w7 ⟨rfl,hl⟩)
  go_ret
  exact⟨rfl,hl⟩
end
theorem QjK(w:World)(o1 o2 o3:Obj):(((w.alloc o1).alloc o2).alloc o3).heap[w.heap.size]? = some o1∧(((w.alloc o1).alloc o2).alloc o3).heap[w.heap.size+1]? = some o2∧(((w.alloc o1).alloc o2).alloc o3).heap[w.heap.size+2]? = some o3:=by
 have s1:=Y6 w o1;have s2:=Y6 (w.alloc o1) o2;refine⟨?_,?_,QbI _ (by omega)⟩
 ·rw[YT _ (by omega),YT _ (by omega)];exact Yc w o1
 ·rw[YT _ (by omega)];exact QbI _ (by omega)
def Jq(D:DV)(s:List UInt8)(off:Int):DV×Int :=
 if D.down then (D,170) else
 if off<0∨((Qe D.L s).now.length:Int)<off then (D,173) else
 Yw D s ⟨(Qe D.L s).now.take off.toNat,(Qe D.L s).syn⟩
def QP(D:DV)(s:List UInt8):DV×Int:=if D.down then (D,170) else Yw D s ⟨(Qe D.L s).now,(Qe D.L s).now⟩
section
variable {p m:Nat} {R:List UInt8->FR} {ka:OA} {kb ko kc:Nat} {D:DV}
theorem QmO(w:World)(h:Dk w p m R ka kb ko kc D none)(s:BA)(hs:s.size<=maxLen)(off:Int)(ho1 : -9223372036854775808<=off)(ho2:off<=9223372036854775807)(hac:D.acts+1<=4611686018427387904)(hcnt:D.L.length<1099511627776)(hfr:D.down=false->D.free+(Qe D.L s.data.toList).now.length<=9223372036854775807) :
  Calls prog 156 #[Pq p,.string s,.int .i64 off] w fun e w'=>e= .returned (.int .i64 (Jq D s.data.toList off).2)∧Left w w' p m R kb ko D (Jq D s.data.toList off).1:=by
 obtain⟨r,hl,hr⟩:=h.look s hs;obtain⟨xG,_⟩:=h.file hr;have xS:=xG.b1;obtain⟨f0,xD⟩:=Ze (Qe D.L s.data.toList);rw[xD] at hl xS hfr;obtain⟨n,hn⟩:=Ze f0.now.length;obtain⟨n2,xE⟩:=Ze f0.syn.length;simp only[Uc,fv,hn,xE] at hl;have xA:Jq D s.data.toList off=if D.down then (D,170) else if off<0∨(n:Int)<off then (D,173) else Yw D s.data.toList ⟨f0.now.take off.toNat,f0.syn⟩:=by
  simp only[Jq,xD,hn]
 obtain⟨w4,xH⟩:=Ze (((w.alloc (.cells #[Pq p] 25)).alloc (.cells #[.string s] 9)).alloc (.cells #[.int .i64 off] 3));have xC:Bl w w4:=by rw[<-xH];exact bal (bal (bal (Lb _ _) _) _) _
 have xI:w4.heap.size=w.heap.size+3:=by rw[<-xH];simp
 have xT:=QjK w (.cells #[Pq p] 25) (.cells #[.string s] 9) (.cells #[.int .i64 off] 3);rw[xH] at xT;obtain⟨n1,xP,n3⟩:=xT;have yA:=r;obtain⟨ra,rg,rc,rb,rh,rd,rs⟩:=r;simp only at hl;obtain⟨w5,xO⟩:=Ze (w4.alloc (.cells #[.slice ra n rc,.slice rb n2 rd,.int .i64 rs] 129));have h4:=h.next xC;obtain⟨c0,c1,c2,c3,c4,c5,c6⟩:=h4.cells;have a1:=Bx1.at n1;have a2:=Bx1.at xP;have xW:=hl w4.drew (xC.block m h.mp.lt);have xX:=hl (w4.alloc (.cells #[.slice none 0 0,.slice none 0 0,.int .i64 0] 129)).drew ((YT _ h4.mp.lt).trans (xC.block m h.mp.lt));have xB:Bl w4 w5:=by rw[<-xO];exact bal (Lb _ _) _
 have HG:Hid (Dk w p m R ka kb ko kc D none∧Bl w w4∧Bl w4 w5∧w4.heap.size=w.heap.size+3∧n<=268435456∧(D.down=false->D.free+n<=9223372036854775807)∧D.acts+1<=4611686018427387904∧D.L.length<1099511627776∧Qe D.L s.data.toList=f0∧f0.now.length=n∧f0.syn.length=n2):=⟨h,xC,xB,xI,by omega,fun q=>by have:=hfr q;omega,hac,hcnt,xD,hn,xE⟩
 have xR:=Qc xA;have xZ:¬(p=w4.heap.size):=by have:=h.lt (.inl rfl);omega
 have a0:∀i j v,i<w4.heap.size->w4.cell? ⟨i,j,none⟩=some v->(w4.alloc (.cells #[.slice none 0 0,.slice none 0 0,.int .i64 0] 129)).cell? ⟨i,j,none⟩=some v:=fun i j v hi hv=>by
  unfold World.cell? at hv ⊢;rw[YT _ hi];exact hv
 have a3:=a0 _ _ _ (by omega) a1
 have a4:=a0 _ _ _ (by omega) a2
 have a5:=a0 _ _ _ (h4.lt (.inl rfl)) c1;clear a0;have xQ:Hid (((w.alloc (.cells #[Pq p] 25)).alloc (.cells #[.string s] 9)).alloc (.cells #[.int .i64 off] 3)=w4):=xH;have xM:Hid (w4.alloc (.cells #[.slice ra n rc,.slice rb n2 rd,.int .i64 rs] 129)=w5):=xO;have HN:Hid (Bx1 w4 w.heap.size (Pq p) 25∧Bx1 w4 (w.heap.size+1) (.string s) 9∧Bx1 w4 (w.heap.size+2) (.int .i64 off) 3∧((s.data.toList∈Qg D.L∧(⟨ra,rg,rc,rb,rh,rd,rs⟩:FR)=R s.data.toList)∨(s.data.toList ∉ Qg D.L∧(⟨ra,rg,rc,rb,rh,rd,rs⟩:FR)=fr0∧Qe D.L s.data.toList=fz))):=⟨n1,xP,n3,hr⟩;clear h xC xI xB hn xE xD hfr hac hcnt xS xG xA hr n1 xP n3 h4 c0 c2 c3 c4 c5 c6 xH xO hl yA
 go_enter func156,ntmps156
 go_upto_region 1 with (fail)
 rw[show(w.heap.size+1+1:Nat)=w.heap.size+2 from rfl,xQ.out]
 go_region
 all_goals
  rw[xM.out];obtain⟨w6,xK⟩:=Ze w5.drew;rw[xK];obtain⟨h,xC,xB,xI,xY,hfr,hac,hcnt,xD,hn,xE⟩:=HG.out;obtain⟨x1,x2,x4,hr⟩:=HN.out;have xF:Bl w4 w6:=by rw[<-xK];exact⟨xB.os,xB.tape,xB.output,xB.size,xB.block⟩
  have x3:w6.heap[w4.heap.size]? = some (.cells #[.slice ra n rc,.slice rb n2 rd,.int .i64 rs] 129 (0,0)):=by rw[<-xK,<-xM.out];exact Yc w4 _
  have y1:Bx1 w6 w.heap.size _ _:=(xF.block _ (by omega)).trans x1
  have y2:Bx1 w6 (w.heap.size+1) _ _:=(xF.block _ (by omega)).trans x2
  have y4:Bx1 w6 (w.heap.size+2) _ _:=(xF.block _ (by omega)).trans x4
  have xJ:=Qa xC xF;have h6:=h.next xJ;obtain⟨c0,xV,c2,c3,c4,c5,c6⟩:=h6.cells;obtain⟨b0,b1,b2⟩:=Qp x3;have z1:=y1.at;have z2:=y2.at;have z4:=y4.at;have xA:=xR.out;have HS:Hid (Left w w6 p m R kb ko D D):=QaV h xJ;have HQ:Hid (Dk w6 p m R ka kb ko kc D none∧Bl w w6∧Bx1 w6 w.heap.size (Pq p) 25∧Bx1 w6 (w.heap.size+1) (.string s) 9∧Bx1 w6 (w.heap.size+2) (.int .i64 off) 3∧w6.heap[w4.heap.size]? = some (.cells #[.slice ra n rc,.slice rb n2 rd,.int .i64 rs] 129 (0,0))):=⟨h6,xJ,y1,y2,y4,x3⟩;clear xK h xC xB xI xD hn xE x1 x2 x4 hr xF x3 y1 y2 y4 xJ h6 xV c2 c3 c4 c5 b1 b2 a1 a2 a3 a4 a5 c1 xW xX xZ xM xQ xR hac hcnt
  by_cases hd:D.down=true
  ·rw[Lf hd] at xA;have HE:=Qc xA;clear xA;rw[hd] at c6;go_wp2
   go_ret
   rw[HE.out];exact⟨rfl,HS.out⟩
  rw[Le hd] at xA;have xN:D.down=false:=by simpa using hd
  rw[xN] at c6;have xU:=Qc xN;clear hd xN
  by_cases hc:off<0∨(n:Int)<off
  ·rw[Lf hc] at xA;have HE:=Qc xA;clear xA
   by_cases k1:off<0
   ·clear hc;go_wp2
    go_ret
    rw[HE.out];exact⟨rfl,HS.out⟩
   have k2:(n:Int)<off:=by omega
   clear hc;go_wp2
   go_ret
   rw[HE.out];exact⟨rfl,HS.out⟩
  rw[Le hc] at xA;have k1:¬off<0:=fun e=>hc (.inl e)
  have k2:¬(n:Int)<off:=fun e=>hc (.inr e)
  obtain⟨k,rfl⟩:∃k:Nat,off=(k:Int):=⟨off.toNat,by omega⟩
  have HE:=Qc xA;have xL:Hid (Calls prog 246 #[Pq p,.func (.func 247) #[] #[Pq w.heap.size,.pointer (some ⟨w.heap.size+1,0,none⟩),Pq w4.heap.size,.pointer (some ⟨w.heap.size+2,0,none⟩)]] w6 fun e w'=>e= .returned (.int .i64 (Jq D s.data.toList (k:Int)).2)∧Left w w' p m R kb ko D (Jq D s.data.toList (k:Int)).1):=by
   obtain⟨h,xC,xB,xI,xY,hfr,hac,hcnt,xD,hn,xE⟩:=HG.out;obtain⟨x1,x2,x4,hr⟩:=HN.out;have hfr:=hfr xU.out;obtain⟨q1,q2,q3,q4,q5,q7⟩:=HQ.out;have hf:Qe D.L s.data.toList=f0:=xD;have HD:=Qpn w6 q1 s hs k (by rw[hf,hn];omega) ⟨ra,rg,rc,rb,rh,rd,rs⟩ hr hcnt (by rw[hf,hn];omega) w.heap.size (w.heap.size+1) w4.heap.size (w.heap.size+2) q3 q4 (by rw[hf,hn,xE];exact q7) q5
   have HZ:=QdA w6 q1 hac _ _ _ _ HD (.inr (.inl rfl));rw[hf] at HZ;refine HZ.mono ?_
   rintro e w' ⟨m',R',yB,yC,rfl,hl⟩;rw[HE.out,LP];exact⟨rfl,QaU q2 ⟨m',R',yB,yC,hl⟩⟩
  clear HE xA HS HQ HG HN
  go_wp2_with (go_at_call 246;(with_reducible refine xL.out.mono ?_);rintro e w7 ⟨rfl,hl⟩)
  go_ret
  exact⟨rfl,hl⟩
theorem Ql4(w:World)(h:Dk w p m R ka kb ko kc D none)(s:BA)(hs:s.size<=maxLen)(hac:D.acts+1<=4611686018427387904)(hcnt:D.L.length<1099511627776)(hfr:D.down=false->D.free+(Qe D.L s.data.toList).now.length<=9223372036854775807) :
  Calls prog 157 #[Pq p,.string s] w fun e w'=>e= .returned (.int .i64 (QP D s.data.toList).2)∧Left w w' p m R kb ko D (QP D s.data.toList).1:=by
 obtain⟨w4,xB⟩:=Ze ((w.alloc (.cells #[Pq p] 25)).alloc (.cells #[.string s] 9));have xG:Hid ((w.alloc (.cells #[Pq p] 25)).alloc (.cells #[.string s] 9)=w4):=xB;have xC:Bl w w4:=by rw[<-xB];exact bal (bal (Lb _ _) _) _
 have x1:Bx1 w4 w.heap.size (Pq p) 25:=by rw[<-xB];exact new0 _ _ _
 have x2:Bx1 w4 (w.heap.size+1) (.string s) 9:=by rw[<-xB];exact new2 _ _ _
 have h4:=h.next xC;have HS:Hid (Left w w4 p m R kb ko D D):=QaV h xC;obtain⟨_,_,_,_,_,_,c6⟩:=h4.cells;have z1:=x1.at;have z2:=x2.at;have xF:QP D s.data.toList=if D.down then (D,170) else Yw D s.data.toList ⟨(Qe D.L s.data.toList).now,(Qe D.L s.data.toList).now⟩:=rfl
 have xA:Hid (D.down=false->Calls prog 246 #[Pq p,.func (.func 250) #[] #[Pq w.heap.size,.pointer (some ⟨w.heap.size+1,0,none⟩)]] w4 fun e w'=>e= .returned (.int .i64 (QP D s.data.toList).2)∧Left w w' p m R kb ko D (QP D s.data.toList).1):=fun hd=>by
  refine(QdA w4 h4 hac _ _ _ _ (QmV w4 h4 s hs hcnt (hfr hd) w.heap.size (w.heap.size+1) x1 x2) (.inr (.inr rfl))).mono ?_
  rintro e w' ⟨m',R',xI,xJ,rfl,hl⟩;rw[xF,Le (by simp[hd])]
  exact⟨rfl,QaU xC ⟨m',R',xI,xJ,hl⟩⟩
 have xD:=Qc xF;clear h xC h4 x1 x2 xB hac hcnt hfr xF
 by_cases hd:D.down=true
 ·rw[hd] at c6;have HE:Hid (QP D s.data.toList=(D,170)):=by show _=_;rw[xD.out,Lf hd]
  clear hd xD xA
  go_enter func157,ntmps157
  go_upto_region 1 with (fail)
  rw[xG.out];go_wp2
  go_ret
  rw[HE.out];exact⟨rfl,HS.out⟩
 ·have xE:D.down=false:=by simpa using hd
  have xH:=Qc (xA.out xE);rw[xE] at c6;clear hd xE xD xA HS
  go_enter func157,ntmps157
  go_upto_region 1 with (fail)
  rw[xG.out]
  go_wp2_with (go_at_call 246;(with_reducible refine xH.out.mono ?_);rintro e w7 ⟨rfl,hl⟩)
  go_ret
  exact⟨rfl,hl⟩
end
def rdD(D:DV)(s:List UInt8)(off n:Int):List UInt8×Int :=
 if D.down then ([],170) else
 if off<0∨n<0∨((Qe D.L s).now.length:Int)<off∨((Qe D.L s).now.length:Int)-off<n then ([],173) else
 (((Qe D.L s).now.drop off.toNat).take n.toNat,0)
section
variable {p m:Nat} {R:List UInt8->FR} {ka:OA} {kb ko kc:Nat} {D:DV}
theorem QlA(w:World)(h:Dk w p m R ka kb ko kc D none)(s:BA)(hs:s.size<=maxLen)(off q:Int)(ho1 : -9223372036854775808<=off)(ho2:off<=9223372036854775807)(hq1 : -9223372036854775808<=q)(hq2:q<=9223372036854775807) :
  Zr 152 #[Pq p,.string s,.int .i64 off,.int .i64 q] w (.tuple #[.string ⟨(rdD D s.data.toList off q).1.toArray⟩,.int .i64 (rdD D s.data.toList off q).2]):=by
 obtain⟨c0,c1,c2,c3,c4,c5,c6⟩:=h.cells;obtain⟨r,hl,hr⟩:=h.look s hs;have xF:=hl w rfl;obtain⟨xC,_⟩:=h.file hr;have xG:=xC.b1;have xA:=xC.now;have xK:=QdO;obtain⟨f0,xE⟩:=Ze (Qe D.L s.data.toList);rw[xE] at xF xG xA;obtain⟨n,hn⟩:=Ze f0.now.length;obtain⟨n2,xI⟩:=Ze f0.syn.length;simp only[Uc,fv,hn,xI] at xF;have xB:rdD D s.data.toList off q=if D.down then ([],170) else if off<0∨q<0∨(n:Int)<off∨(n:Int)-off<q then ([],173) else ((f0.now.drop off.toNat).take q.toNat,0):=by
  simp only[rdD,xE,hn]
 obtain⟨ra,rg,rc,rb,rh,rd,rs⟩:=r;simp only at xF xA;obtain⟨w1,xD⟩:=Ze (w.alloc (.cells #[.slice ra n rc,.slice rb n2 rd,.int .i64 rs] 129));have hb:Bl w w1:=by rw[<-xD];exact bal (Lb _ _) _
 have x3:w1.heap[w.heap.size]? = some (.cells #[.slice ra n rc,.slice rb n2 rd,.int .i64 rs] 129 (0,0)):=by rw[<-xD];exact Yc w _
 have HW:Hid (w.alloc (.cells #[.slice ra n rc,.slice rb n2 rd,.int .i64 rs] 129)=w1):=xD;have HB:=Qc hb;have d6:=(h.next hb).cells.2.2.2.2.2.2;have HN:Hid (Rw w1 ra rg rc f0.now∧f0.now.length=n):=⟨xA.next hb (La _),hn⟩;have xL:=xA.le;rw[hn] at xL xG;obtain⟨b0,b1,b2⟩:=Qp x3;clear xD hb h hl hr xC xA xE hn xI x3 c0 c2 c3 c4 c5 c6
 by_cases hd:D.down=true
 ·rw[Lf hd] at xB;rw[hd] at d6;have HE:=Qc xB;clear xB hd
  go_enter func152,ntmps152
  go_upto_region 2 with (fail)
  rw[HW.out];go_wp2
  go_ret2
  rw[HE.out];exact⟨rfl,HB.out⟩
 rw[Le hd] at xB;have xH:D.down=false:=by simpa using hd
 rw[xH] at d6;clear hd xH
 go_enter func152,ntmps152
 go_upto_region 2 with (fail)
 rw[HW.out]
 by_cases hc:off<0∨q<0∨(n:Int)<off∨(n:Int)-off<q
 ·rw[Lf hc] at xB;have HE:=Qc xB;clear xB
  by_cases k1:off<0
  ·clear hc;go_wp2
   go_ret2
   rw[HE.out];exact⟨rfl,HB.out⟩
  by_cases k2:q<0
  ·clear hc;go_wp2
   go_ret2
   rw[HE.out];exact⟨rfl,HB.out⟩
  by_cases k3:(n:Int)<off
  ·clear hc;go_wp2
   go_ret2
   rw[HE.out];exact⟨rfl,HB.out⟩
  have k4:(n:Int)-off<q:=by omega
  have e1:IntKind.i64.wrap ((n:Int)-off)=(n:Int)-off:=by rw[Lq];omega
  clear hc;go_wp2
  go_ret2
  rw[HE.out];exact⟨rfl,HB.out⟩
 rw[Le hc] at xB;have k1:¬off<0:=fun e=>hc (.inl e)
 have k2:¬q<0:=fun e=>hc (.inr (.inl e))
 have k3:¬(n:Int)<off:=fun e=>hc (.inr (.inr (.inl e)))
 have k4:¬(n:Int)-off<q:=fun e=>hc (.inr (.inr (.inr e)))
 obtain⟨k,rfl⟩:∃k:Nat,off=(k:Int):=⟨off.toNat,by omega⟩
 obtain⟨j,rfl⟩:∃k:Nat,q=(k:Int):=⟨q.toNat,by omega⟩
 have e1:IntKind.i64.wrap ((n:Int)-(k:Int))=(n:Int)-(k:Int):=by rw[Lq];omega
 have e2:IntKind.i64.wrap ((k:Int)+(j:Int))=((k+j:Nat):Int):=by rw[Lq];omega
 have HE:=Qc xB;clear xB hc
 by_cases hrc:rc=k
 ·have j0:j=0:=by omega
  have xJ:∀x,(convert 127 9 (.slice ra j x)).run prog w1= .ok (.string ⟨((f0.now.drop k).take j).toArray⟩) w1:=fun x=>HN.out.1.conv (by rw[HN.out.2];omega) (.inl rfl) (fun _=> .inr j0) x
  clear j0;go_wp2
  go_ret2
  rw[HE.out];exact⟨rfl,HB.out⟩
 ·have xJ:∀x,(convert 127 9 (.slice (ra.map (·.add k)) j x)).run prog w1= .ok (.string ⟨((f0.now.drop k).take j).toArray⟩) w1:=fun x=>HN.out.1.conv (by rw[HN.out.2];omega) (.inr rfl) (fun q=>((QeG HN.out.1 (by rw[HN.out.2];omega) (Le hrc) HN.out.2).2 q).imp id (fun e=>by omega)) x
  go_wp2
  go_ret2
  rw[HE.out];exact⟨rfl,HB.out⟩
end
def UR(room:Nat):DV:=⟨room,[],0,0,0,[],false⟩
def Dsk(w:World)(p:Nat)(S:Nat->Prop)(D:DV):Prop := ∃m R ka kb ko kc,Dk w p m R ka kb ko kc D none ∧ ∀x,YC p m R kb D x↔S x
theorem Qd4(w:World)(room:Int)(n:Nat)(hn:n=room.toNat)(h2:room<=9223372036854775807) :
  Calls prog 10 #[.int .i64 room] w fun e w'=> ∃p S,e= .returned (Pq p)∧Dsk w' p S (UR n)∧(∀x,S x->w.heap.size<=x)∧Bl w w':=by
 have xA := @run_makeMap prog;have e1:(if room<0 then 0 else room)=(n:Int):=by split <;> omega
 go_enter func10,ntmps10;go_wp2
 go_ret
 have hm:max room 0=(n:Int):=by omega
 rw[hm];have k0:=new0 w (.map #[] 0) (.cells #[.int .i64 n,.map (some w.heap.size),.int .i64 0,.int .i64 0,.int .i64 0,.slice none 0 0,.bool false] 98);have k1:=new2 w (.map #[] 0) (.cells #[.int .i64 n,.map (some w.heap.size),.int .i64 0,.int .i64 0,.int .i64 0,.slice none 0 0,.bool false] 98);have hM:=(QgF w).same (k0.trans (Yc w (.map #[] 0)).symm);refine⟨w.heap.size+1,YC (w.heap.size+1) w.heap.size (fun _=>fr0) 0 (UR n),rfl,⟨w.heap.size,fun _=>fr0,none,0,0,0,⟨k1,hM,?_,?_,?_,?_,?_,?_,?_,?_,?_,?_,?_,?_⟩,fun x=>Iff.rfl⟩,fun x hx=> ?_,bal (bal (Lb _ _) _) _⟩
 ·exact Ut
 ·intro s hs;simp[Qg,UR] at hs
 ·intro s hs;simp[Qg,UR] at hs
 ·intro s hs;simp[Qg,UR] at hs
 ·intro s hs;simp[Qg,UR] at hs
 ·simp[UR]
 ·exact Uw _ _ _ _
 ·intro h0;simp[UR] at h0
 ·simp[UR]
 ·show n<=_;omega
 ·simp[UR]
 ·exact .inl rfl
 ·rcases hx with rfl|rfl|⟨s,hs,_⟩|⟨h0,_⟩
  ·omega
  ·omega
  ·simp[Qg,UR] at hs
  ·simp[UR] at h0
def Mvd(w w':World)(p:Nat)(S:Nat->Prop)(D':DV):Prop := ∃S',Dsk w' p S' D'∧(∀x,S' x->S x∨w.heap.size<=x)∧Upo S w w'
section
variable {w W:World} {p:Nat} {S:Nat->Prop} {D:DV}
theorem Dsk.same(h:Dsk w p S D)(hb:∀x,S x->W.heap[x]? = w.heap[x]?):Dsk W p S D:=by
 obtain⟨m,R,ka,kb,ko,kc,h1,h2⟩:=h;exact⟨m,R,ka,kb,ko,kc,h1.same (fun x hx=>hb x ((h2 x).1 hx)),h2⟩
theorem Dsk.lt(h:Dsk w p S D){x:Nat}(hx:S x):x<w.heap.size:=by
 obtain⟨m,R,ka,kb,ko,kc,h1,h2⟩:=h;exact h1.lt ((h2 x).2 hx)
theorem Dsk.next(h:Dsk w p S D)(hb:Bl w W):Dsk W p S D:=h.same fun x hx=>hb.block x (h.lt hx)
theorem Dsk.keep{T:Nat->Prop}(h:Dsk w p S D)(hu:Upo T w W)(hd:∀x,S x -> ¬T x):Dsk W p S D:=h.same fun x hx=>hu.block x (h.lt hx) (hd x hx)
theorem Dsk.mvd{m:Nat}{kb ko:Nat}{D':DV}(hi:∀x,YC p m R kb D x↔S x)(h:Left w W p m R kb ko D D'):Mvd w W p S D':=by
 obtain⟨m',R',xA,xB,h1,h2,h3⟩:=h;exact⟨YC p m' R' kb D',⟨m',R',xA,kb,ko,xB,h1,fun _=>Iff.rfl⟩,fun x hx=>(h2 x hx).imp (hi x).1 id,h3.mono (fun x _ q=>(hi x).1 q)⟩
theorem Dsk.write(h:Dsk w p S D)(s t:BA)(hs:s.size<=maxLen)(off:Int)(ho1 : -9223372036854775808<=off)(ho2:off<=9223372036854775807)(ht:t.size<=140737488355328)(hac:D.acts+1<=4611686018427387904)(hcnt:D.L.length<1099511627776)(hfr:D.down=false->D.free+(Qe D.L s.data.toList).now.length<=9223372036854775807) :
  Calls prog 268 #[Pq p,.string s,.int .i64 off,.string t] w fun e w'=>e= .returned (.int .i64 (wrD D s.data.toList off t.data.toList).2)∧Mvd w w' p S (wrD D s.data.toList off t.data.toList).1:=by
 obtain⟨m,R,ka,kb,ko,kc,h1,h2⟩:=h;exact(Qbc w h1 s t hs off ho1 ho2 ht hac hcnt hfr).mono fun e w' q=>⟨q.1,Dsk.mvd h2 q.2⟩
theorem Dsk.cut(h:Dsk w p S D)(s:BA)(hs:s.size<=maxLen)(off:Int)(ho1 : -9223372036854775808<=off)(ho2:off<=9223372036854775807)(hac:D.acts+1<=4611686018427387904)(hcnt:D.L.length<1099511627776)(hfr:D.down=false->D.free+(Qe D.L s.data.toList).now.length<=9223372036854775807) :
  Calls prog 156 #[Pq p,.string s,.int .i64 off] w fun e w'=>e= .returned (.int .i64 (Jq D s.data.toList off).2)∧Mvd w w' p S (Jq D s.data.toList off).1:=by
 obtain⟨m,R,ka,kb,ko,kc,h1,h2⟩:=h;exact(QmO w h1 s hs off ho1 ho2 hac hcnt hfr).mono fun e w' q=>⟨q.1,Dsk.mvd h2 q.2⟩
theorem Dsk.sync(h:Dsk w p S D)(s:BA)(hs:s.size<=maxLen)(hac:D.acts+1<=4611686018427387904)(hcnt:D.L.length<1099511627776)(hfr:D.down=false->D.free+(Qe D.L s.data.toList).now.length<=9223372036854775807) :
  Calls prog 157 #[Pq p,.string s] w fun e w'=>e= .returned (.int .i64 (QP D s.data.toList).2)∧Mvd w w' p S (QP D s.data.toList).1:=by
 obtain⟨m,R,ka,kb,ko,kc,h1,h2⟩:=h;exact(Ql4 w h1 s hs hac hcnt hfr).mono fun e w' q=>⟨q.1,Dsk.mvd h2 q.2⟩
theorem Dsk.read(h:Dsk w p S D)(s:BA)(hs:s.size<=maxLen)(off q:Int)(ho1 : -9223372036854775808<=off)(ho2:off<=9223372036854775807)(hq1 : -9223372036854775808<=q)(hq2:q<=9223372036854775807) :
  Zr 152 #[Pq p,.string s,.int .i64 off,.int .i64 q] w (.tuple #[.string ⟨(rdD D s.data.toList off q).1.toArray⟩,.int .i64 (rdD D s.data.toList off q).2]):=by
 obtain⟨m,R,ka,kb,ko,kc,h1,h2⟩:=h;exact QlA w h1 s hs off q ho1 ho2 hq1 hq2
def Jy(D:DV)(s:List UInt8):Nat:=if D.down then 0 else (Qe D.L s).now.length
theorem Dsk.size(h:Dsk w p S D)(s:BA)(hs:s.size<=maxLen):Re 151 #[Pq p,.string s] w (.int .i64 (Jy D s.data.toList:Int)):=by
 obtain⟨m,R,ka,kb,ko,kc,h1,h2⟩:=h;exact Qcz w h1 s hs _ rfl
theorem Dsk.down(h:Dsk w p S D):Re 15 #[Pq p] w (.bool D.down):=by
 obtain⟨m,R,ka,kb,ko,kc,h1,h2⟩:=h;exact Qkp w h1
theorem Dsk.after(h:Dsk w p S D)(ao:OA)(b o c:Nat)(ks:List Bool)(hk:RdL w ao b o ks)(hkl:ks.length<=9223372036854775807) :
  Calls prog 17 #[Pq p,.slice ao ks.length c] w fun e w'=> ∃v,e= .returned v∧OwnF w' w.heap.size v (aft ks D.L 0)∧Bl w w':=by
 obtain⟨m,R,ka,kb,ko,kc,h1,h2⟩:=h;exact QcP w h1 ao b o c ks hk hkl
end
end St
end Go.Proofs.YtoblgjledefdbaaGreatDoor
