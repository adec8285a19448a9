/- Own work. -/
import Derived.Test.YtoblgjledefdbabGreatDoorQs05
import Derived.Test.YtoblgjledefdbabGreatDoorQs06
set_option maxRecDepth 100000
set_option maxHeartbeats 2000000
namespace Go.Proofs.YtoblgjledefdbabGreatDoor
open Go.RowKit
attribute [local go_sem ↓] Go.wp_at_zero Go.wp_at_succ
open Go.Proofs.Tryz
namespace St.Rc
section
variable {S T:Nat->Prop} {w w' w1 w2:World}
theorem _root_.Go.Proofs.YtoblgjledefdbabGreatDoor.St.Upo.on(h:Upo S w w1)(h2:Upo S w1 w2):Upo S w w2:=h.trans h2 fun _ _ q=>q
theorem _root_.Go.Proofs.YtoblgjledefdbabGreatDoor.St.Upo.sets{g:Nat}(hg:S g∨w.heap.size<=g):∀(vs:List Value) (o:Nat) (w':World),Upo S w w'->Upo S w (w'.setCells g o vs)
 | [],_,_,h=>h
 | v::r,o,_,h=>Upo.sets hg r (o+1) _ (h.set g o v hg)
theorem _root_.Go.Proofs.YtoblgjledefdbabGreatDoor.St.Upo.since{g:Nat}(h:Upo (fun b=>b=g) w1 w2)(h1:Below w.heap.size w w1)(hg:w.heap.size<=g):Below w.heap.size w w2 :=
 h1.trans (h.below h1.size fun b hb=>by omega)
end
structure Byt(w:World)(g:Nat)(l:List UInt8):Prop where
 rng:w.rangeAt g 0 (cY l)
 thr:w.there g 0 l.length
section
variable {w W:World} {g:Nat} {l:List UInt8}
theorem Byt.at(h:Byt w g l){j:Nat}(hj:j<l.length):w.cell? ⟨g,j,none⟩=some (.int .u8 ((l.getD j 0).toNat:Int)):=by
 have:=h.rng j (.int .u8 ((l.getD j 0).toNat:Int)) (by simp[cY,List.getElem?_eq_getElem hj,List.getD_eq_getElem?_getD])
 rwa [Lp] at this
theorem Byt.free(h:Byt w g l){j:Nat}(hj:j<l.length):w.frozen? ⟨g,j,none⟩=false:=by
 have:=(h.thr j hj).2
 rwa [Lp] at this
theorem Byt.lt(h:Byt w g l)(h0:0<l.length):g<w.heap.size:=Ll _ _ (h.at h0)
theorem QL{b o n:Nat}(h:w.there b o n)(a:Addr)(v:Value):(w.setCell a v).there b o n:=fun j hj=>by
 obtain⟨h1,h2⟩:=h j hj;refine⟨?_,by rw[NV];exact h2⟩
 by_cases e:a=⟨b,o+j,none⟩
 ·subst e;obtain⟨u,hu⟩:=Option.isSome_iff_exists.1 h1;rw[LU w _ v hu];rfl
 ·rw[Lz _ _ _ _ e];exact h1
theorem YC{b o:Nat}{cs:List Value}(h:w.rangeAt b o cs)(i:Nat)(v:Value):(w.setCell ⟨b,o+i,none⟩ v).rangeAt b o (cs.set i v):=fun j u hu=>by
 rw[List.getElem?_set] at hu
 split at hu
 ·rename_i e
  subst e
  split at hu
  ·rename_i hl
   cases hu;have:=h i cs[i] (Ld hl);exact LU w _ _ this
  ·cases hu
 ·rename_i e
  rw[Lz _ _ _ _ (fun e'=>e (by have:=LZ Addr.off e';simp at this;omega))]
  exact h j u hu
theorem Byt.set(h:Byt w g l)(j:Nat)(b:UInt8)(x:Int)(hx:x=(b.toNat:Int)):Byt (w.setCell ⟨g,j,none⟩ (.int .u8 x)) g (l.set j b):=by
 subst hx;refine⟨?_,by rw[IK];exact QL h.thr _ _⟩
 have:=YC h.rng j (.int .u8 b.toNat);rw[Lp] at this;rw[cY,List.map_set];exact this
theorem Byt.same(h:Byt w g l)(hb:W.heap[g]? = w.heap[g]?):Byt W g l:=by
 refine⟨fun j v hv=> ?_,fun j hj=> ?_⟩
 ·rw[Lq (a:=⟨g,0+j,none⟩) hb];exact h.rng j v hv
 ·rw[Lq (a:=⟨g,0+j,none⟩) hb,N7 (a:=⟨g,0+j,none⟩) hb];exact h.thr j hj
theorem Byt.next{B:Nat}(h:Byt w g l)(hb:Below B w W)(hg:g<B):Byt W g l:=h.same (hb.block g hg)
theorem Qly(w:World)(s:BA)(cap:Nat)(t:TypeId):Byt (w.alloc (.cells (bytesRow s cap) t ((bytesRow s cap).size,(bytesRow s cap).size+1))) w.heap.size s.data.toList:=by
 have hsz:s.data.size<=(bytesRow s cap).size:=by simp[bytesRow]
 have hc:∀j,(hj:j<s.data.size)->(w.alloc (.cells (bytesRow s cap) t ((bytesRow s cap).size,(bytesRow s cap).size+1))).cell? ⟨w.heap.size,j,none⟩=some (.int .u8 (s.data[j].toNat:Int)):=fun j hj=>by
  rw[World.cell?_alloc_mark,bytesRow_at s cap j hj]
 refine⟨fun j v hv=> ?_,fun j hj=> ?_⟩
 ·have hj:j<s.data.size:=by have:=(List.getElem?_eq_some_iff.1 hv).1;rw[Q2,Ih] at this;exact this
  rw[Lp,hc j hj,<-hv];simp[cY,Array.getElem?_eq_getElem hj]
 ·rw[Ih] at hj;rw[Lp,hc j hj,World.frozen?_alloc_mark]
  refine⟨rfl,?_⟩
  rw[LC (by omega)];rfl
theorem Ou(w:World)(n:Nat):Byt (w.alloc (.cells (Array.replicate n (Value.int .u8 0)) 5)) w.heap.size (zer n):=by
 refine⟨fun j v hv=> ?_,Qm w _ _ _ (by simp[zer])⟩
 rw[Nz,Lp];have:cY (zer n)=List.replicate n (Value.int .u8 0):=by simp[cY,zer]
 rw[this] at hv;rw[<-hv];simp[Array.getElem?_replicate,List.getElem?_replicate]
theorem Ob(v:Value)(n:Nat):madeCells #[v] n=Array.replicate n v:=by
 apply Array.ext
 ·simp[size_madeCells]
 ·intro i h1 h2;simp[madeCells,Nat.mod_one]
theorem U4(n:Nat)(hn:n<=140737488355328)(u:World):(Instr.makeSlice 83 (.int .i64 n) (.int .i64 n)).run prog u= .ok (.slice (Zp u.heap.size) n n) (u.alloc (.cells (Array.replicate n (Value.int .u8 0)) 5)):=by
 have:=run_make_row' (P:=prog) 83 5 (.int .u8 0) 1 underlying83 Tryz.infoY rfl .i64 .i64 n (by omega) (by omega) u
 rw[this,Ob]
theorem Byt.conv(h:Byt w g l){k n:Nat}(hk:k+n<=l.length)(o:Nat)(ho:0<n->o=k)(m:Nat)(t:BA)(ht:(⟨((l.drop k).take n).toArray⟩:BA)=t) :
  (convert 83 9 (.slice (some ⟨g,o,none⟩) n m)).run prog w= .ok (.string t) w:=by
 subst ht;have hlen:((l.drop k).take n).length=n:=by simp;omega
 have hr:=run_convert_bytes_back w 83 9 5 ⟨g,o,none⟩ m ((l.drop k).take n) underlying83 underlying5 underlying9 fun j hj=> ?_
 ·rw[hlen] at hr;exact hr
 ·rw[hlen] at hj;obtain rfl:=ho (by omega)
  rw[Addr.add_mid,h.at (by omega)]
  have:(List.take n (List.drop o l))[j]'(by omega)=l.getD (o+j) 0:=by
   rw[List.getElem_take,List.getElem_drop,La,Ld (by omega)];rfl
  rw[this]
def ovr(l:List UInt8)(k:Nat)(t:List UInt8):List UInt8:=l.take k++t++l.drop (k+t.length)
theorem QaR(l:List UInt8)(k:Nat)(t:List UInt8)(h:k+t.length<=l.length):(ovr l k t).length=l.length:=by
 simp only[ovr,List.length_append,List.length_take,List.length_drop];omega
theorem Byt.over(h:Byt w g l)(k:Nat)(t:List UInt8)(hk:k+t.length<=l.length):Byt (w.setCells g k (cY t)) g (ovr l k t):=by
 refine⟨?_,by rw[QaR l k t hk];exact World.there_setCells h.thr _ _ _⟩
 have:=JW h.rng k (cY t) (by rw[Q2,Q2];exact hk) (fun j hj=>by
  rw[Lp];have:=h.thr (k+j) (by rw[Q2] at hj;omega)
  rwa [Lp] at this)
 rw[Lp] at this;rw[ovr,Qad,Qad]
 simpa [cY,List.map_take,List.map_drop] using this
theorem QbS(ty:TypeId){k n m o:Nat}{t:BA}(h:Byt w g l)(hn:k+n<=l.length)(ho:0<t.size->o=k)(ht:t.size<=n) :
  (Builtin.copy_ #[83,9] ty #[.slice (some ⟨g,o,none⟩) n m,.string t]).run prog w= .ok (goInt t.size) (w.setCells g k (cY t.data.toList)):=by
 have hs:∀W,(Go.sizeOf 5).run prog W= .ok 1 W:=fun W=>by kernel_rfl
 have hc:Nat.min t.size n=t.size:=Ir ht;have hl:(cY t.data.toList).length=t.size:=by rw[Q2,Qe]
 have he:List.take t.size (List.map (fun x:UInt8=>Value.int IntKind.u8 (x.toNat:Int)) t.data.toList)=cY t.data.toList:=by
  rw[cY,<-N8,Lu (by rw[Qe];exact Lb _)]
 by_cases z:t.size=0
 ·have e0:cY t.data.toList=[]:=List.length_eq_zero_iff.1 (by rw[hl,z])
  rw[e0];simp[Builtin.copy_,run_underlying underlying83,Builtin.lenOf,Builtin.firstCells,hs,z]
  rfl
 ·obtain rfl:=ho (by omega)
  have hst:=run_storeCells_cells (P:=prog) g o (cY t.data.toList) 0 w (by rw[hl];intro j hj;have:=h.thr (o+j) (by omega);simpa using this.1) (by rw[hl];intro j hj;have:=h.thr (o+j) (by omega);simpa using this.2) (Qfo _)
  simp only[Nat.add_zero] at hst;simp[Builtin.copy_,run_underlying underlying83,Builtin.lenOf,Builtin.firstCells,hs,hc];rw[he,hst]
  rfl
end
theorem Uh{w w':World}{ops:Array Oper}{rest:List Oper}{o:Oper}{a:Act}{Q:Exit->Act->World->Prop}(hgd:o.guard=none)(d s:Operand)(t u:TypeId)
  (ho:o.op= .call { callee := .builtin .copy,args:=#[d,s],argTypes:=#[t,u] }) {v x v':Value} (hd:a.eval d=v) (hs:a.eval s=x)
  (hr:(Builtin.copy_ #[t,u] o.type #[v,x]).run prog w= .ok v' w') (h:wpList prog ops Q rest (a.put o.dst v') w'):wpList prog ops Q (o::rest) a w:=by
 refine wpList_plain hgd fun K hK=> ?_
 unfold Oper.wp;simp[execOp,ho,resolve,invoke,builtin,hd,hs,hr,Result.andThen];exact hK _ _ h
end St.Rc
namespace St.Rc
theorem Qka(l:List UInt8)(a:Nat)(t r:List UInt8)(x:UInt8)(ha:a<l.length):(l.take (a+1)++t++r).set a x=l.take a++x::t++r:=by
 have e:(l.take a).length=a:=by simp;omega
 rw[LQ ha,LP,LP,Nh _ _ (by omega),e,NK]
 simp
theorem Uo(w:World)(g off len cap n:Nat)(l:List UInt8)(hl:Byt w g l)(ho:off+len<=l.length)(h8:len<=8)(hn:n<18446744073709551616) :
  Calls prog 196 #[.slice (some ⟨g,off,none⟩) len cap,.int .u64 n] w fun e w'=>e= .returned (.tuple #[])∧Byt w' g (ovr l off (big len n))∧Upo (fun b=>b=g) w w':=by
 have HO:Hid (off+len<=l.length):=ho;have H0:Hid (Byt w g (l.take (off+len)++big 0 n++l.drop (off+len))∧Upo (fun b=>b=g) w w):=⟨by simp[big];exact hl,Upo.refl _ _⟩
 have k8:(len:Int)<=8:=by omega
 have k0:(0:Int)<=(len:Int):=by omega
 have hN:Hid (n<18446744073709551616):=hn;clear hl ho hn
 go_enter func196,ntmps196;go_wp2
 go_loopg [1,4] len (fun G x i wr=> ∃(j d:Nat),j+d=len∧j=G∧x= .int .u64 ((n/256^d:Nat):Int)∧i= .int .i64 ((j:Int)-1)∧Hid (Byt wr g (l.take (off+j)++big d n++l.drop (off+len))∧Upo (fun b=>b=g) w wr))
 case atStart=>go_light;exact⟨len,0,by omega,rfl,by simp,by simp,H0⟩
 case round=>
  clear H0;obtain⟨j,d,hj,rfl,rfl,rfl,HB⟩:=hrel;have hx:n/256^d<=n:=NI _ _
  by_cases hz:0<j
  ·obtain⟨m,rfl⟩:∃m,j=m+1:=⟨j-1,by omega⟩
   have em:((m+1:Nat):Int)-1=(m:Int):=by omega
   rw[em];have m0:(0:Int)<=(m:Int):=by omega
   have m1:(m:Int)<(len:Int):=by omega
   have hol:=HO.out;have cl:=HB.out.1.at (j:=off+m) (by simp[Qp];omega)
   have fz:=HB.out.1.free (j:=off+m) (by simp[Qp];omega)
   obtain⟨z,hz'⟩:∃z,((l.take (off+(m+1))++big d n++l.drop (off+len)).getD (off+m) 0).toNat=z:=⟨_,rfl⟩;rw[hz'] at cl;obtain⟨x,hxd⟩:∃x,n/256^d=x:=⟨_,rfl⟩;have hx2:Hid (x<18446744073709551616):=by show _<_;have:=hN.out;omega
   have HX:Hid (Byt (wr.setCell ⟨g,off+m,none⟩ (.int .u8 ((x:Int)%256))) g (l.take (off+m)++big (d+1) n++l.drop (off+len))∧Upo (fun b=>b=g) w (wr.setCell ⟨g,off+m,none⟩ (.int .u8 ((x:Int)%256)))):=by
    refine⟨?_,HB.out.2.set _ _ _ (.inl rfl)⟩
    have:=HB.out.1.set (off+m) (UInt8.ofNat x) ((x:Int)%256) (by rw[UInt8.toNat_ofNat'];omega)
    rw[show off+(m+1)=off+m+1 by omega,Qka l (off+m) _ _ _ (by omega)] at this
    rw[QiF,hxd];exact this
   have HD:Hid (x/256=n/256^(d+1)):=by
    show _=_
    rw[LO,<-LY,hxd]
   rw[hxd];clear HB hxd hz' hx hol;go_wp2
   go_roundg m
   case rel=>
    go_light;refine⟨m,d+1,by omega,rfl,?_,?_,HX⟩
    ·have:=HD.out;rw[<-this];go_num
    ·go_num
   case measure=>go_light;omega
  ·obtain rfl:j=0:=by omega
   obtain rfl:d=len:=by omega
   have em:((0:Nat):Int)-1 = -1:=by omega
   rw[em];have HE:Hid (Byt wr g (ovr l off (big d n))∧Upo (fun b=>b=g) w wr):=by
    refine⟨?_,HB.out.2⟩
    have:=HB.out.1;rw[IW] at this;rw[ovr,Qp];exact this
   clear HB hx hj;go_wp2;exact bodyPost_end (results_none rfl _ prog wr) rfl ⟨rfl,HE.out⟩
theorem Qj6(l:List UInt8)(k:Nat)(hk:k<l.length):num (l.take (k+1))=num (l.take k)*256+(l.getD k 0).toNat:=by
 rw[LQ hk,OL,La,Ld hk]
 rfl
theorem QmE(x y:Nat)(hx:x<72057594037927936)(hy:y<256):bits .or .u64 (IntKind.u64.wrap ((x:Int)*256)) (y:Int)=((x*256+y:Nat):Int):=by
 have e:IntKind.u64.wrap ((x:Int)*256)=((x*256:Nat):Int):=by rw[IntKind.wrap_u64];omega
 rw[e,u64_or_nat _ _ (by omega) (by omega),show x*256=x <<< 8 by rw[Nat.shiftLeft_eq],<-Nat.shiftLeft_add_eq_or_of_lt (show y<2^8 by omega)]
theorem U9(w:World)(g off len cap:Nat)(l:List UInt8)(hl:Byt w g l)(ho:off+len<=l.length)(h8:len<=8)(r:Nat)(hr:num ((l.drop off).take len)=r) :
  Calls prog 159 #[.slice (some ⟨g,off,none⟩) len cap] w fun e w'=>e= .returned (.int .u64 r)∧w'=w:=by
 obtain⟨t,ht⟩:∃t,(l.drop off).take len=t:=⟨_,rfl⟩;have htl:t.length=len:=by rw[<-ht];simp;omega
 have HC:Hid (∀k,k<len->w.cell? ⟨g,off+k,none⟩=some (.int .u8 ((t.getD k 0).toNat:Int))):=fun k hk=>by
  rw[hl.at (by omega),<-ht]
  simp[List.getD_eq_getElem?_getD,List.getElem?_drop,hk]
 rw[ht] at hr;have HR:Hid (num t=r∧t.length=len):=⟨hr,htl⟩;have k8:(len:Int)<=8:=by omega
 have k0:(0:Int)<=(len:Int):=by omega
 clear hl ho ht hr htl
 go_enter func159,ntmps159;go_wp2
 go_loopg [3,8] len (fun G x i wr=>w=wr ∧ ∃(k m:Nat),k<=len∧G=len-k∧x= .int .u64 m∧i= .int .i64 k∧Hid (num (t.take k)=m))
 case atStart=>go_light;exact⟨rfl,0,0,by omega,rfl,rfl,rfl,rfl⟩
 case round=>
  obtain⟨rfl,k,m,hk,rfl,rfl,rfl,HM⟩:=hrel
  by_cases hlt:k<len
  ·have hz:(k:Int)<(len:Int):=by omega
   have kk:(0:Int)<=(k:Int):=by omega
   have cl:=HC.out k hlt;have hb:(t.getD k 0).toNat<256:=(t.getD k 0).toNat_lt;have hst:=Qj6 t k (by rw[HR.out.2];exact hlt)
   rw[HM.out] at hst;have hm:m<72057594037927936:=by
    rw[<-HM.out];exact Qj5 _ 7 (by simp;omega)
   obtain⟨y,hy⟩:∃y,(t.getD k 0).toNat=y:=⟨_,rfl⟩;rw[hy] at cl hb hst;have eo:=QmE m y hm hb;rw[<-hst] at eo;have e1:(y:Int)%18446744073709551616=(y:Int):=by omega
   obtain⟨v,hv⟩:∃v,num (t.take (k+1))=v:=⟨_,rfl⟩;rw[hv] at eo hst;have HV:Hid (num (t.take (k+1))=v):=hv;clear HM hv hst hm hb hy;go_wp2
   go_roundg (len-(k+1))
   case rel=>go_light;exact⟨rfl,k+1,v,by omega,rfl,rfl,by go_num,HV⟩
   case measure=>go_light;omega
  ·obtain rfl:k=len:=by omega
   have hz:¬(k:Int)<(k:Int):=by omega
   have HE:Hid (m=r):=by
    show _=_
    have:=HM.out;rw[Lu (by rw[HR.out.2];exact Lb _),HR.out.1] at this
    exact this.symm
   clear HM;go_wp2
   go_ret
   exact⟨by rw[HE.out];rfl,rfl⟩
theorem QdQ(w:World)(k:Int):Calls prog 203 #[.int .i64 k] w fun e w'=>e= .returned (.bool (decide (1<=k∧k<=32)))∧w'=w:=by
 by_cases h1:1<=k
 ·by_cases h2:k<=32
  ·have e:decide (1<=k∧k<=32)=true:=by simp[h1,h2]
   rw[e]
   go_enter func203,ntmps203;go_wp2
   go_ret
   exact⟨rfl,rfl⟩
  ·have e:decide (1<=k∧k<=32)=false:=by simp[h2]
   rw[e]
   go_enter func203,ntmps203;go_wp2
   go_ret
   exact⟨rfl,rfl⟩
 ·have e:decide (1<=k∧k<=32)=false:=by simp[h1]
  rw[e]
  go_enter func203,ntmps203;go_wp2
  go_ret
  exact⟨rfl,rfl⟩
theorem QbO(w:World)(g n cap:Nat)(h8:8<=n)(hc:n<=cap)(hm:n<=140737488355328)(o:Nat)(ho:(if n-4=4 then 0 else 4)=o)(m:Nat)(hm2:n-8=m) :
  Calls prog 160 #[.slice (Zp g) n cap] w fun e w'=>e= .returned (.tuple #[.slice (Zp g) 4 4,.slice (some ⟨g,o,none⟩) m m])∧Below w.heap.size w w':=by
 have z1:(0:Int)<=(n:Int)-4:=by omega
 have z2:(n:Int)-4<=(cap:Int):=by omega
 have z3:(4:Int)<=(n:Int)-4:=by omega
 have z4:(4:Int)<=(cap:Int):=by omega
 have z5:(n:Int)<=140737488355328:=by omega
 have HO:Hid ((if n-4=4 then 0 else 4)=o∧n-4-4=m):=⟨ho,by omega⟩
 clear ho hm2
 go_enter func160,ntmps160;go_wp2
 go_quiet (fail)
 go_wp2
 ·obtain⟨h1,h2⟩:=HO.out;rw[Lo h] at h1;obtain rfl:m=0:=by omega
  subst h1;exact LA (v := .tuple #[.slice (Zp g) 4 4,.slice (Zp g) 0 0]) (by simp[results,results160,go_sem]) rfl ⟨rfl,Qi (Lc _ _) _⟩
 ·obtain⟨h1,h2⟩:=HO.out;rw[Le h] at h1;rw[h2];subst h1;exact LA (v := .tuple #[.slice (Zp g) 4 4,.slice (some ⟨g,4,none⟩) m m]) (by simp[results,results160,go_sem]) rfl ⟨rfl,Qi (Lc _ _) _⟩
theorem QfO(w:World)(g n cap:Nat)(h8:36<=cap) :
  Calls prog 230 #[.slice (Zp g) n cap] w fun e w'=>e= .returned (.tuple #[.slice (Zp g) 32 32,.slice (some ⟨g,32,none⟩) 4 4])∧Below w.heap.size w w':=by
 have z1:(36:Int)<=(cap:Int):=by omega
 have z2:(32:Int)<=(cap:Int):=by omega
 go_enter func230,ntmps230;go_wp2
 go_quiet (fail)
 go_wp2;refine LA (v := .tuple #[.slice (Zp g) 32 32,.slice (some ⟨g,32,none⟩) 4 4]) (by simp[results,results230,go_sem]) rfl ⟨rfl,Qi (Lc _ _) _⟩
def mP(g:Nat):Value := .agg #[.slice (Zp g) 4 4,.slice (some ⟨g,4,none⟩) 1 1,.slice (some ⟨g,8,none⟩) 8 8,.slice (some ⟨g,16,none⟩) 8 8,.slice (some ⟨g,24,none⟩) 8 8,.slice (some ⟨g,32,none⟩) 4 4]
theorem QfM(w:World)(g n cap:Nat)(h8:36<=cap) :
  Calls prog 204 #[.slice (Zp g) n cap] w fun e w'=>e= .returned (mP g)∧Below w.heap.size w w':=by
 have z1:(36:Int)<=(cap:Int):=by omega
 have z2:(32:Int)<=(cap:Int):=by omega
 have z3:(24:Int)<=(cap:Int):=by omega
 have z4:(16:Int)<=(cap:Int):=by omega
 have z5:(5:Int)<=(cap:Int):=by omega
 have z6:(4:Int)<=(cap:Int):=by omega
 go_enter func204,ntmps204;go_wp2
 go_region
 go_wp2;refine LA (v:=mP g) (by simp[results,results204,go_sem,mP]) rfl ⟨rfl,Qi (bal (Lc _ _) _) 1⟩
theorem Je(w:World)(g n cap:Nat)(l:List UInt8)(hl:Byt w g l)(hn:l.length=n)(h8:8<=n)(hc:n<=cap)(hm:n<=140737488355328)(t:BA)(ht:(⟨(sld (l.take (n-4))).toArray⟩:BA)=t) :
  Calls prog 161 #[.slice (Zp g) n cap] w fun e w'=>e= .returned (.string t)∧Byt w' g (sld (l.take (n-4)))∧Upo (fun b=>b=g) w w':=by
 obtain⟨k,hk⟩:∃k,n=k+4:=⟨n-4,by omega⟩
 subst hk;rw[Ny] at ht ⊢;obtain⟨u,hu⟩:∃u:BA,(⟨(l.take k).toArray⟩:BA)=u:=⟨_,rfl⟩;have hul:u.data.toList=l.take k:=by rw[<-hu]
 have hus:u.size=k:=by rw[<-Qe,hul];simp;omega
 have z1:(0:Int)<=(k:Int):=by omega
 have z2:(k:Int)<=(cap:Int):=by omega
 have z3:((k+4:Nat):Int)-4=(k:Int):=by omega
 have z4:(k:Int)<=140737488355328:=by omega
 have z5:(k:Int)<=((k+4:Nat):Int):=by omega
 have z6:¬cap=k:=by omega
 have HL:Hid (Byt w g l∧l.length=k+4∧g<w.heap.size):=⟨hl,hn,hl.lt (by omega)⟩
 have HC:Hid (∀W,Below w.heap.size w W->(convert 83 9 (.slice (Zp g) k k)).run prog W= .ok (.string u) W):=fun W hb=>
  (HL.out.1.next hb HL.out.2.2).conv (k:=0) (n:=k) (by have:=HL.out.2.1;omega) 0 (fun _=>rfl) k u (by rw[Ia];exact hu)
 obtain⟨x,hx⟩:∃x,crc (l.take k)=x:=⟨_,rfl⟩;have hx4:=Qi1 (l.take k);rw[hx] at hx4;have HF:Hid (∀W,Calls prog 218 #[.slice (Zp W.heap.size) 1 1] (W.alloc (.cells #[.string u] 9)) fun e w'=>e= .returned (.int .u32 x)∧Below W.heap.size W w'):=fun W=>by
  refine(Qdq _ _ W.heap.size 0 1 1 [u] ⟨rfl,fun _=>rfl,Qq W [.string u] 9,by intro s hs;simp at hs;subst hs;omega⟩ (by decide)).mono ?_
  rintro e w' ⟨rfl,hb⟩;refine⟨?_,((Lc _ _).alloc (Lb _) _).trans (hb.mono (by simp))⟩
  rw[<-hx,crc,sumL,<-hul];simp[Qj]
 have HP:Hid (∀W,Below w.heap.size w W->Calls prog 196 #[.slice (some ⟨g,k,none⟩) 4 (cap-k),.int .u64 x] W fun e w'=>e= .returned (.tuple #[])∧Byt w' g (sld (l.take k))∧Upo (fun b=>b=g) w w'):=fun W hb=>by
  refine(Uo W g k 4 (cap-k) x l (HL.out.1.next hb HL.out.2.2) (by have:=HL.out.2.1;omega) (by decide) (by omega)).mono ?_
  rintro e w' ⟨rfl,hy,hup⟩;refine⟨rfl,?_,(Upo.of hb).on hup⟩
  rw[ovr,Qp,Nc (by rw[hn];exact Lb _),L7,<-hx] at hy
  exact hy
 have HD:Hid (∀W,Byt W g (sld (l.take k))->(convert 83 9 (.slice (Zp g) (k+4) cap)).run prog W= .ok (.string t) W):=fun W hy=>by
  have hsl:(sld (l.take k)).length=k+4:=by rw[JY];simp;omega
  exact hy.conv (k:=0) (n:=k+4) (by omega) 0 (fun _=>rfl) cap t (by rw[Ia,Lu (by omega)];exact ht)
 clear hl hn ht hx hu hul hus
 go_enter func161,ntmps161;go_wp2
 go_quiet (fail)
 have hb0:Below w.heap.size w (w.drewN nq):=Qi (Lc _ _) _;have kc:=HC.out _ hb0;generalize w.drewN nq=w1 at *
 go_wp2_with (first
  | (go_at_call 218;with_reducible refine(HF.out _).mono ?_;rintro e w2 ⟨rfl,hb⟩)
  | (go_at_call 196;with_reducible refine(HP.out _ (hb0.trans (hb.mono hb0.size))).mono ?_;rintro e w3 ⟨rfl,hy,hup⟩;have kd:=HD.out _ hy))
 go_ret
 exact⟨rfl,hy,hup⟩
theorem Qlj(n k:Nat):(zer n).drop k=zer (n-k):=by simp[zer]
theorem QmH(a b t:List UInt8)(k:Nat)(hk:a.length=k):ovr (a++b) k t=a++t++b.drop t.length:=by
 subst hk;rw[ovr,LH (Lb _),Lu (Lb _),List.drop_append,Nc (by omega),NE]
 congr 2
 omega
theorem YG(a t:List UInt8)(n k:Nat)(hk:a.length=k):ovr (a++zer n) k t=a++t++zer (n-t.length):=by
 rw[QmH a (zer n) t k hk,Qlj]
theorem QeN(w:World)(s:BA)(hs:s.size<=9223372036854775807)(t:BA)(ht:(⟨(payS s.data.toList).toArray⟩:BA)=t) :
  Calls prog 129 #[.string s] w fun e w'=>e= .returned (.string t)∧Below w.heap.size w w':=by
 rw[payS,Qe] at ht
 by_cases h1:s.size<=1048576
 ·rw[Lo h1] at ht;have z1:¬(s.size:Int) > 1048576:=by omega
  obtain⟨n,hn⟩:∃n,n=s.size:=⟨_,rfl⟩;have z2:(s.size:Int)<=1048576:=by omega
  have hwr:IntKind.u64.wrap (s.size:Int)=(s.size:Int):=by rw[IntKind.wrap_u64];omega
  have hz:(4:Int)+(s.size:Int)+4=((s.size+8:Nat):Int):=by omega
  obtain⟨o,ho⟩:∃o,(if s.size+8-4=4 then 0 else 4)=o:=⟨_,rfl⟩
  obtain⟨w0,hw0⟩:∃w0,w.alloc (.cells (Array.replicate (s.size+8) (Value.int .u8 0)) 5)=w0:=⟨_,rfl⟩;have hmk:(Instr.makeSlice 83 (.int .i64 (4+(s.size:Int)+4)) (.int .i64 (4+(s.size:Int)+4))).run prog w= .ok (.slice (Zp w.heap.size) (s.size+8) (s.size+8)) w0:=by
   rw[hz,<-hw0];exact U4 _ (by omega) w
  have HW:Hid (Byt w0 w.heap.size (zer (s.size+8))∧Below w.heap.size w w0∧w.heap.size<w0.heap.size):=by
   rw[<-hw0];exact⟨Ou w _,bal (Lc _ _) _,by simp⟩
  have HPP:Hid (∀W,Calls prog 160 #[.slice (Zp w.heap.size) (s.size+8) (s.size+8)] W fun e w'=>e= .returned (.tuple #[.slice (Zp w.heap.size) 4 4,.slice (some ⟨w.heap.size,o,none⟩) s.size s.size])∧Below W.heap.size W w'):=fun W=>
   QbO W w.heap.size (s.size+8) (s.size+8) (by omega) (Lb _) (by omega) o ho s.size (by omega)
  have HPU:Hid (∀W,Below w0.heap.size w0 W->Calls prog 196 #[.slice (Zp w.heap.size) 4 4,.int .u64 s.size] W fun e w'=>e= .returned (.tuple #[])∧(∀ty,(Builtin.copy_ #[83,9] ty #[.slice (some ⟨w.heap.size,o,none⟩) s.size s.size,.string s]).run prog w'= .ok (goInt s.size) (w'.setCells w.heap.size 4 (cY s.data.toList)))∧Byt (w'.setCells w.heap.size 4 (cY s.data.toList)) w.heap.size (big 4 s.size++s.data.toList++zer 4)∧Below w.heap.size w (w'.setCells w.heap.size 4 (cY s.data.toList))):=fun W hb=>by
   refine(Uo W w.heap.size 0 4 4 s.size (zer (s.size+8)) (HW.out.1.next hb HW.out.2.2) (by rw[QF];omega) (by decide) (by omega)).mono ?_
   rintro e w' ⟨rfl,hy,hup⟩;rw[show zer (s.size+8)=[]++zer (s.size+8) from rfl,YG [] _ _ 0 rfl,Qp,NE] at hy
   refine⟨rfl,fun ty=>QbS ty (k:=4) (n:=s.size) (m:=s.size) (o:=o) hy (by rw[Lh,Qp,QF];omega) (fun h=>by rw[<-ho,Le (by omega)]) (Lb _),?_,?_⟩
   ·have:=hy.over 4 s.data.toList (by rw[Lh,Qp,QF,Qe];omega)
    rw[YG _ _ _ 4 (Qp _ _),Qe,show s.size+8-4-s.size=4 by omega] at this
    exact this
   ·exact(Upo.sets (S:=fun b=>b=w.heap.size) (.inl rfl) (cY s.data.toList) 4 _ hup).since (Qa HW.out.2.1 hb) (Lb _)
  have HSE:Hid (∀W,Byt W w.heap.size (big 4 s.size++s.data.toList++zer 4)->Calls prog 161 #[.slice (Zp w.heap.size) (s.size+8) (s.size+8)] W fun e w'=>e= .returned (.string t)∧Below w.heap.size W w'):=fun W hy=>by
   have hlen:(big 4 s.size++s.data.toList++zer 4).length=s.size+8:=by rw[Lh,Lh,Qp,QF,Qe];omega
   have htk:(big 4 s.size++s.data.toList++zer 4).take (s.size+8-4)=big 4 s.size++s.data.toList:=by
    rw[LH (by rw[Lh,Qp,Qe];omega),Lu (by rw[Lh,Qp,Qe];omega)]
   refine(Je W w.heap.size (s.size+8) (s.size+8) _ hy hlen (by omega) (Lb _) (by omega) t (by rw[htk,<-ht,pay,Qe])).mono ?_
   rintro e w' ⟨rfl,_,hup⟩;exact⟨rfl,hup.below (by have:=hy.lt (by omega);omega) (fun b hb=>by omega)⟩
  clear ho hn ht h1 hz hw0
  go_enter func129,ntmps129
  go_wp2_with (first
   | (go_at_call 160;with_reducible refine(HPP.out _).mono ?_;rintro e w1 ⟨rfl,hb⟩)
   | (go_at_call 196;with_reducible refine(HPU.out _ hb).mono ?_;rintro e w2 ⟨rfl,hcp,hy,hb2⟩;generalize w2.setCells w.heap.size 4 (cY s.data.toList)=w3 at *)
   | (refine Uh (by rfl) _ _ _ _ (by rfl) (by rfl) (by rfl) (hcp _) ?_)
   | (go_at_call 161;with_reducible refine(HSE.out _ hy).mono ?_;rintro e w4 ⟨rfl,hb4⟩))
  go_ret
  exact⟨rfl,hb2.trans hb4⟩
 ·rw[Le h1] at ht;subst ht;have z1:(s.size:Int) > 1048576:=by omega
  go_enter func129,ntmps129;go_wp2
  go_ret
  exact⟨rfl,Lc _ _⟩
theorem Qmx(p:Nat)(d:List UInt8)(h:d.length<=32):ovr (ovr (zer 40) 0 d) 32 (big 4 p)=d++zer (32-d.length)++big 4 p++zer 4:=by
 rw[show zer 40=[]++zer 40 from rfl,YG [] _ _ 0 rfl,NE]
 have e:zer (40-d.length)=zer (32-d.length)++zer 8:=by
  rw[zer,zer,zer,NT]
  congr 1
  omega
 rw[e,<-LP,YG _ _ _ 32 (by rw[Lh,QF];omega),Qp]
theorem YU(w:World)(p:Nat)(hp:p<18446744073709551616)(s:BA)(hs:s.size<=9223372036854775807)(t:BA)(ht:(⟨(nodS p s.data.toList).toArray⟩:BA)=t) :
  Calls prog 197 #[.int .u64 p,.string s] w fun e w'=>e= .returned (.string t)∧Below w.heap.size w w':=by
 rw[nodS,Qe] at ht
 by_cases h1:s.size<=32
 ·rw[Lo h1] at ht;have z1:¬(s.size:Int) > 32:=by omega
  have hd:s.data.toList.length<=32:=by rw[Qe];exact h1
  obtain⟨w0,hw0⟩:∃w0,w.alloc (.cells (Array.replicate 40 (Value.int .u8 0)) 5)=w0:=⟨_,rfl⟩;have hmk:(Instr.makeSlice 83 (.int .i64 40) (.int .i64 40)).run prog w= .ok (.slice (Zp w.heap.size) 40 40) w0:=by
   rw[<-hw0];exact U4 40 (by decide) w
  have HW:Hid (Byt w0 w.heap.size (zer 40)∧Below w.heap.size w w0∧w.heap.size<w0.heap.size):=by
   rw[<-hw0];exact⟨Ou w _,bal (Lc _ _) _,by simp⟩
  have HPP:Hid (∀W,Calls prog 230 #[.slice (Zp w.heap.size) 40 40] W fun e w'=>e= .returned (.tuple #[.slice (Zp w.heap.size) 32 32,.slice (some ⟨w.heap.size,32,none⟩) 4 4])∧Below W.heap.size W w'):=fun W=>
   QfO W w.heap.size 40 40 (by decide)
  have HCP:Hid (∀W,Below w0.heap.size w0 W->(∀ty,(Builtin.copy_ #[83,9] ty #[.slice (Zp w.heap.size) 32 32,.string s]).run prog W= .ok (goInt s.size) (W.setCells w.heap.size 0 (cY s.data.toList)))∧Byt (W.setCells w.heap.size 0 (cY s.data.toList)) w.heap.size (ovr (zer 40) 0 s.data.toList)∧Below w.heap.size w (W.setCells w.heap.size 0 (cY s.data.toList))):=fun W hb=>by
   have hy:=HW.out.1.next hb HW.out.2.2;exact⟨fun ty=>QbS ty (k:=0) (n:=32) (m:=32) (o:=0) hy (by rw[QF];decide) (fun _=>rfl) h1,hy.over 0 _ (by rw[QF];omega),(Upo.sets (S:=fun b=>b=w.heap.size) (.inl rfl) (cY s.data.toList) 0 _ (Upo.refl _ _)).since (Qa HW.out.2.1 hb) (Lb _)⟩
  have HPU:Hid (∀W,Byt W w.heap.size (ovr (zer 40) 0 s.data.toList)->Below w.heap.size w W->Calls prog 196 #[.slice (some ⟨w.heap.size,32,none⟩) 4 4,.int .u64 p] W fun e w'=>e= .returned (.tuple #[])∧Byt w' w.heap.size (s.data.toList++zer (32-s.data.toList.length)++big 4 p++zer 4)∧Below w.heap.size w w'):=fun W hy hb=>by
   refine(Uo W w.heap.size 32 4 4 p _ hy (by rw[QaR _ _ _ (by rw[QF];omega),QF];decide) (by decide) hp).mono ?_
   rintro e w' ⟨rfl,hy',hup⟩;rw[Qmx p _ hd] at hy';exact⟨rfl,hy',hup.since hb (Lb _)⟩
  have HSE:Hid (∀W,Byt W w.heap.size (s.data.toList++zer (32-s.data.toList.length)++big 4 p++zer 4)->Calls prog 161 #[.slice (Zp w.heap.size) 40 40] W fun e w'=>e= .returned (.string t)∧Below w.heap.size W w'):=fun W hy=>by
   have hlen:(s.data.toList++zer (32-s.data.toList.length)++big 4 p).length=36:=by rw[Lh,Lh,Qp,QF];omega
   have hlen2:(s.data.toList++zer (32-s.data.toList.length)++big 4 p++zer 4).length=40:=by rw[Lh,hlen,QF]
   have htk:(s.data.toList++zer (32-s.data.toList.length)++big 4 p++zer 4).take (40-4)=s.data.toList++zer (32-s.data.toList.length)++big 4 p:=by
    rw[LH (by omega),Lu (by omega)]
   refine(Je W w.heap.size 40 40 _ hy hlen2 (by omega) (Lb _) (by omega) t (by rw[htk,<-ht,nod])).mono ?_
   rintro e w' ⟨rfl,_,hup⟩;exact⟨rfl,hup.below (by have:=hy.lt (by omega);omega) (fun b hb=>by omega)⟩
  clear ht h1 hd hw0 hp
  go_enter func197,ntmps197
  go_wp2_with (first
   | (go_at_call 230;with_reducible refine(HPP.out _).mono ?_;rintro e w1 ⟨rfl,hb⟩;obtain⟨hcp,hy,hb2⟩:=HCP.out _ hb;generalize w1.setCells w.heap.size 0 (cY s.data.toList)=w3 at *)
   | (refine Uh (by rfl) _ _ _ _ (by rfl) (by rfl) (by rfl) (hcp _) ?_)
   | (go_at_call 196;with_reducible refine(HPU.out _ hy hb2).mono ?_;rintro e w4 ⟨rfl,hy,hb4⟩)
   | (go_at_call 161;with_reducible refine(HSE.out _ hy).mono ?_;rintro e w5 ⟨rfl,hb5⟩))
  go_ret
  exact⟨rfl,hb4.trans hb5⟩
 ·rw[Le h1] at ht;subst ht;have z1:(s.size:Int) > 32:=by omega
  go_enter func197,ntmps197;go_wp2
  go_ret
  exact⟨rfl,Lc _ _⟩
def chn(c:BitVec 32)(s:List UInt8)(ss:LB):Nat:=crc (big 4 c.toNat++s++Qj ss)
theorem Qhv(w:World)(c:BitVec 32)(s:BA)(hs:s.size<=9223372036854775807)(ao:OA)(b off len cap:Nat)(ss:LB)(hr:RdS w ao b off len ss)(hmx:len<=9223372036854775807)(r:Nat)(hR:chn c s.data.toList ss=r) :
  Calls prog 198 #[.int .u32 c.toNat,.string s,.slice ao len cap] w fun e w'=>e= .returned (.int .u32 r)∧Below w.heap.size w w':=by
 obtain⟨w0,hw0⟩:∃w0,w.alloc (.cells (Array.replicate 4 (Value.int .u8 0)) 5)=w0:=⟨_,rfl⟩;have hmk:(Instr.makeSlice 83 (.int .i64 4) (.int .i64 4)).run prog w= .ok (.slice (Zp w.heap.size) 4 4) w0:=by
  rw[<-hw0];exact U4 4 (by decide) w
 have HW:Hid (Byt w0 w.heap.size (zer 4)∧Below w.heap.size w w0):=by
  rw[<-hw0];exact⟨Ou w _,bal (Lc _ _) _⟩
 obtain⟨d,hd⟩:∃d,c.toNat=d:=⟨_,rfl⟩;have hd4:d<4294967296:=by rw[<-hd];exact c.isLt
 have hw2:IntKind.u64.wrap (d:Int)=(d:Int):=by rw[IntKind.wrap_u64];omega
 obtain⟨u,hu⟩:∃u:BA,(⟨(big 4 d).toArray⟩:BA)=u:=⟨_,rfl⟩;have hul:u.data.toList=big 4 d:=by rw[<-hu]
 have HPU:Hid (Calls prog 196 #[.slice (Zp w.heap.size) 4 4,.int .u64 d] w0 fun e w'=>e= .returned (.tuple #[])∧(convert 83 9 (.slice (Zp w.heap.size) 4 4)).run prog w'= .ok (.string u) w'∧Below w.heap.size w w'):=by
  refine(Uo w0 w.heap.size 0 4 4 d (zer 4) HW.out.1 (by rw[QF];decide) (by decide) (by omega)).mono ?_
  rintro e w' ⟨rfl,hy,hup⟩;rw[show zer 4=[]++zer 4 from rfl,YG [] _ _ 0 rfl,Qp,NE,show zer (4-4)=[] from rfl,L7] at hy
  refine⟨rfl,hy.conv (k:=0) (n:=4) (by rw[Qp];decide) 0 (fun _=>rfl) 4 u (by rw[Ia,Lu (by rw[Qp];decide)];exact hu),hup.since HW.out.2 (Lb _)⟩
 obtain⟨x,hx⟩:∃x,crc (big 4 d++s.data.toList)=x:=⟨_,rfl⟩;have HF:Hid (∀W,Calls prog 218 #[.slice (Zp W.heap.size) 2 2] (W.alloc (.cells #[.string u,.string s] 9)) fun e w'=>e= .returned (.int .u32 x)∧Below W.heap.size W w'):=fun W=>by
  refine(Qdq _ _ W.heap.size 0 2 2 [u,s] ⟨rfl,fun _=>rfl,Qq W [.string u,.string s] 9,by intro z hz;simp at hz;rcases hz with rfl|rfl;rw[<-Qe,hul,Qp];decide;exact hs⟩ (by decide)).mono ?_
  rintro e w' ⟨rfl,hb⟩;refine⟨?_,((Lc _ _).alloc (Lb _) _).trans (hb.mono (by simp))⟩
  rw[<-hx,crc,sumL,<-hul];simp[Qj]
 have HR:Hid (chn c s.data.toList ss=r∧crc (big 4 d++s.data.toList)=x∧c.toNat=d):=⟨hR,hx,hd⟩;rw[hd];clear hw0 hu hul hx hR hd
 go_enter func198,ntmps198
 go_wp2_with (first
  | (go_at_call 196;with_reducible refine HPU.out.mono ?_;rintro e w2 ⟨rfl,kc,hb2⟩)
  | (go_at_call 218;with_reducible refine(HF.out _).mono ?_;rintro e w3 ⟨rfl,hb3⟩))
 have HB3:Hid (Below w.heap.size w w3):=Qa hb2 hb3;clear kc hb2 hb3 HPU HF
 go_loopg [8,23] len (fun G y i wr=> ∃(k z:Nat),k<=len∧G=len-k∧y= .int .u32 z∧i= .int .i64 k∧Hid (z=(mor (mor 0#32 (big 4 d++s.data.toList)) (Qj (ss.take k))).toNat)∧Hid (Below w.heap.size w wr))
 case atStart=>go_light;exact⟨0,x,by omega,rfl,rfl,rfl,by show _=_;rw[Ij,show Qj []=[] from rfl,QgX,<-HR.out.2.1];rfl,HB3⟩
 case round=>
  obtain⟨k,z,hk,rfl,rfl,rfl,HM,HB⟩:=hrel
  by_cases hlt:k<len
  ·have hz:(k:Int)<(len:Int):=by omega
   have k0:(0:Int)<=(k:Int):=by omega
   obtain rfl:=hr.ptr (by omega)
   have hr':=hr.next HB.out (Lb _);have ck:=hr'.at hlt;have hcall:=QjX wr _ z HM.out (ss.getD k ByteArray.empty) (hr.szAt hlt);rw[<-Oh,<-UB ss k (by rw[hr.hl];exact hlt)] at hcall
   obtain⟨y,hy⟩:∃y,y=(mor (mor 0#32 (big 4 d++s.data.toList)) (Qj (ss.take (k+1)))).toNat:=⟨_,rfl⟩;rw[<-hy] at hcall;have HY:Hid (y=(mor (mor 0#32 (big 4 d++s.data.toList)) (Qj (ss.take (k+1)))).toNat):=hy;clear hy HM hr';generalize ss.getD k ByteArray.empty=part at *
   go_wp2_with (go_at_call 231;refine hcall.mono ?_;rintro e w' ⟨rfl,hb'⟩)
   go_roundg (len-(k+1))
   case rel=>go_light;exact⟨k+1,y,by omega,rfl,rfl,by go_num,HY,Qa HB.out hb'⟩
   case measure=>go_light;omega
  ·obtain rfl:k=len:=by omega
   have hz:¬(k:Int)<(k:Int):=by omega
   have HE:Hid (z=r):=by
    show _=_
    rw[HM.out,<-HR.out.1,chn,crc,HR.out.2.2,Lu (by rw[hr.hl];exact Lb _),Oh _ (big 4 d++s.data.toList)]
   clear HM;go_wp2
   go_ret
   exact⟨by rw[HE.out];rfl,HB.out⟩
end St.Rc
theorem QlW(w:World)(s:BA):(Instr.field 226 (.agg #[.string s]) 0).run prog w= .ok (.string s) w:=by kernel_rfl
structure Ap(w wr:World)(m:Nat)(k:Int)(L:LB)(x:BA)(j:Nat)(v:Value):Prop where
 blk:wr.heap[m+1]? = some (.cells #[.int .i64 k,.int .u64 ((L.length+1:Nat):Int),.map (some m)] 108 (0,0))
 lst:wr.heap[w.heap.size]? = some (.cells #[.int .i64 j,.int .u64 (((L.length+1)/2^j-1:Nat):Int)] 131 (0,0))
 mp:Mp wr m (fj (clk k) L x j)
 own:Qg wr (w.heap.size+1) v (nw (clk k) (L++[x]) j)
 ch:Chf m w wr
theorem Qfy(w:World)(ht:Tb w)(m:Nat)(k:Int)(L:LB)(hF:Frs w m k L)(s:BA)(hs:s.size<=1048576)(hL:L.length<65536)(t:Nat)(hT:tr 64 (L.length+1)=t) :
  Calls prog 127 #[.pointer (some ⟨m+1,0,none⟩),.string s] w fun e w'=> ∃v,e= .returned (.tuple #[v,.int .i64 0])∧Frs w' m k (L++[s])∧Qg w' w.heap.size v (nw (clk k) (L++[s]) t)∧Chf m w w':=by
 have h1:decide ((1048576:Int)<(s.size:Int))=false:=LC (by omega)
 have h2:decide ((65536:Int)<=(L.length:Int))=false:=LC (by omega)
 have c1:=hF.c1;have f1:=hF.fz 1;have hlt:=hF.lt;have hw1:IntKind.u64.wrap ((L.length:Int)+1)=((L.length+1:Nat):Int):=by rw[Qge _ (by omega) (by omega)];omega
 obtain⟨d0,hd0⟩:∃d0,dg (clk k) (Qw s)=d0:=⟨_,rfl⟩;have HLf:Hid (∀W,Tb W->Calls prog 55 #[.int .i64 k,.string s] W fun e w'=>e= .returned (.string d0)∧Below W.heap.size W w'):=fun W hT=>JB W hT k s (by omega) d0 hd0
 go_enter func127,ntmps127
 go_upto_region 7 with (fail)
 obtain⟨w0,hw0⟩:∃w0,(w.setCell ⟨m+1,1,none⟩ (.int .u64 ((L.length:Int)+1))).alloc (.cells #[.int .i64 0,.int .u64 L.length] 131)=w0:=⟨_,rfl⟩;rw[hw0];have hsz0:(w.setCell ⟨m+1,1,none⟩ (.int .u64 ((L.length:Int)+1))).heap.size=w.heap.size:=by simp
 have hal:∀q,q<w.heap.size->w0.heap[q]? = (w.setCell ⟨m+1,1,none⟩ (.int .u64 ((L.length:Int)+1))).heap[q]? := fun q hq=>by
  rw[<-hw0];exact(MapKept.heap_alloc _ _).2 q (by rw[hsz0];exact hq)
 have hblk0:w0.heap[m+1]? = some (.cells #[.int .i64 k,.int .u64 ((L.length:Int)+1),.map (some m)] 108 (0,0)):=by
  rw[hal _ hlt];exact Ln w (m+1) 1 _ 108 (.int .u64 ((L.length:Int)+1)) hF.blk
 have hlst0:w0.heap[w.heap.size]? = some (.cells #[.int .i64 0,.int .u64 L.length] 131 (0,0)):=by
  have:=Lr (w.setCell ⟨m+1,1,none⟩ (.int .u64 ((L.length:Int)+1))) (.cells #[.int .i64 0,.int .u64 L.length] 131);rw[hsz0,hw0] at this;exact this
 have hmp0:Mp w0 m (ff (clk k) L):=hF.mp.same (by rw[hal m (by omega)];exact Below.heap_setCell _ _ _ _ (by simp))
 have hz0:w.heap.size<w0.heap.size:=(Array.getElem?_eq_some_iff.1 hlst0).1
 have hch0:Chf m w w0:=by
  have h:=(Chf.refl m w).set (b:=m+1) 1 (.int .u64 ((L.length:Int)+1)) (.inl rfl) (by omega)
  have:=h.next (w2:=w0) (by rw[<-hw0];exact bal (Lc _ _) _) (by omega)
  exact this
 have c0:w0.cell? ⟨m+1,0,none⟩=some (.int .i64 k):=by rw[cell_of_row w0 (m+1) 0 _ _ (0,0) hblk0];rfl
 have hTb0:=ht.chf hF hch0;have HTb:Hid (∀W,Chf m w W->Tb W):=fun W hc=>ht.chf hF hc
 clear hw0 hsz0 hal c1 f1 h1 h2 hw1
 go_upto_region 8 with (go_at_call 55;with_reducible refine(HLf.out _ hTb0).mono ?_;rintro e w1 ⟨rfl,hb1⟩)
 have hblk1:w1.heap[m+1]? = _:=(hb1.block (m+1) (by omega)).trans hblk0
 have hlst1:w1.heap[w.heap.size]? = _:=(hb1.block w.heap.size hz0).trans hlst0;have hmp1:=hmp0.same (hb1.block m (by omega))
 have hch1:=hch0.next hb1 (by omega)
 obtain⟨es,cl,hup,hmp2⟩:=(hmp1.same (W:=w1.drew) rfl).write (h:=0) (k:=L.length) ⟨⟨by omega,by omega⟩,by omega⟩ d0
 have hd0':nd (clk k) (L++[s]) 0 L.length=d0:=by rw[nd,<-hd0];simp
 rw[<-hd0',Qjl] at hmp2;have hch2:Chf m w (ChangeMaps.setBlock w1.drew m (.map es cl)):=(Chf.next hch1 (Lc _ _).drew (by omega)).put _
 have hblk2:(ChangeMaps.setBlock w1.drew m (.map es cl)).heap[m+1]? = _:=(UO _ (by omega)).trans hblk1
 have hlst2:(ChangeMaps.setBlock w1.drew m (.map es cl)).heap[w.heap.size]? = _:=(UO _ (by omega)).trans hlst1
 obtain⟨w2,hw2⟩:∃w2,ChangeMaps.setBlock w1.drew m (.map es cl)=w2:=⟨_,rfl⟩;rw[hw2] at hup hmp2 hch2 hblk2 hlst2;have x2:w1.cell? ⟨m+1,2,none⟩=some (.map (some m)):=by rw[cell_of_row w1 (m+1) 2 _ _ (0,0) hblk1];rfl
 have y0:w1.cell? ⟨w.heap.size,0,none⟩=some (.int .i64 0):=by rw[cell_of_row w1 _ 0 _ _ (0,0) hlst1];rfl
 have y1:w1.cell? ⟨w.heap.size,1,none⟩=some (.int .u64 L.length):=by rw[cell_of_row w1 _ 1 _ _ (0,0) hlst1];rfl
 unfold kv nv at hup;clear hw2 hmp0 hmp1 hch0 hch1 hblk0 hlst0 hb1 hTb0 c0 HLf hblk1 hlst1;have HTr:Hid (∀W,Calls prog 194 #[.int .u64 ((L.length:Int)+1)] W fun e w'=>e= .returned (.int .i64 t)∧W=w'):=fun W=>(J4 (L.length+1) W (by omega) t hT).mono fun _ _ h=>⟨h.1,h.2.symm⟩
 have HAp:Hid (Ap w (w2.alloc (.cells #[.string d0] 9)) m k L s 0 (.slice (Zp w2.heap.size) 1 1)):=by
  have hz2:w.heap.size<w2.heap.size:=(Array.getElem?_eq_some_iff.1 hlst2).1
  refine⟨((MapKept.heap_alloc _ _).2 _ (by omega)).trans hblk2,((MapKept.heap_alloc _ _).2 _ hz2).trans ?_,hmp2.same ((MapKept.heap_alloc _ _).2 _ (by omega)),?_,hch2.next (bal (Lc _ _) _) (by omega)⟩
  ·rw[hlst2];simp
  ·rw[QmB,Lh,Nb,Ny,hd0'];exact QN (Qdv w2 d0) (by omega)
 have hc5:(w2.alloc (.cells #[.string d0] 9)).cell? ⟨m+1,1,none⟩=some (.int .u64 ((L.length:Int)+1)):=by rw[cell_of_row _ (m+1) 1 _ _ (0,0) HAp.out.blk];rfl
 have hsh:∀q,q<w2.heap.size->(w2.alloc (.cells #[.string d0] 9)).heap[q]? = w2.heap[q]? := fun q hq=>(MapKept.heap_alloc _ _).2 _ hq
 have ht16:t<=16:=by rw[<-hT];exact Qk4 (by omega) (by omega)
 clear hsh hmp2 hch2 hblk2 hlst2
 go_region
 go_wp2_with (go_at_call 194;with_reducible refine(HTr.out _).mono ?_;rintro e w3 ⟨rfl,rfl⟩)
 have HK:=Qc hF;have hkk:=Qn k;have HDd:Hid (d0=nd (clk k) (L++[s]) 0 ((L.length+1)/2^0-1)):=by show d0=_;rw[ND,IR,Ny,hd0']
 have HHT:=Qc hT;clear HTr hc5 x2 y0 y1 hup hd0' hd0 ht hF hs hz0 hT;generalize w2.alloc (.cells #[.string d0] 9)=w3 at *;generalize w2.heap.size=z2 at *
 go_loopg [7,8,50] t (fun g x v i wr=> ∃(j:Nat) (d:BA),j<=t∧g=t-j∧x= .string d∧Hid (d=nd (clk k) (L++[s]) j ((L.length+1)/2^j-1))∧i= .int .i64 j∧Hid (Ap w wr m k L s j v))
 case atStart=>go_light;exact⟨0,d0,Lm _,rfl,rfl,HDd,rfl,HAp⟩
 case round=>
  clear HAp HDd;obtain⟨j,d,hj,rfl,rfl,HDj,rfl,HA⟩:=hrel
  by_cases hjt:j<t
  ·have hz:(j:Int)<(t:Int):=by omega
   have hz0:(0:Int)<=(j:Int):=Lf _;have hz9:(j:Int)<=16:=by omega
   obtain⟨q',hq'⟩:=Qk1 (j:=j+1) HHT.out (by omega)
   obtain⟨q,rfl⟩:∃q,q'=q+1:=⟨q'-1,by
    have:q'≠0:=by rintro rfl;simp at hq'
    omega⟩
   have e1:(L.length+1)/2^(j+1)-1=q:=by rw[QgR hq'];omega
   have e2:(L.length+1)/2^j-1=2*q+1:=by
    rw[QgR (q:=2*(q+1)) (by rw[hq',LO,L5])];omega
   obtain⟨a,ha⟩:∃a,2*q+1=a:=⟨_,rfl⟩;have hab:a<=L.length+1:=by rw[<-ha,<-e2];exact Lt (Nat.sub_le _ _) (NI _ _)
   have ha1:(1:Int)<=(a:Int):=by omega
   have ha2:(a:Int)<=65536:=by omega
   obtain⟨lf,hlf⟩:∃lf,nd (clk k) (L++[s]) j (2*q)=lf:=⟨_,rfl⟩;have hb:=HA.out.blk;have hl:=HA.out.lst;rw[e2,ha] at hl;have z0:wr.cell? ⟨m+1,0,none⟩=some (.int .i64 k):=by rw[cell_of_row wr (m+1) 0 _ _ (0,0) hb];rfl
   have z2:wr.cell? ⟨m+1,2,none⟩=some (.map (some m)):=by rw[cell_of_row wr (m+1) 2 _ _ (0,0) hb];rfl
   have l0:wr.cell? ⟨w.heap.size,0,none⟩=some (.int .i64 j):=by rw[cell_of_row wr _ 0 _ _ (0,0) hl];rfl
   have l1:wr.cell? ⟨w.heap.size,1,none⟩=some (.int .u64 a):=by rw[cell_of_row wr _ 1 _ _ (0,0) hl];rfl
   have hlook:=(HA.out.mp.same (W:=wr.drew) rfl).look (h:=(j:Int)) (k:=2*q) ⟨⟨by omega,by omega⟩,by omega⟩ false
   rw[QlX (clk k) L s j q hq',hlf] at hlook;unfold kv nv at hlook;rw[show((2*q:Nat):Int)=(a:Int)-1 by omega] at hlook
   simp only[Option.getD_some,Bool.false_eq_true,if_false] at hlook;obtain⟨d',hd'⟩:∃d',dg (clk k) (Qz lf d)=d':=⟨_,rfl⟩;have zl:lf.size=clk k:=by rw[<-hlf];exact QG hkk _ _ _
   have zd:d.size=clk k:=by rw[HDj.out];exact QG hkk _ _ _
   have HNd:Hid (∀W,Tb W->Calls prog 155 #[.int .i64 k,.string lf,.string d] W fun e w'=>e= .returned (.string d')∧Below W.heap.size W w'):=fun W hT=>YU W hT k lf d (by omega) (by omega) d' hd'
   have HD2:Hid (d'=nd (clk k) (L++[s]) (j+1) ((L.length+1)/2^(j+1)-1)):=by
    show d'=_
    rw[e1,nd,hlf,<-hd',HDj.out,e2]
   have hTw:=(HTb.out wr HA.out.ch);have HTd:Hid (Tb wr.drew):=⟨hTw.rs⟩;have hfl:=QlW wr.drew lf;have HW:Hid (∀W,Below wr.drew.heap.size wr.drew W->W.cell? ⟨w.heap.size,0,none⟩=some (.int .i64 j)∧W.cell? ⟨w.heap.size,1,none⟩=some (.int .u64 a)∧W.frozen? ⟨w.heap.size,0,none⟩=false∧W.frozen? ⟨w.heap.size,1,none⟩=false ∧
     W.heap[w.heap.size]? = some (.cells #[.int .i64 j,.int .u64 a] 131 (0,0))∧W.heap[m+1]? = some (.cells #[.int .i64 k,.int .u64 ((L.length+1:Nat):Int),.map (some m)] 108 (0,0))∧Mp W m (fj (clk k) L s j)∧Chf m w W ∧ ∀v l,Qg wr (w.heap.size+1) v l->Qg W (w.heap.size+1) v l):=fun W hbW=>by
    have hlw:=(hbW.block w.heap.size (Array.getElem?_eq_some_iff.1 hl).1).trans hl
    have hm1:m+1<wr.heap.size:=(Array.getElem?_eq_some_iff.1 hb).1
    refine⟨?_,?_,frozen_of_row W _ 0 _ _ hlw,frozen_of_row W _ 1 _ _ hlw,hlw,(hbW.block (m+1) hm1).trans hb,HA.out.mp.same (hbW.block m (by show m<wr.heap.size;omega)),HA.out.ch.trans (Chf.of (w:=wr) ⟨hbW.os,hbW.tape,hbW.output,hbW.size,hbW.block⟩ (by omega)),fun v l ho=>Qv (w:=wr) ho ⟨hbW.os,hbW.tape,hbW.output,hbW.size,hbW.block⟩ (Lb _)⟩
    ·rw[cell_of_row W _ 0 _ _ (0,0) hlw];rfl
    ·rw[cell_of_row W _ 1 _ _ (0,0) hlw];rfl
   clear hb hl zl zd hd' HDj hTw
   go_upto_region 12 with (fail)
   go_region
   go_upto_region 15 with (go_at_call 155;with_reducible refine(HNd.out _ HTd.out).mono ?_;rintro e w4 ⟨rfl,hb4⟩;obtain⟨p0,p1,p2,p3,P⟩:=HW.out _ hb4)
   obtain⟨hl4,hb5,hm4,hc4,ho4⟩:=P;have es1:=Ln w4 w.heap.size 0 _ 131 (.int .i64 ((j:Int)+1)) hl4;have es2:=Ln _ w.heap.size 1 _ 131 (.int .u64 ((a:Int)/2)) es1;have hm1:m+1<w.heap.size:=HK.out.lt;have hnb:∀b,b≠w.heap.size->((w4.setCell ⟨w.heap.size,0,none⟩ (.int .i64 ((j:Int)+1))).setCell ⟨w.heap.size,1,none⟩ (.int .u64 ((a:Int)/2))).heap[b]? = w4.heap[b]? := fun b hb=>
    (Below.heap_setCell _ ⟨w.heap.size,1,none⟩ _ b hb).trans (Below.heap_setCell _ ⟨w.heap.size,0,none⟩ _ b hb)
   have hc5:Chf m w ((w4.setCell ⟨w.heap.size,0,none⟩ (.int .i64 ((j:Int)+1))).setCell ⟨w.heap.size,1,none⟩ (.int .u64 ((a:Int)/2))) :=
    (hc4.set 0 _ (.inr (Lb _)) (by omega)).set 1 _ (.inr (Lb _)) (by omega)
   have hb6:=(hnb (m+1) (by omega)).trans hb5
   have hm5:=hm4.same (hnb m (by omega))
   have ho5:∀v l,Qg wr (w.heap.size+1) v l->Qg ((w4.setCell ⟨w.heap.size,0,none⟩ (.int .i64 ((j:Int)+1))).setCell ⟨w.heap.size,1,none⟩ (.int .u64 ((a:Int)/2))) (w.heap.size+1) v l:=fun v l ho=>by
    obtain⟨g1,g2⟩:=ho4 v l ho;refine⟨g1,?_⟩
    rcases g2 with g2|⟨g,cap,cur,rfl,hg,hh,r⟩
    ·exact .inl g2
    ·exact .inr ⟨g,cap,cur,rfl,hg,(hnb g (by omega)).trans hh,r⟩
   obtain⟨w5,hw5⟩:∃w5,(w4.setCell ⟨w.heap.size,0,none⟩ (.int .i64 ((j:Int)+1))).setCell ⟨w.heap.size,1,none⟩ (.int .u64 ((a:Int)/2))=w5:=⟨_,rfl⟩;rw[hw5] at es2 hc5 hb6 hm5;rw[hw5];have hl5:w5.heap[w.heap.size]? = some (.cells #[.int .i64 ((j:Int)+1),.int .u64 ((a:Int)/2)] 131 (0,0)):=es2;have ho6:∀v l,Qg wr (w.heap.size+1) v l->Qg w5 (w.heap.size+1) v l:=fun v l ho=>by rw[<-hw5];exact ho5 v l ho
   obtain⟨es,cl,hup,hm6⟩:=(hm5.same (W:=w5.drew) rfl).write (h:=((j+1:Nat):Int)) (k:=q) ⟨⟨by omega,by omega⟩,by omega⟩ d'
   rw[show d'=nd (clk k) (L++[s]) (j+1) q by rw[HD2.out,e1],QlY (clk k) L s j q hq'] at hm6
   have hz5:w.heap.size<w5.heap.size:=(Array.getElem?_eq_some_iff.1 hl5).1
   have hc6:Chf m w (ChangeMaps.setBlock w5.drew m (.map es cl)):=(Chf.next hc5 (Lc _ _).drew (by omega)).put _
   have hb7:(ChangeMaps.setBlock w5.drew m (.map es cl)).heap[m+1]? = _:=(UO _ (by omega)).trans hb6
   have hl6:(ChangeMaps.setBlock w5.drew m (.map es cl)).heap[w.heap.size]? = _:=(UO _ (by omega)).trans hl5
   have ho7:Qg (ChangeMaps.setBlock w5.drew m (.map es cl)) (w.heap.size+1) u8 (nw (clk k) (L++[s]) j):=by
    obtain⟨g1,g2⟩:=ho6 _ _ HA.out.own;refine⟨g1,?_⟩
    rcases g2 with g2|⟨g,cap,cur,e,hg,hh,r⟩
    ·exact .inl g2
    ·exact .inr ⟨g,cap,cur,e,hg,(UO _ (by omega)).trans hh,r⟩
   obtain⟨w6,hw6⟩:∃w6,ChangeMaps.setBlock w5.drew m (.map es cl)=w6:=⟨_,rfl⟩;rw[hw6] at hup hm6 hc6 hb7 hl6 ho7;have x2:w5.cell? ⟨m+1,2,none⟩=some (.map (some m)):=by rw[cell_of_row w5 (m+1) 2 _ _ (0,0) hb6];rfl
   have y0:w5.cell? ⟨w.heap.size,0,none⟩=some (.int .i64 ((j:Int)+1)):=by rw[cell_of_row w5 _ 0 _ _ (0,0) hl5];rfl
   have y1:w5.cell? ⟨w.heap.size,1,none⟩=some (.int .u64 ((a:Int)/2)):=by rw[cell_of_row w5 _ 1 _ _ (0,0) hl5];rfl
   unfold kv nv at hup;have ea:(a:Int)/2=(q:Int):=by omega
   rw[<-ea,show((j+1:Nat):Int)=(j:Int)+1 by omega] at hup
   have HY:Hid (d'.size<=9223372036854775807):=by show d'.size<=_;rw[HD2.out,QG hkk];omega
   have HO:=Qc ho7;have HZ6:Hid (w.heap.size<w6.heap.size):=(Array.getElem?_eq_some_iff.1 hl6).1
   have HLn:Hid ((nw (clk k) (L++[s]) j).length<=17):=by show _<=_;rw[QoO];omega
   have HG:Hid (Mp w6 m (fj (clk k) L s (j+1))∧Chf m w w6∧w6.heap[m+1]? = some (.cells #[.int .i64 k,.int .u64 ((L.length+1:Nat):Int),.map (some m)] 108 (0,0))∧w6.heap[w.heap.size]? = some (.cells #[.int .i64 ((j+1:Nat):Int),.int .u64 (((L.length+1)/2^(j+1)-1:Nat):Int)] 131 (0,0))∧m+1<w.heap.size) :=
    ⟨hm6,hc6,hb7,by rw[hl6,e1,<-ea];rfl,hm1⟩
   clear hw6 hw5 es1 es2 hb4 hl4 hb5 hm4 hc4 ho4 hnb hc5 hb6 hm5 ho5 hl5 ho6 hm6 hz5 hc6 hb7 hl6 ho7 hlook hfl HW HNd HTd z0 z2 l0 l1 p0 p1 p2 p3 ea hq' e1 e2 hab
   go_region
   go_wp2_with (at_builtin;refine QM _ rfl _ _ rfl (w.heap.size+1) _ _ rfl (Q4 HO.out _) (Zp w6.heap.size) w6.heap.size 0 1 [d'] rfl (YT w6 d' HY.out) (fun h=>by cases h) ?c1 ?c2 ?_)
   case c1=>have:=HLn.out;simp;omega
   case c2=>have:=HZ6.out;simp;omega
   intro v2 w7 h7 hb7;have HA2:Hid (Ap w w7 m k L s (j+1) v2):=by
    obtain⟨g1,g2,g3,g4,g5⟩:=HG.out;have hz6:=HZ6.out;have hbb:Below (w.heap.size+1) w6 w7:=((Lc _ _).alloc (by omega) _).trans hb7
    have hcc:Chf m w w7:=⟨g2.below.trans (hbb.mono (by omega)),fun b hb x y=>(hbb.block b (by omega)).trans (g2.block b hb x y)⟩
    refine⟨(hbb.block _ (by omega)).trans g3,(hbb.block _ (by omega)).trans g4,g1.same (hbb.block m (by omega)),?_,hcc⟩
    rw[QmA,Lh,Nb,<-HD2.out];exact h7
   clear h7 hb7;go_wp2
   go_roundg (t-(j+1))
   case rel=>go_light;exact⟨j+1,d',by omega,rfl,rfl,HD2,by go_num,HA2⟩
   case measure=>go_light;omega
  ·obtain rfl:j=t:=by omega
   have hz:¬((j:Int)<(j:Int)):=by omega
   go_wp2
   go_ret2
   have hm2:=HA.out.mp;rw[Qoo (clk k) L s j hL HHT.out] at hm2;refine⟨_,rfl,⟨?_,hm2,HK.out.k1,HK.out.k2,by simp;omega⟩,QN HA.out.own (by omega),HA.out.ch⟩
   rw[HA.out.blk];simp
end Go.Proofs.YtoblgjledefdbabGreatDoor
