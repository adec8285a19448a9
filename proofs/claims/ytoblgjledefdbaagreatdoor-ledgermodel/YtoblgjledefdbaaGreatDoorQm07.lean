/- Own work. -/
import Derived.Deep.Upon
import Derived.Test.YtoblgjledefdbaaGreatDoorQm06
set_option maxRecDepth 100000
set_option maxHeartbeats 1000000
namespace Go.Proofs.YtoblgjledefdbaaGreatDoor
open Go.RowKit
attribute [local go_sem ↓] Go.wp_at_zero Go.wp_at_succ
open Go.Proofs.Tryz
namespace St.Rc
theorem Qb(s:BA):s.data.toList.length=s.size:=Np
theorem Ji{a b:BA}(h:a.data.toList=b.data.toList):a=b:=by
 cases a;cases b;simp at h;simp[h]
def big:Nat->Nat->List UInt8
 | 0,_=>[]
 | k+1,n=>big k (n / 256)++[UInt8.ofNat n]
theorem Ql(k n:Nat):(big k n).length=k:=by
 induction k generalizing n with
 | zero=>rfl
 | succ k ih=>simp[big,ih]
theorem Qjd(k n:Nat):big (k+1) n=UInt8.ofNat (n / 256^k)::big k n:=by
 induction k generalizing n with
 | zero=>simp[big]
 | succ k ih =>
  rw[big,ih,L1,<-Nat.pow_succ',Ih]
  rfl
def num(l:List UInt8):Nat:=l.foldl (fun n b=>n*256+b.toNat) 0
theorem OV(l:List UInt8)(b:UInt8):num (l++[b])=num l*256+b.toNat:=by simp[num]
theorem U6{P:List UInt8->Prop}(h0:P [])(hs : ∀l b,P l->P (l++[b]))(l:List UInt8):P l:=by
 have : ∀l:List UInt8,P l.reverse:=by
  intro l
  induction l with
  | nil=>exact h0
  | cons b l ih=>rw[Id];exact hs _ _ ih
 have h:=this l.reverse
 rwa [List.reverse_reverse] at h
theorem Qom(l:List UInt8):num l<256^l.length:=by
 induction l using U6 with
 | h0=>simp[num]
 | hs l b ih =>
  rw[OV,Lc,LF,LC];have:=b.toNat_lt;omega
theorem On(l:List UInt8)(k:Nat)(h:l.length<=k):num l<256^k:=Lx (Qom l) (LW (by decide) h)
theorem Qmr(k n:Nat):num (big k n)=n % 256^k:=by
 induction k generalizing n with
 | zero=>simp[big,num,Nat.mod_one]
 | succ k ih =>
  rw[big,OV,ih,UInt8.toNat_ofNat',show(256:Nat)^(k+1)=256*256^k from Nat.pow_succ',N7]
  omega
theorem YV(k n:Nat)(h:n<256^k):num (big k n)=n:=by rw[Qmr,Nn h]
theorem QlC(l:List UInt8):big l.length (num l)=l:=by
 induction l using U6 with
 | h0=>rfl
 | hs l b ih =>
  have hb:=b.toNat_lt;rw[Lc,LF,big,OV,show(num l*256+b.toNat) / 256=num l by omega,ih]
  congr 2
  apply UInt8.toNat_inj.1
  rw[UInt8.toNat_ofNat'];omega
theorem Qje(l:List UInt8)(k:Nat)(h:l.length=k):big k (num l)=l:=by subst h;exact QlC l
def zer(n:Nat):List UInt8:=List.replicate n 0
theorem Qw(n:Nat):(zer n).length=n:=by simp[zer]
def crc(l:List UInt8):Nat:=(mor 0#32 l).toNat
theorem Qjx(l:List UInt8):crc l<256^4:=(mor 0#32 l).isLt
def sld(l:List UInt8):List UInt8:=l++big 4 (crc l)
theorem JW(l:List UInt8):(sld l).length=l.length+4:=by simp[sld,Ql]
def pay(s:List UInt8):List UInt8:=sld (big 4 s.length++s)
def nod(p:Nat)(d:List UInt8):List UInt8:=sld (d++zer (32 - d.length)++big 4 p)
structure MV where
 k:Int
 size:Nat
 items:Nat
 nodes:Nat
 chain:BitVec 32
def MV.z:MV:=⟨0,0,0,0,0#32⟩
def UH(k a b c d:Nat):List UInt8:=[109,115,102,1]++big 1 k++zer 3++big 8 a++big 8 b++big 8 c++big 4 d++zer 24
theorem JJ(k a b c d:Nat):(UH k a b c d).length=60:=by simp[UH,Ql,Qw]
def mrk(m:MV):List UInt8:=if 1<=m.k∧m.k<=32 then sld (UH m.k.toNat m.size m.items m.nodes m.chain.toNat) else []
theorem pay_len(s:List UInt8):(pay s).length=s.length+8:=by simp[pay,JW,Ql];omega
theorem OS(p:Nat)(d:List UInt8)(h:d.length<=32):(nod p d).length=40:=by simp[nod,JW,Ql,Qw];omega
theorem Qdn(m:MV)(h:1<=m.k∧m.k<=32):(mrk m).length=64:=by rw[mrk,Lk h,JW,JJ]
def payS(s:List UInt8):List UInt8:=if s.length<=1048576 then pay s else []
def nodS(p:Nat)(d:List UInt8):List UInt8:=if d.length<=32 then nod p d else []
def rpay(s:List UInt8):Option (List UInt8) :=
 if 4<=s.length∧num (s.take 4)<=1048576∧num (s.take 4)+8<=s.length∧pay ((s.drop 4).take (num (s.take 4)))=s.take (num (s.take 4)+8) then some ((s.drop 4).take (num (s.take 4))) else none
theorem QmE(s:List UInt8)(n:Nat)(h4:4<=s.length)(hn:num (s.take 4)=n)(h8:n+8<=s.length):pay ((s.drop 4).take n)=sld (s.take (n+4)):=by
 have e1:((s.drop 4).take n).length=n:=by simp;omega
 have e2:big 4 n=s.take 4:=by rw[<-hn,Qje _ _ (by simp;omega)]
 rw[pay,e1,e2]
 congr 1
 have:s.take (n+4)=s.take 4++(s.drop 4).take n:=by rw[Nat.add_comm,List.take_add]
 rw[this]
theorem Qe9(x t:List UInt8)(h:x.length<=1048576):rpay (pay x++t)=some x:=by
 have hl:=pay_len x;have e0:(pay x++t).take 4=big 4 x.length:=by
  rw[Lt (by omega),pay,sld,Lq,Lt (by rw[Ql];exact La _),Lo (by rw[Ql];exact La _)]
 have e1:num ((pay x++t).take 4)=x.length:=by rw[e0,YV _ _ (by omega)]
 have e2:((pay x++t).drop 4).take x.length=x:=by
  rw[LI (by omega),Lt (by simp;omega),pay,sld,Lq,LI (by rw[Ql];exact La _),LZ (by rw[Ql];exact La _),Nd,Lt (La _),Lo (La _)]
 rw[rpay,e1,e2];refine Lk ⟨by simp;omega,h,by simp;omega,?_⟩
 rw[Lt (by omega),Lo (by omega)]
theorem rpay_len{s x:List UInt8}(h:rpay s=some x):x.length<=1048576∧x.length+8<=s.length∧pay x=s.take (x.length+8)∧num (s.take 4)=x.length:=by
 unfold rpay at h
 split at h
 ·rename_i hc
  cases h;have e:(List.take (num (List.take 4 s)) (List.drop 4 s)).length=num (List.take 4 s):=by simp;omega
  rw[e];exact⟨hc.2.1,hc.2.2.1,hc.2.2.2,rfl⟩
 ·cases h
def rnod(k p:Nat)(s:List UInt8):Option (List UInt8):=if s.length=40∧nod p (s.take k)=s then some (s.take k) else none
theorem Qkm(p:Nat)(d:List UInt8):(nod p d).take d.length=d:=by
 rw[nod,sld,Lq,Lq,Lt (La _),Lo (La _)]
theorem Qe7(p:Nat)(d:List UInt8)(h:d.length<=32):rnod d.length p (nod p d)=some d:=by
 rw[rnod,Qkm];exact Lk ⟨OS p d h,rfl⟩
def mOf(s:List UInt8):MV:=⟨(num ((s.drop 4).take 1):Int),num ((s.drop 8).take 8),num ((s.drop 16).take 8),num ((s.drop 24).take 8),BitVec.ofNat 32 (num ((s.drop 32).take 4))⟩
def rmrk(s:List UInt8):Option MV:=if s.length=64∧mrk (mOf s)=s then some (mOf s) else none
theorem MV.ext'{a b:MV}(h1:a.k=b.k)(h2:a.size=b.size)(h3:a.items=b.items)(h4:a.nodes=b.nodes)(h5:a.chain=b.chain):a=b:=by
 cases a;cases b;simp only at h1 h2 h3 h4 h5;subst h1 h2 h3 h4 h5;rfl
structure MV.Ok(m:MV):Prop where
 k1:1<=m.k
 k2:m.k<=32
 size:m.size<256^8
 items:m.items<256^8
 nodes:m.nodes<256^8
theorem Oh(a b c:List UInt8)(i n:Nat)(ha:a.length=i)(hb:b.length=n):((a++b++c).drop i).take n=b:=by
 subst ha hb;rw[Lq,LI (La _),LZ (La _),Nd,Lt (La _),Lo (La _)]
theorem Qmf(m:MV)(h:m.Ok):mOf (mrk m)=m:=by
 have e:mrk m=sld (UH m.k.toNat m.size m.items m.nodes m.chain.toNat):=Lk ⟨h.k1,h.k2⟩;obtain⟨T,hT⟩:=Ze (big 4 (crc (UH m.k.toNat m.size m.items m.nodes m.chain.toNat)));rw[e,sld,hT,UH];have h1:=h.k1;have h2:=h.k2;refine MV.ext' ?_ ?_ ?_ ?_ ?_
 ·show((num _:Nat):Int)=_
  have:=Oh [109,115,102,1] (big 1 m.k.toNat) (zer 3++big 8 m.size++big 8 m.items++big 8 m.nodes++big 4 m.chain.toNat++zer 24++T) 4 1 rfl (Ql _ _);simp only[List.append_assoc] at this ⊢;rw[this,YV _ _ (by omega)]
  omega
 ·show num _=_
  have:=Oh ([109,115,102,1]++big 1 m.k.toNat++zer 3) (big 8 m.size) (big 8 m.items++big 8 m.nodes++big 4 m.chain.toNat++zer 24++T) 8 8 (by simp[Ql,Qw]) (Ql _ _)
  simp only[List.append_assoc] at this ⊢;rw[this,YV _ _ h.size]
 ·show num _=_
  have:=Oh ([109,115,102,1]++big 1 m.k.toNat++zer 3++big 8 m.size) (big 8 m.items) (big 8 m.nodes++big 4 m.chain.toNat++zer 24++T) 16 8 (by simp[Ql,Qw]) (Ql _ _)
  simp only[List.append_assoc] at this ⊢;rw[this,YV _ _ h.items]
 ·show num _=_
  have:=Oh ([109,115,102,1]++big 1 m.k.toNat++zer 3++big 8 m.size++big 8 m.items) (big 8 m.nodes) (big 4 m.chain.toNat++zer 24++T) 24 8 (by simp[Ql,Qw]) (Ql _ _)
  simp only[List.append_assoc] at this ⊢;rw[this,YV _ _ h.nodes]
 ·show BitVec.ofNat 32 (num _)=_
  have:=Oh ([109,115,102,1]++big 1 m.k.toNat++zer 3++big 8 m.size++big 8 m.items++big 8 m.nodes) (big 4 m.chain.toNat) (zer 24++T) 32 4 (by simp[Ql,Qw]) (Ql _ _)
  simp only[List.append_assoc] at this ⊢;rw[this,YV _ _ (show m.chain.toNat<256^4 from m.chain.isLt)]
  simp
theorem QkQ(m:MV)(h:m.Ok):rmrk (mrk m)=some m:=by
 rw[rmrk,Qmf m h];exact Lk ⟨Qdn m ⟨h.k1,h.k2⟩,rfl⟩
end St.Rc
namespace St.Rc
theorem Qen(s:BA)(k:Nat):(s.extract 0 k).data.toList=s.data.toList.take k:=by
 rw[Nz,Ie,NV,ND,I9]
structure Upo(S:Nat->Prop)(w w':World):Prop where
 os:w'.os=w.os
 tape:w'.tape=w.tape
 output:w'.output=w.output
 size:w.heap.size<=w'.heap.size
 block : ∀b,b<w.heap.size -> ¬S b->w'.heap[b]? = w.heap[b]?
section
variable {S T:Nat->Prop} {w w' w1 w2:World}
theorem Upo.refl(S:Nat->Prop)(w:World):Upo S w w:=⟨rfl,rfl,rfl,La _,fun _ _ _=>rfl⟩
theorem Upo.of(h:Below w.heap.size w w'):Upo S w w':=⟨h.os,h.tape,h.output,h.size,fun b hb _=>h.block b hb⟩
theorem Upo.trans(h:Upo S w w1)(h2:Upo T w1 w2)(hT : ∀b,b<w.heap.size->T b->S b):Upo S w w2 :=
 ⟨h2.os.trans h.os,h2.tape.trans h.tape,h2.output.trans h.output,Lu h.size h2.size,fun b hb hs=>(h2.block b (Lx hb h.size) fun ht=>hs (hT b hb ht)).trans (h.block b hb hs)⟩
theorem Upo.on(h:Upo S w w1)(h2:Upo S w1 w2):Upo S w w2:=h.trans h2 fun _ _ q=>q
theorem Upo.below(h:Upo S w w'){B:Nat}(hB:B<=w.heap.size)(hS : ∀b,S b->B<=b):Below B w w' :=
 ⟨h.os,h.tape,h.output,h.size,fun b hb=>h.block b (by omega) fun hs=>by have:=hS b hs;omega⟩
theorem Upo.set(h:Upo S w w')(b i:Nat)(v:Value)(hb:S b∨w.heap.size<=b):Upo S w (w'.setCell ⟨b,i,none⟩ v):=by
 refine⟨h.os,h.tape,h.output,by simpa using h.size,fun c hc hs => ?_⟩
 rw[<-h.block c hc hs];exact Below.heap_setCell _ _ _ _ (by show c≠b;rintro rfl;rcases hb with hb|hb;exact hs hb;omega)
theorem Upo.sets{g:Nat}(hg:S g∨w.heap.size<=g) : ∀(vs:List Value) (o:Nat) (w':World),Upo S w w'->Upo S w (w'.setCells g o vs)
 | [],_,_,h=>h
 | v::r,o,_,h=>Upo.sets hg r (o+1) _ (h.set g o v hg)
theorem Upo.since{g:Nat}(h:Upo (fun b=>b=g) w1 w2)(h1:Below w.heap.size w w1)(hg:w.heap.size<=g):Below w.heap.size w w2 :=
 h1.trans (h.below h1.size fun b hb=>by omega)
end
theorem Yq(w:World)(o:Obj):(w.alloc o).heap[w.heap.size]? = some o:=(MapKept.heap_alloc w o).1
def cY(l:List UInt8):List Value:=l.map fun b=>Value.int .u8 (b.toNat:Int)
theorem Qp(l:List UInt8):(cY l).length=l.length:=by simp[cY]
theorem Uq(l m:List UInt8):cY (l++m)=cY l++cY m:=by simp[cY]
theorem Og(l:List UInt8) : ∀u∈cY l,u.oneCell'=true:=fun u hu=>by obtain⟨_,_,rfl⟩:=List.mem_map.1 hu;rfl
theorem Tryz.infoY:(prog.info? 5).map (fun i=>(i.zero,i.size,i.bytes))=some (some (.int .u8 0),1,1):=by kernel_rfl
structure Byt(w:World)(g:Nat)(l:List UInt8):Prop where
 rng:w.rangeAt g 0 (cY l)
 thr:w.there g 0 l.length
section
variable {w W:World} {g:Nat} {l:List UInt8}
theorem Byt.at(h:Byt w g l){j:Nat}(hj:j<l.length):w.cell? ⟨g,j,none⟩=some (.int .u8 ((l.getD j 0).toNat:Int)):=by
 have:=h.rng j (.int .u8 ((l.getD j 0).toNat:Int)) (by simp[cY,List.getElem?_eq_getElem hj,List.getD_eq_getElem?_getD])
 rwa [Lm] at this
theorem Byt.free(h:Byt w g l){j:Nat}(hj:j<l.length):w.frozen? ⟨g,j,none⟩=false:=by
 have:=(h.thr j hj).2
 rwa [Lm] at this
theorem Byt.lt(h:Byt w g l)(h0:0<l.length):g<w.heap.size:=Ln _ _ (h.at h0)
theorem QK{b o n:Nat}(h:w.there b o n)(a:Addr)(v:Value):(w.setCell a v).there b o n:=fun j hj=>by
 obtain⟨h1,h2⟩:=h j hj;refine⟨?_,by rw[World.frozen?_setCell];exact h2⟩
 by_cases e:a=⟨b,o+j,none⟩
 ·subst e;obtain⟨u,hu⟩:=Option.isSome_iff_exists.1 h1;rw[Na w _ v hu];rfl
 ·rw[LO _ _ _ _ e];exact h1
theorem YG{b o:Nat}{cs:List Value}(h:w.rangeAt b o cs)(i:Nat)(v:Value):(w.setCell ⟨b,o+i,none⟩ v).rangeAt b o (cs.set i v):=fun j u hu=>by
 rw[List.getElem?_set] at hu
 split at hu
 ·rename_i e
  subst e
  split at hu
  ·rename_i hl
   cases hu;have:=h i cs[i] (Lh hl);exact Na w _ _ this
  ·cases hu
 ·rename_i e
  rw[LO _ _ _ _ (fun e'=>e (by have:=Lw Addr.off e';simp at this;omega))]
  exact h j u hu
theorem Byt.set(h:Byt w g l)(j:Nat)(b:UInt8)(x:Int)(hx:x=(b.toNat:Int)):Byt (w.setCell ⟨g,j,none⟩ (.int .u8 x)) g (l.set j b):=by
 subst hx;refine⟨?_,by rw[Is];exact QK h.thr _ _⟩
 have:=YG h.rng j (.int .u8 (b.toNat:Int));rw[Lm] at this;rw[cY,List.map_set];exact this
theorem Byt.same(h:Byt w g l)(hb:W.heap[g]? = w.heap[g]?):Byt W g l:=by
 refine⟨fun j v hv => ?_,fun j hj => ?_⟩
 ·rw[LD (a:=⟨g,0+j,none⟩) hb];exact h.rng j v hv
 ·rw[LD (a:=⟨g,0+j,none⟩) hb,NN (a:=⟨g,0+j,none⟩) hb];exact h.thr j hj
theorem Byt.next{B:Nat}(h:Byt w g l)(hb:Below B w W)(hg:g<B):Byt W g l:=h.same (hb.block g hg)
theorem QlF(w:World)(s:BA)(cap:Nat)(t:TypeId):Byt (w.alloc (.cells (bytesRow s cap) t ((bytesRow s cap).size,(bytesRow s cap).size+1))) w.heap.size s.data.toList:=by
 have xA:s.data.size<=(bytesRow s cap).size:=by simp[bytesRow]
 have hc : ∀j,(hj:j<s.data.size)->(w.alloc (.cells (bytesRow s cap) t ((bytesRow s cap).size,(bytesRow s cap).size+1))).cell? ⟨w.heap.size,j,none⟩=some (.int .u8 (s.data[j].toNat:Int)):=fun j hj=>by
  rw[World.cell?_alloc_mark,bytesRow_at s cap j hj]
 refine⟨fun j v hv => ?_,fun j hj => ?_⟩
 ·have hj:j<s.data.size:=by have:=(List.getElem?_eq_some_iff.1 hv).1;rw[Qp,Np] at this;exact this
  rw[Lm,hc j hj,<-hv];simp[cY,Array.getElem?_eq_getElem hj]
 ·rw[Np] at hj;rw[Lm,hc j hj,World.frozen?_alloc_mark]
  refine⟨rfl,?_⟩
  rw[Ls (by omega)];rfl
theorem Qm(w:World)(cs:Array Value)(t:TypeId)(n:Nat)(hn:n<=cs.size):(w.alloc (.cells cs t)).there w.heap.size 0 n:=fun j hj=>by
 refine⟨?_,Iy _ _ _ _⟩
 rw[LX,Lm,Nf (by omega)];rfl
theorem OB(w:World)(n:Nat):Byt (w.alloc (.cells (Array.replicate n (Value.int .u8 0)) 5)) w.heap.size (zer n):=by
 refine⟨fun j v hv => ?_,Qm w _ _ _ (by simp[zer])⟩
 rw[LX,Lm];have:cY (zer n)=List.replicate n (Value.int .u8 0):=by simp[cY,zer]
 rw[this] at hv;rw[<-hv];simp[Array.getElem?_replicate,List.getElem?_replicate]
theorem Y5(v:Value)(n:Nat):madeCells #[v] n=Array.replicate n v:=by
 apply Array.ext
 ·simp[size_madeCells]
 ·intro i h1 h2;simp[madeCells,Nat.mod_one]
theorem YT(n:Nat)(hn:n<=140737488355328)(u:World):(Instr.makeSlice 127 (.int .i64 (n:Int)) (.int .i64 (n:Int))).run prog u = .ok (.slice (some ⟨u.heap.size,0,none⟩) n n) (u.alloc (.cells (Array.replicate n (Value.int .u8 0)) 5)):=by
 have:=run_make_row' (P:=prog) 127 5 (.int .u8 0) 1 underlying127 Tryz.infoY rfl .i64 .i64 n (by omega) (by omega) u
 rw[this,Y5]
theorem Byt.conv(h:Byt w g l){k n:Nat}(hk:k+n<=l.length)(o:Nat)(ho:0<n->o=k)(m:Nat)(t:BA)(ht:(⟨((l.drop k).take n).toArray⟩:BA)=t) :
  (convert 127 9 (.slice (some ⟨g,o,none⟩) n m)).run prog w = .ok (.string t) w:=by
 subst ht;have xA:((l.drop k).take n).length=n:=by simp;omega
 have hr:=run_convert_bytes_back w 127 9 5 ⟨g,o,none⟩ m ((l.drop k).take n) underlying127 underlying5 underlying9 fun j hj => ?_
 ·rw[xA] at hr;exact hr
 ·rw[xA] at hj;obtain rfl:=ho (by omega)
  rw[Addr.add_mid,h.at (by omega)]
  have:(List.take n (List.drop o l))[j]'(by omega)=l.getD (o+j) 0:=by
   rw[List.getElem_take,List.getElem_drop,Ld,Lh (by omega)];rfl
  rw[this]
theorem Uo{b o:Nat}{cs:List Value}(h:w.rangeAt b o cs)(k:Nat)(vs:List Value)(hk:k+vs.length<=cs.length)(ht:w.there b (o+k) vs.length) :
  (w.setCells b (o+k) vs).rangeAt b o (cs.take k++vs++cs.drop (k+vs.length)):=fun j u hu=>by
 have hlen:(cs.take k).length=k:=by simp;omega
 by_cases hj:j<k
 ·rw[Lq,Ly (by omega),LQ,Lk hj] at hu
  rw[World.cell?_setCells_out b vs (o+k) w ⟨b,o+j,none⟩ (fun _ _=>Or.inl (by show o+j<o+k;omega))]
  exact h j u hu
 ·by_cases hj2:j<k+vs.length
  ·rw[Ly (by simp;omega),LK (by omega),hlen] at hu
   have:=World.cell?_setCells_in b vs (o+k) w (fun i hi=>(ht i hi).1) (j - k) (by omega)
   rw[show o+k+(j - k)=o+j by omega] at this
   rw[this,<-hu,Lh (by omega)]
  ·rw[LK (by simp;omega)] at hu
   rw[Nr,show k+vs.length+(j - (cs.take k++vs).length)=j by simp;omega] at hu
   rw[World.cell?_setCells_out b vs (o+k) w ⟨b,o+j,none⟩ (fun _ _=>Or.inr (by show o+k+vs.length<=o+j;omega))]
   exact h j u hu
def ovr(l:List UInt8)(k:Nat)(t:List UInt8):List UInt8:=l.take k++t++l.drop (k+t.length)
theorem QaY(l:List UInt8)(k:Nat)(t:List UInt8)(h:k+t.length<=l.length):(ovr l k t).length=l.length:=by
 simp only[ovr,List.length_append,List.length_take,List.length_drop];omega
theorem Byt.over(h:Byt w g l)(k:Nat)(t:List UInt8)(hk:k+t.length<=l.length):Byt (w.setCells g k (cY t)) g (ovr l k t):=by
 refine⟨?_,by rw[QaY l k t hk];exact World.there_setCells h.thr _ _ _⟩
 have:=Uo h.rng k (cY t) (by rw[Qp,Qp];exact hk) (fun j hj=>by
  rw[Lm];have:=h.thr (k+j) (by rw[Qp] at hj;omega)
  rwa [Lm] at this)
 rw[Lm] at this;rw[ovr,Uq,Uq]
 simpa [cY,List.map_take,List.map_drop] using this
theorem QbW(ty:TypeId){k n m o:Nat}{t:BA}(h:Byt w g l)(hn:k+n<=l.length)(ho:0<t.size->o=k)(ht:t.size<=n) :
  (Builtin.copy_ #[127,9] ty #[.slice (some ⟨g,o,none⟩) n m,.string t]).run prog w = .ok (goInt t.size) (w.setCells g k (cY t.data.toList)):=by
 have hs : ∀W,(Go.sizeOf 5).run prog W = .ok 1 W:=fun W=>by kernel_rfl
 have hc:Nat.min t.size n=t.size:=Wc ht;have hl:(cY t.data.toList).length=t.size:=by rw[Qp,Qb]
 have he:List.take t.size (List.map (fun x:UInt8=>Value.int IntKind.u8 (x.toNat:Int)) t.data.toList)=cY t.data.toList:=by
  rw[cY,<-NO,Lo (by rw[Qb];exact La _)]
 by_cases z:t.size=0
 ·have e0:cY t.data.toList=[]:=List.length_eq_zero_iff.1 (by rw[hl,z])
  rw[e0];simp[Builtin.copy_,run_underlying underlying127,Builtin.lenOf,Builtin.firstCells,hs,z]
  rfl
 ·obtain rfl:=ho (by omega)
  have xA:=run_storeCells_cells (P:=prog) g o (cY t.data.toList) 0 w (by rw[hl];intro j hj;have:=h.thr (o+j) (by omega);simpa using this.1) (by rw[hl];intro j hj;have:=h.thr (o+j) (by omega);simpa using this.2) (Og _)
  simp only[Nat.add_zero] at xA;simp[Builtin.copy_,run_underlying underlying127,Builtin.lenOf,Builtin.firstCells,hs,hc];rw[he,xA]
  rfl
end
theorem Uv{w w':World}{ops:Array Oper}{rest:List Oper}{o:Oper}{a:Act}{Q:Exit->Act->World->Prop}(hgd:o.guard=none)(d s:Operand)(t u:TypeId)
  (ho:o.op = .call { callee := .builtin .copy,args:=#[d,s],argTypes:=#[t,u] }) {v x v':Value} (hd:a.eval d=v) (hs:a.eval s=x)
  (hr:(Builtin.copy_ #[t,u] o.type #[v,x]).run prog w = .ok v' w') (h:wpList prog ops Q rest (a.put o.dst v') w'):wpList prog ops Q (o::rest) a w:=by
 refine wpList_plain hgd fun K hK => ?_
 unfold Oper.wp;simp[execOp,ho,resolve,invoke,builtin,hd,hs,hr,Result.andThen];exact hK _ _ h
end St.Rc
namespace St.Rc
theorem Qku(l:List UInt8)(a:Nat)(t r:List UInt8)(x:UInt8)(ha:a<l.length):(l.take (a+1)++t++r).set a x=l.take a++x::t++r:=by
 have e:(l.take a).length=a:=by simp;omega
 rw[LR ha,Lq,Lq,L4 _ _ (by omega),e,Il]
 simp
theorem Un(w:World)(g off len cap n:Nat)(l:List UInt8)(hl:Byt w g l)(ho:off+len<=l.length)(h8:len<=8)(hn:n<18446744073709551616) :
  Calls prog 264 #[.slice (some ⟨g,off,none⟩) len cap,.int .u64 (n:Int)] w fun e w'=>e = .returned (.tuple #[])∧Byt w' g (ovr l off (big len n))∧Upo (fun b=>b=g) w w':=by
 have HO:Hid (off+len<=l.length):=ho;have H0:Hid (Byt w g (l.take (off+len)++big 0 n++l.drop (off+len))∧Upo (fun b=>b=g) w w):=⟨by simp[big];exact hl,Upo.refl _ _⟩
 have k8:(len:Int)<=8:=by omega
 have k0:(0:Int)<=(len:Int):=by omega
 have hN:Hid (n<18446744073709551616):=hn;clear hl ho hn
 go_enter func264,ntmps264;go_wp2
 go_loopg [1,4] len (fun G x i wr => ∃(j d:Nat),j+d=len∧j=G∧x = .int .u64 ((n / 256^d:Nat):Int)∧i = .int .i64 ((j:Int) - 1)∧Hid (Byt wr g (l.take (off+j)++big d n++l.drop (off+len))∧Upo (fun b=>b=g) w wr))
 case atStart=>go_light;exact⟨len,0,by omega,rfl,by simp,by simp,H0⟩
 case round =>
  clear H0;obtain⟨j,d,hj,rfl,rfl,rfl,HB⟩:=hrel;have hx:n / 256^d<=n:=NM _ _
  by_cases hz:0<j
  ·obtain⟨m,rfl⟩ : ∃m,j=m+1:=⟨j - 1,by omega⟩
   have em:((m+1:Nat):Int) - 1=(m:Int):=by omega
   rw[em];have m0:(0:Int)<=(m:Int):=by omega
   have m1:(m:Int)<(len:Int):=by omega
   have xC:=HO.out;have cl:=HB.out.1.at (j:=off+m) (by simp[Ql];omega)
   have fz:=HB.out.1.free (j:=off+m) (by simp[Ql];omega)
   obtain⟨z,xB⟩:=Ze (((l.take (off+(m+1))++big d n++l.drop (off+len)).getD (off+m) 0).toNat);rw[xB] at cl;obtain⟨x,xA⟩:=Ze (n / 256^d);have xD:Hid (x<18446744073709551616):=by show _<_;have:=hN.out;omega
   have HX:Hid (Byt (wr.setCell ⟨g,off+m,none⟩ (.int .u8 ((x:Int) % 256))) g (l.take (off+m)++big (d+1) n++l.drop (off+len))∧Upo (fun b=>b=g) w (wr.setCell ⟨g,off+m,none⟩ (.int .u8 ((x:Int) % 256)))):=by
    refine⟨?_,HB.out.2.set _ _ _ (.inl rfl)⟩
    have:=HB.out.1.set (off+m) (UInt8.ofNat x) ((x:Int) % 256) (by rw[UInt8.toNat_ofNat'];omega)
    rw[show off+(m+1)=off+m+1 by omega,Qku l (off+m) _ _ _ (by omega)] at this
    rw[Qjd,xA];exact this
   have HD:Hid (x / 256=n / 256^(d+1)):=by
    show _=_
    rw[LC,<-L1,xA]
   rw[xA];clear HB xA xB hx xC;go_wp2
   go_roundg m
   case rel =>
    go_light;refine⟨m,d+1,by omega,rfl,?_,?_,HX⟩
    ·have:=HD.out;rw[<-this];go_num
    ·go_num
   case measure=>go_light;omega
  ·obtain rfl:j=0:=by omega
   obtain rfl:d=len:=by omega
   have em:((0:Nat):Int) - 1 = -1:=by omega
   rw[em];have HE:Hid (Byt wr g (ovr l off (big d n))∧Upo (fun b=>b=g) w wr):=by
    refine⟨?_,HB.out.2⟩
    have:=HB.out.1;rw[N8] at this;rw[ovr,Ql];exact this
   clear HB hx hj;go_wp2;exact bodyPost_end (results_none rfl _ prog wr) rfl ⟨rfl,HE.out⟩
theorem Qkn(l:List UInt8)(k:Nat)(hk:k<l.length):num (l.take (k+1))=num (l.take k)*256+(l.getD k 0).toNat:=by
 rw[LR hk,OV,Ld,Lh hk]
 rfl
theorem Qmx(x y:Nat)(hx:x<72057594037927936)(hy:y<256):bits .or .u64 (IntKind.u64.wrap ((x:Int)*256)) (y:Int)=((x*256+y:Nat):Int):=by
 have e:IntKind.u64.wrap ((x:Int)*256)=((x*256:Nat):Int):=by rw[IntKind.wrap_u64];omega
 rw[e,u64_or_nat _ _ (by omega) (by omega),show x*256=x <<< 8 by rw[Nat.shiftLeft_eq],<-Nat.shiftLeft_add_eq_or_of_lt (show y<2^8 by omega)]
theorem YW(w:World)(g off len cap:Nat)(l:List UInt8)(hl:Byt w g l)(ho:off+len<=l.length)(h8:len<=8)(r:Nat)(hr:num ((l.drop off).take len)=r) :
  Calls prog 321 #[.slice (some ⟨g,off,none⟩) len cap] w fun e w'=>e = .returned (.int .u64 (r:Int))∧w'=w:=by
 obtain⟨t,ht⟩:=Ze ((l.drop off).take len);have xB:t.length=len:=by rw[<-ht];simp;omega
 have HC:Hid (∀k,k<len->w.cell? ⟨g,off+k,none⟩=some (.int .u8 ((t.getD k 0).toNat:Int))):=fun k hk=>by
  rw[hl.at (by omega),<-ht]
  simp[List.getD_eq_getElem?_getD,List.getElem?_drop,hk]
 rw[ht] at hr;have HR:Hid (num t=r∧t.length=len):=⟨hr,xB⟩;have k8:(len:Int)<=8:=by omega
 have k0:(0:Int)<=(len:Int):=by omega
 clear hl ho ht hr xB
 go_enter func321,ntmps321;go_wp2
 go_loopg [3,8] len (fun G x i wr=>w=wr ∧ ∃(k m:Nat),k<=len∧G=len - k∧x = .int .u64 (m:Int)∧i = .int .i64 (k:Int)∧Hid (num (t.take k)=m))
 case atStart=>go_light;exact⟨rfl,0,0,by omega,rfl,rfl,rfl,rfl⟩
 case round =>
  obtain⟨rfl,k,m,hk,rfl,rfl,rfl,HM⟩:=hrel
  by_cases hlt:k<len
  ·have hz:(k:Int)<(len:Int):=by omega
   have kk:(0:Int)<=(k:Int):=by omega
   have cl:=HC.out k hlt;have hb:(t.getD k 0).toNat<256:=(t.getD k 0).toNat_lt;have xA:=Qkn t k (by rw[HR.out.2];exact hlt)
   rw[HM.out] at xA;have hm:m<72057594037927936:=by
    rw[<-HM.out];exact On _ 7 (by simp;omega)
   obtain⟨y,hy⟩:=Ze ((t.getD k 0).toNat);rw[hy] at cl hb xA;have eo:=Qmx m y hm hb;rw[<-xA] at eo;have e1:(y:Int) % 18446744073709551616=(y:Int):=by omega
   obtain⟨v,hv⟩:=Ze (num (t.take (k+1)));rw[hv] at eo xA;have HV:Hid (num (t.take (k+1))=v):=hv;clear HM hv xA hm hb hy;go_wp2
   go_roundg (len - (k+1))
   case rel=>go_light;exact⟨rfl,k+1,v,by omega,rfl,rfl,by go_num,HV⟩
   case measure=>go_light;omega
  ·obtain rfl:k=len:=by omega
   have hz : ¬(k:Int)<(k:Int):=by omega
   have HE:Hid (m=r):=by
    show _=_
    have:=HM.out;rw[Lo (by rw[HR.out.2];exact La _),HR.out.1] at this
    exact this.symm
   clear HM;go_wp2
   go_ret
   exact⟨by rw[HE.out];rfl,rfl⟩
theorem Qab(w:World)(k:Int):Calls prog 272 #[.int .i64 k] w fun e w'=>e = .returned (.bool (decide (1<=k∧k<=32)))∧w'=w:=by
 by_cases h1:1<=k
 ·by_cases h2:k<=32
  ·have e:decide (1<=k∧k<=32)=true:=by simp[h1,h2]
   rw[e]
   go_enter func272,ntmps272;go_wp2
   go_ret
   exact⟨rfl,rfl⟩
  ·have e:decide (1<=k∧k<=32)=false:=by simp[h2]
   rw[e]
   go_enter func272,ntmps272;go_wp2
   go_ret
   exact⟨rfl,rfl⟩
 ·have e:decide (1<=k∧k<=32)=false:=by simp[h1]
  rw[e]
  go_enter func272,ntmps272;go_wp2
  go_ret
  exact⟨rfl,rfl⟩
theorem QbP(w:World)(g n cap:Nat)(h8:8<=n)(hc:n<=cap)(hm:n<=140737488355328)(o:Nat)(ho:(if n - 4=4 then 0 else 4)=o)(m:Nat)(hm2:n - 8=m) :
  Calls prog 263 #[.slice (some ⟨g,0,none⟩) n cap] w fun e w'=>e = .returned (.tuple #[.slice (some ⟨g,0,none⟩) 4 4,.slice (some ⟨g,o,none⟩) m m])∧Below w.heap.size w w':=by
 have z1:(0:Int)<=(n:Int) - 4:=by omega
 have z2:(n:Int) - 4<=(cap:Int):=by omega
 have z3:(4:Int)<=(n:Int) - 4:=by omega
 have z4:(4:Int)<=(cap:Int):=by omega
 have z5:(n:Int)<=140737488355328:=by omega
 have HO:Hid ((if n - 4=4 then 0 else 4)=o∧n - 4 - 4=m):=⟨ho,by omega⟩
 clear ho hm2
 go_enter func263,ntmps263;go_wp2
 go_quiet (fail)
 go_wp2
 ·obtain⟨h1,h2⟩:=HO.out;rw[Lk h] at h1;obtain rfl:m=0:=by omega
  subst h1;exact Lv (v := .tuple #[.slice (some ⟨g,0,none⟩) 4 4,.slice (some ⟨g,0,none⟩) 0 0]) (by simp[results,results263,go_sem]) rfl ⟨rfl,Qf (Lb _ _) _⟩
 ·obtain⟨h1,h2⟩:=HO.out;rw[Le h] at h1;rw[h2];subst h1;exact Lv (v := .tuple #[.slice (some ⟨g,0,none⟩) 4 4,.slice (some ⟨g,4,none⟩) m m]) (by simp[results,results263,go_sem]) rfl ⟨rfl,Qf (Lb _ _) _⟩
theorem QbH(w:World)(g n cap:Nat)(h8:36<=cap) :
  Calls prog 333 #[.slice (some ⟨g,0,none⟩) n cap] w fun e w'=>e = .returned (.tuple #[.slice (some ⟨g,0,none⟩) 32 32,.slice (some ⟨g,32,none⟩) 4 4])∧Below w.heap.size w w':=by
 have z1:(36:Int)<=(cap:Int):=by omega
 have z2:(32:Int)<=(cap:Int):=by omega
 go_enter func333,ntmps333;go_wp2
 go_quiet (fail)
 go_wp2;refine Lv (v := .tuple #[.slice (some ⟨g,0,none⟩) 32 32,.slice (some ⟨g,32,none⟩) 4 4]) (by simp[results,results333,go_sem]) rfl ⟨rfl,Qf (Lb _ _) _⟩
def mP(g:Nat):Value := .agg #[.slice (some ⟨g,0,none⟩) 4 4,.slice (some ⟨g,4,none⟩) 1 1,.slice (some ⟨g,8,none⟩) 8 8,.slice (some ⟨g,16,none⟩) 8 8,.slice (some ⟨g,24,none⟩) 8 8,.slice (some ⟨g,32,none⟩) 4 4]
theorem QbF(w:World)(g n cap:Nat)(h8:36<=cap) :
  Calls prog 273 #[.slice (some ⟨g,0,none⟩) n cap] w fun e w'=>e = .returned (mP g)∧Below w.heap.size w w':=by
 have z1:(36:Int)<=(cap:Int):=by omega
 have z2:(32:Int)<=(cap:Int):=by omega
 have z3:(24:Int)<=(cap:Int):=by omega
 have z4:(16:Int)<=(cap:Int):=by omega
 have z5:(5:Int)<=(cap:Int):=by omega
 have z6:(4:Int)<=(cap:Int):=by omega
 go_enter func273,ntmps273;go_wp2
 go_region
 go_wp2;refine Lv (v:=mP g) (by simp[results,results273,go_sem,mP]) rfl ⟨rfl,Qf (bal (Lb _ _) _) 1⟩
theorem U8(w:World)(g n cap:Nat)(l:List UInt8)(hl:Byt w g l)(hn:l.length=n)(h8:8<=n)(hc:n<=cap)(hm:n<=140737488355328)(t:BA)(ht:(⟨(sld (l.take (n - 4))).toArray⟩:BA)=t) :
  Calls prog 265 #[.slice (some ⟨g,0,none⟩) n cap] w fun e w'=>e = .returned (.string t)∧Byt w' g (sld (l.take (n - 4)))∧Upo (fun b=>b=g) w w':=by
 obtain⟨k,hk⟩ : ∃k,n=k+4:=⟨n - 4,by omega⟩
 subst hk;rw[LP] at ht ⊢;obtain⟨u,hu⟩ : ∃u:BA,(⟨(l.take k).toArray⟩:BA)=u:=⟨_,rfl⟩;have xB:u.data.toList=l.take k:=by rw[<-hu]
 have xD:u.size=k:=by rw[<-Qb,xB];simp;omega
 have z1:(0:Int)<=(k:Int):=by omega
 have z2:(k:Int)<=(cap:Int):=by omega
 have z3:((k+4:Nat):Int) - 4=(k:Int):=by omega
 have z4:(k:Int)<=140737488355328:=by omega
 have z5:(k:Int)<=((k+4:Nat):Int):=by omega
 have z6 : ¬cap=k:=by omega
 have HL:Hid (Byt w g l∧l.length=k+4∧g<w.heap.size):=⟨hl,hn,hl.lt (by omega)⟩
 have HC:Hid (∀W,Below w.heap.size w W->(convert 127 9 (.slice (some ⟨g,0,none⟩) k k)).run prog W = .ok (.string u) W):=fun W hb =>
  (HL.out.1.next hb HL.out.2.2).conv (k:=0) (n:=k) (by have:=HL.out.2.1;omega) 0 (fun _=>rfl) k u (by rw[ND];exact hu)
 obtain⟨x,hx⟩:=Ze (crc (l.take k));have xE:=Qjx (l.take k);rw[hx] at xE;have HF:Hid (∀W,Calls prog 341 #[.slice (some ⟨W.heap.size,0,none⟩) 1 1] (W.alloc (.cells #[.string u] 9)) fun e w'=>e = .returned (.int .u32 (x:Int))∧Below W.heap.size W w'):=fun W=>by
  refine(Qdu _ _ W.heap.size 0 1 1 [u] ⟨rfl,fun _=>rfl,Qq W [.string u] 9,by intro s hs;simp at hs;subst hs;omega⟩ (by decide)).mono ?_
  rintro e w' ⟨rfl,hb⟩;refine⟨?_,((Lb _ _).alloc (La _) _).trans (hb.mono (by simp))⟩
  rw[<-hx,crc,sumL,<-xB];simp[Qk]
 have HP:Hid (∀W,Below w.heap.size w W->Calls prog 264 #[.slice (some ⟨g,k,none⟩) 4 (cap - k),.int .u64 (x:Int)] W fun e w'=>e = .returned (.tuple #[])∧Byt w' g (sld (l.take k))∧Upo (fun b=>b=g) w w'):=fun W hb=>by
  refine(Un W g k 4 (cap - k) x l (HL.out.1.next hb HL.out.2.2) (by have:=HL.out.2.1;omega) (by decide) (by omega)).mono ?_
  rintro e w' ⟨rfl,hy,xC⟩;refine⟨rfl,?_,(Upo.of hb).on xC⟩
  rw[ovr,Ql,LZ (by rw[hn];exact La _),LS,<-hx] at hy
  exact hy
 have HD:Hid (∀W,Byt W g (sld (l.take k))->(convert 127 9 (.slice (some ⟨g,0,none⟩) (k+4) cap)).run prog W = .ok (.string t) W):=fun W hy=>by
  have xF:(sld (l.take k)).length=k+4:=by rw[JW];simp;omega
  exact hy.conv (k:=0) (n:=k+4) (by omega) 0 (fun _=>rfl) cap t (by rw[ND,Lo (by omega)];exact ht)
 clear hl hn ht hx hu xB xD
 go_enter func265,ntmps265;go_wp2
 go_quiet (fail)
 have xA:Below w.heap.size w (w.drewN nq):=Qf (Lb _ _) _;have kc:=HC.out _ xA;generalize w.drewN nq=w1 at *
 go_wp2_with (first
  | (go_at_call 341;with_reducible refine(HF.out _).mono ?_;rintro e w2 ⟨rfl,hb⟩)
  | (go_at_call 264;with_reducible refine(HP.out _ (xA.trans (hb.mono xA.size))).mono ?_;rintro e w3 ⟨rfl,hy,xC⟩;have kd:=HD.out _ hy))
 go_ret
 exact⟨rfl,hy,xC⟩
end St.Rc
end Go.Proofs.YtoblgjledefdbaaGreatDoor
