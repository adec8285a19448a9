/- Own work. -/
import Derived.Test.YtoblgjledefdbaaGreatDoorQt12
set_option maxRecDepth 100000
set_option maxHeartbeats 4000000
namespace Go.Proofs.YtoblgjledefdbaaGreatDoor
open Go.RowKit
attribute [local go_sem ↓] Go.wp_at_zero Go.wp_at_succ
open Go.Proofs.Tryz
section
open Cv (QZ)
def Row8(w:World)(B:Nat)(v:Value)(l:List UInt8):Prop :=
 ∃g cap,v= .slice (Zp g) l.length cap∧B<=g∧g<w.heap.size∧w.rangeAt g 0 (cY l)∧w.there g 0 cap∧l.length<=cap
variable{W X w w' w1:World}{B b g j n:Nat}{v:Value}{l:List UInt8}
theorem Qpc(t:BA):byteCells t=cY t.data.toList:=rfl
theorem Qj2(t:BA):Lib.strCells t=cY t.data.toList:=rfl
theorem UP(l m:List UInt8):cY (l++m)=cY l++cY m:=by simp[cY]
theorem QlJ(w:World)(s:BA)(cap:Nat)(hc:s.size<=cap):Row8 (w.alloc (.cells (bytesRow s cap) 5 ((bytesRow s cap).size,(bytesRow s cap).size+1))) w.heap.size (.slice (Zp w.heap.size) s.size cap) s.data.toList:=by
 have hd:s.data.size=s.size:=rfl;have xA:(bytesRow s cap).size=cap:=by simp only[bytesRow,Array.size_append,Array.size_map,Array.size_replicate,hd];omega
 refine⟨w.heap.size,cap,by rw[Qb],La _,by simp,fun j v hv=> ?_,fun j hj=>⟨?_,?_⟩,by rw[Qb];exact hc⟩
 ·have hj:j<s.data.size:=by have:=(List.getElem?_eq_some_iff.1 hv).1;rw[Qo,NF] at this;exact this
  rw[Ll,World.cell?_alloc_mark,bytesRow_at s cap j hj,<-hv]
  simp[cY,Array.getElem?_eq_getElem hj]
 ·rw[Ll,World.cell?_alloc_mark,L6 (by omega)];rfl
 ·rw[Ll,World.frozen?_alloc_mark,xA]
  simp;omega
theorem Row8.next(h:Row8 w B v l)(hb:Bl w w'):Row8 w' B v l:=by
 obtain⟨g,xA,rfl,h1,h2,h3,h4,h5⟩:=h;refine⟨g,xA,rfl,h1,Lz h2 hb.size,Qej hb h2 h3,fun j hj=> ?_,h5⟩
 rw[hb.cell (p:=⟨g,0+j,none⟩) h2,hb.frozen (p:=⟨g,0+j,none⟩) h2];exact h4 j hj
theorem Row8.conv(h:Row8 w B v l):(convert 127 9 v).run prog w= .ok (.string ⟨l.toArray⟩) w:=by
 obtain⟨g,xA,rfl,h1,h2,h3,h4,h5⟩:=h;refine run_convert_bytes_back _ 127 9 5 ⟨g,0,none⟩ xA l underlying127 underlying5 underlying9 fun j hj=> ?_
 rw[Addr.add_mid];exact h3 j _ (by simp[cY,List.getElem?_eq_getElem hj])
theorem QbL(hg:B<=g):∀(vs:List Value) (o:Nat) (w:World),Below B w (w.setCells g o vs)
 | [],_,_=>Lb _ _
 | v::r,o,w=>((Lb B w).setCell (p:=⟨g,o,none⟩) hg v).trans (QbL hg r (o+1) _)
theorem Qbk(w:World){ops:Array Oper}{rest:List Oper}{o:Oper}{a:Act}{Q:Exit->Act->World->Prop}
  (hg:o.guard=none) (s x:Operand) (hop:o.op=Op.call { callee:=Callee.builtin Builtin.append,args:=#[s,x],argTypes:=#[127,9] })
  (B:Nat) (v:Value) (l:List UInt8) (hs:a.eval s=v) (h:Row8 w B v l) (t:BA) (hx:a.eval x= .string t) (hlen:l.length+t.size<=140737488355328) (hB:B<=w.heap.size)
  (hK:∀v' w',Row8 w' B v' (l++t.data.toList)->Below B w w'->wpList prog ops Q rest (a.put o.dst v') w'):wpList prog ops Q (o::rest) a w:=by
 obtain⟨i0,hi,xF,xB,xG⟩:=info_parts Tryz.infoY;obtain⟨g,xA,rfl,h1,h2,h3,h4,h5⟩:=h;refine wpList_plain hg fun K hK'=> ?_
 have ht:(byteCells t).length=t.size:=by rw[Qpc,Qo,Qb]
 have xD:∃v' w',(Builtin.append_ #[127,9] o.type #[.slice (Zp g) l.length xA,.string t]).run prog w= .ok v' w'∧Row8 w' B v' (l++t.data.toList)∧Below B w w':=by
  by_cases hroom:l.length+t.size<=xA
  ·have hr:=run_append_room_src (P:=prog) w 127 9 o.type 5 i0 underlying127 hi g 0 l.length xA (.string t) t.size (byteCells t) (by rw[xB];exact Src.ofString w underlying9 t) hroom
    (fun j hj=>by rw[xB,Nd,Ns];exact(h4 (l.length+j) (by omega)).1) (fun j hj=>by rw[xB,Nd,Ns];exact(h4 (l.length+j) (by omega)).2)
   refine⟨_,_,hr,⟨g,xA,by simp,h1,?_,?_,World.there_setCells h4 _ _ _,by simp;omega⟩,?_⟩
   ·have:=World.isSome_setCells g (byteCells t) (0+l.length*i0.size) w
    rcases IG xA with h0|h0
    ·have hb:(byteCells t)=[]:=List.length_eq_zero_iff.1 (by omega)
     rw[hb];exact h2
    ·obtain⟨u,hu⟩:=Option.isSome_iff_exists.1 (this ⟨g,0+0,none⟩ (h4 0 h0).1);exact Lo _ _ hu
   ·rw[xB,Nd,UP];intro j u hu
    by_cases hj:j<l.length
    ·rw[Ly (by rw[Qo];exact hj)] at hu
     exact World.rangeAt_setCells_apart h3 g (0+l.length) (byteCells t) (.inr (.inl (by rw[Qo];exact La _))) j u hu
    ·rw[LI (by rw[Qo];omega),Qo] at hu
     have:=World.rangeAt_setCells_same w g (0+l.length) (byteCells t) (fun j hj=>by rw[Ns];exact h4 (l.length+j) (by omega)) (j-l.length) u hu
     rwa [show 0+l.length+(j-l.length)=0+j by omega] at this
   ·exact QbL h1 _ _ _
  ·have hr:=Lib.run_append_grow_string (P:=prog) w 127 9 o.type 5 i0 (.int .u8 0) underlying127 underlying9 hi xF ⟨g,0,none⟩ l.length xA (cY l) (by rw[xB,Qo,Nd]) (fun j u hu=>by rw[Addr.add_mid];exact h3 j u hu) t (by omega) (by omega) (by rw[xG];exact growslice_fits (by omega) (by omega))
   have xE:=grownCap_ge w (l.length+t.size) xA 5;refine⟨_,_,hr,⟨w.heap.size,grownCap w (l.length+t.size) xA 5,by simp,hB,by simp,?_,?_,by simp;exact xE⟩,?_⟩
   ·intro j u hu
    show(w.drew.alloc _).cell? ⟨w.drew.heap.size,0+j,none⟩=some u
    rw[Nc,Ll];rw[UP,<-Qj2] at hu;rw[IY (by have:=(List.getElem?_eq_some_iff.1 hu).1;simpa using this)]
    simpa using hu
   ·refine Ql w.drew _ 5 _ ?_
    have xC:(Value.int IntKind.u8 0).cells.size=1:=rfl;simp only[Array.size_append,List.size_toArray,size_zeroCells,xC,Qo,Qj2,Qb];omega
   ·exact(Qi (Lb B w) 1).alloc hB _
 obtain⟨v',w',hr,hw,hb⟩:=xD;unfold Oper.wp;simp[execOp,hop,resolve,invoke,builtin,hs,hx,hr,Result.andThen];exact hK' _ _ (hK v' w' hw hb)
theorem Qo5(W:World)(t:BA):∃v W',(convert 9 127 (.string t)).run prog W= .ok v W'∧Row8 W' W.heap.size v t.data.toList∧Bl W W':=by
 have h:=run_bytes_of_string (P:=prog) W 9 127 5 t underlying9 underlying127 underlying5;exact⟨_,_,h,QlJ W.drew t _ (grownCap_ge W t.size 0 5),(Qi (Lb _ W) 1).alloc (La _) _⟩
theorem QbO:∀ {S:List Nat} {x n:Nat},QZ x S n -> ∀j,j<S.length->nxt x (S.take j)<=S.getD j 0∧S.getD j 0<n:=by
 intro S
 induction S with
 | nil=>intro x n _ j hj;simp at hj
 | cons i S ih=>
  intro x n h j hj
  cases j with
  | zero=>exact⟨h.1,by have:=Cv.YJ h.2;simp;omega⟩
  | succ j=>have:=ih h.2 j (by simpa using hj);simpa [nxt] using this
theorem Qe8:∀ {S:List Nat} {x n:Nat},QZ x S n->n<=2^64->(QI x S).length<=10*S.length:=by
 intro S
 induction S with
 | nil=>intro x n _ _;simp[QI]
 | cons i S ih=>
  intro x n h hn;have:=ih h.2 hn;have:=Cv.YJ h.2;have:=Yu (n:=i-x) (by omega)
  rw[QI,Lc,LG];omega
theorem Qgz(hn:n<=2^64):∀ {S:List Nat} {x:Nat},QZ x S n -> ∀j,(QI x (S.take j)).length<=10*S.length:=by
 intro S
 induction S with
 | nil=>intro x _ j;simp[QI]
 | cons i S ih=>
  intro x h j
  cases j with
  | zero=>simp[QI]
  | succ j=>
   have:=ih h.2 j;have:=Cv.YJ h.2;have:=Yu (n:=i-x) (by omega)
   rw[IX,QI,Lc,LG];omega
theorem QgZ{S:List Nat}(hj:j<S.length):S.take (j+1)=S.take j++[S.getD j 0]:=by
 rw[N9,Lk hj,Ld,Lk hj];rfl
theorem Qag(w:World)(sa:OA)(sb so sc:Nat)(S:List Nat)(n:Nat)(rs:RdU w sa sb so S.length S)(hc:QZ 0 S n)(hn:n<=1099511627776) :
  Zr 312 #[.slice sa S.length sc] w (.string ⟨(num S.length++QI 0 S).toArray⟩):=by
 have hl:=UV hc;have HN:=fun W=>Qan W S.length (by omega)
 have e0:IntKind.u64.wrap (S.length:Int)=(S.length:Int):=by rw[IntKind.wrap_u64];omega
 have HS:Hid (RdU w sa sb so S.length S∧QZ 0 S n∧n<=1099511627776∧S.length<=n):=⟨rs,hc,hn,by omega⟩
 have xG:(S.length:Int)<=1099511627776:=by omega
 obtain⟨m,hm⟩:=Ze S.length;have HM:Hid (S.length=m):=hm;rw[hm] at HN e0 xG ⊢;clear rs hc hn hl hm;have HZ:Hid ((num m).length<=10):=Yu (by omega)
 go_enter func312,ntmps312
 go_upto_region 2 with (go_at_call 311;with_reducible refine(HN _).mono ?_;rintro x w1 ⟨rfl,xA⟩;(obtain⟨v1,W1,xI,r1,b1⟩:=Qo5 w1 ⟨(num m).toArray⟩))
 have HR:Hid (Row8 W1 w.heap.size v1 (num m++QI 0 (S.take 0))∧Bl w W1):=by
  obtain⟨g,xB,h0,h1,h2⟩:=r1;exact⟨⟨g,xB,by simpa [QI] using h0,Lr xA.size h1,by simpa [QI] using h2⟩,Qa xA b1⟩
 clear xI r1 b1 xA HN;go_wp2
 go_loopg [3,4,6,14] m (fun gg v x i6 ix wr=> ∃(j:Nat),j<=m∧gg=m-j∧ix= .int .i64 j∧x= .int .u64 ((nxt 0 (S.take j):Nat):Int)∧Row8 wr w.heap.size v (num m++QI 0 (S.take j))∧Bl w wr)
 case atStart=>go_light;exact⟨0,Ln _,rfl,rfl,rfl,HR.out.1,HR.out.2⟩
 case round=>
  obtain⟨j,hj,rfl,rfl,rfl,hr,hb⟩:=hrel;obtain⟨k1,k2,k3,k4⟩:=HS.out;have xE:=HM.out;have hz:=HZ.out;have xJ:(0:Int)<=(j:Int):=Lh _
  by_cases hlt:j<m
  ·have xD:(j:Int)<(m:Int):=by omega
   obtain⟨g,xB,rfl,hr⟩:=hr;obtain rfl:=k1.ptr (by omega)
   have cj:=(k1.next hb).at (j:=j) (by omega)
   obtain⟨c1,c2⟩:=QbO k2 j (by omega)
   have xC:=QgZ (S:=S) (j:=j) (by omega)
   have xF:=Qgz (n:=n) (by omega) k2 j
   obtain⟨i,hi⟩:=Ze (S.getD j 0);rw[hi] at cj c1 c2 xC;obtain⟨y,hy⟩:=Ze (nxt 0 (S.take j));rw[hy] at c1 ⊢;have HN:=fun W=>Qan W (i-y) (by omega)
   have xH:=Yu (n:=i-y) (by omega)
   have e1:IntKind.u64.wrap ((i:Int)-(y:Int))=((i-y:Nat):Int):=by rw[IntKind.wrap_u64];omega
   have e2:IntKind.u64.wrap ((i:Int)+1)=((i+1:Nat):Int):=by rw[IntKind.wrap_u64];omega
   have HX:Hid (num m++QI 0 (S.take (j+1))=(num m++QI 0 (S.take j))++num (i-y)∧nxt 0 (S.take (j+1))=i+1∧(num m++QI 0 (S.take j)).length+(num (i-y)).length<=140737488355328∧Row8 wr w.heap.size (.slice (Zp g) (num m++QI 0 (S.take j)).length xB) (num m++QI 0 (S.take j))∧Bl w wr∧j+1<=m):=by
    refine⟨by rw[xC,QiL,hy,Lw],by rw[xC,QnE],?_,⟨g,xB,rfl,hr⟩,hb,hlt⟩
    rw[Lc];omega
   generalize i-y=z at *;generalize num m++QI 0 (S.take j)=L at *;clear hr hb k1 k2 k3 k4 xE hz c1 c2 xC xF hi hy xH hlt HR HS HZ HM
   go_wp2_with (first
    | (go_at_call 311;with_reducible refine(HN _).mono ?_;rintro x w1 ⟨rfl,xA⟩)
    | (at_builtin;refine Qbk _ rfl _ _ rfl w.heap.size _ L rfl (HX.out.2.2.2.1.next xA) ⟨(num z).toArray⟩ rfl ?c1 ?c2 ?_))
   case c1=>have:=HX.out.2.2.1;rw[show(⟨(num z).toArray⟩:BA).size=(num z).length from by simp[ByteArray.size]];exact this
   case c2=>exact Lr HX.out.2.2.2.2.1.size xA.size
   intro v2 w2 r2 b2;go_wp2
   go_roundg (m-(j+1))
   case rel=>
    go_light;obtain⟨x1,x2,x3,x4,x5,x6⟩:=HX.out;refine⟨j+1,x6,rfl,by go_num,by rw[x2,IR];rfl,?_,(x5.trans (xA.mono x5.size)).trans b2⟩
    rw[x1];exact r2
   case measure=>go_light;have:=HX.out.2.2.2.2.2;omega
  ·obtain rfl:j=m:=by omega
   have xD:¬(j:Int)<(j:Int):=by omega
   have e:S.take j=S:=by rw[<-xE,NJ]
   rw[e] at hr;obtain⟨L,hL⟩:=Ze (num j++QI 0 S);rw[hL] at hr;have HL:=QU hL;clear hL;have cv:=hr.conv;obtain⟨g,xB,rfl,hr⟩:=hr;have HB:=QU hb;clear hr hb k1 k2 k3 k4 xE hz hlt e HR HS HZ HM;go_wp2
   go_ret
   refine⟨?_,HB.out⟩
   rw[HL.out]
   rfl
def hd(p:PV):List UInt8:=UInt8.ofNat p.kd.toNat::UInt8.ofNat p.k.toNat::(num p.size++mid p)
theorem Qks(p:PV):enc p=hd p++YL p.D:=by simp[enc,hd,List.append_assoc]
theorem QeF(a b:List UInt8):(⟨a.toArray⟩:BA)++⟨b.toArray⟩=⟨(a++b).toArray⟩:=by
 apply QbK
 rw[ByteArray.data_append];simp
theorem Qjy(w:World)(a b:Nat)(ha:a<256)(hb:b<256):(convert 127 9 (.slice (Zp w.heap.size) 2 2)).run prog (w.alloc (.cells #[.int .u8 a,.int .u8 b] 5))= .ok (.string ⟨[UInt8.ofNat a,UInt8.ofNat b].toArray⟩) (w.alloc (.cells #[.int .u8 a,.int .u8 b] 5)):=by
 refine run_convert_bytes_back _ 127 9 5 ⟨w.heap.size,0,none⟩ 2 [UInt8.ofNat a,UInt8.ofNat b] underlying127 underlying5 underlying9 fun j hj=> ?_
 rw[Addr.add_mid];have h1:=QQ ha;have h2:=QQ hb;refine Qv w [.int .u8 a,.int .u8 b] 5 j _ ?_
 match j,hj with
 | 0,_=>simp[h1]
 | 1,_=>simp[h2]
theorem Qmi{a:Nat}(ha:a<256)(hb:b<256)(h:W.heap[g]? = some (.cells #[.int .u8 a,.int .u8 b] 5 (0,0))):(convert 127 9 (.slice (Zp g) 2 2)).run prog W= .ok (.string ⟨[UInt8.ofNat a,UInt8.ofNat b].toArray⟩) W:=by
 refine run_convert_bytes_back _ 127 9 5 ⟨g,0,none⟩ 2 [UInt8.ofNat a,UInt8.ofNat b] underlying127 underlying5 underlying9 fun j hj=> ?_
 rw[Addr.add_mid,Ll,cell_of_row W g j _ _ (0,0) h];have h1:=QQ ha;have h2:=QQ hb
 match j,hj with
 | 0,_=>simp[h1]
 | 1,_=>simp[h2]
theorem J1(h:Below X.drew.heap.size X.drew w1):Bl X w1:=⟨h.os,h.tape,h.output,h.size,h.block⟩
theorem Ul(h:Below B X w1):Below B X w1.drew:=⟨h.os,h.tape,h.output,h.size,h.block⟩
theorem Qfi(w:World)(a b old size:Nat)(sa:OA)(sb so sc:Nat)(S:List Nat)(D:LB)(d:Value)(c:Nat)(rs:RdU w sa sb so S.length S)(ho:CntOk a b old size S c) :
  Zr 219 #[pv6 a b old size (.slice sa S.length sc) d] w (.string ⟨(hd ⟨a,b,old,size,S,D⟩).toArray⟩):=by
 obtain⟨W,hW,h6,xH,xR⟩:=OH w (.int .i64 a) (.int .i64 b) (.int .u64 old) (.int .u64 size) (.slice sa S.length sc) d;obtain⟨e0,e1,e2,e3,e4,e5⟩:=h6.cells;have i1:=ho.kd1;have i2:=ho.kd3;have i3:=ho.k1;have i4:=ho.k32;have i5:=ho.hsz;have i6:=ho.hold;have i7:=ho.len;have ha:a<256:=by omega
 have hb:b<256:=by omega
 have HN:=fun W'=>Qan W' size (by omega)
 have ea:IntKind.u8.wrap (a:Int)=(a:Int):=by rw[IntKind.wrap_u8];omega
 have eb:IntKind.u8.wrap (b:Int)=(b:Int):=by rw[IntKind.wrap_u8];omega
 have ht:=fun W'=>Qjy W' a b ha hb
 have xK:=fun(W':World)=>Qmi (W:=(W'.alloc (.cells #[.int .u8 a,.int .u8 b] 5)).drew) ha hb (LC W' _)
 have HA:Hid (∀w1,Below (W.alloc (.cells #[.int .u8 a,.int .u8 b] 5)).heap.size (W.alloc (.cells #[.int .u8 a,.int .u8 b] 5)) w1->(convert 127 9 (.slice (Zp W.heap.size) 2 2)).run prog w1= .ok (.string ⟨[UInt8.ofNat a,UInt8.ofNat b].toArray⟩) w1):=fun w1 hb1=>Qmi ha hb ((hb1.block _ (by simp)).trans (LC W _))
 have HX:Hid (∀w1,Bl W w1->Six w1 w.heap.size (.int .i64 a) (.int .i64 b) (.int .u64 old) (.int .u64 size) (.slice sa S.length sc) d):=fun w1 h=>h6.next h
 have xQ:¬w.heap.size=W.heap.size:=by omega
 obtain⟨n0,n1,n2,n3,n4,n5⟩:=(h6.next (bal (Lb _ _) (.cells #[.int .u8 a,.int .u8 b] 5))).cells;have xF:=Yu (n:=size) (by omega)
 have xI:Hid (∀F,Bl W F->RdU F sa sb so S.length S∧Bl w F):=fun F hF=>⟨rs.next (Qa xH hF),Qa xH hF⟩
 have HO:=QU ho;obtain⟨t1,xB⟩:=Ze (⟨[UInt8.ofNat a,UInt8.ofNat b].toArray⟩:BA);obtain⟨t2,xD⟩:=Ze (⟨(num size).toArray⟩:BA);have xT:(t1.size:Int)<=2:=by rw[<-xB];simp[ByteArray.size]
 have xU:(t2.size:Int)<=10:=by rw[<-xD];simp[ByteArray.size];omega
 have HT:Hid (∀l,l=mid ⟨a,b,old,size,S,D⟩->t1++t2++(⟨l.toArray⟩:BA)=⟨(hd ⟨a,b,old,size,S,D⟩).toArray⟩):=fun l hl=>by
  rw[<-xB,<-xD,QeF,QeF,hl];simp[hd]
 rw[xB] at HA;simp only[xB] at ht xK;simp only[xD] at HN;have HI:Hid ((a=1∨a=2∨a=3)∧size<=1099511627776∧old<=size):=⟨by omega,i5,i6⟩
 clear h6 xH ha hb xR xF xB xD ho rs i1 i2 i3 i4 i5 i6 i7
 go_enter func219,ntmps219
 go_upto_region 1 with (fail)
 try rw[hW]
 clear hW
 rename_i K hK
 have xL:Hid (∀F g,Bl W F->K { tmps:=#[pv6 (a:Int) (b:Int) old size (.slice sa S.length sc) d,Pq w.heap.size,.string ⟨#[]⟩,.string (t1++t2),Pq w.heap.size,.int .i64 a,.int .u8 a,.pointer (some ⟨w.heap.size,1,none⟩),.int .i64 b,.int .u8 b,.slice (Zp g) 2 2,.string t1,.pointer (some ⟨w.heap.size,3,none⟩),.int .u64 size,.string t2,.string (t1++t2),undef,undef,undef,undef,undef,undef,undef,undef,undef,undef,undef,undef,undef,undef,undef,undef,undef,undef,undef,undef,undef,undef,undef],defers:=[] } F):=by
  intro F g hF;refine hK _ _ ?_
  obtain⟨k0,k1,k2,k3,k4,k5⟩:=(HX.out _ hF).cells;obtain⟨RF,BF⟩:=xI.out _ hF;have HB:=QU BF;clear n0 n1 n2 n3 n4 n5 e0 e1 e2 e3 e4 e5 ht xK HA HN hF hK xQ
  rcases HI.out.1 with h|h|h
  ·have hb1:((a:Int) == 1)=true:=beq_iff_eq.2 (by omega)
   obtain⟨hl,ho⟩:=HO.out.one (by omega)
   obtain rfl:=RF.ptr (by omega)
   have hc:=RF.at (j:=0) (by omega)
   rw[Ik] at hc;have h0:(0:Int)<(S.length:Int):=by omega
   have xS:0<S.length:=by omega
   have xP:=(QbO HO.out.chain 0 (by omega)).2
   have HM:=fun W'=>Qan W' (S.getD 0 0) (by have:=HI.out;omega)
   have xF:=Yu (n:=S.getD 0 0) (by have:=HI.out;omega)
   have xE:Hid (t1++t2++(⟨(num (S.getD 0 0)).toArray⟩:BA)=⟨(hd ⟨a,b,old,size,S,D⟩).toArray⟩):=HT.out _ (by rw[mid,Lf (show(a:Int)=1 by omega)])
   generalize S.getD 0 0=i at *;obtain⟨t3,xA⟩:=Ze (⟨(num i).toArray⟩:BA);have xJ:(t3.size:Int)<=10:=by rw[<-xA];simp[ByteArray.size];omega
   simp only[xA] at HM;rw[xA] at xE;clear h hl ho xP xF xA RF BF
   go_wp2_with (go_at_call 311;with_reducible refine(HM _).mono ?_;rintro x w3 ⟨rfl,xG⟩)
   go_ret
   exact⟨by rw[<-xE.out];rfl,Qa HB.out xG⟩
  ·have hb1:((a:Int) == 1)=false:=beq_false_of_ne (by omega)
   have xC:((a:Int) == 2)=true:=beq_iff_eq.2 (by omega)
   have HM:=Qag F sa sb so sc S size RF HO.out.chain HI.out.2.1;have xN:=Qe8 HO.out.chain (by have:=HI.out;omega)
   have xO:=HO.out.len;have xF:=Yu (n:=S.length) (by have:=HI.out;omega)
   have xE:Hid (t1++t2++(⟨(num S.length++QI 0 S).toArray⟩:BA)=⟨(hd ⟨a,b,old,size,S,D⟩).toArray⟩):=HT.out _ (by rw[mid,Le (show ¬(a:Int)=1 by omega),Lf (show(a:Int)=2 by omega)])
   obtain⟨t3,xA⟩:=Ze (⟨(num S.length++QI 0 S).toArray⟩:BA);have xJ:(t3.size:Int)<=35184372088832:=by rw[<-xA];have:=HI.out;simp[ByteArray.size];omega
   rw[xA] at xE HM;clear h xN xO xF xA RF BF
   go_wp2_with (go_at_call 312;with_reducible refine HM.mono ?_;rintro x w3 ⟨rfl,xG⟩)
   go_ret
   exact⟨by rw[<-xE.out];rfl,Qa HB.out xG⟩
  ·have hb1:((a:Int) == 1)=false:=beq_false_of_ne (by omega)
   have xC:((a:Int) == 2)=false:=beq_false_of_ne (by omega)
   have HM:=fun W'=>Qan W' old (by have:=HI.out;omega)
   have xF:=Yu (n:=old) (by have:=HI.out;omega)
   have xE:Hid (t1++t2++(⟨(num old).toArray⟩:BA)=⟨(hd ⟨a,b,old,size,S,D⟩).toArray⟩):=HT.out _ (by rw[mid,Le (show ¬(a:Int)=1 by omega),Le (show ¬(a:Int)=2 by omega)])
   obtain⟨t3,xA⟩:=Ze (⟨(num old).toArray⟩:BA);have xJ:(t3.size:Int)<=10:=by rw[<-xA];simp[ByteArray.size];omega
   simp only[xA] at HM;rw[xA] at xE;clear h xF xA RF BF
   go_wp2_with (go_at_call 311;with_reducible refine(HM _).mono ?_;rintro x w3 ⟨rfl,xG⟩)
   go_ret
   exact⟨by rw[<-xE.out];rfl,Qa HB.out xG⟩
 clear hK HT HI HO xI
 go_region_with (go_at_call 311;(with_reducible refine(HN _).mono ?_);rintro x w1 ⟨rfl,hb1⟩;(have xC:Bl W w1:=by first|exact hb1|exact J1 hb1|exact Qa (bal (Lb _ _) _) hb1|exact Qa (bal (Lb _ _) _) (J1 hb1));(obtain⟨k0,k1,k2,k3,k4,k5⟩:=(HX.out _ xC).cells);(first|(have xM:=HA.out _ (J1 hb1))|(have xM:=HA.out _ hb1)|skip))
 all_goals exact xL.out _ _ (by first|exact xC|exact Ul xC|exact bal xC _|exact Ul (bal xC _)|exact bal (Ul xC) _|exact Ul (Ul xC)|exact Ul (bal (Ul xC) _))
end
structure RdPC(w:World)(sa:OA)(sb so sc:Nat)(da:OA)(db dO dc:Nat)(P:PV):Prop where
 rs:RdU w sa sb so P.S.length P.S
 rd:RdS w da db dO P.D.length P.D
 old64:P.old<18446744073709551616
 sz64:P.size<18446744073709551616
 mS:P.S.length<=17592186044416
 mD:P.D.length<=8796093022208
 cD:P.D.length<=dc
variable{P:PV}
theorem RdPC.next{w w':World}{sa:OA}{sb so sc:Nat}{da:OA}{db dO dc:Nat}(h:RdPC w sa sb so sc da db dO dc P)(hb:Bl w w'):RdPC w' sa sb so sc da db dO dc P :=
 ⟨h.rs.next hb,h.rd.next hb (La _),h.old64,h.sz64,h.mS,h.mD,h.cD⟩
abbrev pvP(P:PV)(sa:OA)(sc:Nat)(da:OA)(dc:Nat):Value:=pv6 P.kd P.k P.old P.size (.slice sa P.S.length sc) (.slice da P.D.length dc)
theorem QoC{j:Nat}(hj:j<P.D.length)(h:((P.D.getD j ByteArray.empty).size:Int)≠P.k):¬Jo P:=fun hw=>h (hw.2 _ (Ud hj))
theorem Qml(hc:cnt P.kd P.k P.old P.size P.S=some P.D.length)(h:∀j,j<P.D.length->((P.D.getD j ByteArray.empty).size:Int)=P.k):Jo P :=
 ⟨hc,fun d hd=>by
  obtain⟨j,hj,rfl⟩:=NT hd;have:=h j hj
  rwa [Ld,Lk hj] at this⟩
section
variable (w:World) (sa:OA) (sb so sc:Nat) (da:OA) (db dO dc:Nat) (P:PV)
theorem Qmm(hp:RdPC w sa sb so sc da db dO dc P) :
  Zr 218 #[pvP P sa sc da dc] w (.bool (decide (Jo P))):=by
 obtain⟨kd,k,xB,xA,S,D⟩:=P;obtain⟨rs,rd,h1,h2,h3,h4,_⟩:=hp;simp only at rs rd h1 h2 h3 h4
 show Calls prog 218 #[pv6 kd k xB xA (.slice sa S.length sc) (.slice da D.length dc)] w _
 obtain⟨W,hW,h6,hb,hz⟩:=OH w (.int .i64 kd) (.int .i64 k) (.int .u64 xB) (.int .u64 xA) (.slice sa S.length sc) (.slice da D.length dc);obtain⟨e0,e1,e2,e3,e4,e5⟩:=h6.cells;have HC:=Yq W kd k xB xA sa sb so sc S (.slice da D.length dc) h1 h2 (rs.next hb) (fun _=>h3)
 have HX:Hid (∀F,Bl W F->Six F w.heap.size (.int .i64 kd) (.int .i64 k) (.int .u64 xB) (.int .u64 xA) (.slice sa S.length sc) (.slice da D.length dc)∧RdS F da db dO D.length D∧Bl w F):=fun F hF=>⟨h6.next hF,rd.next (Qa hb hF) (La _),Qa hb hF⟩
 have xJ:(D.length:Int)<=8796093022208:=by omega
 have eD:IntKind.u64.wrap (D.length:Int)=(D.length:Int):=by rw[IntKind.wrap_u64];omega
 clear rs rd h1 h2 h3 h4 h6 hb hz
 rcases hc:cnt kd k xB xA S with _|c
 ·have hw:decide (Jo ⟨kd,k,xB,xA,S,D⟩)=false:=LA (fun hw=>by have:=hw.1;simp only[hc] at this;cases this)
  rw[hc] at HC;simp only[cV] at HC;rw[hw];generalize S.length=ms at *;generalize D.length=md at *;clear hc hw
  go_enter func218,ntmps218
  go_wp2_with (go_at_call 310;(try rw[hW]);with_reducible refine HC.mono ?_;rintro x w1 ⟨rfl,xC⟩;(obtain⟨q1,q2,q3⟩:=HX.out _ xC))
  go_ret
  exact⟨rfl,q3⟩
 ·rw[hc] at HC;simp only[cV] at HC
  by_cases hcd:c=D.length
  ·subst hcd;have xI:=QU hc;clear hc;obtain⟨m,hm⟩:=Ze D.length;have HM:=QU hm;have xF:Hid (∀F,Bl W F->Six F w.heap.size (.int .i64 kd) (.int .i64 k) (.int .u64 xB) (.int .u64 xA) (.slice sa S.length sc) (.slice da m dc)∧RdS F da db dO m D∧Bl w F):=by rw[<-hm];exact HX
   rw[hm] at HC xJ eD hW e5 ⊢;clear hm HX;generalize S.length=ms at *
   go_enter func218,ntmps218
   go_upto_region 5 with (go_at_call 310;(try rw[hW]);with_reducible refine HC.mono ?_;rintro x w1 ⟨rfl,xC⟩;(obtain⟨q1,q2,q3⟩:=xF.out _ xC);(obtain⟨k0,k1,k2,k3,k4,k5⟩:=q1.cells))
   have HQ:Hid (RdS w1 da db dO m D∧Bl w w1):=⟨q2,q3⟩;clear q1 q2 q3 xC HC xF hW e0 e1 e2 e3 e4 e5;go_wp2
   go_loopg [6,25] m (fun gg i6 ix wr=>w1=wr ∧ ∃j:Nat,j<=m∧gg=m-j∧ix= .int .i64 j∧Hid (∀t,t<j->((D.getD t ByteArray.empty).size:Int)=k))
   case atStart=>go_light;exact⟨rfl,0,Ln _,rfl,rfl,fun t ht=>absurd ht (N6 _)⟩
   case round=>
    obtain⟨rfl,j,hj,rfl,rfl,HA⟩:=hrel;have xM:(0:Int)<=(j:Int):=Lh _;have xE:=HM.out
    by_cases hlt:j<m
    ·have xD:(j:Int)<(m:Int):=by omega
     obtain rfl:=HQ.out.1.ptr (by omega)
     have cj:=HQ.out.1.at (k:=j) hlt;have xL:=HQ.out.1.sz _ (Ud (ss:=D) (k:=j) (by omega))
     obtain⟨x,hx⟩:=Ze (D.getD j ByteArray.empty);have xG:=QU hx;rw[hx] at cj xL;clear hx
     by_cases hk:(x.size:Int)=k
     ·have xH:Hid (∀t,t<j+1->((D.getD t ByteArray.empty).size:Int)=k):=fun t ht=>by
       rcases Iv t j with h|h
       ·exact HA.out t h
       ·obtain rfl:t=j:=by omega
        rw[xG.out];exact hk
      have xK:((x.size:Int) != k)=false:=by rw[hk];simp
      clear hk xE HA;go_wp2
      go_roundg (m-(j+1))
      case rel=>go_light;exact⟨rfl,j+1,hlt,rfl,by go_num,xH⟩
      case measure=>go_light;omega
     ·have xK:((x.size:Int) != k)=true:=bne_iff_ne.2 hk;have HW:Hid (decide (Jo ⟨kd,k,xB,xA,S,D⟩)=false):=LA (QoC (j:=j) (by simp only;omega) (by simp only;rw[xG.out];exact hk))
      clear hk xE HA;go_wp2
      go_ret
      exact⟨by rw[HW.out];rfl,HQ.out.2⟩
    ·obtain rfl:j=m:=by omega
     have xD:¬(j:Int)<(j:Int):=by omega
     have HW:Hid (decide (Jo ⟨kd,k,xB,xA,S,D⟩)=true):=LW (Qml (by simp only;exact xI.out) (fun t ht=>by simp only at ht ⊢;exact HA.out t (by omega)))
     clear xE HA;go_wp2
     go_ret
     exact⟨by rw[HW.out];rfl,HQ.out.2⟩
  ·have hw:decide (Jo ⟨kd,k,xB,xA,S,D⟩)=false:=LA (fun hw=>by have:=hw.1;simp only[hc] at this;cases this;exact hcd rfl)
   rw[hw];have xN:((c:Int) != (D.length:Int))=true:=bne_iff_ne.2 (by omega)
   generalize S.length=ms at *;generalize D.length=md at *;clear hc hw hcd
   go_enter func218,ntmps218
   go_wp2_with (go_at_call 310;(try rw[hW]);with_reducible refine HC.mono ?_;rintro x w1 ⟨rfl,xC⟩;(obtain⟨q1,q2,q3⟩:=HX.out _ xC);(obtain⟨k0,k1,k2,k3,k4,k5⟩:=q1.cells))
   go_ret
   exact⟨rfl,q3⟩
theorem QkF{P:PV}{c:Nat}(ho:CntOk P.kd P.k P.old P.size P.S c):(hd P).length<=35184372088832:=by
 have h1:=Yu (n:=P.size) (by have:=ho.hsz;omega)
 have h2:(mid P).length<=11*1099511627776+10:=by
  unfold mid;have hl:=ho.len;have hz:=ho.hsz
  split
  ·rename_i h
   obtain⟨g1,g2⟩:=ho.one h;have:=Yu (n:=P.S.getD 0 0) (by have:=(QbO ho.chain 0 (by omega)).2;omega)
   omega
  ·split
   ·have:=Qe8 ho.chain (by omega)
    have:=Yu (n:=P.S.length) (by omega)
    rw[Lc];omega
   ·have:=Yu (n:=P.old) (by have:=ho.hold;omega)
    omega
 rw[hd,LG,LG,Lc];omega
theorem Qhp{P:PV}(h:Jo P):(YL P.D).length<=35184372088832:=by
 have ho:=Q7 h.1;have hk:=ho.k32;have xA:=ho.k1;obtain⟨b,hb⟩:∃b:Nat,P.k=b:=⟨P.k.toNat,by omega⟩
 have e:(YL P.D).length=P.D.length*b:=Qe0 (fun d hd=>by have:=h.2 d hd;omega)
 have:=ho.hc;have:P.D.length*b<=1099511627776*32:=Wq this (by omega)
 omega
theorem QmX{P:PV}(h:Jo P):(enc P).length<=70368744177664:=by
 have h1:=QkF (Q7 h.1);have h2:=Qhp h;rw[Qks,Lc];omega
theorem Qgn(hp:RdPC w sa sb so sc da db dO dc P)(h:Jo P) :
  Zr 131 #[pvP P sa sc da dc] w (.tuple #[.string ⟨(enc P).toArray⟩,.int .i64 0]):=by
 obtain⟨W,hW,h6,hb,hz⟩:=OH w (.int .i64 P.kd) (.int .i64 P.k) (.int .u64 P.old) (.int .u64 P.size) (.slice sa P.S.length sc) (.slice da P.D.length dc);obtain⟨e0,e1,e2,e3,e4,e5⟩:=h6.cells;have HC:=Qmm W sa sb so sc da db dO dc P (hp.next hb);rw[LW h] at HC;have ho:=Q7 h.1;have xK:=QkF ho;have xL:=Qhp h;obtain⟨kd,k,xB,xA,S,D⟩:=P;simp only at e0 e1 e2 e3 e4 e5 hW ho xK xL;simp only[pvP] at HC
 show Calls prog 131 #[pv6 kd k xB xA (.slice sa S.length sc) (.slice da D.length dc)] w _
 have i1:=ho.kd1;have i3:=ho.k1;obtain⟨a,rfl⟩:∃a:Nat,kd=a:=⟨kd.toNat,by omega⟩
 obtain⟨b,rfl⟩:∃b:Nat,k=b:=⟨k.toNat,by omega⟩
 have HX:Hid (∀F,Bl W F->Six F w.heap.size (.int .i64 a) (.int .i64 b) (.int .u64 xB) (.int .u64 xA) (.slice sa S.length sc) (.slice da D.length dc)∧Bl w F):=fun F hF=>⟨h6.next hF,Qa hb hF⟩
 have xC:Hid (∀F,Bl W F->Zr 219 #[pv6 a b xB xA (.slice sa S.length sc) (.slice da D.length dc)] F (.string ⟨(hd ⟨a,b,xB,xA,S,D⟩).toArray⟩)):=fun F hF=>Qfi F a b xB xA sa sb so sc S D (.slice da D.length dc) _ (hp.next (Qa hb hF)).rs ho
 have HJ:Hid (∀F,Bl W F->Zr 173 #[.slice da D.length dc,.string ByteArray.empty] F (.string ⟨(YL D).toArray⟩)):=fun F hF=>QiE F da db dO dc D (hp.next (Qa hb hF)).rd hp.cD (by have:=hp.mD;simp only at this;omega) (by omega)
 obtain⟨t1,xF⟩:=Ze (⟨(hd ⟨a,b,xB,xA,S,D⟩).toArray⟩:BA);obtain⟨t2,xG⟩:=Ze (⟨(YL D).toArray⟩:BA);have xM:(t1.size:Int)<=35184372088832:=by rw[<-xF];simp[ByteArray.size];omega
 have xN:(t2.size:Int)<=35184372088832:=by rw[<-xG];simp[ByteArray.size];omega
 have HT:Hid (t1++t2=(⟨(enc ⟨a,b,xB,xA,S,D⟩).toArray⟩:BA)):=by rw[<-xF,<-xG,QeF,Qks];exact rfl
 rw[xF] at xC;rw[xG] at HJ;clear hp h h6 hb hz ho xK xL i1 i3 xF xG;generalize S.length=ms at *;generalize D.length=md at *
 go_enter func131,ntmps131
 go_upto_region 3 with (go_at_call 218;(try rw[hW]);with_reducible refine HC.mono ?_;rintro x w1 ⟨rfl,xD⟩)
 obtain⟨q1,q2⟩:=HX.out _ xD;obtain⟨k0,k1,k2,k3,k4,k5⟩:=q1.cells;clear q1 q2 e0 e1 e2 e3 e4 e5 hW HC
 go_region_with (first
  | (go_at_call 219;(refine(xC.out _ (by first|exact xD|exact Ul xD)).mono ?_);rintro x w2 ⟨rfl,xI⟩;(have xE:Bl W w2:=by first|exact Qa xD xI|exact Qa xD (J1 xI));(obtain⟨m0,m1,m2,m3,m4,m5⟩:=(HX.out _ xE).1.cells))
  | (go_at_call 173;(refine(HJ.out _ (by first|exact xE|exact Ul xE)).mono ?_);rintro x w3 ⟨rfl,xJ⟩;(have xH:Bl W w3:=by first|exact Qa xE xJ|exact Qa xE (J1 xJ))))
 all_goals
  go_wp2
  go_ret2
  exact⟨by rw[<-HT.out];rfl,(HX.out _ (by first|exact xH|exact Ul xH|exact Ul (Ul xH))).2⟩
end
section
variable {w W w1:World} {a p:Nat} {U:Nat->Prop} {D D':St.DV} {S S':St.SV} {L L':LB} {g:Int}
theorem QeY(w:World){sa:OA}{sb so sc:Nat}{da:OA}{db dO dc:Nat}(hp:RdPC w sa sb so sc da db dO dc P)(h:Jo P)(t:BA)(ht:⟨(enc P).toArray⟩=t) :
  Zr 77 #[pvP P sa sc da dc,.int .i64 0] w (.tuple #[.string t,.int .i64 0]):=by
 have hb:=bal (Lb w.heap.size w) (.cells #[.int .i64 P.kd,.int .i64 P.k,.int .u64 P.old,.int .u64 P.size,.slice sa P.S.length sc,.slice da P.D.length dc] 138);have HE:Hid (∀W,Bl w W->Calls prog 131 #[pvP P sa sc da dc] W fun e w'=>e= .returned (.tuple #[.string t,.int .i64 0])∧Bl w w'):=fun W hW=>(Qgn W sa sb so sc da db dO dc P (hp.next hW) h).mono fun e w' z=>⟨by rw[<-ht];exact z.1,Qa hW z.2⟩
 unfold pvP at HE ⊢;clear hp h
 go_enter func77,ntmps77
 go_wp2_with (go_at_call 131;(with_reducible refine(HE.out _ hb).mono ?_);rintro e w1 ⟨rfl,u1⟩)
 go_ret2
 exact⟨rfl,u1⟩
theorem Qjb(w:World)(ht:Tb w)(h:Lg w 1 a p U D S L)(bl bn:Nat)(cl:w.cell? ⟨bl,0,none⟩=some (Pq a))(n:Nat)(cn:w.cell? ⟨bn,0,none⟩=some (.int .u64 n))(x:Int)(r:BA)(e0:Int)
  (HR:∀W m,Tb W->Frs W m (S.k:Int) L->Zr 57 #[.pointer (some ⟨m+1,0,none⟩),.int .u64 n] W (.tuple #[.agg #[.int .u64 x,.string r],.int .i64 e0])) :
  Zr 56 #[Pq bl,Pq bn] w (.tuple #[.agg #[.int .u64 x,.string r],.int .i64 e0]):=by
 obtain⟨q,m,r0,vs,xA,hF,_⟩:=h.row;obtain⟨_,_,c3,_,_,_⟩:=Ym xA;obtain⟨w1,xB⟩:=Ze (w.alloc (.cells #[.int .u64 0,.string ⟨#[]⟩] 50));have u1:Bl w w1:=by rw[<-xB];exact bal (Lb _ _) _
 have k1:w1.heap[w.heap.size]? = some (.cells #[.int .u64 0,.string ⟨#[]⟩] 50 (0,0)):=by rw[<-xB];exact LC w _
 have xF:=(Array.getElem?_eq_some_iff.1 k1).1
 have ha:=Lo _ _ c3;have hl:=Lo _ _ cl;have hn:=Lo _ _ cn;have HC:Hid (∀W,Bl w1 W->W.cell? ⟨bl,0,none⟩=some (Pq a)∧W.cell? ⟨a,3,none⟩=some (.pointer (some ⟨m+1,0,none⟩))∧W.cell? ⟨bn,0,none⟩=some (.int .u64 n)):=fun W hW=>⟨((Qa u1 hW).cell (p:=⟨bl,0,none⟩) hl).trans cl,((Qa u1 hW).cell (p:=⟨a,3,none⟩) ha).trans c3,((Qa u1 hW).cell (p:=⟨bn,0,none⟩) hn).trans cn⟩
 have HK:Hid (∀W,Bl w1 W->W.heap[w.heap.size]? = some (.cells #[.int .u64 0,.string ⟨#[]⟩] 50 (0,0))):=fun W hW=>(hW.block _ xF).trans k1
 have xE:Hid (∀W,Bl w1 W->Calls prog 57 #[.pointer (some ⟨m+1,0,none⟩),.int .u64 n] W fun e w'=>e= .returned (.tuple #[.agg #[.int .u64 x,.string r],.int .i64 e0])∧Bl w1 w'):=fun W hW=>(HR W m (ht.next (Qa u1 hW)) (hF.next (Qa u1 hW) (La _))).mono fun e w' z=>⟨z.1,Qa hW z.2⟩
 have HU:=Qc u1;obtain⟨d1,d2,d3⟩:=HC.out w1 (Lb _ _);have u:Bl w1 w1.drew:=(Lb _ _).drew;obtain⟨b0,xD⟩:=Ze w.heap.size;have xC:=Qc xD;have xG:=Qc xB;rw[xD] at HK;clear ht h HR hF xA c3 cl cn ha hl hn k1 xF u1 xB xD
 go_enter func56,ntmps56
 go_upto_region 1 with (fail)
 rw[xG.out,xC.out]
 go_region_with (go_at_call 57;(with_reducible refine(xE.out _ u).mono ?_);rintro e w2 ⟨rfl,u2⟩;have k2:=HK.out _ u2;have e1:w2.cell? ⟨b0,0,none⟩=some (.int .u64 0):=(by rw[cell_of_row w2 _ 0 _ _ (0,0) k2];rfl);have e2:w2.cell? ⟨b0,1,none⟩=some (.string ⟨#[]⟩):=(by rw[cell_of_row w2 _ 1 _ _ (0,0) k2];rfl);have e3:=frozen_of_row w2 b0 0 _ _ k2;have e4:=frozen_of_row w2 b0 1 _ _ k2)
 all_goals
  have HZ:Hid (Bl w ((w2.setCell ⟨b0,0,none⟩ (.int .u64 x)).setCell ⟨b0,1,none⟩ (.string r))):=by
   have hb:Bl w w2:=Qa HU.out u2;exact(hb.setCell (p:=⟨b0,0,none⟩) (NE xC.out) _).setCell (p:=⟨b0,1,none⟩) (NE xC.out) _
  have q:=Lm _ b0 1 _ _ (.string r) (Lm w2 b0 0 _ _ (.int .u64 x) k2);have q0:=cell_of_row _ b0 0 _ _ (0,0) q;have q1:=cell_of_row _ b0 1 _ _ (0,0) q;simp at q0 q1;clear k2 q HK HC xE d1 d2 d3 u2;go_wp2;generalize (w2.setCell ⟨b0,0,none⟩ (.int .u64 x)).setCell ⟨b0,1,none⟩ (.string r)=W9 at *;exact LD (v := .tuple #[.agg #[.int .u64 x,.string r],.int .i64 e0]) (by simp[results,results56,go_sem,q0,q1]) rfl ⟨rfl,HZ.out⟩
theorem QkU(w:World)(ht:Tb w)(h:Lg w 0 a p U D S L)(n:Nat)(x:Int)(r:BA)(e0:Int)
  (HR:∀W m,Tb W->Frs W m (S.k:Int) L->Zr 57 #[.pointer (some ⟨m+1,0,none⟩),.int .u64 n] W (.tuple #[.agg #[.int .u64 x,.string r],.int .i64 e0])) :
  Zr 20 #[Pq a,.int .u64 n] w (.tuple #[.agg #[.int .u64 x,.string r],.int .i64 e0]):=by
 obtain⟨w1,xA⟩:=Ze (((w.alloc (.cells #[Pq a] 27)).alloc (.cells #[.int .u64 n] 48)).alloc (.cells #[.int .u64 0,.string ⟨#[]⟩] 50));have u1:Bl w w1:=by rw[<-xA];exact bal (bal (bal (Lb _ _) _) _) _
 have k0:w1.heap[w.heap.size]? = some (.cells #[Pq a] 27 (0,0)):=by rw[<-xA,(MapKept.heap_alloc _ _).2 _ (by simp;omega)];exact St.new0 _ _ _
 have k1:w1.heap[w.heap.size+1]? = some (.cells #[.int .u64 n] 48 (0,0)):=by rw[<-xA,(MapKept.heap_alloc _ _).2 _ (by simp)];exact St.new2 _ _ _
 have k2:w1.heap[w.heap.size+2]? = some (.cells #[.int .u64 0,.string ⟨#[]⟩] 50 (0,0)):=by
  rw[<-xA];have:=LC ((w.alloc (.cells #[Pq a] 27)).alloc (.cells #[.int .u64 n] 48)) (.cells #[.int .u64 0,.string ⟨#[]⟩] 50)
  simpa using this
 have xC:=(Array.getElem?_eq_some_iff.1 k2).1
 have b0:w1.cell? ⟨w.heap.size,0,none⟩=some (Pq a):=by rw[cell_of_row _ _ 0 _ _ (0,0) k0];rfl
 have b1:w1.cell? ⟨w.heap.size+1,0,none⟩=some (.int .u64 n):=by rw[cell_of_row _ _ 0 _ _ (0,0) k1];rfl
 have h1:=h.next u1;obtain⟨q,m,r0,vs,xB,_⟩:=h1.row;have xE:=h.lt h.own;have HW:Hid (Zr 55 #[Pq a,.func (.func 56) #[] #[Pq w.heap.size,.pointer (some ⟨w.heap.size+1,0,none⟩)]] w1 (.tuple #[.agg #[.int .u64 x,.string r],.int .i64 e0])) :=
  Qg6 w1 a _ _ xB _ _ _ fun W hW=>Qjb W ((ht.next u1).lkd h1 hW) (h1.lkd hW) w.heap.size (w.heap.size+1) (hW.cell b0 (by omega)) n (hW.cell b1 (by omega)) x r e0 HR
 have HK:Hid (∀W,Bl w1 W->W.heap[w.heap.size+2]? = some (.cells #[.int .u64 0,.string ⟨#[]⟩] 50 (0,0))):=fun W hW=>(hW.block _ xC).trans k2
 have HU:=Qc u1;clear ht h h1 xB u1 k0 k1 k2 xC b1 xE HR;have xD:=Qc xA;clear xA
 go_enter func20,ntmps20
 go_upto_region 1 with (fail)
 rw[xD.out]
 go_wp2_with (go_at_call 55;(with_reducible refine HW.out.mono ?_);rintro e w2 ⟨rfl,u2⟩;have k2:=HK.out _ u2;have e1:w2.cell? ⟨w.heap.size+2,0,none⟩=some (.int .u64 0):=(by rw[cell_of_row w2 _ 0 _ _ (0,0) k2];rfl);have e2:w2.cell? ⟨w.heap.size+2,1,none⟩=some (.string ⟨#[]⟩):=(by rw[cell_of_row w2 _ 1 _ _ (0,0) k2];rfl);have e3:=frozen_of_row w2 (w.heap.size+2) 0 _ _ k2;have e4:=frozen_of_row w2 (w.heap.size+2) 1 _ _ k2)
 have HZ:Hid (Bl w ((w2.setCell ⟨w.heap.size+2,0,none⟩ (.int .u64 x)).setCell ⟨w.heap.size+2,1,none⟩ (.string r))):=by
  have hb:Bl w w2:=Qa HU.out u2;exact(hb.setCell (p:=⟨w.heap.size+2,0,none⟩) (Nat.le_add_right _ _) _).setCell (p:=⟨w.heap.size+2,1,none⟩) (Nat.le_add_right _ _) _
 have q:=Lm _ (w.heap.size+2) 1 _ _ (.string r) (Lm w2 (w.heap.size+2) 0 _ _ (.int .u64 x) k2);have q0:=cell_of_row _ (w.heap.size+2) 0 _ _ (0,0) q;have q1:=cell_of_row _ (w.heap.size+2) 1 _ _ (0,0) q;simp at q0 q1;generalize (w2.setCell ⟨w.heap.size+2,0,none⟩ (.int .u64 x)).setCell ⟨w.heap.size+2,1,none⟩ (.string r)=W9 at *;exact LD (v := .tuple #[.agg #[.int .u64 x,.string r],.int .i64 e0]) (by simp[results,results20,go_sem,q0,q1]) rfl ⟨rfl,HZ.out⟩
theorem Qce(w:World)(ht:Tb w)(h:Lg w 0 a p U D S L)(n:Nat)(hn:n<=L.length)(r:BA)(hq:rtD S.k L n=r) :
  Zr 20 #[Pq a,.int .u64 n] w (.tuple #[.agg #[.int .u64 n,.string r],.int .i64 0]) :=
 QkU w ht h n n r 0 fun W m hT hF=>QkA W hT m S.k L hF n hn r (by
  have:=JF hF.k1 hF.k2;rw[show clk (S.k:Int)=S.k by omega];exact hq)
end
def PrQ2(w:World)(t:BA)(e1:Int)(e:Ending)(w':World):Prop :=
 ∃v e2,e= .returned (.tuple #[v,.int .i64 e2])∧Bl w w' ∧ ∀W',Bl w' W'->Calls prog 77 #[v,.int .i64 e2] W' fun e w''=>e= .returned (.tuple #[.string t,.int .i64 e1])∧Bl W' w''
section
variable {a p:Nat} {U:Nat->Prop} {D:St.DV} {S:St.SV} {L:LB}
theorem Qlw(w:World)(ht:Tb w)(h:Lg w 1 a p U D S L)(bl b1 b2:Nat)(x1:Int)(x2:Int)(cl:w.cell? ⟨bl,0,none⟩=some (Pq a))(c1:w.cell? ⟨b1,0,none⟩=some (.int .u64 x1))(c2:w.cell? ⟨b2,0,none⟩=some (.int .u64 x2))(t:BA)(e1:Int)
  (HP:∀W m,Tb W->Bl w W->Frs W m (S.k:Int) L->Calls prog 78 #[.pointer (some ⟨m+1,0,none⟩),.int .u64 x1,.int .u64 x2] W (PrQ2 W t e1)) :
  Zr 76 #[Pq bl,Pq b1,Pq b2] w (.tuple #[.string t,.int .i64 e1]):=by
 obtain⟨q,m,r0,vs,xA,hF,_⟩:=h.row;obtain⟨_,_,c3,_,_,_⟩:=Ym xA;have ha:=Lo _ _ c3;have hl:=Lo _ _ cl;have h1:=Lo _ _ c1;have h2:=Lo _ _ c2;have HC:Hid (∀W,Bl w W->W.cell? ⟨bl,0,none⟩=some (Pq a)∧W.cell? ⟨a,3,none⟩=some (.pointer (some ⟨m+1,0,none⟩))∧W.cell? ⟨b1,0,none⟩=some (.int .u64 x1)∧W.cell? ⟨b2,0,none⟩=some (.int .u64 x2)):=fun W hW=>⟨(hW.cell (p:=⟨bl,0,none⟩) hl).trans cl,(hW.cell (p:=⟨a,3,none⟩) ha).trans c3,(hW.cell (p:=⟨b1,0,none⟩) h1).trans c1,(hW.cell (p:=⟨b2,0,none⟩) h2).trans c2⟩
 have xB:Hid (∀W,Bl w W->Calls prog 78 #[.pointer (some ⟨m+1,0,none⟩),.int .u64 x1,.int .u64 x2] W fun e w'=> ∃v e2,e= .returned (.tuple #[v,.int .i64 e2])∧Bl w w'∧Hid (∀W',Bl w' W'->Calls prog 77 #[v,.int .i64 e2] W' fun e w''=>e= .returned (.tuple #[.string t,.int .i64 e1])∧Bl w w'')):=fun W hW=>(HP W m (ht.next hW) hW (hF.next hW (La _))).mono fun e w' z=>by
  obtain⟨v,e2,z1,z2,z3⟩:=z;exact⟨v,e2,z1,Qa hW z2,fun W' hW'=>(z3 W' hW').mono fun e w'' y=>⟨y.1,Qa (Qa (Qa hW z2) hW') y.2⟩⟩
 obtain⟨d1,d2,d3,d4⟩:=HC.out w (Lb _ _);have u:Bl w w.drew:=(Lb _ _).drew;clear ht h HP hF xA c3 cl c1 c2 ha hl h1 h2
 go_enter func76,ntmps76
 go_upto_region 1 with (fail)
 go_region_held3 (fun Z=>Z.cell? ⟨bl,0,none⟩=some (Pq a)∧Z.cell? ⟨a,3,none⟩=some (.pointer (some ⟨m+1,0,none⟩))∧Z.cell? ⟨b1,0,none⟩=some (.int .u64 x1)∧Z.cell? ⟨b2,0,none⟩=some (.int .u64 x2)) (first|assumption|(with_reducible exact HC.out _ u)) (first
  | (go_at_call 78;(with_reducible refine(xB.out _ u).mono ?_);rintro e w1 ⟨v,e2,rfl,u,HE⟩)
  | (go_at_call 77;(with_reducible refine(HE.out _ (Lb _ _)).mono ?_);rintro e w2 ⟨rfl,u⟩))
 all_goals
  go_wp2
  go_ret2
  exact⟨rfl,u⟩
theorem QqB(w:World)(ht:Tb w)(h:Lg w 0 a p U D S L)(x1:Int)(x2:Int)(t:BA)(e1:Int)
  (HP:∀W m,Tb W->(∀b,b<w.heap.size->b≠a->W.heap[b]? = w.heap[b]?)->Frs W m (S.k:Int) L->Calls prog 78 #[.pointer (some ⟨m+1,0,none⟩),.int .u64 x1,.int .u64 x2] W (PrQ2 W t e1)) :
  Zr 35 #[Pq a,.int .u64 x1,.int .u64 x2] w (.tuple #[.string t,.int .i64 e1]):=by
 obtain⟨w1,xA⟩:=Ze (((w.alloc (.cells #[Pq a] 27)).alloc (.cells #[.int .u64 x1] 48)).alloc (.cells #[.int .u64 x2] 48));have u1:Bl w w1:=by rw[<-xA];exact bal (bal (bal (Lb _ _) _) _) _
 have k0:w1.heap[w.heap.size]? = some (.cells #[Pq a] 27 (0,0)):=by rw[<-xA,(MapKept.heap_alloc _ _).2 _ (by simp;omega)];exact St.new0 _ _ _
 have k1:w1.heap[w.heap.size+1]? = some (.cells #[.int .u64 x1] 48 (0,0)):=by rw[<-xA,(MapKept.heap_alloc _ _).2 _ (by simp)];exact St.new2 _ _ _
 have k2:w1.heap[w.heap.size+2]? = some (.cells #[.int .u64 x2] 48 (0,0)):=by
  rw[<-xA];have:=LC ((w.alloc (.cells #[Pq a] 27)).alloc (.cells #[.int .u64 x1] 48)) (.cells #[.int .u64 x2] 48)
  simpa using this
 have b0:w1.cell? ⟨w.heap.size,0,none⟩=some (Pq a):=by rw[cell_of_row _ _ 0 _ _ (0,0) k0];rfl
 have b1:w1.cell? ⟨w.heap.size+1,0,none⟩=some (.int .u64 x1):=by rw[cell_of_row _ _ 0 _ _ (0,0) k1];rfl
 have b2:w1.cell? ⟨w.heap.size+2,0,none⟩=some (.int .u64 x2):=by rw[cell_of_row _ _ 0 _ _ (0,0) k2];rfl
 have h1:=h.next u1;obtain⟨q,m,r0,vs,xB,_⟩:=h1.row;have xD:=h.lt h.own;have HW:Hid (Calls prog 75 #[Pq a,.func (.func 76) #[] #[Pq w.heap.size,.pointer (some ⟨w.heap.size+1,0,none⟩),.pointer (some ⟨w.heap.size+2,0,none⟩)]] w1 fun e w'=>e= .returned (.tuple #[.string t,.int .i64 e1])∧Bl w w') :=
  (Qg7 w1 a _ _ _ (.inr (.inr (.inr rfl))) xB _ _ fun W hW=>Qlw W ((ht.next u1).lkd h1 hW) (h1.lkd hW) w.heap.size (w.heap.size+1) (w.heap.size+2) x1 x2 (hW.cell b0 (by omega)) (hW.cell b1 (by omega)) (hW.cell b2 (by omega)) t e1 fun W2 m2 hT hb hF=>HP W2 m2 hT (fun b hb1 hb2=>(hb.block b (Lz (Lz hb1 u1.size) hW.size)).trans ((hW.oth b (Lz hb1 u1.size) hb2).trans (u1.block b hb1))) hF).mono fun e w' z=>⟨z.1,Qa u1 z.2⟩
 clear ht h h1 xB u1 k0 k1 k2 b1 b2 xD HP;have xC:=Qc xA;clear xA
 go_enter func35,ntmps35
 go_upto_region 1 with (fail)
 rw[xC.out]
 go_wp2_with (go_at_call 75;(with_reducible refine HW.out.mono ?_);rintro e w2 ⟨rfl,t2⟩)
 go_ret2
 exact⟨rfl,t2⟩
end
theorem QcD(x n:Int)(w:World)(hn:0<n)(hn':n<32) :
  Calls prog 364 #[.int .u32 x,.int .i64 n] w fun e w'=>e= .returned (.int .u32 (UE x n)) ∧ ∃k,w'=w.drewN k:=by
 have e1:IntKind.i64.wrap (32-n)=32-n:=Q1 _ (by omega) (by omega)
 have b0:(0:Int)<=n:=by omega
 have b1:(0:Int)<=32-n:=by omega
 have hm:min n.toNat 32=n.toNat:=by omega
 have xA:min (32-n).toNat 32=(32-n).toNat:=by omega
 go_enter func364,ntmps364;go_wp2
 go_region_held3 (fun _=>True) (trivial) (fail)
 go_wp2
 go_ret
 refine⟨?_,1,rfl⟩
 show Ending.returned (Value.int .u32 _)=_
 unfold UE
 rfl
def horI(blk:List Int)(t:Nat):Nat->Int
 | 0=>0
 | i+1=>IntKind.u32.wrap (IntKind.u32.wrap (horI blk t i*256)+IntKind.u32.wrap (blk.getD (4*t+i) 0))
def QaB(blk:List Int):Nat->List Int
 | 0=>[]
 | k+1=>QaB blk k++[horI blk k 4]
theorem Qdm(blk:List Int)(k:Nat):(QaB blk k).length=k:=by
 induction k with
 | zero=>rfl
 | succ k ih=>simp[QaB,ih]
def Yn(blk:List Int):Nat->List Int
 | 0=>QaB blk 16
 | k+1=>Yn blk k++[QhE ((Yn blk k).getD k 0) ((Yn blk k).getD (k+1) 0) ((Yn blk k).getD (k+9) 0) ((Yn blk k).getD (k+14) 0)]
theorem QfM(blk:List Int)(k:Nat):(Yn blk k).length=16+k:=by
 induction k with
 | zero=>exact Qdm _ _
 | succ k ih=>simp only[Yn,List.length_append,ih,List.length_cons,List.length_nil];omega
theorem QiH{w:World}{b i j:Nat}{v u:Value}(h:w.cell? ⟨b,i,none⟩=some u)(hne:i≠j):(w.setCell ⟨b,j,none⟩ v).cell? ⟨b,i,none⟩=some u:=by
 rw[Lt _ _ _ _ (fun e=>hne (by have:=Lv Addr.off e;simpa using this.symm))];exact h
theorem Qfs{l:List Int}(h:l.length<64):pad (l++[0])=pad l:=by
 rw[<-QbC h 0]
 apply IK
 intro i
 by_cases e:i=l.length
 ·subst e;rw[List.getElem?_set_self (by rw[Uu (by omega)];omega)]
  have:=Yb l l.length;rw[Ld,Lk (by rw[Uu (by omega)];omega),Ld,Nn (l:=l) (by omega)] at this
  rw[Lk (by rw[Uu (by omega)];omega)]
  simpa using this.symm
 ·rw[Iq (fun h=>e h.symm)]
theorem Qm9(b:BA)(m:Nat)(hm:m<b.size)(w:World):(Instr.index 9 (.string b) (.int .i64 m)).run prog w= .ok (.int .u8 ((tB b).getD m 0)) w:=by
 have e:(tB b).getD m 0=(b[m].toNat:Int):=by
  have:b.data.toList[m]? = some b[m]:=by
   rw[Nh,L6 (by simpa using hm)];rfl
  simp[tB,List.getD_eq_getElem?_getD,this]
 have h2:b[m]? = some b[m]:=getElem?_pos b m hm
 rw[e];simp[Instr.index,asIntOf,run_underlying underlying9,h2]
structure Pl(w wr:World)(ws:List Int):Prop where
 below:Bl w wr
 res:wr.there w.heap.size 0 64
 ws:wr.rangeAt (w.heap.size+1) 0 (cW (pad ws))
 wst:wr.there (w.heap.size+1) 0 64
variable{ws:List Int}{m:Nat}
theorem Pl.set{w wr:World}{y:Int}(h:Pl w wr (ws++[y]))(hm:ws.length=m)(hl:m<64)(v:Int):Pl w (wr.setCell ⟨w.heap.size+1,m,none⟩ (.int .u32 v)) (ws++[v]):=by
 subst hm;refine⟨h.below.setCell (by show w.heap.size<=w.heap.size+1;omega) _,QJ h.res _ _,?_,QJ h.wst _ _⟩
 have:=YH h.ws ws.length (.int .u32 v);rw[Ll,Qgc,<-QbC hl y,List.set_set,QbC hl] at this;exact this
theorem Pl.step{w wr:World}(h:Pl w wr ws)(hm:ws.length=m)(hl:m<64)(v:Int):Pl w (wr.setCell ⟨w.heap.size+1,m,none⟩ (.int .u32 v)) (ws++[v]) :=
 Pl.set (y:=0) ⟨h.below,h.res,by rw[Qfs (by omega)];exact h.ws,h.wst⟩ hm hl v
theorem Pl.same{w X Y:World}(h:Pl w X ws)(e1:Y.heap=X.heap)(e2:Y.os=X.os)(e3:Y.tape=X.tape)(e4:Y.output=X.output):Pl w Y ws:=by
 have hc:∀a,Y.cell? a=X.cell? a:=fun a=>LE (w:=X) (by rw[e1])
 have hf:∀a,Y.frozen? a=X.frozen? a:=fun a=>NU (w:=X) (by rw[e1])
 exact⟨⟨e2.trans h.below.os,e3.trans h.below.tape,e4.trans h.below.output,by rw[e1];exact h.below.size,fun k hk=>by rw[e1];exact h.below.block k hk⟩,
  fun j hj=>by rw[hc,hf];exact h.res j hj,fun j v hv=>by rw[hc];exact h.ws j v hv,fun j hj=>by rw[hc,hf];exact h.wst j hj⟩
theorem Pl.start(w:World)(z1 z2:Array Value)(t1 t2:TypeId)(h1:z1.size=64)(h2:z2=(cW (pad [])).toArray):Pl w ((w.alloc (.cells z1 t1)).alloc (.cells z2 t2)) []:=by
 subst h2;have q1:=Ql w z1 t1 64 (by omega)
 have r2:=Qv (w.alloc (.cells z1 t1)) (cW (pad [])) t2;have q2:=Ql (w.alloc (.cells z1 t1)) (cW (pad [])).toArray t2 64 (by simp[Qm,pad])
 simp only[World.size_alloc] at r2 q2;exact⟨((Lb _ _).alloc (La _) _).alloc (by simp) _,World.there_alloc q1 _,r2,q2⟩
theorem Qlu(b:BA)(hb:b.size=64)(w:World) :
  Zr 363 #[.string b] w (.agg (cW (Yn (tB b) 48)).toArray):=by
 go_enter func363,ntmps363;go_wp2
 go_loopg [4] 16 (fun g i wr=> ∃k:Nat,k<=16∧g=16-k∧i= .int .i64 k∧Pl w wr (QaB (tB b) k))
 case atStart=>go_light;exact⟨0,Ln _,rfl,rfl,Pl.start w _ _ _ _ rfl rfl⟩
 case round=>
  obtain⟨k,hk,rfl,rfl,hs⟩:=hrel
  by_cases hlt:k<16
  ·have xP:(0:Int)<=(k:Int):=Lh _;have xQ:(k:Int)<16:=by omega
   have dk:(k:Int)<64:=by omega
   have xA:=Qdm (tB b) k;go_wp2
   go_loopg [5] 4 (fun g i wi=> ∃j:Nat,j<=4∧g=4-j∧i= .int .i64 j∧Pl w wi (QaB (tB b) k++[horI (tB b) k j]))
   case atStart=>
    go_light;refine⟨0,Ln _,rfl,rfl,?_⟩
    exact⟨hs.below,hs.res,by rw[show horI (tB b) k 0=0 from rfl,Qfs (by omega)];exact hs.ws,hs.wst⟩
   case round=>
    clear hs;obtain⟨j,hj,rfl,rfl,hs⟩:=hrel
    by_cases hjl:j<4
    ·have xN:(0:Int)<=(j:Int):=Lh _;have xO:(j:Int)<4:=by omega
     obtain⟨m,hm⟩:∃m:Nat,4*k+j=m:=⟨_,rfl⟩;obtain⟨m4,xK⟩:∃m4:Nat,4*k=m4:=⟨_,rfl⟩;have e0:IntKind.i64.wrap (4*(k:Int))=(m4:Int):=by rw[Q1 _ (by omega) (by omega)];omega
     have e1:IntKind.i64.wrap ((m4:Int)+(j:Int))=(m:Int):=by rw[Q1 _ (by omega) (by omega)];omega
     have xJ:=fun w'=>Qm9 b m (by omega) w'
     have c0:wr.cell? ⟨w.heap.size+1,k,none⟩=some (.int .u32 (horI (tB b) k j)):=by
      have:=Qd hs.ws (i:=k) (by rw[Uu (by simp[xA];omega)];omega)
      rw[Yb,Ld,LI (by omega),xA,NL] at this
      exact this
     have f0:wr.frozen? ⟨w.heap.size+1,k,none⟩=false:=by have:=(hs.wst k (by omega)).2;rwa [Ll] at this
     have HF:Hid (∀v,Pl w (wr.setCell ⟨w.heap.size+1,k,none⟩ (.int .u32 v)) (QaB (tB b) k++[v])):=fun v=>hs.set xA (by omega) v
     have HV:Hid (horI (tB b) k (j+1)=IntKind.u32.wrap (IntKind.u32.wrap (horI (tB b) k j*256)+IntKind.u32.wrap ((tB b).getD m 0))):=by
      show _=_
      rw[horI,hm]
     clear hs hm xK;generalize horI (tB b) k j=x at *;generalize (tB b).getD m 0=y at *;go_wp2
     go_region
     all_goals
      go_wp2
      go_roundg (4-(j+1))
      case rel=>
       go_light;refine⟨j+1,by omega,rfl,by go_num,?_⟩
       have e:IntKind.u32.wrap (IntKind.u32.wrap (x*256)+IntKind.u32.wrap y)=(x*256+y)%4294967296:=by simp only[IntKind.wrap_u32'];omega
       rw[HV.out,e];exact(HF.out _).same rfl rfl rfl rfl
      case measure=>go_light;omega
    ·obtain rfl:j=4:=by omega
     go_wp2
     go_roundg (16-(k+1))
     case rel=>go_light;exact⟨k+1,by omega,rfl,by go_num,hs⟩
     case measure=>go_light;omega
  ·obtain rfl:k=16:=by omega
   clear hk hlt;go_wp2
   go_loopg [6] 48 (fun g i wr=> ∃k:Nat,k<=48∧g=48-k∧i= .int .i64 ((16+k:Nat):Int)∧Pl w wr (Yn (tB b) k))
   case atStart=>go_light;exact⟨0,Ln _,rfl,rfl,hs⟩
   case round=>
    clear hs;obtain⟨k,hk,rfl,rfl,hs⟩:=hrel
    by_cases hlt:k<48
    ·obtain⟨t,ht⟩:∃t:Nat,16+k=t:=⟨_,rfl⟩;obtain⟨k1,xF⟩:∃k1:Nat,k+1=k1:=⟨_,rfl⟩;obtain⟨k9,xG⟩:∃k9:Nat,k+9=k9:=⟨_,rfl⟩;obtain⟨xB,xC⟩:∃xB:Nat,k+14=xB:=⟨_,rfl⟩;rw[ht];have e0:IntKind.i64.wrap ((t:Int)-16)=(k:Int):=by rw[Q1 _ (by omega) (by omega)];omega
     have e2:IntKind.i64.wrap ((t:Int)-7)=(k9:Int):=by rw[Q1 _ (by omega) (by omega)];omega
     have e1:(t:Int)-15=(k1:Int):=by omega
     have e3:(t:Int)-2=(xB:Int):=by omega
     have b0:(0:Int)<=(k:Int):=Lh _;have b1:(0:Int)<=(k1:Int):=Lh _;have b2:(0:Int)<=(k9:Int):=Lh _;have b3:(0:Int)<=(xB:Int):=Lh _;have bt:(0:Int)<=(t:Int):=Lh _;have d0:(k:Int)<64:=by omega
     have d1:(k1:Int)<64:=by omega
     have d2:(k9:Int)<64:=by omega
     have d3:(xB:Int)<64:=by omega
     have dt:(t:Int)<64:=by omega
     have xA:=QfM (tB b) k;have xL:(pad (Yn (tB b) k)).length=64:=Uu (by omega)
     have c0:wr.cell? ⟨w.heap.size+1,k,none⟩=some (.int .u32 ((Yn (tB b) k).getD k 0)):=by rw[<-Yb];exact Qd hs.ws (by omega)
     have c1:wr.cell? ⟨w.heap.size+1,k1,none⟩=some (.int .u32 ((Yn (tB b) k).getD k1 0)):=by rw[<-Yb];exact Qd hs.ws (by omega)
     have c2:wr.cell? ⟨w.heap.size+1,k9,none⟩=some (.int .u32 ((Yn (tB b) k).getD k9 0)):=by rw[<-Yb];exact Qd hs.ws (by omega)
     have c3:wr.cell? ⟨w.heap.size+1,xB,none⟩=some (.int .u32 ((Yn (tB b) k).getD xB 0)):=by rw[<-Yb];exact Qd hs.ws (by omega)
     have st:wr.cell? ⟨w.heap.size+1,t,none⟩=some (.int .u32 ((Yn (tB b) k).getD t 0)):=by rw[<-Yb];exact Qd hs.ws (by omega)
     have sf:wr.frozen? ⟨w.heap.size+1,t,none⟩=false:=by have:=(hs.wst t (by omega)).2;rwa [Ll] at this
     have HF:Hid (∀v,Pl w (wr.setCell ⟨w.heap.size+1,t,none⟩ (.int .u32 v)) (Yn (tB b) k++[v])):=fun v=>hs.step (by omega) (by omega) v
     have HV:Hid (Yn (tB b) (k+1)=Yn (tB b) k++[QhE ((Yn (tB b) k).getD k 0) ((Yn (tB b) k).getD k1 0) ((Yn (tB b) k).getD k9 0) ((Yn (tB b) k).getD xB 0)]):=by
      show _=_
      subst xF xG xC;rfl
     have HT:Hid (16+k=t):=ht;have N0:k≠t:=by omega
     have N2:k9≠t:=by omega
     clear hs ht xF xG xC xA xL hb;generalize (Yn (tB b) k).getD k 0=x0 at *;generalize (Yn (tB b) k).getD k1 0=x1 at *;generalize (Yn (tB b) k).getD k9 0=x2 at *;generalize (Yn (tB b) k).getD xB 0=x3 at *;generalize (Yn (tB b) k).getD t 0=z at *;go_wp2
     go_region_held3 (fun w'=>w'.cell? ⟨w.heap.size+1,k,none⟩=some (.int .u32 x0)∧w'.cell? ⟨w.heap.size+1,k9,none⟩=some (.int .u32 x2)) (first|assumption|(refine⟨?_,?_⟩ <;> first|assumption|(refine QiH ?_ ?_ <;> assumption))) (first|(go_at_call 364;refine(QcD _ _ _ (by decide) (by decide)).mono ?_;rintro e w' ⟨rfl,q,rfl⟩))
     go_wp2
     go_roundg (48-(k+1))
     case rel=>
      go_light;refine⟨k+1,by omega,rfl,?_,?_⟩
      ·have:=HT.out;go_num
      rw[HV.out];exact(HF.out _).same rfl rfl rfl rfl
     case measure=>go_light;omega
    ·obtain rfl:k=48:=by omega
     have xA:=QfM (tB b) 48;have xH:=hs.ws;rw[Qfr xA] at xH;have xE:=hs.below;have hi:(prog.info? 403).map (·.size)=some (cW (Yn (tB b) 48)).length:=by rw[Qm,xA];exact QeA
     have xI:(prog.info? 403).map (·.size)=some (cW (Yn (tB b) 48)).toArray.size:=by simpa using hi
     have xD:wr.there w.heap.size 0 (cW (Yn (tB b) 48)).toArray.size:=by
      have xM:(cW (Yn (tB b) 48)).toArray.size=64:=by simp[Qm,xA]
      rw[xM];exact hs.res
     clear hs hk hlt xA hb;generalize hE:Yn (tB b) 48=ws at *;have HE:Hid (Yn (tB b) 48=ws):=hE;clear hE
     go_wp2_with (first|(refine wpList_load_mid rfl 403 _ rfl (w.heap.size+1) 0 rfl (cW ws) _ xH underlying403 rfl hi ?_)|(refine wpList_store_mid rfl 403 _ _ rfl w.heap.size 0 (cW ws).toArray rfl rfl xD xI (all_oneCell_toArray (Uz ws)) ?_))
     refine LD (v := .agg (cW ws).toArray) ?_ rfl ⟨by rw[HE.out],?_⟩
     ·refine QG results363 _ _ w.heap.size 0 (cW ws) (.array 64 110) ?_ ?_ underlying403 rfl hi
      ·rfl
      ·go_light
       simpa using World.rangeAt_setCells_same _ _ _ _ (by simpa using xD)
     ·go_light;exact Qq xE (La _) _ _
theorem QoE(a b c d:Int)(ha:0<=a∧a<256)(hb:0<=b∧b<256)(hc:0<=c∧c<256)(hd:0<=d∧d<256) :
  Qf3 a b c d=a*16777216+b*65536+c*256+d:=by
 obtain⟨a,rfl⟩:=NN ha.1;obtain⟨b,rfl⟩:=NN hb.1;obtain⟨c,rfl⟩:=NN hc.1;obtain⟨d,rfl⟩:=NN hd.1;have h1:a<256:=by omega
 have h2:b<256:=by omega
 have h3:c<256:=by omega
 have h4:d<256:=by omega
 have e1:IntKind.u32.wrap (IntKind.u32.wrap (a:Int)*16777216)=((a*16777216:Nat):Int):=by simp only[IntKind.wrap_u32'];omega
 have e2:IntKind.u32.wrap (IntKind.u32.wrap (b:Int)*65536)=((b*65536:Nat):Int):=by simp only[IntKind.wrap_u32'];omega
 have e3:IntKind.u32.wrap (IntKind.u32.wrap (c:Int)*256)=((c*256:Nat):Int):=by simp only[IntKind.wrap_u32'];omega
 have e4:IntKind.u32.wrap (d:Int)=((d:Nat):Int):=by simp only[IntKind.wrap_u32'];omega
 have j1:a*16777216 ||| b*65536=a*16777216+b*65536:=nat_join 24 _ _ (by omega) (by omega)
 have j2:(a*16777216+b*65536) ||| c*256=a*16777216+b*65536+c*256:=nat_join 16 _ _ (by omega) (by omega)
 have j3:(a*16777216+b*65536+c*256) ||| d=a*16777216+b*65536+c*256+d:=nat_join 8 _ _ (by omega) (by omega)
 unfold Qf3;rw[e1,e2,e3,e4,u32_or_nat _ _ (by omega) (by omega),j1,u32_or_nat _ _ (by omega) (by omega),j2,u32_or_nat _ _ (by omega) (by omega),j3]
 omega
def Bytes(l:List Int):Prop := ∀x∈l,0<=x∧x<256
theorem Bytes.getD{l:List Int}(h:Bytes l)(i:Nat):0<=l.getD i 0∧l.getD i 0<256:=by
 rw[Ld]
 cases e:l[i]? with
 | none=>exact⟨by decide,by decide⟩
 | some x=>exact h x (N8 e)
theorem Qpt{blk:List Int}(h:Bytes blk)(k:Nat):horI blk k 4=Qf3 (blk.getD (4*k) 0) (blk.getD (4*k+1) 0) (blk.getD (4*k+2) 0) (blk.getD (4*k+3) 0):=by
 have h0:=h.getD (4*k);have h1:=h.getD (4*k+1);have h2:=h.getD (4*k+2);have h3:=h.getD (4*k+3);rw[QoE _ _ _ _ h0 h1 h2 h3];simp only[horI,IntKind.wrap_u32',Nat.add_zero];omega
theorem Qn8{blk:List Int}(h:Bytes blk)(k:Nat):Yn blk k=Q5 blk k:=by
 have h0:∀k,QaB blk k=sch0 blk k:=fun k=>by
  induction k with
  | zero=>rfl
  | succ k ih=>rw[QaB,sch0,ih,Qpt h]
 induction k with
 | zero=>exact h0 16
 | succ k ih=>rw[Yn,Q5,ih]
theorem Ql5(s:BA):Bytes (tB s):=by
 intro x hx;obtain⟨y,_,rfl⟩:=List.mem_map.1 hx;have:=y.toNat_lt;omega
def l8(v:S8):List Int:=[v.a,v.b,v.c,v.d,v.e,v.f,v.g,v.h]
def addL(s v:S8):Nat->List Int
 | 0=>l8 v
 | k+1=>(addL s v k).set k (IntKind.u32.wrap ((l8 v).getD k 0+(l8 s).getD k 0))
theorem Qie(s v:S8)(k j:Nat)(h:k<=j):(addL s v k).getD j 0=(l8 v).getD j 0:=by
 induction k with
 | zero=>rfl
 | succ k ih=>rw[addL,Ld,Iq (by omega),<-Ld,ih (by omega)]
theorem QjJ(s v:S8):addL s v 8=sumI s v:=by
 have:addL s v 8=[IntKind.u32.wrap (v.a+s.a),IntKind.u32.wrap (v.b+s.b),IntKind.u32.wrap (v.c+s.c),IntKind.u32.wrap (v.d+s.d),IntKind.u32.wrap (v.e+s.e),IntKind.u32.wrap (v.f+s.f),IntKind.u32.wrap (v.g+s.g),IntKind.u32.wrap (v.h+s.h)]:=rfl;rw[this,sumI];simp only[Int.add_comm]
theorem QqH(a b c e f g h r x:Int):IntKind.u32.wrap (oneI e f g h r x+twoI a b c) =
  (h+bits .xor .u32 (bits .xor .u32 (UE e 6) (UE e 11)) (UE e 25)+bits .xor .u32 (bits .and .u32 e f) (bits .and .u32 (bits .xor .u32 IntKind.u32.max e) g)+r+x+(bits .xor .u32 (bits .xor .u32 (UE a 2) (UE a 13)) (UE a 22)+bits .xor .u32 (bits .xor .u32 (bits .and .u32 a b) (bits .and .u32 a c)) (bits .and .u32 b c)))%4294967296:=by
 simp only[oneI,twoI,IntKind.wrap_u32'];omega
theorem QqI(d e f g h r x:Int):IntKind.u32.wrap (d+oneI e f g h r x) =
  (d+(h+bits .xor .u32 (bits .xor .u32 (UE e 6) (UE e 11)) (UE e 25)+bits .xor .u32 (bits .and .u32 e f) (bits .and .u32 (bits .xor .u32 IntKind.u32.max e) g)+r+x))%4294967296:=by
 simp only[oneI,IntKind.wrap_u32'];omega
structure Mx(w wr:World)(st ws rs vl:List Int)(N V:Nat):Prop where
 vlen:vl.length=8
 below:Bl w wr
 st:wr.rangeAt w.heap.size 0 (cW st)
 res:wr.there (w.heap.size+1) 0 8
 ws:wr.rangeAt N 0 (cW ws)
 rs:wr.rangeAt 1 0 (cW rs)
 v:wr.rangeAt V 0 (cW vl)
 vt:wr.there V 0 8
 hN:w.heap.size+2<=N
 hV:N<V
 h2:1<w.heap.size
theorem Mx.same{w X Y:World}{st rs vl:List Int}{N V:Nat}(h:Mx w X st ws rs vl N V)(e1:Y.heap=X.heap)(e2:Y.os=X.os)(e3:Y.tape=X.tape)(e4:Y.output=X.output):Mx w Y st ws rs vl N V:=by
 have hc:∀a,Y.cell? a=X.cell? a:=fun a=>LE (w:=X) (by rw[e1])
 have hf:∀a,Y.frozen? a=X.frozen? a:=fun a=>NU (w:=X) (by rw[e1])
 exact⟨h.vlen,⟨e2.trans h.below.os,e3.trans h.below.tape,e4.trans h.below.output,by rw[e1];exact h.below.size,fun k hk=>by rw[e1];exact h.below.block k hk⟩,
  fun j v hv=>by rw[hc];exact h.st j v hv,fun j hj=>by rw[hc,hf];exact h.res j hj,fun j v hv=>by rw[hc];exact h.ws j v hv,fun j v hv=>by rw[hc];exact h.rs j v hv,fun j v hv=>by rw[hc];exact h.v j v hv,fun j hj=>by rw[hc,hf];exact h.vt j hj,h.hN,h.hV,h.h2⟩
theorem Mx.set{w wr:World}{st rs vl:List Int}{N V:Nat}(h:Mx w wr st ws rs vl N V)(i:Nat)(x:Int):Mx w (wr.setCell ⟨V,i,none⟩ (.int .u32 x)) st ws rs (vl.set i x) N V:=by
 have hN:=h.hN;have hV:=h.hV;have h2:=h.h2;refine⟨by rw[IE];exact h.vlen,h.below.setCell (by show w.heap.size<=V;omega) _,Uh h.st (by show V≠_;omega) _,QJ h.res _ _,Uh h.ws (by show V≠_;omega) _,Uh h.rs (by show V≠_;omega) _,?_,QJ h.vt _ _,hN,hV,h2⟩
 have:=YH h.v i (.int .u32 x)
 rwa [Ll,Qgc] at this
structure M1(w W:World)(st ws rs:List Int)(N:Nat):Prop where
 below:Bl w W
 st:W.rangeAt w.heap.size 0 (cW st)
 res:W.there (w.heap.size+1) 0 8
 ws:W.rangeAt N 0 (cW ws)
 rs:W.rangeAt 1 0 (cW rs)
 hN:w.heap.size+2<=N
 hV:N<W.heap.size
 h2:1<w.heap.size
theorem M1.start{w w':World}{st rs:List Int}{t1 t2 t3:TypeId}{z:Array Value}(hz:z.size=8){z2:Array Value}(hz2:z2.size=64)(hwl:ws.length=64)(hrl:rs.length=64)
  (hr:w.rangeAt 1 0 (cW rs))
  (hb:Below ((w.alloc (.cells (cW st).toArray t1)).alloc (.cells z t2)).heap.size ((w.alloc (.cells (cW st).toArray t1)).alloc (.cells z t2)) w') :
  M1 w ((w'.alloc (.cells z2 t3)).setCells w'.heap.size 0 (cW ws)) st ws rs w'.heap.size:=by
 have xB:1<w.heap.size:=QF hr (by intro h;have:=Lv List.length h;simp[Qm,hrl] at this)
 have hN:w.heap.size+2<=w'.heap.size:=by have:=hb.size;simp at this;omega
 have xA:Bl w w':=(((Lb _ _).alloc (La _) _).alloc (by simp) _).trans (hb.mono (by simp;omega))
 have h1:w'.rangeAt w.heap.size 0 (cW st):=Qn hb (by simp;omega) (World.rangeAt_alloc (Qv _ _ _) _)
 have h2:w'.there (w.heap.size+1) 0 8:=by
  have:=Ql (w.alloc (.cells (cW st).toArray t1)) z t2 8 (by omega)
  simp only[World.size_alloc] at this;exact QX hb (by simp) this
 have h3:w'.rangeAt 1 0 (cW rs):=Qn xA xB hr;have hw:((w'.alloc (.cells z2 t3)).setCells w'.heap.size 0 (cW ws)).rangeAt w'.heap.size 0 (cW ws):=World.rangeAt_setCells_same _ _ _ _ (Ql _ _ _ _ (by rw[Qm,hwl,hz2];exact La _))
 refine⟨Qq (xA.alloc (by omega) _) (by omega) _ _,?_,?_,hw,?_,hN,?_,xB⟩
 ·exact World.rangeAt_setCells_apart (World.rangeAt_alloc h1 _) _ _ _ (Or.inl (by omega))
 ·exact World.there_setCells (World.there_alloc h2 _) _ _ _
 ·exact World.rangeAt_setCells_apart (World.rangeAt_alloc h3 _) _ _ _ (Or.inl (by omega))
 ·exact QF hw (by intro h;have:=Lv List.length h;simp[Qm,hwl] at this)
theorem Mx.start{w W:World}{st rs:List Int}{N:Nat}(h:M1 w W st ws rs N)(hst:st.length=8)(t:TypeId):Mx w (W.alloc (.cells (cW st).toArray t)) st ws rs st N W.heap.size :=
 ⟨hst,h.below.alloc h.below.size _,World.rangeAt_alloc h.st _,World.there_alloc h.res _,World.rangeAt_alloc h.ws _,World.rangeAt_alloc h.rs _,Qv _ _ _,Ql _ _ _ _ (by simp[Qm,hst]),h.hN,h.hV,h.h2⟩
theorem QiP(st:List Int)(hst:st.length=8)(b:BA)(hb:b.size=64)(w:World)(rs:List Int)(hrl:rs.length=64)(hr:w.rangeAt 1 0 (cW rs)) :
  Zr 282 #[.agg (cW st).toArray,.string b] w (.agg (cW (YS rs st (tB b))).toArray):=by
 obtain⟨s0,s1,s2,s3,s4,s5,s6,s7,rfl⟩:=Qcc hst;clear hst;obtain⟨ws,xE⟩:∃ws,ws=Q5 (tB b) 48:=⟨_,rfl⟩;have xK:ws.length=64:=by rw[xE,QaA]
 have xA:=fun w=>Qlu b hb w
 rw[Qn8 (Ql5 b),<-xE] at xA;have HE:Hid (ws=Q5 (tB b) 48):=xE;clear xE;have xJ:(cW ws).toArray.size=64:=by simp[Qm,xK]
 have xG:(prog.info? 403).map (·.size)=some (cW ws).toArray.size:=by rw[xJ];exact QeA
 go_enter func282,ntmps282
 go_upto_region 2 with (first|(go_at_call 363;refine(xA _).mono ?_;rintro e w' ⟨rfl,xI⟩)|(refine wpList_store_mid rfl 403 _ _ rfl _ 0 (cW ws).toArray rfl rfl ?_ xG (all_oneCell_toArray (Uz ws)) ?_;exact Ql _ _ _ _ (by rw[xJ];exact La 64)))
 go_simp
 have hM:M1 w ((w'.alloc (.cells Za 403)).setCells w'.heap.size 0 (cW ws)) [s0,s1,s2,s3,s4,s5,s6,s7] ws rs w'.heap.size:=M1.start (z2:=(cW (List.replicate 64 0)).toArray) (z:=(cW [0,0,0,0,0,0,0,0]).toArray) rfl rfl xK hrl hr xI;clear xI xA;generalize ((w'.alloc (.cells Za 403)).setCells w'.heap.size 0 (cW ws))=W2 at *;generalize w'.heap.size=N at *;clear w';have c0:W2.cell? ⟨w.heap.size,0,none⟩=some (.int .u32 s0):=Qd hM.st (i:=0) (by simp)
 have c1:W2.cell? ⟨w.heap.size,1,none⟩=some (.int .u32 s1):=Qd hM.st (i:=1) (by simp)
 have c2:W2.cell? ⟨w.heap.size,2,none⟩=some (.int .u32 s2):=Qd hM.st (i:=2) (by simp)
 have c3:W2.cell? ⟨w.heap.size,3,none⟩=some (.int .u32 s3):=Qd hM.st (i:=3) (by simp)
 have c4:W2.cell? ⟨w.heap.size,4,none⟩=some (.int .u32 s4):=Qd hM.st (i:=4) (by simp)
 have c5:W2.cell? ⟨w.heap.size,5,none⟩=some (.int .u32 s5):=Qd hM.st (i:=5) (by simp)
 have c6:W2.cell? ⟨w.heap.size,6,none⟩=some (.int .u32 s6):=Qd hM.st (i:=6) (by simp)
 have c7:W2.cell? ⟨w.heap.size,7,none⟩=some (.int .u32 s7):=Qd hM.st (i:=7) (by simp)
 have hX:Mx w (W2.alloc (.cells (cW [s0,s1,s2,s3,s4,s5,s6,s7]).toArray 346)) [s0,s1,s2,s3,s4,s5,s6,s7] ws rs [s0,s1,s2,s3,s4,s5,s6,s7] N W2.heap.size:=Mx.start hM rfl 346;replace hX:Mx w (W2.alloc (.cells #[.int .u32 s0,.int .u32 s1,.int .u32 s2,.int .u32 s3,.int .u32 s4,.int .u32 s5,.int .u32 s6,.int .u32 s7] 346)) [s0,s1,s2,s3,s4,s5,s6,s7] ws rs [s0,s1,s2,s3,s4,s5,s6,s7] N W2.heap.size:=hX;clear hM;go_wp2;clear c0 c1 c2 c3 c4 c5 c6 c7;generalize W2.alloc (.cells #[.int .u32 s0,.int .u32 s1,.int .u32 s2,.int .u32 s3,.int .u32 s4,.int .u32 s5,.int .u32 s6,.int .u32 s7] 346)=W3 at *;generalize W2.heap.size=V at *;clear W2
 go_loopg [7] 64 (fun g i wr=> ∃(k:Nat) (v:S8),k<=64∧g=64-k∧i= .int .i64 k∧Hid (v=rnds (US [s0,s1,s2,s3,s4,s5,s6,s7]) rs ws k)∧Mx w wr [s0,s1,s2,s3,s4,s5,s6,s7] ws rs (l8 v) N V)
 case atStart=>go_light;exact⟨0,US [s0,s1,s2,s3,s4,s5,s6,s7],Ln _,rfl,rfl,rfl,hX⟩
 case round=>
  clear hX;obtain⟨k,v,hk,rfl,rfl,hv,hX⟩:=hrel
  by_cases hlt:k<64
  ·have xL:(0:Int)<=(k:Int):=Lh _;have xM:(k:Int)<64:=by omega
   obtain⟨a,b',c,d,e,f,g,gh⟩:=v;have cr:=Qd hX.rs (i:=k) (by omega)
   have cw:=Qd hX.ws (i:=k) (by omega)
   have c0:wr.cell? ⟨V,0,none⟩=some (.int .u32 a):=Qd hX.v (i:=0) (by simp[l8])
   have c1:wr.cell? ⟨V,1,none⟩=some (.int .u32 b'):=Qd hX.v (i:=1) (by simp[l8])
   have c2:wr.cell? ⟨V,2,none⟩=some (.int .u32 c):=Qd hX.v (i:=2) (by simp[l8])
   have c3:wr.cell? ⟨V,3,none⟩=some (.int .u32 d):=Qd hX.v (i:=3) (by simp[l8])
   have c4:wr.cell? ⟨V,4,none⟩=some (.int .u32 e):=Qd hX.v (i:=4) (by simp[l8])
   have c5:wr.cell? ⟨V,5,none⟩=some (.int .u32 f):=Qd hX.v (i:=5) (by simp[l8])
   have c6:wr.cell? ⟨V,6,none⟩=some (.int .u32 g):=Qd hX.v (i:=6) (by simp[l8])
   have c7:wr.cell? ⟨V,7,none⟩=some (.int .u32 gh):=Qd hX.v (i:=7) (by simp[l8])
   have f0:wr.frozen? ⟨V,0,none⟩=false:=by have:=(hX.vt 0 (by decide)).2;rwa [Ll] at this
   have f1:wr.frozen? ⟨V,1,none⟩=false:=by have:=(hX.vt 1 (by decide)).2;rwa [Ll] at this
   have f2:wr.frozen? ⟨V,2,none⟩=false:=by have:=(hX.vt 2 (by decide)).2;rwa [Ll] at this
   have f3:wr.frozen? ⟨V,3,none⟩=false:=by have:=(hX.vt 3 (by decide)).2;rwa [Ll] at this
   have f4:wr.frozen? ⟨V,4,none⟩=false:=by have:=(hX.vt 4 (by decide)).2;rwa [Ll] at this
   have f5:wr.frozen? ⟨V,5,none⟩=false:=by have:=(hX.vt 5 (by decide)).2;rwa [Ll] at this
   have f6:wr.frozen? ⟨V,6,none⟩=false:=by have:=(hX.vt 6 (by decide)).2;rwa [Ll] at this
   have f7:wr.frozen? ⟨V,7,none⟩=false:=by have:=(hX.vt 7 (by decide)).2;rwa [Ll] at this
   have HX:Hid (∀x0 x1 x2 x3 x4 x5 x6 x7,Mx w ((((((((wr.setCell ⟨V,0,none⟩ (.int .u32 x0)).setCell ⟨V,1,none⟩ (.int .u32 x1)).setCell ⟨V,2,none⟩ (.int .u32 x2)).setCell ⟨V,3,none⟩ (.int .u32 x3)).setCell ⟨V,4,none⟩ (.int .u32 x4)).setCell ⟨V,5,none⟩ (.int .u32 x5)).setCell ⟨V,6,none⟩ (.int .u32 x6)).setCell ⟨V,7,none⟩ (.int .u32 x7)) [s0,s1,s2,s3,s4,s5,s6,s7] ws rs [x0,x1,x2,x3,x4,x5,x6,x7] N V):=fun x0 x1 x2 x3 x4 x5 x6 x7=>((((((((hX.set 0 x0).set 1 x1).set 2 x2).set 3 x3).set 4 x4).set 5 x5).set 6 x6).set 7 x7)
   have HV:Hid (∀v',v'=S8.rnd ⟨a,b',c,d,e,f,g,gh⟩ (rs.getD k 0) (ws.getD k 0)->v'=rnds (US [s0,s1,s2,s3,s4,s5,s6,s7]) rs ws (k+1)):=fun v' h=>by
    rw[h,show S8.mk a b' c d e f g gh=_ from hv];rfl
   clear hX hv;generalize rs.getD k 0=r at *;generalize ws.getD k 0=x at *;go_wp2
   go_region_held3 (fun w'=>w'.cell? ⟨1,k,none⟩=some (.int .u32 r)∧w'.cell? ⟨N,k,none⟩=some (.int .u32 x)∧w'.cell? ⟨V,4,none⟩=some (.int .u32 e)∧w'.cell? ⟨V,5,none⟩=some (.int .u32 f)∧w'.cell? ⟨V,6,none⟩=some (.int .u32 g)∧w'.cell? ⟨V,7,none⟩=some (.int .u32 gh)) (first|assumption|(refine⟨?_,?_,?_,?_,?_,?_⟩ <;> assumption)) (first|(go_at_call 364;refine(QcD _ _ _ (by decide) (by decide)).mono ?_;rintro e w' ⟨rfl,q,rfl⟩))
   go_wp2
   go_region_held3 (fun w'=>w'.cell? ⟨V,0,none⟩=some (.int .u32 a)∧w'.cell? ⟨V,1,none⟩=some (.int .u32 b')∧w'.cell? ⟨V,2,none⟩=some (.int .u32 c)) (first|assumption|(refine⟨?_,?_,?_⟩ <;> assumption)) (first|(go_at_call 364;refine(QcD _ _ _ (by decide) (by decide)).mono ?_;rintro e w' ⟨rfl,q,rfl⟩))
   go_wp2
   go_roundg (64-(k+1))
   case rel=>
    go_light;refine⟨k+1,S8.rnd ⟨a,b',c,d,e,f,g,gh⟩ r x,by omega,rfl,by go_num,HV.out (S8.rnd ⟨a,b',c,d,e,f,g,gh⟩ r x) rfl,?_⟩
    simp only[l8,S8.rnd,QqH,QqI];refine Mx.same (HX.out _ _ _ _ _ _ _ _) ?_ ?_ ?_ ?_
    all_goals rfl
   case measure=>go_light;omega
  ·obtain rfl:k=64:=by omega
   have xH:Hid (YS rs [s0,s1,s2,s3,s4,s5,s6,s7] (tB b)=sumI (US [s0,s1,s2,s3,s4,s5,s6,s7]) v):=by
    show _=_
    rw[show v=_ from hv,show ws=_ from HE];rfl
   clear hk hlt hv;go_wp2
   go_loopg [10] 8 (fun g i wr=> ∃k:Nat,k<=8∧g=8-k∧i= .int .i64 k∧Mx w wr [s0,s1,s2,s3,s4,s5,s6,s7] ws rs (addL (US [s0,s1,s2,s3,s4,s5,s6,s7]) v k) N V)
   case atStart=>go_light;exact⟨0,Ln _,rfl,rfl,hX⟩
   case round=>
    clear hX;obtain⟨k,hk,rfl,rfl,hX⟩:=hrel
    by_cases hlt:k<8
    ·have xL:(0:Int)<=(k:Int):=Lh _;have xM:(k:Int)<8:=by omega
     have cv:=Qd hX.v (i:=k) (by rw[hX.vlen];omega)
     rw[Qie _ _ _ _ (La _)] at cv;have cs:wr.cell? ⟨w.heap.size,k,none⟩=some (.int .u32 ((l8 (US [s0,s1,s2,s3,s4,s5,s6,s7])).getD k 0)):=Qd hX.st (i:=k) hlt;have fv:wr.frozen? ⟨V,k,none⟩=false:=by have:=(hX.vt k hlt).2;rwa [Ll] at this
     have HF:Hid (∀x,Mx w (wr.setCell ⟨V,k,none⟩ (.int .u32 x)) [s0,s1,s2,s3,s4,s5,s6,s7] ws rs ((addL (US [s0,s1,s2,s3,s4,s5,s6,s7]) v k).set k x) N V):=fun x=>hX.set k x
     have HV:Hid (addL (US [s0,s1,s2,s3,s4,s5,s6,s7]) v (k+1)=(addL (US [s0,s1,s2,s3,s4,s5,s6,s7]) v k).set k (IntKind.u32.wrap ((l8 v).getD k 0+(l8 (US [s0,s1,s2,s3,s4,s5,s6,s7])).getD k 0))):=rfl;clear hX;generalize (l8 v).getD k 0=x at *;generalize (l8 (US [s0,s1,s2,s3,s4,s5,s6,s7])).getD k 0=y at *;go_wp2
     go_region
     all_goals
      go_wp2
      go_roundg (8-(k+1))
      case rel=>
       go_light;refine⟨k+1,by omega,rfl,by go_num,?_⟩
       rw[HV.out,IntKind.wrap_u32'];exact(HF.out _).same rfl rfl rfl rfl
      case measure=>go_light;omega
    ·obtain rfl:k=8:=by omega
     rw[QjJ] at hX;have xO:=hX.vlen;have xN:=hX.v;have xB:(prog.info? 346).map (·.size)=some (cW (sumI (US [s0,s1,s2,s3,s4,s5,s6,s7]) v)).length:=UF;have xC:(prog.info? 346).map (·.size)=some (cW (sumI (US [s0,s1,s2,s3,s4,s5,s6,s7]) v)).toArray.size:=UF;have xD:wr.there (w.heap.size+1) 0 (cW (sumI (US [s0,s1,s2,s3,s4,s5,s6,s7]) v)).toArray.size:=hX.res;have xF:=hX.below;clear hX;generalize hE:sumI (US [s0,s1,s2,s3,s4,s5,s6,s7]) v=F at *;have HF:Hid (YS rs [s0,s1,s2,s3,s4,s5,s6,s7] (tB b)=F):=xH;clear hE xH
     go_wp2_with (first|(refine wpList_load_mid rfl 346 _ rfl V 0 rfl (cW F) _ xN underlying346 rfl xB ?_)|(refine wpList_store_mid rfl 346 _ _ rfl (w.heap.size+1) 0 (cW F).toArray rfl rfl xD xC (all_oneCell_toArray (Uz F)) ?_))
     refine LD (v := .agg (cW F).toArray) ?_ rfl ⟨by rw[HF.out],?_⟩
     ·refine QG results282 _ _ (w.heap.size+1) 0 (cW F) (.array 8 110) ?_ ?_ underlying346 rfl xB
      ·rfl
      ·go_light
       simpa using World.rangeAt_setCells_same _ _ _ _ (by simpa using xD)
     ·go_light;exact Qq xF (by omega) _ _
def tl(n:Int):Nat->List Int
 | 0=>[]
 | j+1=>(n/256^j%256)::tl n j
theorem Jz(n:Int)(j:Nat):(tl n j).length=j:=by
 induction j with
 | zero=>rfl
 | succ j ih=>simp[tl,ih]
theorem QaH(n:Int)(j:Nat):Bytes (tl n j):=by
 induction j with
 | zero=>intro x hx;cases hx
 | succ j ih=>
  intro x hx
  rcases List.mem_cons.1 hx with rfl|hx
  ·omega
  ·exact ih x hx
structure Bg(w wr:World)(l:List Int)(K:Nat):Prop where
 len:l.length=K
 below:Bl w wr
 out:wr.rangeAt w.heap.size 0 (cB l)
 outt:wr.there w.heap.size 0 K
variable{l:List Int}
theorem Bg.set{w wr:World}{K:Nat}(h:Bg w wr l K)(m:Nat)(v:Int):Bg w (wr.setCell ⟨w.heap.size,m,none⟩ (.int .u8 v)) (l.set m v) K:=by
 refine⟨by rw[IE];exact h.len,h.below.setCell (La _) _,?_,QJ h.outt _ _⟩
 have:=YH h.out m (.int .u8 v)
 rwa [Ll,Qgb] at this
theorem Qn0(K j:Nat)(n v:Int)(h:j<K):(List.replicate (K-j) 0++tl n j).set (K-1-j) v=List.replicate (K-(j+1)) 0++v::tl n j:=by
 obtain⟨m,rfl⟩:∃m,K=j+1+m:=⟨K-(j+1),by omega⟩
 rw[show j+1+m-j=m+1 by omega,show j+1+m-1-j=m by omega,show j+1+m-(j+1)=m by omega,List.replicate_succ',Lw,Nb _ _ (by simp)]
 simp
theorem Qit(w:World)(b K:Nat)(l:List Int)(hl:l.length=K)(h:w.rangeAt b 0 (cB l)):(convert 127 9 (.slice (Zp b) K K)).run prog w= .ok (.string (QY l)) w:=QbS w b l K hl h
theorem Qhd(n:Int)(h0:0<=n)(h64:n<18446744073709551616)(K:Nat)(hK:K<=8)
  (hmk:∀u:World,(Instr.makeSlice 127 (.int .i64 K) (.int .i64 K)).run prog u= .ok (.slice (Zp u.heap.size) K K) (u.alloc (.cells (cB (List.replicate K 0)).toArray 5))) (w:World) :
  Zr 281 #[.int .u64 n,.int .i64 K] w (.string (QY (tl n K))):=by
 have xB:Bg w (w.alloc (.cells (cB (List.replicate K 0)).toArray 5)) (List.replicate K 0) K :=
  ⟨by simp,(Lb _ _).alloc (La _) _,Qv _ _ _,Ql _ _ _ _ (by simp[QA])⟩
 have k0:(0:Int)<=(K:Int):=Lh _;have k8:(K:Int)<=8:=by omega
 go_enter func281,ntmps281;go_wp2;generalize w.alloc (.cells (cB (List.replicate K 0)).toArray 5)=w1 at *;clear hmk
 go_loopg [0,6] K (fun g x i wr=> ∃j:Nat,j<=K∧g=K-j∧x= .int .u64 (n/256^j)∧i= .int .i64 ((K:Int)-1-(j:Int))∧Bg w wr (List.replicate (K-j) 0++tl n j) K)
 case atStart=>
  go_light;refine⟨0,Ln _,rfl,?_,?_,?_⟩
  ·simp
  ·simp
  ·simpa [tl] using xB
 case round=>
  clear xB;obtain⟨j,hj,rfl,rfl,rfl,hs⟩:=hrel;have xD:0<=n/256^j:=Int.ediv_nonneg h0 (Int.pow_nonneg (by decide))
  have xE:n/256^j<=n:=Int.ediv_le_self _ h0;have xF:n/256^j<18446744073709551616:=by omega
  by_cases hlt:j<K
  ·obtain⟨m,hm⟩:∃m:Nat,j+m+1=K:=⟨K-1-j,by omega⟩
   have em:(K:Int)-1-(j:Int)=(m:Int):=by omega
   rw[em];have m0:(0:Int)<=(m:Int):=Lh _;have mK:(m:Int)<(K:Int):=by omega
   have m8:(m:Int)<=8:=by omega
   have cm:=Yk hs.out (i:=m) (by rw[hs.len];omega)
   have fm:wr.frozen? ⟨w.heap.size,m,none⟩=false:=by have:=(hs.outt m (by omega)).2;rwa [Ll] at this
   have HF:Hid (Bg w (wr.setCell ⟨w.heap.size,m,none⟩ (.int .u8 (n/256^j%256))) (List.replicate (K-(j+1)) 0++tl n (j+1)) K):=by
    have:=hs.set m (n/256^j%256)
    rwa [show m=K-1-j by omega,Qn0 K j n _ hlt,<-show m=K-1-j by omega] at this
   have HD:Hid (n/256^j/256=n/256^(j+1)):=by
    show _=_
    rw[Int.pow_succ,Int.ediv_ediv_of_nonneg (Int.pow_nonneg (by decide))]
   have HM:Hid (j+m+1=K):=hm;clear hs hm em;generalize n/256^j=x at *;generalize (List.replicate (K-j) 0++tl n j).getD m 0=z at *;go_wp2
   go_roundg (K-(j+1))
   case rel=>
    go_light;refine⟨j+1,by omega,rfl,by rw[<-HD.out],?_,HF.out⟩
    have:=HM.out;go_num
   case measure=>go_light;omega
  ·obtain rfl:j=K:=by omega
   have em:(j:Int)-1-(j:Int) = -1:=by omega
   rw[em];have xA:=hs.out;rw[NL,List.replicate_zero,Nj] at xA;have xC:=Qit wr w.heap.size j (tl n j) (Jz _ _) xA;have HB:Hid (Bl w wr):=hs.below;clear hs xA;go_wp2
   go_ret
   exact⟨rfl,HB.out⟩
theorem big8(n:Int)(h0:0<=n)(h64:n<18446744073709551616)(w:World) :
  Zr 281 #[.int .u64 n,.int .i64 8] w (.string (QY (tl n 8))):=Qhd n h0 h64 8 (by decide) (fun u=>by kernel_rfl) w
theorem big4(n:Int)(h0:0<=n)(h64:n<18446744073709551616)(w:World) :
  Zr 281 #[.int .u64 n,.int .i64 4] w (.string (QY (tl n 4))):=Qhd n h0 h64 4 (by decide) (fun u=>by kernel_rfl) w
theorem QiC(l:List Int)(acc:BA):(l.foldl (fun r n=>r.push (UInt8.ofNat n.toNat)) acc).data.toList=acc.data.toList++l.map fun n=>UInt8.ofNat n.toNat:=by
 induction l generalizing acc with
 | nil=>simp
 | cons x r ih=>rw[Wo,ih];simp[ByteArray.push]
theorem Jj(l:List Int):(QY l).data.toList=l.map fun n=>UInt8.ofNat n.toNat:=by
 rw[QY,QiC];rfl
theorem Om(h:Bytes l):tB (QY l)=l:=by
 rw[tB,Jj,Wi]
 conv=>rhs;rw[<-List.map_id l]
 apply NG
 intro x hx;obtain⟨h0,h1⟩:=h x hx;obtain⟨n,rfl⟩:=NN h0;simp;omega
theorem Qoq(s:BA):QY (tB s)=s:=by
 have:(QY (tB s)).data.toList=s.data.toList:=by
  rw[Jj,tB,Wi]
  conv=>rhs;rw[<-List.map_id s.data.toList]
  apply NG
  intro x _;simp
 cases s with
 | mk d=>
  cases h:QY (tB ⟨d⟩) with
  | mk d'=>
   rw[h] at this;simp only at this;rw[Array.toList_inj.1 this]
def msg(t:List Int)(z:Nat):List Int:=(t++(128::List.replicate z 0))++tl (8*(t.length:Int)) 8
theorem Qfb(h:l.length=64)(b:Int):Uq l b 8=l.take 56++tl b 8:=by
 obtain⟨s0,s1,s2,s3,s4,s5,s6,s7,hd⟩:=Qcc (st:=l.drop 56) (by simp[h])
 have e:l=l.take 56++[s0,s1,s2,s3,s4,s5,s6,s7]:=by rw[<-hd,Nv]
 have hA:(l.take 56).length=56:=by simp[h]
 generalize l.take 56=A at *;subst e;simp only[Uq,tl,IntKind.wrap_u8'];rw[Nb _ _ (by omega),Nb _ _ (by omega),Nb _ _ (by omega),Nb _ _ (by omega),Nb _ _ (by omega),Nb _ _ (by omega),Nb _ _ (by omega),Nb _ _ (by omega),hA]
 congr 1
theorem Qjs(A:List Int)(h:A.length=56)(B:List Int):(A++B).take 56=A:=by
 rw[Lu (by omega),Lp (by omega)]
theorem Qnr(rs t:List Int)(z:Nat)(hlt:t.length<1152921504606846976)(hz:(t.length+(z+1)+8)%64=0)(hz2:z<64) :
  stN rs IV (msg t z) ((msg t z).length/64)=Q2 rs (stN rs IV t (t.length/64)) (pad (t.drop (64*(t.length/64)))) t.length:=by
 have xJ:(msg t z).length=t.length+(z+1)+8:=by simp[msg,Jz];omega
 have xE:IntKind.u64.wrap ((t.length:Int)*8)=8*(t.length:Int):=by
  simp[IntKind.wrap,IntKind.bits,IntKind.signed];omega
 have xI:(t.drop (64*(t.length/64))).length=t.length%64:=by rw[Ni];omega
 have xG:(pad (t.drop (64*(t.length/64)))).length=64:=Uu (by omega)
 have xH:(pad (t.drop (64*(t.length/64)))).take (t.length%64)=t.drop (64*(t.length/64)):=by
  rw[pad,Lu (by omega),Lp (by omega)]
 have xA:∀q,q=t.length/64->(msg t z).drop (64*q)=(t.drop (64*q)++(128::List.replicate z 0))++tl (8*(t.length:Int)) 8:=fun q hq=>by
  unfold msg;rw[LR (by simp;omega),LR (by omega)]
 have xC:stN rs IV (msg t z) (t.length/64)=stN rs IV t (t.length/64):=by
  unfold msg;rw[Lw,OU _ _ _ _ _ (by omega)]
 unfold Q2;rw[xE];have xB:JE (pad (t.drop (64*(t.length/64)))) (t.length%64)=(t.drop (64*(t.length/64))++[128])++List.replicate (64-(t.length%64+1)) 0:=by
  rw[QdN xG (Ia _ (by decide)),xH]
 by_cases h55:55<t.length%64
 ·rw[Lf h55];have hq:(msg t z).length/64=t.length/64+1+1:=by omega
  have xD:z=(64-(t.length%64+1))+56:=by omega
  rw[hq,stN,stN,xC,xA _ rfl,xB,Qfb (by simp)]
  have e1:((t.drop (64*(t.length/64))++(128::List.replicate z 0))++tl (8*(t.length:Int)) 8).take 64=(t.drop (64*(t.length/64))++[128])++List.replicate (64-(t.length%64+1)) 0:=by
   rw[xD,<-NH];have:t.drop (64*(t.length/64))++(128::(List.replicate (64-(t.length%64+1)) 0++List.replicate 56 0))++tl (8*(t.length:Int)) 8=((t.drop (64*(t.length/64))++[128])++List.replicate (64-(t.length%64+1)) 0)++(List.replicate 56 0++tl (8*(t.length:Int)) 8):=by simp
   rw[this,Lu (by simp;omega),Lp (by simp;omega)]
  have e2:((msg t z).drop (64*(t.length/64+1))).take 64=(List.replicate 64 (0:Int)).take 56++tl (8*(t.length:Int)) 8:=by
   have xF:(msg t z).drop (64*(t.length/64+1))=((msg t z).drop (64*(t.length/64))).drop 64:=by rw[I0];congr 1
   rw[xF,xA _ rfl,xD,<-NH];have:t.drop (64*(t.length/64))++(128::(List.replicate (64-(t.length%64+1)) 0++List.replicate 56 0))++tl (8*(t.length:Int)) 8=((t.drop (64*(t.length/64))++[128])++List.replicate (64-(t.length%64+1)) 0)++(List.replicate 56 0++tl (8*(t.length:Int)) 8):=by simp
   rw[this,LR (by simp;omega),L3 (by simp;omega),Nj,Lp (by simp[Jz])]
   simp
  rw[e1,e2]
 ·rw[Le h55];have hq:(msg t z).length/64=t.length/64+1:=by omega
  have xD:z=55-t.length%64:=by omega
  rw[hq,stN,xC,xA _ rfl,xB,Qfb (by simp;omega)]
  congr 1
  rw[Lp (by simp[Jz];omega)]
  congr 1
  have:(t.drop (64*(t.length/64))++[128])++List.replicate (64-(t.length%64+1)) 0=(t.drop (64*(t.length/64))++(128::List.replicate z 0))++List.replicate 8 0:=by
   rw[show 64-(t.length%64+1)=z+8 by omega,<-NH];simp
  rw[this,Qjs _ (by simp;omega)]
def outR(H:List Int):Nat->List Int
 | 0=>[]
 | k+1=>outR H k++tl (H.getD k 0) 4
theorem QnK(H:List Int)(k:Nat):outR H k=Jd H k:=by
 induction k with
 | zero=>rfl
 | succ k ih=>
  rw[outR,Jd,ih];simp[tl,w4,IntKind.wrap_u8']
end Go.Proofs.YtoblgjledefdbaaGreatDoor
