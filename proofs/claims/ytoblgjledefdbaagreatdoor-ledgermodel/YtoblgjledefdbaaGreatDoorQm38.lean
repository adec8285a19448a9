/- Own work. -/
import Derived.Test.YtoblgjledefdbaaGreatDoorQm37
set_option maxRecDepth 100000
set_option maxHeartbeats 4000000
namespace Go.Proofs.YtoblgjledefdbaaGreatDoor
open Go.RowKit
attribute [local go_sem ↓] Go.wp_at_zero Go.wp_at_succ
open Go.Proofs.Tryz
section
open Cv (QI)
def Row8(w:World)(B:Nat)(v:Value)(l:List UInt8):Prop :=
 ∃g cap,v = .slice (some ⟨g,0,none⟩) l.length cap∧B<=g∧g<w.heap.size∧w.rangeAt g 0 (cY l)∧w.there g 0 cap∧l.length<=cap
theorem QnU(t:BA):byteCells t=cY t.data.toList:=rfl
theorem Qjp(t:BA):Lib.strCells t=cY t.data.toList:=rfl
theorem Uq(l m:List UInt8):cY (l++m)=cY l++cY m:=by simp[cY]
theorem QkS(w:World)(s:BA)(cap:Nat)(hc:s.size<=cap):Row8 (w.alloc (.cells (bytesRow s cap) 5 ((bytesRow s cap).size,(bytesRow s cap).size+1))) w.heap.size (.slice (some ⟨w.heap.size,0,none⟩) s.size cap) s.data.toList:=by
 have hd:s.data.size=s.size:=rfl;have xA:(bytesRow s cap).size=cap:=by simp only[bytesRow,Array.size_append,Array.size_map,Array.size_replicate,hd];omega
 refine⟨w.heap.size,cap,by rw[Qb],La _,by simp,fun j v hv => ?_,fun j hj=>⟨?_,?_⟩,by rw[Qb];exact hc⟩
 ·have hj:j<s.data.size:=by have:=(List.getElem?_eq_some_iff.1 hv).1;rw[Qp,Np] at this;exact this
  rw[Lm,World.cell?_alloc_mark,bytesRow_at s cap j hj,<-hv]
  simp[cY,Array.getElem?_eq_getElem hj]
 ·rw[Lm,World.cell?_alloc_mark,Nf (by omega)];rfl
 ·rw[Lm,World.frozen?_alloc_mark,xA]
  simp;omega
theorem Row8.next{w w':World}{B:Nat}{v:Value}{l:List UInt8}(h:Row8 w B v l)(hb:Below w.heap.size w w'):Row8 w' B v l:=by
 obtain⟨g,xA,rfl,h1,h2,h3,h4,h5⟩:=h;refine⟨g,xA,rfl,h1,Lx h2 hb.size,QdD hb h2 h3,fun j hj => ?_,h5⟩
 rw[hb.cell (p:=⟨g,0+j,none⟩) h2,hb.frozen (p:=⟨g,0+j,none⟩) h2];exact h4 j hj
theorem Row8.conv{w:World}{B:Nat}{v:Value}{l:List UInt8}(h:Row8 w B v l):(convert 127 9 v).run prog w = .ok (.string ⟨l.toArray⟩) w:=by
 obtain⟨g,xA,rfl,h1,h2,h3,h4,h5⟩:=h;refine run_convert_bytes_back _ 127 9 5 ⟨g,0,none⟩ xA l underlying127 underlying5 underlying9 fun j hj => ?_
 rw[Addr.add_mid];exact h3 j _ (by simp[cY,List.getElem?_eq_getElem hj])
theorem Qa8{B g:Nat}(hg:B<=g) : ∀(vs:List Value) (o:Nat) (w:World),Below B w (w.setCells g o vs)
 | [],_,_=>Lb _ _
 | v::r,o,w=>((Lb B w).setCell (p:=⟨g,o,none⟩) hg v).trans (Qa8 hg r (o+1) _)
theorem QaN(w:World){ops:Array Oper}{rest:List Oper}{o:Oper}{a:Act}{Q:Exit->Act->World->Prop}
  (hg:o.guard=none) (s x:Operand) (hop:o.op=Op.call { callee:=Callee.builtin Builtin.append,args:=#[s,x],argTypes:=#[127,9] })
  (B:Nat) (v:Value) (l:List UInt8) (hs:a.eval s=v) (h:Row8 w B v l) (t:BA) (hx:a.eval x = .string t) (hlen:l.length+t.size<=140737488355328) (hB:B<=w.heap.size)
  (hK : ∀v' w',Row8 w' B v' (l++t.data.toList)->Below B w w'->wpList prog ops Q rest (a.put o.dst v') w'):wpList prog ops Q (o::rest) a w:=by
 obtain⟨i0,hi,xF,xB,xG⟩:=info_parts Tryz.infoY;obtain⟨g,xA,rfl,h1,h2,h3,h4,h5⟩:=h;refine wpList_plain hg fun K hK' => ?_
 have ht:(byteCells t).length=t.size:=by rw[QnU,Qp,Qb]
 have xD : ∃v' w',(Builtin.append_ #[127,9] o.type #[.slice (some ⟨g,0,none⟩) l.length xA,.string t]).run prog w = .ok v' w'∧Row8 w' B v' (l++t.data.toList)∧Below B w w':=by
  by_cases hroom:l.length+t.size<=xA
  ·have hr:=run_append_room_src (P:=prog) w 127 9 o.type 5 i0 underlying127 hi g 0 l.length xA (.string t) t.size (byteCells t) (by rw[xB];exact Src.ofString w underlying9 t) hroom
    (fun j hj=>by rw[xB,L8,Ni];exact(h4 (l.length+j) (by omega)).1) (fun j hj=>by rw[xB,L8,Ni];exact(h4 (l.length+j) (by omega)).2)
   refine⟨_,_,hr,⟨g,xA,by simp,h1,?_,?_,World.there_setCells h4 _ _ _,by simp;omega⟩,?_⟩
   ·have:=World.isSome_setCells g (byteCells t) (0+l.length*i0.size) w
    rcases IX xA with h0|h0
    ·have hb:(byteCells t)=[]:=List.length_eq_zero_iff.1 (by omega)
     rw[hb];exact h2
    ·obtain⟨u,hu⟩:=Option.isSome_iff_exists.1 (this ⟨g,0+0,none⟩ (h4 0 h0).1);exact Ln _ _ hu
   ·rw[xB,L8,Uq];intro j u hu
    by_cases hj:j<l.length
    ·rw[Ly (by rw[Qp];exact hj)] at hu
     exact World.rangeAt_setCells_apart h3 g (0+l.length) (byteCells t) (.inr (.inl (by rw[Qp];exact La _))) j u hu
    ·rw[LK (by rw[Qp];omega),Qp] at hu
     have:=World.rangeAt_setCells_same w g (0+l.length) (byteCells t) (fun j hj=>by rw[Ni];exact h4 (l.length+j) (by omega)) (j - l.length) u hu
     rwa [show 0+l.length+(j - l.length)=0+j by omega] at this
   ·exact Qa8 h1 _ _ _
  ·have hr:=Lib.run_append_grow_string (P:=prog) w 127 9 o.type 5 i0 (.int .u8 0) underlying127 underlying9 hi xF ⟨g,0,none⟩ l.length xA (cY l) (by rw[xB,Qp,L8]) (fun j u hu=>by rw[Addr.add_mid];exact h3 j u hu) t (by omega) (by omega) (by rw[xG];exact growslice_fits (by omega) (by omega))
   have xE:=grownCap_ge w (l.length+t.size) xA 5;refine⟨_,_,hr,⟨w.heap.size,grownCap w (l.length+t.size) xA 5,by simp,hB,by simp,?_,?_,by simp;exact xE⟩,?_⟩
   ·intro j u hu
    show(w.drew.alloc _).cell? ⟨w.drew.heap.size,0+j,none⟩=some u
    rw[LX,Lm];rw[Uq,<-Qjp] at hu;rw[IT (by have:=(List.getElem?_eq_some_iff.1 hu).1;simpa using this)]
    simpa using hu
   ·refine Qm w.drew _ 5 _ ?_
    have xC:(Value.int IntKind.u8 0).cells.size=1:=rfl;simp only[Array.size_append,List.size_toArray,size_zeroCells,xC,Qp,Qjp,Qb];omega
   ·exact(Qf (Lb B w) 1).alloc hB _
 obtain⟨v',w',hr,hw,hb⟩:=xD;unfold Oper.wp;simp[execOp,hop,resolve,invoke,builtin,hs,hx,hr,Result.andThen];exact hK' _ _ (hK v' w' hw hb)
theorem QnO(W:World)(t:BA) : ∃v W',(convert 9 127 (.string t)).run prog W = .ok v W'∧Row8 W' W.heap.size v t.data.toList∧Below W.heap.size W W':=by
 have h:=run_bytes_of_string (P:=prog) W 9 127 5 t underlying9 underlying127 underlying5;exact⟨_,_,h,QkS W.drew t _ (grownCap_ge W t.size 0 5),(Qf (Lb _ W) 1).alloc (La _) _⟩
theorem Qbc : ∀ {S:List Nat} {x n:Nat},QI x S n -> ∀j,j<S.length->nxt x (S.take j)<=S.getD j 0∧S.getD j 0<n:=by
 intro S
 induction S with
 | nil=>intro x n _ j hj;simp at hj
 | cons i S ih =>
  intro x n h j hj
  cases j with
  | zero=>exact⟨h.1,by have:=Cv.Ys h.2;simp;omega⟩
  | succ j=>have:=ih h.2 j (by simpa using hj);simpa [nxt] using this
theorem Qby : ∀ {S:List Nat} {x n:Nat},QI x S n->n<=2^64->(Qj x S).length<=10*S.length:=by
 intro S
 induction S with
 | nil=>intro x n _ _;simp[Qj]
 | cons i S ih =>
  intro x n h hn;have:=ih h.2 hn;have:=Cv.Ys h.2;have:=QD (n:=i - x) (by omega)
  rw[Qj,Lc,LE];omega
theorem QfU{n:Nat}(hn:n<=2^64) : ∀ {S:List Nat} {x:Nat},QI x S n -> ∀j,(Qj x (S.take j)).length<=10*S.length:=by
 intro S
 induction S with
 | nil=>intro x _ j;simp[Qj]
 | cons i S ih =>
  intro x h j
  cases j with
  | zero=>simp[Qj]
  | succ j =>
   have:=ih h.2 j;have:=Cv.Ys h.2;have:=QD (n:=i - x) (by omega)
   rw[Io,Qj,Lc,LE];omega
theorem YY{S:List Nat}{j:Nat}(hj:j<S.length):S.take (j+1)=S.take j++[S.getD j 0]:=by
 rw[NH,Lh hj,Ld,Lh hj];rfl
theorem Qbz(w:World)(sa:OA)(sb so sc:Nat)(S:List Nat)(n:Nat)(rs:RdU w sa sb so S.length S)(hc:QI 0 S n)(hn:n<=1099511627776) :
  Calls prog 312 #[.slice sa S.length sc] w fun e w'=>e = .returned (.string ⟨(num S.length++Qj 0 S).toArray⟩)∧Below w.heap.size w w':=by
 have hl:=JK hc;have HN:=fun W=>OT W S.length (by omega)
 have e0:IntKind.u64.wrap (S.length:Int)=(S.length:Int):=by rw[IntKind.wrap_u64];omega
 have HS:Hid (RdU w sa sb so S.length S∧QI 0 S n∧n<=1099511627776∧S.length<=n):=⟨rs,hc,hn,by omega⟩
 have xG:(S.length:Int)<=1099511627776:=by omega
 obtain⟨m,hm⟩:=Ze S.length;have HM:Hid (S.length=m):=hm;rw[hm] at HN e0 xG ⊢;clear rs hc hn hl hm;have HZ:Hid ((num m).length<=10):=QD (by omega)
 go_enter func312,ntmps312
 go_upto_region 2 with (go_at_call 311;with_reducible refine(HN _).mono ?_;rintro x w1 ⟨rfl,xA⟩;(obtain⟨v1,W1,xI,r1,b1⟩:=QnO w1 ⟨(num m).toArray⟩))
 have HR:Hid (Row8 W1 w.heap.size v1 (num m++Qj 0 (S.take 0))∧Below w.heap.size w W1):=by
  obtain⟨g,xB,h0,h1,h2⟩:=r1;exact⟨⟨g,xB,by simpa [Qj] using h0,Lu xA.size h1,by simpa [Qj] using h2⟩,Qa xA b1⟩
 clear xI r1 b1 xA HN;go_wp2
 go_loopg [3,4,6,14] m (fun gg v x i6 ix wr => ∃(j:Nat),j<=m∧gg=m - j∧ix = .int .i64 (j:Int)∧x = .int .u64 ((nxt 0 (S.take j):Nat):Int)∧Row8 wr w.heap.size v (num m++Qj 0 (S.take j))∧Below w.heap.size w wr)
 case atStart=>go_light;exact⟨0,Ll _,rfl,rfl,rfl,HR.out.1,HR.out.2⟩
 case round =>
  obtain⟨j,hj,rfl,rfl,rfl,hr,hb⟩:=hrel;obtain⟨k1,k2,k3,k4⟩:=HS.out;have xE:=HM.out;have hz:=HZ.out;have xJ:(0:Int)<=(j:Int):=Lf _
  by_cases hlt:j<m
  ·have xD:(j:Int)<(m:Int):=by omega
   obtain⟨g,xB,rfl,hr⟩:=hr;obtain rfl:=k1.ptr (by omega)
   have cj:=(k1.next hb).at (j:=j) (by omega)
   obtain⟨c1,c2⟩:=Qbc k2 j (by omega)
   have xC:=YY (S:=S) (j:=j) (by omega)
   have xF:=QfU (n:=n) (by omega) k2 j
   obtain⟨i,hi⟩:=Ze (S.getD j 0);rw[hi] at cj c1 c2 xC;obtain⟨y,hy⟩:=Ze (nxt 0 (S.take j));rw[hy] at c1 ⊢;have HN:=fun W=>OT W (i - y) (by omega)
   have xH:=QD (n:=i - y) (by omega)
   have e1:IntKind.u64.wrap ((i:Int) - (y:Int))=((i - y:Nat):Int):=by rw[IntKind.wrap_u64];omega
   have e2:IntKind.u64.wrap ((i:Int)+1)=((i+1:Nat):Int):=by rw[IntKind.wrap_u64];omega
   have HX:Hid (num m++Qj 0 (S.take (j+1))=(num m++Qj 0 (S.take j))++num (i - y)∧nxt 0 (S.take (j+1))=i+1∧(num m++Qj 0 (S.take j)).length+(num (i - y)).length<=140737488355328∧Row8 wr w.heap.size (.slice (some ⟨g,0,none⟩) (num m++Qj 0 (S.take j)).length xB) (num m++Qj 0 (S.take j))∧Below w.heap.size w wr∧j+1<=m):=by
    refine⟨by rw[xC,Qcz,hy,Lq],by rw[xC,Ux],?_,⟨g,xB,rfl,hr⟩,hb,hlt⟩
    rw[Lc];omega
   generalize i - y=z at *;generalize num m++Qj 0 (S.take j)=L at *;clear hr hb k1 k2 k3 k4 xE hz c1 c2 xC xF hi hy xH hlt HR HS HZ HM
   go_wp2_with (first
    | (go_at_call 311;with_reducible refine(HN _).mono ?_;rintro x w1 ⟨rfl,xA⟩)
    | (at_builtin;refine QaN _ rfl _ _ rfl w.heap.size _ L rfl (HX.out.2.2.2.1.next xA) ⟨(num z).toArray⟩ rfl ?c1 ?c2 ?_))
   case c1=>have:=HX.out.2.2.1;rw[show(⟨(num z).toArray⟩:BA).size=(num z).length from by simp[ByteArray.size]];exact this
   case c2=>exact Lu HX.out.2.2.2.2.1.size xA.size
   intro v2 w2 r2 b2;go_wp2
   go_roundg (m - (j+1))
   case rel =>
    go_light;obtain⟨x1,x2,x3,x4,x5,x6⟩:=HX.out;refine⟨j+1,x6,rfl,by go_num,by rw[x2,IK];rfl,?_,(x5.trans (xA.mono x5.size)).trans b2⟩
    rw[x1];exact r2
   case measure=>go_light;have:=HX.out.2.2.2.2.2;omega
  ·obtain rfl:j=m:=by omega
   have xD : ¬(j:Int)<(j:Int):=by omega
   have e:S.take j=S:=by rw[<-xE,L9]
   rw[e] at hr;obtain⟨L,hL⟩:=Ze (num j++Qj 0 S);rw[hL] at hr;have HL:=Qg hL;clear hL;have cv:=hr.conv;obtain⟨g,xB,rfl,hr⟩:=hr;have HB:=Qg hb;clear hr hb k1 k2 k3 k4 xE hz hlt e HR HS HZ HM;go_wp2
   go_ret
   refine⟨?_,HB.out⟩
   rw[HL.out]
   rfl
def hd(p:PV):List UInt8:=UInt8.ofNat p.kd.toNat::UInt8.ofNat p.k.toNat::(num p.size++mid p)
theorem QfJ(p:PV):enc p=hd p++Qu p.D:=by simp[enc,hd,List.append_assoc]
theorem Yz(a b:List UInt8):(⟨a.toArray⟩:BA)++⟨b.toArray⟩=⟨(a++b).toArray⟩:=by
 apply Ji
 rw[IH];simp
theorem Qc1(w:World)(a b:Nat)(ha:a<256)(hb:b<256):(convert 127 9 (.slice (some ⟨w.heap.size,0,none⟩) 2 2)).run prog (w.alloc (.cells #[.int .u8 (a:Int),.int .u8 (b:Int)] 5)) = .ok (.string ⟨[UInt8.ofNat a,UInt8.ofNat b].toArray⟩) (w.alloc (.cells #[.int .u8 (a:Int),.int .u8 (b:Int)] 5)):=by
 refine run_convert_bytes_back _ 127 9 5 ⟨w.heap.size,0,none⟩ 2 [UInt8.ofNat a,UInt8.ofNat b] underlying127 underlying5 underlying9 fun j hj => ?_
 rw[Addr.add_mid];have h1:=QC ha;have h2:=QC hb;refine Qq w [.int .u8 (a:Int),.int .u8 (b:Int)] 5 j _ ?_
 match j,hj with
 | 0,_=>simp[h1]
 | 1,_=>simp[h2]
theorem QgA{W:World}{g a b:Nat}(ha:a<256)(hb:b<256)(h:W.heap[g]? = some (.cells #[.int .u8 (a:Int),.int .u8 (b:Int)] 5 (0,0))):(convert 127 9 (.slice (some ⟨g,0,none⟩) 2 2)).run prog W = .ok (.string ⟨[UInt8.ofNat a,UInt8.ofNat b].toArray⟩) W:=by
 refine run_convert_bytes_back _ 127 9 5 ⟨g,0,none⟩ 2 [UInt8.ofNat a,UInt8.ofNat b] underlying127 underlying5 underlying9 fun j hj => ?_
 rw[Addr.add_mid,Lm,cell_of_row W g j _ _ (0,0) h];have h1:=QC ha;have h2:=QC hb
 match j,hj with
 | 0,_=>simp[h1]
 | 1,_=>simp[h2]
theorem JG{X w1:World}(h:Below X.drew.heap.size X.drew w1):Below X.heap.size X w1:=⟨h.os,h.tape,h.output,h.size,h.block⟩
theorem Ud{B:Nat}{X w1:World}(h:Below B X w1):Below B X w1.drew:=⟨h.os,h.tape,h.output,h.size,h.block⟩
theorem QeH(w:World)(a b old size:Nat)(sa:OA)(sb so sc:Nat)(S:List Nat)(D:LB)(d:Value)(c:Nat)(rs:RdU w sa sb so S.length S)(ho:CntOk a b old size S c) :
  Calls prog 219 #[pv6 a b old size (.slice sa S.length sc) d] w fun e w'=>e = .returned (.string ⟨(hd ⟨a,b,old,size,S,D⟩).toArray⟩)∧Below w.heap.size w w':=by
 obtain⟨W,hW,h6,xH,xR⟩:=UB w (.int .i64 (a:Int)) (.int .i64 (b:Int)) (.int .u64 (old:Int)) (.int .u64 (size:Int)) (.slice sa S.length sc) d;obtain⟨e0,e1,e2,e3,e4,e5⟩:=h6.cells;have i1:=ho.kd1;have i2:=ho.kd3;have i3:=ho.k1;have i4:=ho.k32;have i5:=ho.hsz;have i6:=ho.hold;have i7:=ho.len;have ha:a<256:=by omega
 have hb:b<256:=by omega
 have HN:=fun W'=>OT W' size (by omega)
 have ea:IntKind.u8.wrap (a:Int)=(a:Int):=by rw[IL];omega
 have eb:IntKind.u8.wrap (b:Int)=(b:Int):=by rw[IL];omega
 have ht:=fun W'=>Qc1 W' a b ha hb
 have xK:=fun(W':World)=>QgA (W:=(W'.alloc (.cells #[.int .u8 (a:Int),.int .u8 (b:Int)] 5)).drew) ha hb (LH W' _)
 have HA:Hid (∀w1,Below (W.alloc (.cells #[.int .u8 (a:Int),.int .u8 (b:Int)] 5)).heap.size (W.alloc (.cells #[.int .u8 (a:Int),.int .u8 (b:Int)] 5)) w1->(convert 127 9 (.slice (some ⟨W.heap.size,0,none⟩) 2 2)).run prog w1 = .ok (.string ⟨[UInt8.ofNat a,UInt8.ofNat b].toArray⟩) w1):=fun w1 hb1=>QgA ha hb ((hb1.block _ (by simp)).trans (LH W _))
 have HX:Hid (∀w1,Below W.heap.size W w1->Six w1 w.heap.size (.int .i64 (a:Int)) (.int .i64 (b:Int)) (.int .u64 (old:Int)) (.int .u64 (size:Int)) (.slice sa S.length sc) d):=fun w1 h=>h6.next h
 have xQ : ¬w.heap.size=W.heap.size:=by omega
 obtain⟨n0,n1,n2,n3,n4,n5⟩:=(h6.next (bal (Lb _ _) (.cells #[.int .u8 (a:Int),.int .u8 (b:Int)] 5))).cells;have xF:=QD (n:=size) (by omega)
 have xI:Hid (∀F,Below W.heap.size W F->RdU F sa sb so S.length S∧Below w.heap.size w F):=fun F hF=>⟨rs.next (Qa xH hF),Qa xH hF⟩
 have HO:=Qg ho;obtain⟨t1,xB⟩:=Ze (⟨[UInt8.ofNat a,UInt8.ofNat b].toArray⟩:BA);obtain⟨t2,xD⟩:=Ze (⟨(num size).toArray⟩:BA);have xT:(t1.size:Int)<=2:=by rw[<-xB];simp[ByteArray.size]
 have xU:(t2.size:Int)<=10:=by rw[<-xD];simp[ByteArray.size];omega
 have HT:Hid (∀l,l=mid ⟨a,b,old,size,S,D⟩->t1++t2++(⟨l.toArray⟩:BA)=⟨(hd ⟨a,b,old,size,S,D⟩).toArray⟩):=fun l hl=>by
  rw[<-xB,<-xD,Yz,Yz,hl];simp[hd]
 rw[xB] at HA;simp only[xB] at ht xK;simp only[xD] at HN;have HI:Hid ((a=1∨a=2∨a=3)∧size<=1099511627776∧old<=size):=⟨by omega,i5,i6⟩
 clear h6 xH ha hb xR xF xB xD ho rs i1 i2 i3 i4 i5 i6 i7
 go_enter func219,ntmps219
 go_upto_region 1 with (fail)
 try rw[hW]
 clear hW
 rename_i K hK
 have xL:Hid (∀F g,Below W.heap.size W F->K { tmps:=#[pv6 (a:Int) (b:Int) old size (.slice sa S.length sc) d,.pointer (some ⟨w.heap.size,0,none⟩),.string ⟨#[]⟩,.string (t1++t2),.pointer (some ⟨w.heap.size,0,none⟩),.int .i64 (a:Int),.int .u8 (a:Int),.pointer (some ⟨w.heap.size,1,none⟩),.int .i64 (b:Int),.int .u8 (b:Int),.slice (some ⟨g,0,none⟩) 2 2,.string t1,.pointer (some ⟨w.heap.size,3,none⟩),.int .u64 (size:Int),.string t2,.string (t1++t2),undef,undef,undef,undef,undef,undef,undef,undef,undef,undef,undef,undef,undef,undef,undef,undef,undef,undef,undef,undef,undef,undef,undef],defers:=[] } F):=by
  intro F g hF;refine hK _ _ ?_
  obtain⟨k0,k1,k2,k3,k4,k5⟩:=(HX.out _ hF).cells;obtain⟨RF,BF⟩:=xI.out _ hF;have HB:=Qg BF;clear n0 n1 n2 n3 n4 n5 e0 e1 e2 e3 e4 e5 ht xK HA HN hF hK xQ
  rcases HI.out.1 with h|h|h
  ·have hb1:((a:Int) == 1)=true:=beq_iff_eq.2 (by omega)
   obtain⟨hl,ho⟩:=HO.out.one (by omega)
   obtain rfl:=RF.ptr (by omega)
   have hc:=RF.at (j:=0) (by omega)
   rw[N8] at hc;have h0:(0:Int)<(S.length:Int):=by omega
   have xS:0<S.length:=by omega
   have xP:=(Qbc HO.out.chain 0 (by omega)).2
   have HM:=fun W'=>OT W' (S.getD 0 0) (by have:=HI.out;omega)
   have xF:=QD (n:=S.getD 0 0) (by have:=HI.out;omega)
   have xE:Hid (t1++t2++(⟨(num (S.getD 0 0)).toArray⟩:BA)=⟨(hd ⟨a,b,old,size,S,D⟩).toArray⟩):=HT.out _ (by rw[mid,Lk (show(a:Int)=1 by omega)])
   generalize S.getD 0 0=i at *;obtain⟨t3,xA⟩:=Ze (⟨(num i).toArray⟩:BA);have xJ:(t3.size:Int)<=10:=by rw[<-xA];simp[ByteArray.size];omega
   simp only[xA] at HM;rw[xA] at xE;clear h hl ho xP xF xA RF BF
   go_wp2_with (go_at_call 311;with_reducible refine(HM _).mono ?_;rintro x w3 ⟨rfl,xG⟩)
   go_ret
   exact⟨by rw[<-xE.out];rfl,Qa HB.out xG⟩
  ·have hb1:((a:Int) == 1)=false:=beq_false_of_ne (by omega)
   have xC:((a:Int) == 2)=true:=beq_iff_eq.2 (by omega)
   have HM:=Qbz F sa sb so sc S size RF HO.out.chain HI.out.2.1;have xN:=Qby HO.out.chain (by have:=HI.out;omega)
   have xO:=HO.out.len;have xF:=QD (n:=S.length) (by have:=HI.out;omega)
   have xE:Hid (t1++t2++(⟨(num S.length++Qj 0 S).toArray⟩:BA)=⟨(hd ⟨a,b,old,size,S,D⟩).toArray⟩):=HT.out _ (by rw[mid,Le (show ¬(a:Int)=1 by omega),Lk (show(a:Int)=2 by omega)])
   obtain⟨t3,xA⟩:=Ze (⟨(num S.length++Qj 0 S).toArray⟩:BA);have xJ:(t3.size:Int)<=35184372088832:=by rw[<-xA];have:=HI.out;simp[ByteArray.size];omega
   rw[xA] at xE HM;clear h xN xO xF xA RF BF
   go_wp2_with (go_at_call 312;with_reducible refine HM.mono ?_;rintro x w3 ⟨rfl,xG⟩)
   go_ret
   exact⟨by rw[<-xE.out];rfl,Qa HB.out xG⟩
  ·have hb1:((a:Int) == 1)=false:=beq_false_of_ne (by omega)
   have xC:((a:Int) == 2)=false:=beq_false_of_ne (by omega)
   have HM:=fun W'=>OT W' old (by have:=HI.out;omega)
   have xF:=QD (n:=old) (by have:=HI.out;omega)
   have xE:Hid (t1++t2++(⟨(num old).toArray⟩:BA)=⟨(hd ⟨a,b,old,size,S,D⟩).toArray⟩):=HT.out _ (by rw[mid,Le (show ¬(a:Int)=1 by omega),Le (show ¬(a:Int)=2 by omega)])
   obtain⟨t3,xA⟩:=Ze (⟨(num old).toArray⟩:BA);have xJ:(t3.size:Int)<=10:=by rw[<-xA];simp[ByteArray.size];omega
   simp only[xA] at HM;rw[xA] at xE;clear h xF xA RF BF
   go_wp2_with (go_at_call 311;with_reducible refine(HM _).mono ?_;rintro x w3 ⟨rfl,xG⟩)
   go_ret
   exact⟨by rw[<-xE.out];rfl,Qa HB.out xG⟩
 clear hK HT HI HO xI
 go_region_with (go_at_call 311;(with_reducible refine(HN _).mono ?_);rintro x w1 ⟨rfl,hb1⟩;(have xC:Below W.heap.size W w1:=by first|exact hb1|exact JG hb1|exact Qa (bal (Lb _ _) _) hb1|exact Qa (bal (Lb _ _) _) (JG hb1));(obtain⟨k0,k1,k2,k3,k4,k5⟩:=(HX.out _ xC).cells);(first|(have xM:=HA.out _ (JG hb1))|(have xM:=HA.out _ hb1)|skip))
 all_goals exact xL.out _ _ (by first|exact xC|exact Ud xC|exact bal xC _|exact Ud (bal xC _)|exact bal (Ud xC) _|exact Ud (Ud xC)|exact Ud (bal (Ud xC) _))
end
structure RdPC(w:World)(sa:OA)(sb so sc:Nat)(da:OA)(db dO dc:Nat)(P:PV):Prop where
 rs:RdU w sa sb so P.S.length P.S
 rd:RdS w da db dO P.D.length P.D
 old64:P.old<18446744073709551616
 sz64:P.size<18446744073709551616
 mS:P.S.length<=17592186044416
 mD:P.D.length<=8796093022208
 cD:P.D.length<=dc
theorem RdPC.next{w w':World}{sa:OA}{sb so sc:Nat}{da:OA}{db dO dc:Nat}{P:PV}(h:RdPC w sa sb so sc da db dO dc P)(hb:Below w.heap.size w w'):RdPC w' sa sb so sc da db dO dc P :=
 ⟨h.rs.next hb,h.rd.next hb (La _),h.old64,h.sz64,h.mS,h.mD,h.cD⟩
abbrev pvP(P:PV)(sa:OA)(sc:Nat)(da:OA)(dc:Nat):Value:=pv6 P.kd P.k P.old P.size (.slice sa P.S.length sc) (.slice da P.D.length dc)
theorem QhC{P:PV}{j:Nat}(hj:j<P.D.length)(h:((P.D.getD j ByteArray.empty).size:Int)≠P.k) : ¬Yk P:=fun hw=>h (hw.2 _ (Y7 hj))
theorem Qfq{P:PV}(hc:cnt P.kd P.k P.old P.size P.S=some P.D.length)(h : ∀j,j<P.D.length->((P.D.getD j ByteArray.empty).size:Int)=P.k):Yk P :=
 ⟨hc,fun d hd=>by
  obtain⟨j,hj,rfl⟩:=NZ hd;have:=h j hj
  rwa [Ld,Lh hj] at this⟩
section
variable (w:World) (sa:OA) (sb so sc:Nat) (da:OA) (db dO dc:Nat) (P:PV)
theorem Qln(hp:RdPC w sa sb so sc da db dO dc P) :
  Calls prog 218 #[pvP P sa sc da dc] w fun e w'=>e = .returned (.bool (decide (Yk P)))∧Below w.heap.size w w':=by
 obtain⟨kd,k,xB,xA,S,D⟩:=P;obtain⟨rs,rd,h1,h2,h3,h4,_⟩:=hp;simp only at rs rd h1 h2 h3 h4
 show Calls prog 218 #[pv6 kd k xB xA (.slice sa S.length sc) (.slice da D.length dc)] w _
 obtain⟨W,hW,h6,hb,hz⟩:=UB w (.int .i64 kd) (.int .i64 k) (.int .u64 (xB:Int)) (.int .u64 (xA:Int)) (.slice sa S.length sc) (.slice da D.length dc);obtain⟨e0,e1,e2,e3,e4,e5⟩:=h6.cells;have HC:=UJ W kd k xB xA sa sb so sc S (.slice da D.length dc) h1 h2 (rs.next hb) (fun _=>h3)
 have HX:Hid (∀F,Below W.heap.size W F->Six F w.heap.size (.int .i64 kd) (.int .i64 k) (.int .u64 (xB:Int)) (.int .u64 (xA:Int)) (.slice sa S.length sc) (.slice da D.length dc)∧RdS F da db dO D.length D∧Below w.heap.size w F):=fun F hF=>⟨h6.next hF,rd.next (Qa hb hF) (La _),Qa hb hF⟩
 have xJ:(D.length:Int)<=8796093022208:=by omega
 have eD:IntKind.u64.wrap (D.length:Int)=(D.length:Int):=by rw[IntKind.wrap_u64];omega
 clear rs rd h1 h2 h3 h4 h6 hb hz
 rcases hc:cnt kd k xB xA S with _|c
 ·have hw:decide (Yk ⟨kd,k,xB,xA,S,D⟩)=false:=Ls (fun hw=>by have:=hw.1;simp only[hc] at this;cases this)
  rw[hc] at HC;simp only[cV] at HC;rw[hw];generalize S.length=ms at *;generalize D.length=md at *;clear hc hw
  go_enter func218,ntmps218
  go_wp2_with (go_at_call 310;(try rw[hW]);with_reducible refine HC.mono ?_;rintro x w1 ⟨rfl,xC⟩;(obtain⟨q1,q2,q3⟩:=HX.out _ xC))
  go_ret
  exact⟨rfl,q3⟩
 ·rw[hc] at HC;simp only[cV] at HC
  by_cases hcd:c=D.length
  ·subst hcd;have xI:=Qg hc;clear hc;obtain⟨m,hm⟩:=Ze D.length;have HM:=Qg hm;have xF:Hid (∀F,Below W.heap.size W F->Six F w.heap.size (.int .i64 kd) (.int .i64 k) (.int .u64 (xB:Int)) (.int .u64 (xA:Int)) (.slice sa S.length sc) (.slice da m dc)∧RdS F da db dO m D∧Below w.heap.size w F):=by rw[<-hm];exact HX
   rw[hm] at HC xJ eD hW e5 ⊢;clear hm HX;generalize S.length=ms at *
   go_enter func218,ntmps218
   go_upto_region 5 with (go_at_call 310;(try rw[hW]);with_reducible refine HC.mono ?_;rintro x w1 ⟨rfl,xC⟩;(obtain⟨q1,q2,q3⟩:=xF.out _ xC);(obtain⟨k0,k1,k2,k3,k4,k5⟩:=q1.cells))
   have HQ:Hid (RdS w1 da db dO m D∧Below w.heap.size w w1):=⟨q2,q3⟩;clear q1 q2 q3 xC HC xF hW e0 e1 e2 e3 e4 e5;go_wp2
   go_loopg [6,25] m (fun gg i6 ix wr=>w1=wr ∧ ∃j:Nat,j<=m∧gg=m - j∧ix = .int .i64 (j:Int)∧Hid (∀t,t<j->((D.getD t ByteArray.empty).size:Int)=k))
   case atStart=>go_light;exact⟨rfl,0,Ll _,rfl,rfl,fun t ht=>absurd ht (IN _)⟩
   case round =>
    obtain⟨rfl,j,hj,rfl,rfl,HA⟩:=hrel;have xM:(0:Int)<=(j:Int):=Lf _;have xE:=HM.out
    by_cases hlt:j<m
    ·have xD:(j:Int)<(m:Int):=by omega
     obtain rfl:=HQ.out.1.ptr (by omega)
     have cj:=HQ.out.1.at (k:=j) hlt;have xL:=HQ.out.1.sz _ (Y7 (ss:=D) (k:=j) (by omega))
     obtain⟨x,hx⟩:=Ze (D.getD j ByteArray.empty);have xG:=Qg hx;rw[hx] at cj xL;clear hx
     by_cases hk:(x.size:Int)=k
     ·have xH:Hid (∀t,t<j+1->((D.getD t ByteArray.empty).size:Int)=k):=fun t ht=>by
       rcases Ij t j with h|h
       ·exact HA.out t h
       ·obtain rfl:t=j:=by omega
        rw[xG.out];exact hk
      have xK:((x.size:Int) != k)=false:=by rw[hk];simp
      clear hk xE HA;go_wp2
      go_roundg (m - (j+1))
      case rel=>go_light;exact⟨rfl,j+1,hlt,rfl,by go_num,xH⟩
      case measure=>go_light;omega
     ·have xK:((x.size:Int) != k)=true:=bne_iff_ne.2 hk;have HW:Hid (decide (Yk ⟨kd,k,xB,xA,S,D⟩)=false):=Ls (QhC (j:=j) (by simp only;omega) (by simp only;rw[xG.out];exact hk))
      clear hk xE HA;go_wp2
      go_ret
      exact⟨by rw[HW.out];rfl,HQ.out.2⟩
    ·obtain rfl:j=m:=by omega
     have xD : ¬(j:Int)<(j:Int):=by omega
     have HW:Hid (decide (Yk ⟨kd,k,xB,xA,S,D⟩)=true):=LA (Qfq (by simp only;exact xI.out) (fun t ht=>by simp only at ht ⊢;exact HA.out t (by omega)))
     clear xE HA;go_wp2
     go_ret
     exact⟨by rw[HW.out];rfl,HQ.out.2⟩
  ·have hw:decide (Yk ⟨kd,k,xB,xA,S,D⟩)=false:=Ls (fun hw=>by have:=hw.1;simp only[hc] at this;cases this;exact hcd rfl)
   rw[hw];have xN:((c:Int) != (D.length:Int))=true:=bne_iff_ne.2 (by omega)
   generalize S.length=ms at *;generalize D.length=md at *;clear hc hw hcd
   go_enter func218,ntmps218
   go_wp2_with (go_at_call 310;(try rw[hW]);with_reducible refine HC.mono ?_;rintro x w1 ⟨rfl,xC⟩;(obtain⟨q1,q2,q3⟩:=HX.out _ xC);(obtain⟨k0,k1,k2,k3,k4,k5⟩:=q1.cells))
   go_ret
   exact⟨rfl,q3⟩
theorem QjZ{P:PV}{c:Nat}(ho:CntOk P.kd P.k P.old P.size P.S c):(hd P).length<=35184372088832:=by
 have h1:=QD (n:=P.size) (by have:=ho.hsz;omega)
 have h2:(mid P).length<=11*1099511627776+10:=by
  unfold mid;have hl:=ho.len;have hz:=ho.hsz
  split
  ·rename_i h
   obtain⟨g1,g2⟩:=ho.one h;have:=QD (n:=P.S.getD 0 0) (by have:=(Qbc ho.chain 0 (by omega)).2;omega)
   omega
  ·split
   ·have:=Qby ho.chain (by omega)
    have:=QD (n:=P.S.length) (by omega)
    rw[Lc];omega
   ·have:=QD (n:=P.old) (by have:=ho.hold;omega)
    omega
 rw[hd,LE,LE,Lc];omega
theorem QgU{P:PV}(h:Yk P):(Qu P.D).length<=35184372088832:=by
 have ho:=Yh h.1;have hk:=ho.k32;have xA:=ho.k1;obtain⟨b,hb⟩ : ∃b:Nat,P.k=b:=⟨P.k.toNat,by omega⟩
 have e:(Qu P.D).length=P.D.length*b:=OH (fun d hd=>by have:=h.2 d hd;omega)
 have:=ho.hc;have:P.D.length*b<=1099511627776*32:=Nat.mul_le_mul this (by omega)
 omega
theorem QlV{P:PV}(h:Yk P):(enc P).length<=70368744177664:=by
 have h1:=QjZ (Yh h.1);have h2:=QgU h;rw[QfJ,Lc];omega
theorem QfK(hp:RdPC w sa sb so sc da db dO dc P)(h:Yk P) :
  Calls prog 131 #[pvP P sa sc da dc] w fun e w'=>e = .returned (.tuple #[.string ⟨(enc P).toArray⟩,.int .i64 0])∧Below w.heap.size w w':=by
 obtain⟨W,hW,h6,hb,hz⟩:=UB w (.int .i64 P.kd) (.int .i64 P.k) (.int .u64 (P.old:Int)) (.int .u64 (P.size:Int)) (.slice sa P.S.length sc) (.slice da P.D.length dc);obtain⟨e0,e1,e2,e3,e4,e5⟩:=h6.cells;have HC:=Qln W sa sb so sc da db dO dc P (hp.next hb);rw[LA h] at HC;have ho:=Yh h.1;have xK:=QjZ ho;have xL:=QgU h;obtain⟨kd,k,xB,xA,S,D⟩:=P;simp only at e0 e1 e2 e3 e4 e5 hW ho xK xL;simp only[pvP] at HC
 show Calls prog 131 #[pv6 kd k xB xA (.slice sa S.length sc) (.slice da D.length dc)] w _
 have i1:=ho.kd1;have i3:=ho.k1;obtain⟨a,rfl⟩ : ∃a:Nat,kd=a:=⟨kd.toNat,by omega⟩
 obtain⟨b,rfl⟩ : ∃b:Nat,k=b:=⟨k.toNat,by omega⟩
 have HX:Hid (∀F,Below W.heap.size W F->Six F w.heap.size (.int .i64 (a:Int)) (.int .i64 (b:Int)) (.int .u64 (xB:Int)) (.int .u64 (xA:Int)) (.slice sa S.length sc) (.slice da D.length dc)∧Below w.heap.size w F):=fun F hF=>⟨h6.next hF,Qa hb hF⟩
 have xC:Hid (∀F,Below W.heap.size W F->Calls prog 219 #[pv6 a b xB xA (.slice sa S.length sc) (.slice da D.length dc)] F fun e w'=>e = .returned (.string ⟨(hd ⟨a,b,xB,xA,S,D⟩).toArray⟩)∧Below F.heap.size F w'):=fun F hF=>QeH F a b xB xA sa sb so sc S D (.slice da D.length dc) _ (hp.next (Qa hb hF)).rs ho
 have HJ:Hid (∀F,Below W.heap.size W F->Calls prog 173 #[.slice da D.length dc,.string ByteArray.empty] F fun e w'=>e = .returned (.string ⟨(Qu D).toArray⟩)∧Below F.heap.size F w'):=fun F hF=>Qh9 F da db dO dc D (hp.next (Qa hb hF)).rd hp.cD (by have:=hp.mD;simp only at this;omega) (by omega)
 obtain⟨t1,xF⟩:=Ze (⟨(hd ⟨a,b,xB,xA,S,D⟩).toArray⟩:BA);obtain⟨t2,xG⟩:=Ze (⟨(Qu D).toArray⟩:BA);have xM:(t1.size:Int)<=35184372088832:=by rw[<-xF];simp[ByteArray.size];omega
 have xN:(t2.size:Int)<=35184372088832:=by rw[<-xG];simp[ByteArray.size];omega
 have HT:Hid (t1++t2=(⟨(enc ⟨a,b,xB,xA,S,D⟩).toArray⟩:BA)):=by rw[<-xF,<-xG,Yz,QfJ];exact rfl
 rw[xF] at xC;rw[xG] at HJ;clear hp h h6 hb hz ho xK xL i1 i3 xF xG;generalize S.length=ms at *;generalize D.length=md at *
 go_enter func131,ntmps131
 go_upto_region 3 with (go_at_call 218;(try rw[hW]);with_reducible refine HC.mono ?_;rintro x w1 ⟨rfl,xD⟩)
 obtain⟨q1,q2⟩:=HX.out _ xD;obtain⟨k0,k1,k2,k3,k4,k5⟩:=q1.cells;clear q1 q2 e0 e1 e2 e3 e4 e5 hW HC
 go_region_with (first
  | (go_at_call 219;(refine(xC.out _ (by first|exact xD|exact Ud xD)).mono ?_);rintro x w2 ⟨rfl,xI⟩;(have xE:Below W.heap.size W w2:=by first|exact Qa xD xI|exact Qa xD (JG xI));(obtain⟨m0,m1,m2,m3,m4,m5⟩:=(HX.out _ xE).1.cells))
  | (go_at_call 173;(refine(HJ.out _ (by first|exact xE|exact Ud xE)).mono ?_);rintro x w3 ⟨rfl,xJ⟩;(have xH:Below W.heap.size W w3:=by first|exact Qa xE xJ|exact Qa xE (JG xJ))))
 all_goals
  go_wp2
  go_ret2
  exact⟨by rw[<-HT.out];rfl,(HX.out _ (by first|exact xH|exact Ud xH|exact Ud (Ud xH))).2⟩
end
end Go.Proofs.YtoblgjledefdbaaGreatDoor
