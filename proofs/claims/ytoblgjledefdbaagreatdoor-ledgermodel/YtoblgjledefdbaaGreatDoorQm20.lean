/- Own work. -/
import Derived.Test.YtoblgjledefdbaaGreatDoorQm19
set_option maxRecDepth 100000
set_option maxHeartbeats 1000000
namespace Go.Proofs.YtoblgjledefdbaaGreatDoor
open Go.RowKit
attribute [local go_sem ↓] Go.wp_at_zero Go.wp_at_succ
open Go.Proofs.Tryz
namespace St.Rc
theorem OC(W:World)(t:BA)(n:Nat)(hn:t.size=n) : ∃cap W',(convert 9 127 (.string t)).run prog W = .ok (.slice (some ⟨W.heap.size,0,none⟩) n cap) W'∧n<=cap∧Byt W' W.heap.size t.data.toList∧Below W.heap.size W W'∧W.heap.size<W'.heap.size:=by
 subst hn;refine⟨_,_,run_bytes_of_string (P:=prog) W 9 127 5 t underlying9 underlying127 underlying5,?_,?_,?_,?_⟩
 ·have:=grownCap_ge W t.size 0 5;exact this
 ·exact QlF W.drew t _ _
 ·exact(Qf (Lb _ _) 1:Below W.heap.size W W.drew).alloc (La _) _
 ·simp
theorem J7{B:Nat}{w W:World}(h:Below B w W):Below B w W.drew:=⟨h.os,h.tape,h.output,h.size,h.block⟩
theorem Qfl(bs:BA) : ∀(n i:Nat) (r:List UInt8),bs.size - i=n->ByteArray.toList.loop bs i r=r.reverse++bs.data.toList.drop i:=by
 intro n
 induction n with
 | zero =>
  intro i r h;rw[ByteArray.toList.loop,Le (by omega)]
  rw[LZ (by simp;exact(by omega:bs.size<=i)),LS]
 | succ n ih =>
  intro i r h;have hi:i<bs.size:=by omega
  rw[ByteArray.toList.loop,Lk hi,ih (i+1) _ (by omega)]
  have hl:i<bs.data.toList.length:=by simp;exact hi
  rw[LN hl,Id,Lq];have:bs.get! i=bs.data.toList[i]:=by
   show bs.data[i]! = _
   have xA:i<bs.data.size:=hi;rw[getElem!_pos bs.data i xA];simp
  rw[this];rfl
theorem Qc0(bs:BA):bs.toList=bs.data.toList:=by
 rw[ByteArray.toList,Qfl bs bs.size 0 [] rfl];rfl
theorem Qc7{x y:BA}(h:x≠y):(x.toList == y.toList)=false:=by
 rw[Qc0,Qc0];simp only[beq_eq_false_iff_ne,ne_eq];intro e;exact h (I4 (Array.toList_inj.1 e))
theorem QaU{x y:BA}(h:x=y):(x.toList == y.toList)=true:=by
 rw[h];simp
def rpT(s:List UInt8):BA×Nat×Int:=match rpay s with
 | some x=>(⟨x.toArray⟩,x.length+8,0)
 | none=>(⟨#[]⟩,0,180)
theorem QdP{s:List UInt8}(h:rpay s=none):rpT s=(⟨#[]⟩,0,180):=by rw[rpT,h]
theorem QdQ{s x:List UInt8}(h:rpay s=some x):rpT s=(⟨x.toArray⟩,x.length+8,0):=by rw[rpT,h]
theorem O3(w:World)(s:BA)(hs:s.size<=9223372036854775807)(rt:BA)(rn:Nat)(re:Int)(h:rpT s.data.toList=(rt,rn,re)) :
  Calls prog 231 #[.string s] w fun e w'=>e = .returned (.tuple #[.string rt,.int .i64 (rn:Int),.int .i64 re])∧Below w.heap.size w w':=by
 by_cases h4:s.size<4
 ·have z1:(s.size:Int)<4:=by omega
  rw[QdP (Le (by rw[Qb];omega))] at h
  obtain⟨rfl,rfl,rfl⟩:(⟨#[]⟩:BA)=rt∧0=rn∧180=re:=by simpa using h
  go_enter func231,ntmps231;go_wp2;exact Lv (v := .tuple #[.string ⟨#[]⟩,.int .i64 0,.int .i64 180]) (by simp[results,results231,go_sem]) rfl ⟨rfl,Lb _ _⟩
 have z1 : ¬(s.size:Int)<4:=by omega
 have z2:(4:Int)<=(s.size:Int):=by omega
 obtain⟨x4,xX⟩:=Ze (s.extract 0 4);have xA:x4.data.toList=s.data.toList.take 4:=by rw[<-xX,Qen]
 have xB:x4.size=4:=by rw[<-Qb,xA,Lz,Qb];omega
 obtain⟨c4,w1,kb,_,xF,xI,_⟩:=OC w x4 4 xB;rw[xA] at xF;obtain⟨n,hn⟩:=Ze (num (s.data.toList.take 4));have xZ:n<4294967296:=by rw[<-hn];exact On _ 4 (by simp;omega)
 have HN:=YW w1 w.heap.size 0 4 c4 _ xF (by simp;omega) (by decide) n (by rw[ND,Lo (by simp;omega)];exact hn)
 have z3:(s.size:Int)<=9223372036854775807:=by omega
 have yC:IntKind.u64.wrap (s.size:Int)=(s.size:Int):=by rw[IntKind.wrap_u64];omega
 have yA:IntKind.u64.wrap (4+(n:Int))=4+(n:Int):=by rw[IntKind.wrap_u64];omega
 have yB:IntKind.u64.wrap (4+(n:Int)+4)=4+(n:Int)+4:=by rw[IntKind.wrap_u64];omega
 by_cases hbig:n<=1048576∧n+8<=s.size
 ·obtain⟨g1,g2⟩:=hbig;have y1 : ¬(n:Int) > 1048576:=by omega
  have y2 : ¬(s.size:Int)<4+(n:Int)+4:=by omega
  have y3:IntKind.i64.wrap (n:Int)=(n:Int):=by rw[Lr];omega
  obtain⟨N,hN⟩:=Ze (n+8);have y4:(4:Int)+(n:Int)+4=(N:Int):=by omega
  have y5:(0:Int)<=(N:Int):=by omega
  have y6:(N:Int)<=(s.size:Int):=by omega
  have y7:(n:Int)<=1048576:=by omega
  obtain⟨x8,xY⟩:=Ze (s.extract 0 N);have xC:x8.data.toList=s.data.toList.take N:=by rw[<-xY,Qen]
  have xD:x8.size=N:=by rw[<-Qb,xC,Lz,Qb];omega
  obtain⟨c8,w2,yD,xT,xK,xS,xN⟩:=OC w1 x8 N xD;rw[xC] at xK;obtain⟨o,ho⟩:=Ze (if N - 4=4 then 0 else 4)
  have xP:Hid (Calls prog 263 #[.slice (some ⟨w1.heap.size,0,none⟩) N c8] w2 fun e w'=>e = .returned (.tuple #[.slice (some ⟨w1.heap.size,0,none⟩) 4 4,.slice (some ⟨w1.heap.size,o,none⟩) n n])∧Below w2.heap.size w2 w') :=
   QbP w2 w1.heap.size N c8 (by omega) xT (by omega) o ho n (by omega)
  obtain⟨t8,xH⟩ : ∃t:BA,(⟨(sld (s.data.toList.take (n+4))).toArray⟩:BA)=t:=⟨_,rfl⟩;have xJ:(s.data.toList.take N).take (N - 4)=s.data.toList.take (n+4):=by rw[IE];congr 1;omega
  have xO:Hid (pay ((s.data.toList.drop 4).take n)=sld (s.data.toList.take (n+4))):=QmE s.data.toList n (by rw[Qb];omega) hn (by rw[Qb];omega)
  obtain⟨v,hv⟩ : ∃v:BA,(⟨(((sld (s.data.toList.take (n+4))).drop 4).take n).toArray⟩:BA)=v:=⟨_,rfl⟩;have HV:Hid ((⟨((s.data.toList.drop 4).take n).toArray⟩:BA)=v):=by
   show _=_
   rw[<-hv]
   congr 2
   rw[sld,LI (by simp;omega),Lt (by simp;omega),List.drop_take,IE,Wc (by omega)]
  have xR:Hid (∀W,Below w2.heap.size w2 W->Calls prog 265 #[.slice (some ⟨w1.heap.size,0,none⟩) N c8] W fun e w'=>e = .returned (.string t8)∧(convert 127 9 (.slice (some ⟨w1.heap.size,o,none⟩) n n)).run prog w' = .ok (.string v) w'∧Below w.heap.size w w'):=fun W hb=>by
   have hy:=xK.next hb xN;refine(U8 W w1.heap.size N c8 _ hy (by simp;omega) (by omega) xT (by omega) t8 (by rw[xJ];exact xH)).mono ?_
   rintro e w' ⟨rfl,hz,xW⟩;rw[xJ] at hz;refine⟨rfl,hz.conv (k:=4) (n:=n) (by rw[JW];simp;omega) o (fun h0=>by rw[<-ho,Le (by omega)]) n v hv,xW.since (Qa xI (Qa xS hb)) xI.size⟩
  have xQ:Hid ((⟨(s.data.toList.take N).toArray⟩:BA)=x8):=by show _=_;rw[<-xC]
  by_cases heq:t8=x8
  ·have xV:=QaU heq;have xU:rpay s.data.toList=some ((s.data.toList.drop 4).take n):=by
    unfold rpay;rw[hn];refine Lk ⟨by rw[Qb];omega,g1,by rw[Qb];exact g2,?_⟩
    rw[xO.out,hN];have:=Lw (fun z:BA=>z.data.toList) (xH.trans (heq.trans xQ.out.symm))
    simpa using this
   rw[QdQ xU] at h;have xG:((s.data.toList.drop 4).take n).length=n:=by simp;omega
   rw[xG,HV.out,hN] at h;obtain⟨rfl,rfl,rfl⟩:v=rt∧N=rn∧0=re:=by simpa using h
   clear xF xB xA h hn xC xD ho xH xJ hv heq xU xG xK hN
   go_enter func231,ntmps231
   go_upto_region 9 with (first
    | (go_at_call 321;with_reducible refine HN.mono ?_;rintro e w3 ⟨rfl,rfl⟩)
    | (go_at_call 263;with_reducible refine xP.out.mono ?_;rintro e w4 ⟨rfl,xL⟩))
   go_region_with (go_at_call 265;with_reducible refine(xR.out _ (J7 xL)).mono ?_;rintro e w5 ⟨rfl,kc,xM⟩)
   go_wp2;exact Lv (v := .tuple #[.string v,.int .i64 (N:Int),.int .i64 0]) (by simp[results,results231,go_sem]) rfl ⟨rfl,xM⟩
  ·have xV:=Qc7 heq;have xE:rpay s.data.toList=none:=by
    unfold rpay;rw[hn];refine Le fun q=>heq ?_
    have q4:=q.2.2.2;rw[xO.out,hN] at q4;rw[<-xH,q4,xQ.out]
   rw[QdP xE] at h;obtain⟨rfl,rfl,rfl⟩:(⟨#[]⟩:BA)=rt∧0=rn∧180=re:=by simpa using h
   clear xF xB xA h hn xC xD ho xH xJ hv heq xE xK hN
   go_enter func231,ntmps231
   go_upto_region 9 with (first
    | (go_at_call 321;with_reducible refine HN.mono ?_;rintro e w3 ⟨rfl,rfl⟩)
    | (go_at_call 263;with_reducible refine xP.out.mono ?_;rintro e w4 ⟨rfl,xL⟩))
   go_region_with (go_at_call 265;with_reducible refine(xR.out _ (J7 xL)).mono ?_;rintro e w5 ⟨rfl,kc,xM⟩)
   go_wp2;exact Lv (v := .tuple #[.string ⟨#[]⟩,.int .i64 0,.int .i64 180]) (by simp[results,results231,go_sem]) rfl ⟨rfl,xM⟩
 ·have xE:rpay s.data.toList=none:=by
   unfold rpay;rw[hn,Qb];exact Le (fun q=>hbig ⟨q.2.1,q.2.2.1⟩)
  rw[QdP xE] at h;obtain⟨rfl,rfl,rfl⟩:(⟨#[]⟩:BA)=rt∧0=rn∧180=re:=by simpa using h
  by_cases xS:n<=1048576
  ·have g1 : ¬(n:Int) > 1048576:=by omega
   have g2:(s.size:Int)<4+(n:Int)+4:=by omega
   clear xF xB xA hbig h hn xE
   go_enter func231,ntmps231
   go_wp2_with (go_at_call 321;with_reducible refine HN.mono ?_;rintro e w2 ⟨rfl,rfl⟩)
   exact Lv (v := .tuple #[.string ⟨#[]⟩,.int .i64 0,.int .i64 180]) (by simp[results,results231,go_sem]) rfl ⟨rfl,xI⟩
  ·have g1:(n:Int) > 1048576:=by omega
   clear xF xB xA hbig h hn xE
   go_enter func231,ntmps231
   go_wp2_with (go_at_call 321;with_reducible refine HN.mono ?_;rintro e w2 ⟨rfl,rfl⟩)
   exact Lv (v := .tuple #[.string ⟨#[]⟩,.int .i64 0,.int .i64 180]) (by simp[results,results231,go_sem]) rfl ⟨rfl,xI⟩
def rnT(k:Int)(p:Nat)(s:List UInt8):BA×Int:=if 1<=k∧k<=32 then (match rnod k.toNat p s with
 | some x=>(⟨x.toArray⟩,0)
 | none=>(⟨#[]⟩,180)) else (⟨#[]⟩,70)
theorem QmR{k:Int}{p:Nat}{s:List UInt8}(h : ¬(1<=k∧k<=32)):rnT k p s=(⟨#[]⟩,70):=Le h
theorem QdM{k:Int}{p:Nat}{s:List UInt8}(hk:1<=k∧k<=32)(h:rnod k.toNat p s=none):rnT k p s=(⟨#[]⟩,180):=by rw[rnT,Lk hk,h]
theorem QdN{k:Int}{p:Nat}{s x:List UInt8}(hk:1<=k∧k<=32)(h:rnod k.toNat p s=some x):rnT k p s=(⟨x.toArray⟩,0):=by rw[rnT,Lk hk,h]
theorem Qay(w:World)(k:Int)(p:Nat)(hp:p<18446744073709551616)(s:BA)(rt:BA)(re:Int)(h:rnT k p s.data.toList=(rt,re)) :
  Calls prog 252 #[.int .i64 k,.int .u64 (p:Int),.string s] w fun e w'=>e = .returned (.tuple #[.string rt,.int .i64 re])∧Below w.heap.size w w':=by
 have HS:=fun W=>Qab W k
 by_cases hk:1<=k∧k<=32
 ·rw[LA hk] at HS
  by_cases h40:s.size=40
  ·have z1:((s.size:Int) == 40)=true:=by simp;omega
   obtain⟨n,rfl⟩ : ∃n:Nat,k=(n:Int):=⟨k.toNat,by omega⟩
   obtain⟨c0,w1,kb,xK,hy,xG,xJ⟩:=OC w s 40 h40;have xF:Hid (Calls prog 333 #[.slice (some ⟨w.heap.size,0,none⟩) 40 c0] w1 fun e w'=>e = .returned (.tuple #[.slice (some ⟨w.heap.size,0,none⟩) 32 32,.slice (some ⟨w.heap.size,32,none⟩) 4 4])∧Below w1.heap.size w1 w'):=QbH w1 w.heap.size 40 c0 (by omega)
   have y1:(0:Int)<=(n:Int):=by omega
   have y2:(n:Int)<=32:=by omega
   obtain⟨d,hd⟩ : ∃d:BA,(⟨(s.data.toList.take n).toArray⟩:BA)=d:=⟨_,rfl⟩;have xB:d.data.toList=s.data.toList.take n:=by rw[<-hd]
   have xH:d.size=n:=by rw[<-Qb,xB,Lz,Qb];omega
   have HC:Hid (∀W,Below w1.heap.size w1 W->(convert 127 9 (.slice (some ⟨w.heap.size,0,none⟩) n n)).run prog W = .ok (.string d) W):=fun W hb =>
    (hy.next hb xJ).conv (k:=0) (n:=n) (by rw[Qb];omega) 0 (fun _=>rfl) n d (by rw[ND];exact hd)
   obtain⟨t,ht⟩ : ∃t:BA,(⟨(nodS p d.data.toList).toArray⟩:BA)=t:=⟨_,rfl⟩;have xE:Hid (∀W,Calls prog 266 #[.int .u64 (p:Int),.string d] W fun e w'=>e = .returned (.string t)∧Below W.heap.size W w'):=fun W=>Ju W p hp d (by omega) t ht
   have xC:t.data.toList=nod p (s.data.toList.take n):=by
    rw[<-ht,nodS,Lk (by rw[xB,Lz];omega),xB]
   by_cases heq:t=s
   ·have xI:=QaU heq;rw[QdN hk (x:=s.data.toList.take n) (Lk ⟨by rw[Qb];exact h40,by rw[LM,<-xC,heq]⟩),hd] at h
    obtain⟨rfl,rfl⟩:d=rt∧0=re:=by simpa using h
    clear hd xB xH ht xC heq h hy
    go_enter func252,ntmps252
    go_wp2_with (first
     | (go_at_call 272;with_reducible refine(HS _).mono ?_;rintro e w2 ⟨rfl,rfl⟩)
     | (go_at_call 333;with_reducible refine xF.out.mono ?_;rintro e w3 ⟨rfl,xA⟩;have kc:=HC.out _ xA)
     | (go_at_call 266;with_reducible refine(xE.out _).mono ?_;rintro e w4 ⟨rfl,xD⟩))
    exact Lv (v := .tuple #[.string d,.int .i64 0]) (by simp[results,results252,go_sem]) rfl ⟨rfl,Qa xG (Qa xA xD)⟩
   ·have xI:=Qc7 heq;rw[QdM hk (Le fun q=>heq (Ji (by rw[xC];have:=q.2;rw[LM] at this;exact this)))] at h
    obtain⟨rfl,rfl⟩:(⟨#[]⟩:BA)=rt∧180=re:=by simpa using h
    clear hd xB xH ht xC heq h hy
    go_enter func252,ntmps252
    go_wp2_with (first
     | (go_at_call 272;with_reducible refine(HS _).mono ?_;rintro e w2 ⟨rfl,rfl⟩)
     | (go_at_call 333;with_reducible refine xF.out.mono ?_;rintro e w3 ⟨rfl,xA⟩;have kc:=HC.out _ xA)
     | (go_at_call 266;with_reducible refine(xE.out _).mono ?_;rintro e w4 ⟨rfl,xD⟩))
    exact Lv (v := .tuple #[.string ⟨#[]⟩,.int .i64 180]) (by simp[results,results252,go_sem]) rfl ⟨rfl,Qa xG (Qa xA xD)⟩
  ·have z1:((s.size:Int) == 40)=false:=by simp;omega
   rw[QdM hk (Le fun q=>h40 (by rw[<-Qb];exact q.1))] at h
   obtain⟨rfl,rfl⟩:(⟨#[]⟩:BA)=rt∧180=re:=by simpa using h
   clear h
   go_enter func252,ntmps252
   go_wp2_with (go_at_call 272;with_reducible refine(HS _).mono ?_;rintro e w2 ⟨rfl,rfl⟩)
   exact Lv (v := .tuple #[.string ⟨#[]⟩,.int .i64 180]) (by simp[results,results252,go_sem]) rfl ⟨rfl,Lb _ _⟩
 ·rw[Ls hk] at HS;rw[QmR hk] at h;obtain⟨rfl,rfl⟩:(⟨#[]⟩:BA)=rt∧70=re:=by simpa using h
  clear h
  go_enter func252,ntmps252
  go_wp2_with (go_at_call 272;with_reducible refine(HS _).mono ?_;rintro e w2 ⟨rfl,rfl⟩)
  exact Lv (v := .tuple #[.string ⟨#[]⟩,.int .i64 70]) (by simp[results,results252,go_sem]) rfl ⟨rfl,Lb _ _⟩
end St.Rc
namespace St
open Rc
theorem YD(x:Int)(h0:0<=x)(h1:x<18446744073709551616):IntKind.u64.wrap x=x:=by
 show x % 18446744073709551616=x
 omega
section
variable {q p:Nat} {T:Nat->Prop} {D:DV} {S:SV}
theorem Yo(w:World)(h:Sk w q p T D S):Calls prog 74 #[.pointer (some ⟨q,0,none⟩)] w fun e w'=>e = .returned (.int .u64 (S.ends.length:Int))∧w'=w:=by
 obtain⟨ao,xA,⟨c0,c1,c2,c3,c4⟩,_⟩:=h.cells;obtain⟨_,_,hf,_⟩:=h.small;have hw:IntKind.u64.wrap (S.ends.length:Int)=(S.ends.length:Int):=YD _ (by omega) (by omega)
 generalize S.ends.length=n at *;clear h
 go_enter func74,ntmps74;go_wp2
 go_ret
 exact⟨rfl,rfl⟩
theorem Qct(w:World)(h:Sk w q p T D S)(n:Nat)(hn:n<=S.ends.length):Calls prog 142 #[.pointer (some ⟨q,0,none⟩),.int .i64 (n:Int)] w fun e w'=>e = .returned (.int .i64 (UK S.ends n:Int))∧w'=w:=by
 obtain⟨ao,xA,⟨c0,c1,c2,c3,c4⟩,hc⟩:=h.cells;obtain⟨_,_,hf,_⟩:=h.small;clear h
 cases n with
 | zero =>
  go_enter func142,ntmps142;go_wp2
  go_ret
  exact⟨rfl,rfl⟩
 | succ n =>
  obtain⟨g,rfl,hg⟩:=hc n (by omega)
  have e1:UK S.ends (n+1)=S.ends.getD n 0:=rfl;rw[e1];have hz : ¬((n:Int)+1=0):=by omega
  have hm:IntKind.i64.wrap ((n:Int)+1 - 1)=(n:Int):=by rw[Lr];omega
  generalize S.ends.getD n 0=x at *;generalize S.ends.length=m at *;clear hc e1
  go_enter func142,ntmps142;go_wp2
  go_ret
  exact⟨rfl,rfl⟩
theorem Q3(w:World)(n:Nat)(hn:n<=65537):Calls prog 245 #[.int .i64 (n:Int)] w fun e w'=>e = .returned (.int .u64 (nn n:Int))∧w'=w:=by
 have HC:=Qd (Pl.Qim n w (by omega))
 have hw:IntKind.u64.wrap (n:Int)=(n:Int):=YD _ (by omega) (by omega)
 go_enter func245,ntmps245
 go_wp2_with (go_at_call 328;refine HC.out.mono ?_;rintro e w1 ⟨rfl,rfl⟩)
 go_ret
 exact⟨rfl,rfl⟩
theorem Od(n:Nat):nn n<=2*n:=by unfold nn Pl.N;omega
theorem YH(w:World)(h:Sk w q p T D S):Calls prog 155 #[.pointer (some ⟨q,0,none⟩),.string ⟨#[105,116,101,109,115]⟩] w fun e w'=>e = .returned (.int .i64 (lst S.ends:Int))∧w'=w:=by
 obtain⟨ao,xA,⟨c0,c1,c2,c3,c4⟩,hc⟩:=h.cells;have HE:=Qd (Qct w h S.ends.length (La _));rw[Qbm] at HE;generalize S.ends.length=n at *;clear h hc
 go_enter func155,ntmps155
 go_wp2_with (go_at_call 142;refine HE.out.mono ?_;rintro e w1 ⟨rfl,rfl⟩)
 go_ret
 exact⟨rfl,rfl⟩
theorem ON(w:World)(h:Sk w q p T D S):Calls prog 155 #[.pointer (some ⟨q,0,none⟩),.string ⟨#[110,111,100,101,115]⟩] w fun e w'=>e = .returned (.int .i64 ((nn S.ends.length*40:Nat):Int))∧w'=w:=by
 obtain⟨ao,xA,⟨c0,c1,c2,c3,c4⟩,hc⟩:=h.cells;obtain⟨_,_,hf,_⟩:=h.small;have HN:=Qd (Q3 w S.ends.length (by omega))
 have hb:=Od S.ends.length;generalize S.ends.length=n at *;generalize nn n=m at *;have h1:IntKind.i64.wrap (m:Int)=(m:Int):=by rw[Lr];omega
 have h2:IntKind.i64.wrap ((m:Int)*40)=((m*40:Nat):Int):=by rw[Lr];omega
 clear h hc
 go_enter func155,ntmps155
 go_wp2_with (go_at_call 245;refine HN.out.mono ?_;rintro e w1 ⟨rfl,rfl⟩)
 go_ret
 exact⟨rfl,rfl⟩
theorem OM(w:World)(h:Sk w q p T D S):Calls prog 155 #[.pointer (some ⟨q,0,none⟩),.string ⟨#[109,97,114,107,115]⟩] w fun e w'=>e = .returned (.int .i64 ((S.ends.length*64:Nat):Int))∧w'=w:=by
 obtain⟨ao,xA,⟨c0,c1,c2,c3,c4⟩,hc⟩:=h.cells;obtain⟨_,_,hf,_⟩:=h.small;generalize S.ends.length=m at *;have h2:IntKind.i64.wrap ((m:Int)*64)=((m*64:Nat):Int):=by rw[Lr];omega
 clear h hc
 go_enter func155,ntmps155;go_wp2
 go_ret
 exact⟨rfl,rfl⟩
theorem QeY(D:DV)(s:List UInt8)(off n:Int):(rdD D s off n).2=0∨(rdD D s off n).2=170∨(rdD D s off n).2=173:=by
 unfold rdD
 split
 ·exact .inr (.inl rfl)
 ·split
  ·exact .inr (.inr rfl)
  ·exact .inl rfl
theorem JO(w:World)(h:Sk w q p T D S)(s:BA)(hs:s.size<=maxLen)(off y:Int)(ho1 : -9223372036854775808<=off)(ho2:off<=9223372036854775807)(hq1 : -9223372036854775808<=y)(hq2:y<=9223372036854775807)(t:BA)(r:Int)(ht:tx (rdS D s.data.toList off y).1=t)(hr:(rdS D s.data.toList off y).2=r) :
  Calls prog 143 #[.pointer (some ⟨q,0,none⟩),.string s,.int .i64 off,.int .i64 y] w fun e w'=>e = .returned (.tuple #[.string t,.int .i64 r])∧Below w.heap.size w w':=by
 obtain⟨ao,xA,⟨c0,c1,c2,c3,c4⟩,hc⟩:=h.cells;have HR:=Qd (h.read s hs off y ho1 ho2 hq1 hq2);unfold rdS at ht hr;obtain⟨x,e,hx⟩ : ∃x e,rdD D s.data.toList off y=(x,e):=⟨_,_,rfl⟩;have he:=QeY D s.data.toList off y;rw[hx] at ht hr HR he;clear h hc hx
 by_cases h3:e=173
 ·subst h3;simp only[if_pos] at ht hr;subst ht hr
  go_enter func143,ntmps143
  go_wp2_with (go_at_call 152;refine HR.out.mono ?_;rintro e w1 ⟨rfl,hb⟩)
  go_ret2
  exact⟨rfl,hb⟩
 ·simp only[if_neg h3] at ht hr;subst ht hr
  go_enter func143,ntmps143
  go_wp2_with (go_at_call 152;refine HR.out.mono ?_;rintro e w1 ⟨rfl,hb⟩)
  go_ret2
  exact⟨rfl,hb⟩
def whT(s:List UInt8):BA:=(rpT s).1
theorem QaE(w:World)(s:BA)(hs:s.size<=9223372036854775807)(b:Bool)(hb:whl s.data.toList=b)(t:BA)(ht:whT s.data.toList=t) :
  Calls prog 144 #[.string s] w fun e w'=>e = .returned (.tuple #[.string t,.bool b])∧Below w.heap.size w w':=by
 have hl:=Qb s;unfold whT at ht;unfold whl at hb
 cases hp:rpay s.data.toList with
 | none =>
  rw[hp] at hb;have e1:=QdP hp;rw[e1] at ht;subst ht hb;have HR:=Qd (O3 w s hs _ _ _ e1)
  go_enter func144,ntmps144
  go_wp2_with (go_at_call 231;refine HR.out.mono ?_;rintro e w1 ⟨rfl,hb⟩)
  go_ret2
  exact⟨rfl,hb⟩
 | some x =>
  rw[hp] at hb;have e1:=QdQ hp;rw[e1] at ht;subst ht;have HR:=Qd (O3 w s hs _ _ _ e1);have e2:(((x.length+8:Nat):Int) == (s.size:Int))=b:=by
   rw[<-hb,hl];exact Bool.eq_iff_iff.2 (by simp;omega)
  generalize x.length+8=m at *;generalize s.size=n at *
  go_enter func144,ntmps144
  go_wp2_with (go_at_call 231;refine HR.out.mono ?_;rintro e w1 ⟨rfl,hb⟩)
  go_ret2
  exact⟨by simp_all,hb⟩
end
section
variable {q p:Nat} {T:Nat->Prop} {D:DV} {S:SV}
theorem QmH(D:DV)(s:List UInt8)(off n:Int):(rdD D s off n).1.length<=(Qe D.L s).now.length:=by
 unfold rdD
 split
 ·exact Ll _
 ·split
  ·exact Ll _
  ·simp only[List.length_take,List.length_drop];omega
theorem QmI(D:DV)(s:List UInt8)(off n:Int):(rdS D s off n).1.length<=(Qe D.L s).now.length:=by
 unfold rdS
 split
 ·exact Ll _
 ·exact QmH _ _ _ _
theorem Qhh(D:DV)(s:List UInt8)(off n:Int):(rdS D s off n).2=0∨(rdS D s off n).2=170∨(rdS D s off n).2=190:=by
 unfold rdS
 rcases QeY D s off n with h|h|h
 ·rw[Le (by omega)];exact .inl h
 ·rw[Le (by omega)];exact .inr (.inl h)
 ·rw[Lk h];exact .inr (.inr rfl)
theorem Qnu{s:List UInt8}(h:whl s=true):whT s=tx ((rpay s).getD []):=by
 unfold whl at h;unfold whT
 cases hp:rpay s with
 | none=>rw[hp] at h;cases h
 | some x=>rw[QdQ hp];rfl
theorem Qex(w:World)(h:Sk w q p T D S)(i:Nat)(hi:i<18446744073709551616)(t:BA)(r:Int)(ht:tx (YS D S i).1=t)(hr:(YS D S i).2=r) :
  Calls prog 84 #[.pointer (some ⟨q,0,none⟩),.int .u64 (i:Int)] w fun e w'=>e = .returned (.tuple #[.string t,.int .i64 r])∧Below w.heap.size w w':=by
 obtain⟨ao,xD,⟨c0,c1,c2,c3,c4⟩,hc⟩:=h.cells;obtain⟨_,_,hf,hg,he,_⟩:=h.small;have HS:=Qd (Yo w h);unfold YS at ht hr
 by_cases hlt:S.ends.length<=i
 ·rw[Lk hlt] at ht hr;subst ht hr;have hd:((S.ends.length:Int)<=(i:Int)):=by omega
  generalize S.ends.length=n at *;clear h hc hg he
  go_enter func84,ntmps84
  go_wp2_with (go_at_call 74;refine HS.out.mono ?_;rintro e w1 ⟨rfl,rfl⟩)
  go_ret2
  exact⟨rfl,Lb _ _⟩
 ·rw[Le hlt] at ht hr;have hd : ¬((S.ends.length:Int)<=(i:Int)):=by omega
  have xE:(i:Int)<(S.ends.length:Int):=by omega
  obtain⟨g,rfl,cg⟩:=hc i (by omega)
  have HE:=Qd (Qct w h i (by omega))
  have xG:=hg i;have xF:=he i;have HR:Hid (∀t r,tx (OK D S i).1=t->(OK D S i).2=r->Calls prog 143 #[.pointer (some ⟨q,0,none⟩),.string ⟨#[105,116,101,109,115]⟩,.int .i64 (UK S.ends i:Int),.int .i64 ((S.ends.getD i 0:Int) - (UK S.ends i:Int))] w fun e w'=>e = .returned (.tuple #[.string t,.int .i64 r])∧Below w.heap.size w w'):=fun t r h1 h2=>JO w h ⟨#[105,116,101,109,115]⟩ (by decide) _ _ (by omega) (by omega) (by omega) (by omega) t r h1 h2
  have hz:(OK D S i).1.length<=268435456:=Lu (QmI _ _ _ _) (h.sz _);have xC:(OK D S i).2=0∨(OK D S i).2=170∨(OK D S i).2=190:=Qhh _ _ _ _;generalize OK D S i=x at *;have xH:IntKind.i64.wrap (i:Int)=(i:Int):=by rw[Lr];omega
  have xI:IntKind.i64.wrap ((S.ends.getD i 0:Int) - (UK S.ends i:Int))=(S.ends.getD i 0:Int) - (UK S.ends i:Int):=by rw[Lr];omega
  clear hg he hc h;generalize S.ends.getD i 0=a at *;generalize UK S.ends i=b at *;generalize S.ends.length=n at *;obtain⟨xl,xe⟩:=x;simp only at ht hr xC hz HR
  by_cases h0:xe=0
  ·subst h0;simp only[ne_eq,not_true_eq_false,if_false] at ht hr;have xA:=Qd (HR.out _ _ rfl rfl);have HW:Hid (∀W b,whl xl=b->Calls prog 144 #[.string (tx xl)] W fun e w'=>e = .returned (.tuple #[.string (whT xl),.bool b])∧Below W.heap.size W w'):=fun W b hb=>QaE W (tx xl) (by rw[Yp];omega) b hb _ rfl
   clear HR
   by_cases hwh:whl xl=true
   ·simp only[hwh,if_true] at ht hr;subst ht hr;have xB:=Qd (fun W=>HW.out W _ hwh)
    rw[Qnu hwh] at xB;clear HW
    go_enter func84,ntmps84
    go_wp2_with (first
     | (go_at_call 74;refine HS.out.mono ?_;rintro e w1 ⟨rfl,rfl⟩)
     | (go_at_call 142;refine HE.out.mono ?_;rintro e w1 ⟨rfl,rfl⟩)
     | (go_at_call 143;refine xA.out.mono ?_;rintro e w2 ⟨rfl,u2⟩)
     | (go_at_call 144;refine(xB.out _).mono ?_;rintro e w3 ⟨rfl,u3⟩))
    go_ret2
    exact⟨rfl,Qa u2 u3⟩
   ·rw[Le hwh] at ht hr;subst ht hr;have xB:=Qd (fun W=>HW.out W _ (Bool.eq_false_iff.2 hwh))
    clear HW
    go_enter func84,ntmps84
    go_wp2_with (first
     | (go_at_call 74;refine HS.out.mono ?_;rintro e w1 ⟨rfl,rfl⟩)
     | (go_at_call 142;refine HE.out.mono ?_;rintro e w1 ⟨rfl,rfl⟩)
     | (go_at_call 143;refine xA.out.mono ?_;rintro e w2 ⟨rfl,u2⟩)
     | (go_at_call 144;refine(xB.out _).mono ?_;rintro e w3 ⟨rfl,u3⟩))
    go_ret2
    exact⟨rfl,Qa u2 u3⟩
  ·rw[Lk h0] at ht hr;subst ht hr;have xA:=Qd (HR.out _ _ rfl rfl);clear HR
   go_enter func84,ntmps84
   go_wp2_with (first
    | (go_at_call 74;refine HS.out.mono ?_;rintro e w1 ⟨rfl,rfl⟩)
    | (go_at_call 142;refine HE.out.mono ?_;rintro e w1 ⟨rfl,rfl⟩)
    | (go_at_call 143;refine xA.out.mono ?_;rintro e w2 ⟨rfl,u2⟩))
   go_ret2
   exact⟨rfl,u2⟩
theorem Qh4(w:World)(h:Sk w q p T D S)(i:Nat)(hi:i<18446744073709551616)(t:BA)(r:Int)(ht:tx (Om D S i).1=t)(hr:(Om D S i).2=r) :
  Calls prog 162 #[.pointer (some ⟨q,0,none⟩),.int .u64 (i:Int)] w fun e w'=>e = .returned (.tuple #[.string t,.int .i64 r])∧Below w.heap.size w w':=by
 obtain⟨ao,xE,⟨c0,c1,c2,c3,c4⟩,hc⟩:=h.cells;obtain⟨xF,xG,hf,_⟩:=h.small;have HN:=Qd (Q3 w S.ends.length (by omega))
 have hb:=Od S.ends.length;unfold Om at ht hr
 by_cases hlt:nn S.ends.length<=i
 ·rw[Lk hlt] at ht hr;subst ht hr;have hd:((nn S.ends.length:Int)<=(i:Int)):=by omega
  generalize S.ends.length=n at *;generalize nn n=m at *;clear h hc
  go_enter func162,ntmps162
  go_wp2_with (go_at_call 245;refine HN.out.mono ?_;rintro e w1 ⟨rfl,rfl⟩)
  go_ret2
  exact⟨rfl,Lb _ _⟩
 ·rw[Le hlt] at ht hr;have hd : ¬((nn S.ends.length:Int)<=(i:Int)):=by omega
  have HR:Hid (∀t r,tx (nodR D i).1=t->(nodR D i).2=r->Calls prog 143 #[.pointer (some ⟨q,0,none⟩),.string ⟨#[110,111,100,101,115]⟩,.int .i64 ((i*40:Nat):Int),.int .i64 40] w fun e w'=>e = .returned (.tuple #[.string t,.int .i64 r])∧Below w.heap.size w w'):=fun t r h1 h2=>JO w h ⟨#[110,111,100,101,115]⟩ (by decide) _ _ (by omega) (by omega) (by omega) (by omega) t r h1 h2
  have xH:IntKind.i64.wrap (i:Int)=(i:Int):=by rw[Lr];omega
  have xI:IntKind.i64.wrap ((i:Int)*40)=((i*40:Nat):Int):=by rw[Lr];omega
  have xD:(nodR D i).2=0∨(nodR D i).2=170∨(nodR D i).2=190:=Qhh _ _ _ _;generalize nodR D i=x at *;have CK:Hid (∀W,Below w.heap.size w W->W.cell? ⟨q,1,none⟩=some (.int .i64 (S.k:Int))):=fun W hW=>by
   obtain⟨_,_,⟨_,xC,_⟩,_⟩:=(h.next hW).cells;exact xC
  clear hc h c1;obtain⟨xl,xe⟩:=x;simp only at ht hr xD HR
  by_cases h0:xe=0
  ·subst h0;simp only[ne_eq,not_true_eq_false,if_false] at ht hr;have xA:=Qd (HR.out _ _ rfl rfl);have HW:Hid (∀W t r,rnT (S.k:Int) i xl=(t,r)->Calls prog 252 #[.int .i64 (S.k:Int),.int .u64 (i:Int),.string (tx xl)] W fun e w'=>e = .returned (.tuple #[.string t,.int .i64 r])∧Below W.heap.size W w'):=fun W t r hb=>Qay W (S.k:Int) i hi (tx xl) t r hb
   clear HR;generalize nn S.ends.length=m at *;generalize S.ends.length=n at *
   cases hwh:rnod S.k i xl with
   | some y =>
    rw[hwh] at ht hr;subst ht hr;have xB:=Qd (fun W=>HW.out W _ _ (QdN (by omega) (by simpa using hwh)))
    clear HW;generalize S.k=k at *
    go_enter func162,ntmps162
    go_wp2_with (first
     | (go_at_call 245;refine HN.out.mono ?_;rintro e w1 ⟨rfl,rfl⟩)
     | (go_at_call 143;refine xA.out.mono ?_;rintro e w2 ⟨rfl,u2⟩;have c1:=CK.out _ u2)
     | (go_at_call 252;refine(xB.out _).mono ?_;rintro e w3 ⟨rfl,u3⟩))
    go_ret2
    exact⟨rfl,Qa u2 u3⟩
   | none =>
    rw[hwh] at ht hr;subst ht hr;have xB:=Qd (fun W=>HW.out W _ _ (QdM (by omega) (by simpa using hwh)))
    clear HW;generalize S.k=k at *
    go_enter func162,ntmps162
    go_wp2_with (first
     | (go_at_call 245;refine HN.out.mono ?_;rintro e w1 ⟨rfl,rfl⟩)
     | (go_at_call 143;refine xA.out.mono ?_;rintro e w2 ⟨rfl,u2⟩;have c1:=CK.out _ u2)
     | (go_at_call 252;refine(xB.out _).mono ?_;rintro e w3 ⟨rfl,u3⟩))
    go_ret2
    exact⟨rfl,Qa u2 u3⟩
  ·rw[Lk h0] at ht hr;subst ht hr;have xA:=Qd (HR.out _ _ rfl rfl);clear HR;generalize nn S.ends.length=m at *;generalize S.ends.length=n at *
   go_enter func162,ntmps162
   go_wp2_with (first
    | (go_at_call 245;refine HN.out.mono ?_;rintro e w1 ⟨rfl,rfl⟩)
    | (go_at_call 143;refine xA.out.mono ?_;rintro e w2 ⟨rfl,u2⟩))
   go_ret2
   exact⟨rfl,u2⟩
end
end St
end Go.Proofs.YtoblgjledefdbaaGreatDoor
