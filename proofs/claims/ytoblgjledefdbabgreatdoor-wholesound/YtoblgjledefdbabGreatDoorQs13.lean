/- Own work. -/
import Derived.Shelf.Strings.OnBuilder
import Derived.Shelf.Strings.Repeat
import Derived.Test.YtoblgjledefdbabGreatDoorQs12
set_option maxRecDepth 100000
set_option maxHeartbeats 8000000
namespace Go.Proofs.YtoblgjledefdbabGreatDoor
open Go.RowKit
attribute [local go_sem ↓] Go.wp_at_zero Go.wp_at_succ
open Go.Proofs.Tryz
namespace St
open Rc
section
variable {q p:Nat} {T:Nat->Prop} {D:DV} {S:SV}
theorem Qdm(n:Nat)(h:n<=65536):nn n<=nn (n+1)∧nn (n+1)<=131074∧nn (n+1)<=nn n+41:=by
 have hb:=Qcw (n+1);unfold nn at hb ⊢;obtain⟨t,h40,h1,h2⟩:∃t,t<=40∧n%Pl.pw t=Pl.pw t-1 ∧ ¬n/Pl.pw t%2=1:=by
  suffices hh:∀f t,t+f=40->n%Pl.pw t=Pl.pw t-1 -> ∃t,t<=40∧n%Pl.pw t=Pl.pw t-1 ∧ ¬n/Pl.pw t%2=1 from hh 40 0 rfl (by rw[Pl.Yw];omega)
  intro f
  induction f with
  | zero=>intro t ht h0;exact⟨t,by omega,h0,by rw[IE (LL (show n<2^20 by omega) (Pl.OS (a:=20) (by omega)))];decide⟩
  | succ f ih=>
   intro t ht h0
   by_cases ho:n/Pl.pw t%2=1
   ·exact ih (t+1) (by omega) (Pl.Qb4 t n h0 ho)
   ·exact⟨t,by omega,h0,ho⟩
 rw[Pl.new_N t n h1 h2 (by omega)] at hb ⊢
 omega
theorem Qdp(S:SV)(ds:LB):nxt S ds=true↔ds.length=nn (S.ends.length+1)-nn S.ends.length ∧ ∀d∈ds,d.size=S.k:=by
 simp[nxt]
theorem Qaw(w:World)(h:Sk w q p T D S)(hfew:S.ends.length<65536)(ao:OA)(b off len cap:Nat)(ds:LB)(hr:RdS w ao b off len ds)(hmx:len<=9223372036854775807)(r:Bool)(hR:nxt S ds=r) :
  Calls prog 195 #[Zv q,.slice ao len cap] w fun e w'=>e= .returned (.bool r)∧w'=w:=by
 obtain⟨ea,ec,⟨c0,c1,c2,c3,c4⟩,_⟩:=h.cells;obtain⟨hk1,hk2,hf,_⟩:=h.small;have hm:=Qdm S.ends.length hf;have HN:Hid (Calls prog 184 #[.int .i64 S.ends.length] w fun e w'=>e= .returned (.int .u64 (nn S.ends.length:Int))∧w'=w):=YV w S.ends.length (by omega)
 have HN1:Hid (Calls prog 184 #[.int .i64 ((S.ends.length:Int)+1)] w fun e w'=>e= .returned (.int .u64 (nn (S.ends.length+1):Int))∧w'=w):=by
  have:=YV w (S.ends.length+1) (by omega)
  rw[Int.natCast_add] at this;exact this
 have hx:nxt S ds=true↔len=nn (S.ends.length+1)-nn S.ends.length ∧ ∀d∈ds,d.size=S.k:=by rw[Qdp,hr.hl]
 clear h;generalize nxt S ds=x0 at *;subst hR;generalize nn (S.ends.length+1)=m1 at *;generalize nn S.ends.length=m0 at *;generalize S.k=k at *;generalize S.ends.length=n at *;have e1:IntKind.i64.wrap ((n:Int)+1)=(n:Int)+1:=by rw[LE];omega
 have e2:IntKind.u64.wrap (len:Int)=(len:Int):=Yz _ (by omega) (by omega)
 have e3:IntKind.u64.wrap ((m1:Int)-(m0:Int))=((m1-m0:Nat):Int):=by rw[Yz _ (by omega) (by omega)];omega
 by_cases hl:len=m1-m0
 ·have hd:(((len:Int)) != ((m1-m0:Nat):Int))=false:=by simp[hl]
  have hd2:((len:Int))=((m1-m0:Nat):Int):=by omega
  generalize m1-m0=m at *;subst hl
  go_enter func195,ntmps195
  go_wp2_with (go_at_call 184;first|((with_reducible refine HN.out.mono ?_);rintro e w1 ⟨rfl,rfl⟩)|((with_reducible refine HN1.out.mono ?_);rintro e w1 ⟨rfl,rfl⟩))
  go_loopg [25] len (fun g x wr=> ∃j:Nat,j<=len∧g=len-j∧x= .int .i64 j∧Hid (∀d∈ds.take j,d.size=k)∧wr=w1)
  case atStart=>go_light;exact⟨0,Lm _,rfl,rfl,fun d hd=>by simp at hd,rfl⟩
  case round=>
   obtain⟨j,hj,rfl,rfl,HA,rfl⟩:=hrel
   by_cases hlt:j<len
   ·have hz:(j:Int)<(len:Int):=by omega
    obtain rfl:=hr.ptr (by omega)
    have ck:=hr.at hlt;have hw:IntKind.i64.wrap ((j:Int)+1)=(j:Int)+1:=by rw[LE];omega
    obtain⟨d,hd0⟩:∃d,ds.getD j ByteArray.empty=d:=⟨_,rfl⟩;have hds:j<ds.length:=by rw[hr.hl];exact hlt
    have hdm:d∈ds:=by rw[<-hd0,La,Ld hds];exact LN _
    have htk:ds.take (j+1)=ds.take j++[d]:=by rw[<-hd0,LQ hds,La,Ld hds];rfl
    rw[hd0] at ck
    by_cases he:d.size=k
    ·have hd3:((d.size:Int) != (k:Int))=false:=by simp[he]
     have hd4:(d.size:Int)=(k:Int):=by omega
     have HA2:Hid (∀d∈ds.take (j+1),d.size=k):=fun y hy=>by
      rw[htk] at hy
      rcases List.mem_append.1 hy with h|h
      ·exact HA.out y h
      ·rw[List.mem_singleton.1 h];exact he
     clear hr hx HA htk;go_wp2
     go_roundg (len-(j+1))
     case rel=>go_light;exact⟨j+1,by omega,rfl,by go_num,HA2,rfl⟩
     case measure=>go_light;omega
    ·have hd3:((d.size:Int) != (k:Int))=true:=by simp;omega
     have hd4:¬(d.size:Int)=(k:Int):=by omega
     have hxf:x0=false:=by
      cases x0 with
      | false=>rfl
      | true=>exact absurd ((hx.1 rfl).2 d hdm) he
     subst hxf;clear hr hx HA htk;go_wp2
     go_ret
     first|exact⟨rfl,rfl⟩|exact⟨trivial,rfl⟩
   ·have hz:¬(j:Int)<(len:Int):=by omega
    have hxt:x0=true:=hx.2 ⟨by trivial,fun d hd=>HA.out d (by rw[Lu (by rw[hr.hl];omega)];exact hd)⟩
    subst hxt;clear hr hx HA;go_wp2
    go_ret
    exact⟨rfl,rfl⟩
 ·have hd:(((len:Int)) != ((m1-m0:Nat):Int))=true:=by simp;omega
  have hd2:¬((len:Int))=((m1-m0:Nat):Int):=by omega
  have hxf:x0=false:=by
   cases x0 with
   | false=>rfl
   | true=>exact absurd (hx.1 rfl).1 hl
  subst hxf;generalize m1-m0=m at *;clear hx
  go_enter func195,ntmps195
  go_wp2_with (go_at_call 184;first|((with_reducible refine HN.out.mono ?_);rintro e w1 ⟨rfl,rfl⟩)|((with_reducible refine HN1.out.mono ?_);rintro e w1 ⟨rfl,rfl⟩))
  go_ret
  exact⟨rfl,rfl⟩
def refE(S:SV)(item:List UInt8)(ds:LB):Int :=
 if S.lame then 191 else if 1048576<item.length then 100 else if 65536<=S.ends.length then 101 else if nxt S ds=false then 192 else 0
theorem QeW(w:World)(h:Sk w q p T D S)(s:BA)(hs:s.size<=9223372036854775807)(ao:OA)(b off len cap:Nat)(ds:LB)(hr:RdS w ao b off len ds)(hmx:len<=9223372036854775807)(r:Int)(hR:refE S s.data.toList ds=r) :
  Calls prog 128 #[Zv q,.string s,.slice ao len cap] w fun e w'=>e= .returned (.int .i64 r)∧w'=w:=by
 obtain⟨ea,ec,⟨c0,c1,c2,c3,c4⟩,_⟩:=h.cells;obtain⟨hk1,hk2,hf,_⟩:=h.small;unfold refE at hR;rw[Qe] at hR
 by_cases h1:S.lame=true
 ·rw[Lo h1] at hR;subst hR;rw[h1] at c4;clear h hr
  go_enter func128,ntmps128;go_wp2
  go_ret
  exact⟨rfl,rfl⟩
 ·rw[Le h1] at hR;rw[Bool.eq_false_iff.2 h1] at c4
  by_cases h2:1048576<s.size
  ·rw[Lo h2] at hR;subst hR;have hd:(1048576:Int)<(s.size:Int):=by omega
   clear h hr
   go_enter func128,ntmps128;go_wp2
   go_ret
   exact⟨rfl,rfl⟩
  ·rw[Le h2] at hR;have hd:¬(1048576:Int)<(s.size:Int):=by omega
   by_cases h3:65536<=S.ends.length
   ·rw[Lo h3] at hR;subst hR;have hd2:(65536:Int)<=(S.ends.length:Int):=by omega
    generalize S.ends.length=n at *;clear h hr
    go_enter func128,ntmps128;go_wp2
    go_ret
    exact⟨rfl,rfl⟩
   ·rw[Le h3] at hR;have hd2:¬(65536:Int)<=(S.ends.length:Int):=by omega
    by_cases h4:nxt S ds=false
    ·rw[Lo h4] at hR;subst hR;have HN:=Qc (Qaw w h (by omega) ao b off len cap ds hr hmx _ h4)
     generalize S.ends.length=n at *;clear h hr
     go_enter func128,ntmps128
     go_wp2_with (go_at_call 195;refine HN.out.mono ?_;rintro e w1 ⟨rfl,rfl⟩)
     go_ret
     exact⟨rfl,rfl⟩
    ·rw[Le h4] at hR;subst hR;have HN:=Qc (Qaw w h (by omega) ao b off len cap ds hr hmx true (by simpa using h4))
     generalize S.ends.length=n at *;clear h hr
     go_enter func128,ntmps128
     go_wp2_with (go_at_call 195;refine HN.out.mono ?_;rintro e w1 ⟨rfl,rfl⟩)
     go_ret
     exact⟨rfl,rfl⟩
end
theorem QfK(n:Nat)(hn:n<=8796093021952)(u:World):(Instr.makeSlice 22 (.int .i64 n) (.int .i64 n)).run prog u= .ok (.slice (Zp u.heap.size) n n) (u.alloc (.cells (Array.replicate n (Value.string ByteArray.empty)) 9)):=by
 have:=run_make_row' (P:=prog) 22 9 (.string ByteArray.empty) 16 underlying22 Tryz.infoS rfl .i64 .i64 n (by omega) (by omega) u
 rw[this,Rc.Ob]
theorem Qh3(w:World)(n:Nat)(hn:n<=8796093021952):Qg (w.alloc (.cells (Array.replicate n (Value.string ByteArray.empty)) 9)) w.heap.size (.slice (Zp w.heap.size) n n) (List.replicate n ByteArray.empty):=by
 refine⟨by simp,.inr ⟨w.heap.size,n,Array.replicate n (Value.string ByteArray.empty),by simp,Lb _,U7 _ _,by simp,by unfold maxLen;omega,by simp,by simp⟩⟩
theorem OU(p:Nat)(ds:LB):(YD p ds).length=ds.length:=by simp[YD]
theorem Qic(p:Nat)(ds:LB)(d:BA):YD p (ds++[d])=YD p ds++[tx (nod (p+ds.length) d.data.toList)]:=by simp[YD]
theorem Qdo(w:World){q p:Nat}{T:Nat->Prop}{D:DV}{S:SV}(h:Sk w q p T D S)(ao:OA)(b off len cap:Nat)(ds:LB)(hr:RdS w ao b off len ds)(hmx:len<=1000)(h32:∀d∈ds,d.size<=32) :
  Calls prog 130 #[Zv q,.slice ao len cap] w fun e w'=> ∃v,e= .returned v∧Qg w' w.heap.size v (YD (nn S.ends.length) ds)∧Below w.heap.size w w':=by
 obtain⟨ea,ec,⟨c0,c1,c2,c3,c4⟩,_⟩:=h.cells;obtain⟨hk1,hk2,hf,_⟩:=h.small;have HN:=Qc (YV w S.ends.length (by omega))
 have hb:=Qcw S.ends.length;clear h;generalize nn S.ends.length=m at *;generalize S.ends.length=n at *;have HM:=QfK len (by omega) w
 have HO:=Qc (Qh3 w len (by omega))
 have u0:Below w.heap.size w (w.alloc (.cells (Array.replicate len (Value.string ByteArray.empty)) 9)):=bal (Lc _ _) _;have HU:=Qc u0;obtain⟨w1,hw1⟩:∃W,w.alloc (.cells (Array.replicate len (Value.string ByteArray.empty)) 9)=W:=⟨_,rfl⟩;rw[hw1] at HM HO HU;clear hw1 u0;obtain⟨g,hg⟩:∃g,w.heap.size=g:=⟨_,rfl⟩;have HG:=Qc hg;rw[hg] at HM HO;have HB:Hid (∀W,Below w.heap.size w W->RdS W ao b off len ds):=fun W hW=>hr.next hW (Lb _)
 have hl:=hr.hl;have hp:=hr.ptr;clear hg hr
 go_enter func130,ntmps130
 go_wp2_with (go_at_call 184;refine HN.out.mono ?_;rintro e w2 ⟨rfl,rfl⟩)
 go_loopg [20] len (fun g' x wr=> ∃j:Nat,j<=len∧g'=len-j∧x= .int .i64 j∧Hid (Qg wr g (.slice (Zp g) len len) (YD m (ds.take j)++List.replicate (len-j) ByteArray.empty))∧Hid (Below w2.heap.size w2 wr))
 case atStart=>go_light;exact⟨0,Lm _,rfl,rfl,HO,HU⟩
 case round=>
  obtain⟨j,hj,rfl,rfl,HA,HW⟩:=hrel
  by_cases hlt:j<len
  ·have hz:(j:Int)<(len:Int):=by omega
   obtain rfl:=hp (by omega)
   have ck:=(HB.out _ HW.out).at hlt;obtain⟨d,hd0⟩:∃d,ds.getD j ByteArray.empty=d:=⟨_,rfl⟩;have hds:j<ds.length:=by omega
   have hdm:d∈ds:=by rw[<-hd0,La,Ld hds];exact LN _
   have htk:ds.take (j+1)=ds.take j++[d]:=by rw[<-hd0,LQ hds,La,Ld hds];rfl
   rw[hd0] at ck;have hw:IntKind.i64.wrap ((j:Int)+1)=(j:Int)+1:=by rw[LE];omega
   have hw2:IntKind.u64.wrap (j:Int)=(j:Int):=Yz _ (by omega) (by omega)
   have hw3:IntKind.u64.wrap ((m:Int)+(j:Int))=((m+j:Nat):Int):=by rw[Yz _ (by omega) (by omega)];omega
   have hd32:=h32 d hdm;obtain⟨tn,htn⟩:∃t,tx (nod (m+j) d.data.toList)=t:=⟨_,rfl⟩;have HC:Hid (Calls prog 197 #[.int .u64 ((m+j:Nat):Int),.string d] wr fun e w'=>e= .returned (.string tn)∧Below wr.heap.size wr w'):=Rc.YU wr (m+j) (by omega) d (by omega) tn (by rw[nodS,Qe,Lo hd32];exact htn)
   have HA2:Hid (∀W,Below wr.heap.size wr W->(W.frozen? ⟨g,j,none⟩=false ∧ ∃x,W.cell? ⟨g,j,none⟩=some (.string x))∧Qg (W.setCell ⟨g,j,none⟩ (.string tn)) g (.slice (Zp g) len len) (YD m (ds.take (j+1))++List.replicate (len-(j+1)) ByteArray.empty)∧Below w2.heap.size w2 (W.setCell ⟨g,j,none⟩ (.string tn))):=fun W hW=>by
    have ho:=Qv HA.out hW (Lb _);have hjl:j<(YD m (ds.take j)++List.replicate (len-j) ByteArray.empty).length:=by simp[OU];omega
    have hoc:=UK ho hjl;refine⟨⟨hoc.2,_,hoc.1⟩,?_,(Qa HW.out hW).setCell (by rw[HG.out];exact Lb _) _⟩
    have:=QmJ ho j tn;have hj2:(YD m (ds.take j)).length=j:=by rw[OU,Lv];omega
    have hj3:(ds.take j).length=j:=by rw[Lv];omega
    rw[htk,Qic,hj3,htn,show len-j=(len-(j+1))+1 by omega,I5] at *
    rw[Nh _ _ (by omega),hj2,NK,List.set_cons_zero] at this
    rw[LP];exact this
   clear HA HW htk HB hd0
   go_wp2_with (go_at_call 197;refine HC.out.mono ?_;rintro e w3 ⟨rfl,u3⟩;have ⟨⟨f1,x1,f2⟩,_⟩:=HA2.out _ u3)
   go_roundg (len-(j+1))
   case rel=>go_light;exact⟨j+1,by omega,rfl,by go_num,(HA2.out _ u3).2.1,(HA2.out _ u3).2.2⟩
   case measure=>go_light;omega
  ·have hz:¬(j:Int)<(len:Int):=by omega
   have HZ:Hid (Qg wr w2.heap.size (.slice (Zp g) len len) (YD m ds)∧Below w2.heap.size w2 wr):=by
    have:=HA.out;rw[Lu (by omega),show len-j=0 by omega,List.replicate_zero,L7] at this
    exact⟨by rw[HG.out];exact this,HW.out⟩
   clear HA HW HB;go_wp2
   go_ret
   exact⟨_,rfl,HZ.out⟩
end St
namespace St
def tot:List (List UInt8×FV)->Nat
 | []=>0
 | (_,f)::r=>f.now.length+tot r
theorem Qj8{x:List UInt8×FV}{r:List (List UInt8×FV)}(h:Ord (x::r)):Ord r:=⟨(List.pairwise_cons.1 h.1).2,fun p hp=>h.2 p (LR _ hp)⟩
theorem O5:∀ {L:List (List UInt8×FV)} (_:Ord L) (s:List UInt8) (f:FV),tot (Yi L s f)+(Qh L s).now.length=tot L+f.now.length
 | [],_,s,f=>by
  rw[Yi,Qh]
  split
  ·rename_i h;have:=Jz.1 h;simp only[tot,fz];simp;omega
  ·simp[tot,fz]
 | (t,g)::r,h,s,f=>by
  rw[Yi,Qh]
  by_cases e:t=s
  ·rw[Lo e,Lo e]
   split
   ·rename_i hg;have:=Jz.1 hg;simp only[tot];omega
   ·simp only[tot];omega
  ·rw[Le e,Le e]
   by_cases e2:s<t
   ·rw[Lo e2];have hn:Qh r s=fz:=by
     apply YB
     intro hm;obtain⟨p,hp,hps⟩:=List.mem_map.1 hm;have h3:=(List.pairwise_cons.1 h.1).1 p hp;have h4:t<s:=by rw[<-hps];exact h3
     exact Ii _ (Wk h4 e2)
    rw[hn]
    split
    ·rename_i hg;have:=Jz.1 hg;rw[this.1];rfl
    ·simp only[tot,fz];simp;omega
   ·rw[Le e2];have:=O5 (Qj8 h) s f;simp only[tot];omega
theorem Qfd{D:DV}(_:D.fk=0)(s:List UInt8)(f:FV):actD D s f=(Y6 { D with acts:=D.acts+1 } s f,0):=rfl
end St
namespace St
theorem Jb{α:Type}{P:List α->Prop}(h0:P [])(hs:∀l x,P l->P (l++[x]))(l:List α):P l:=by
 rw[<-List.reverse_reverse l]
 induction l.reverse with
 | nil=>exact h0
 | cons x r ih=>rw[Iw];exact hs _ _ ih
end St
namespace St
open Rc
abbrev It:=List UInt8×LB
structure BV where
 ends:List Nat
 chain:BitVec 32
 a:List UInt8
 b:List UInt8
 m:List UInt8
def BV.z:BV:=⟨[],0#32,[],[],[]⟩
def BV.mk'(k:Nat)(B:BV)(x:It):MV:=nxM k B.ends B.chain (pay x.1) (YD (nn B.ends.length) x.2)
def BV.ad(k:Nat)(B:BV)(x:It):BV:=⟨B.ends++[(B.mk' k x).items],(B.mk' k x).chain,B.a++pay x.1,B.b++Rc.Qj (YD (nn B.ends.length) x.2),B.m++mrk (B.mk' k x)⟩
def bA(k:Nat)(A:List It):BV:=A.foldl (BV.ad k) BV.z
theorem Y4(k:Nat)(A:List It)(x:It):bA k (A++[x])=(bA k A).ad k x:=by simp[bA]
def sA(k:Nat)(A:List It):SV:=⟨k,(bA k A).ends,(bA k A).chain,false⟩
structure OkI(k n:Nat)(x:It):Prop where
 len:x.1.length<=1048576
 cnt:x.2.length=nn (n+1)-nn n
 sz:∀d∈x.2,d.size=k
structure OkA(k:Nat)(A:List It):Prop where
 k1:1<=k
 k2:k<=32
 few:A.length<=65536
 it:∀i x,A[i]? = some x->OkI k i x
theorem OkA.init{k:Nat}{A:List It}{x:It}(h:OkA k (A++[x])):OkA k A :=
 ⟨h.k1,h.k2,by have:=h.few;simp at this;omega,fun i y hy=>h.it i y (by rw[LG (List.getElem?_eq_some_iff.1 hy).1];exact hy)⟩
theorem OkA.last{k:Nat}{A:List It}{x:It}(h:OkA k (A++[x])):OkI k A.length x:=h.it A.length x (by simp)
theorem Qah(x:BA)(l:LB):Rc.Qj (x::l)=x.data.toList++Rc.Qj l:=by simp[Rc.Qj]
theorem Qib(p:Nat)(d:BA)(ds:LB):YD p (d::ds)=tx (nod p d.data.toList)::YD (p+1) ds:=by
 have e:(fun(i:Nat) (d:BA)=>tx (nod (p+(i+1)) d.data.toList))=fun i d=>tx (nod (p+1+i) d.data.toList):=by
  funext i d
  rw[show p+(i+1)=p+1+i by omega]
 simp[YD,List.mapIdx_cons,e]
theorem Qb2(p:Nat)(ds:LB)(h:∀d∈ds,d.size<=32):(Rc.Qj (YD p ds)).length=40*ds.length:=by
 induction ds generalizing p with
 | nil=>rfl
 | cons d ds ih=>
  rw[Qib,Qah,Lh,ih (p+1) (fun x hx=>h x (LR _ hx)),QdT,Qdn _ _ (by rw[Qe];exact h d (by simp)),LJ]
  omega
structure LenA(k:Nat)(A:List It):Prop where
 ends:(bA k A).ends.length=A.length
 lst:lst (bA k A).ends=(bA k A).a.length
 a:(bA k A).a.length<=1048584*A.length
 b:(bA k A).b.length=40*nn A.length
 m:(bA k A).m.length=64*A.length
theorem QjP(l:List Nat)(x:Nat):lst (l++[x])=x:=by simp[lst]
theorem OkA.lens{k:Nat}{A:List It} : OkA k A->LenA k A:=by
 refine Jb (P:=fun A=>OkA k A->LenA k A) (fun _=>⟨rfl,rfl,Lb _,rfl,rfl⟩) (fun A x ih h=> ?_) A
 have l:=ih h.init;have hx:=h.last;have hf:=h.few;simp only[List.length_append,List.length_cons,List.length_nil] at hf;have hm:=Qdm A.length (by omega)
 have e:(bA k (A++[x]))=(bA k A).ad k x:=Y4 k A x;have ei:((bA k A).mk' k x).items=(bA k A).a.length+(x.1.length+8):=by
  show Go.Proofs.YtoblgjledefdbabGreatDoor.St.lst (bA k A).ends+(pay x.1).length=_
  rw[l.lst,pay_len]
 refine⟨?_,?_,?_,?_,?_⟩
 ·rw[e];simp[BV.ad,l.ends]
 ·rw[e]
  show Go.Proofs.YtoblgjledefdbabGreatDoor.St.lst ((bA k A).ends++[((bA k A).mk' k x).items])=((bA k A).a++pay x.1).length
  rw[QjP,ei,Lh,pay_len]
 ·rw[e]
  show((bA k A).a++pay x.1).length<=_
  have:=l.a;have:=hx.len;rw[Lh,pay_len,Lh];simp only[List.length_cons,List.length_nil];omega
 ·rw[e]
  show((bA k A).b++Rc.Qj (YD (nn (bA k A).ends.length) x.2)).length=_
  rw[Lh,Qb2 _ _ (fun d hd=>by rw[hx.sz d hd];exact h.k2),l.b,hx.cnt,Lh]
  simp only[List.length_cons,List.length_nil,Nat.zero_add];omega
 ·rw[e]
  show((bA k A).m++mrk ((bA k A).mk' k x)).length=_
  rw[Lh,Qmo _ ⟨by show(1:Int)<=(k:Int);have:=h.k1;omega,by show(k:Int)<=32;have:=h.k2;omega⟩,l.m,Lh]
  simp only[List.length_cons,List.length_nil];omega
theorem QnY(k:Nat)(A B:List It):(bA k A).a <+: (bA k (A++B)).a∧(bA k A).b <+: (bA k (A++B)).b∧(bA k A).m <+: (bA k (A++B)).m:=by
 refine Jb (P:=fun B=>(bA k A).a <+: (bA k (A++B)).a∧(bA k A).b <+: (bA k (A++B)).b∧(bA k A).m <+: (bA k (A++B)).m) (by simp) (fun B x ih=> ?_) B
 rw[<-LP,Y4];exact⟨ih.1.trans (Wd _ _),ih.2.1.trans (Wd _ _),ih.2.2.trans (Wd _ _)⟩
theorem Qgq(k:Nat)(A:List It)(j:Nat):(bA k (A.take j)).a <+: (bA k A).a∧(bA k (A.take j)).b <+: (bA k A).b∧(bA k (A.take j)).m <+: (bA k A).m:=by
 have:=QnY k (A.take j) (A.drop j)
 rwa [Nu] at this
theorem Qnv(x:List UInt8)(h:x.length<=1048576):whl (pay x)=true:=by
 have:=QeY x [] h;rw[L7] at this;unfold whl;rw[this];simp[pay_len]
end St
namespace St.Rc
def mC(m:MV):Array Value:=#[.int .i64 m.k,.int .u64 m.size,.int .u64 m.items,.int .u64 m.nodes,.int .u32 m.chain.toNat]
def pC(g:Nat):Array Value:=#[.slice (Zp g) 4 4,.slice (some ⟨g,4,none⟩) 1 1,.slice (some ⟨g,8,none⟩) 8 8,.slice (some ⟨g,16,none⟩) 8 8,.slice (some ⟨g,24,none⟩) 8 8,.slice (some ⟨g,32,none⟩) 4 4]
structure Mk(w W:World)(m:MV)(bm g bp:Nat)(l:List UInt8):Prop where
 hm:W.heap[bm]? = some (.cells (mC m) 209 (0,0))
 hp:W.heap[bp]? = some (.cells (pC g) 283 (0,0))
 row:Byt W g l
 len:l.length=64
 nm:bm≠g
 np:bp≠g
 lg:w.heap.size<=g
 bel:Below w.heap.size w W
theorem Mk.cells{w W:World}{m:MV}{bm g bp:Nat}{l:List UInt8}(h:Mk w W m bm g bp l) :
  W.cell? ⟨bm,0,none⟩=some (.int .i64 m.k)∧W.cell? ⟨bm,1,none⟩=some (.int .u64 m.size)∧W.cell? ⟨bm,2,none⟩=some (.int .u64 m.items)∧W.cell? ⟨bm,3,none⟩=some (.int .u64 m.nodes)∧W.cell? ⟨bm,4,none⟩=some (.int .u32 m.chain.toNat) ∧
  W.cell? ⟨bp,0,none⟩=some (.slice (Zp g) 4 4)∧W.cell? ⟨bp,1,none⟩=some (.slice (some ⟨g,4,none⟩) 1 1)∧W.cell? ⟨bp,2,none⟩=some (.slice (some ⟨g,8,none⟩) 8 8)∧W.cell? ⟨bp,3,none⟩=some (.slice (some ⟨g,16,none⟩) 8 8)∧W.cell? ⟨bp,4,none⟩=some (.slice (some ⟨g,24,none⟩) 8 8)∧W.cell? ⟨bp,5,none⟩=some (.slice (some ⟨g,32,none⟩) 4 4):=by
 refine⟨?_,?_,?_,?_,?_,?_,?_,?_,?_,?_,?_⟩
 iterate 5 (rw[cell_of_row W bm _ _ _ (0,0) h.hm];rfl)
 iterate 6 (rw[cell_of_row W bp _ _ _ (0,0) h.hp];rfl)
theorem Mk.upo{w W W':World}{m:MV}{bm g bp:Nat}{l l':List UInt8}(h:Mk w W m bm g bp l)(hu:Upo (fun b=>b=g) W W')(hr:Byt W' g l')(hl:l'.length=64):Mk w W' m bm g bp l' :=
 ⟨(hu.block bm (Array.getElem?_eq_some_iff.1 h.hm).1 h.nm).trans h.hm,(hu.block bp (Array.getElem?_eq_some_iff.1 h.hp).1 h.np).trans h.hp,hr,hl,h.nm,h.np,h.lg,hu.since h.bel h.lg⟩
theorem Mk.put{w W:World}{m:MV}{bm g bp:Nat}{l:List UInt8}(h:Mk w W m bm g bp l)(off len n:Nat)(ho:off+len<=64)(h8:len<=8)(hn:n<18446744073709551616) :
  Calls prog 196 #[.slice (some ⟨g,off,none⟩) len len,.int .u64 n] W fun e w'=>e= .returned (.tuple #[])∧Mk w w' m bm g bp (ovr l off (big len n)):=by
 refine(Uo W g off len len n l h.row (by rw[h.len];exact ho) h8 hn).mono ?_
 rintro e w' ⟨rfl,hy,hu⟩;exact⟨rfl,h.upo hu hy (by rw[QaR _ _ _ (by rw[Qp,h.len];exact ho),h.len])⟩
theorem Qmp(k a b c d:Nat):ovr (ovr (ovr (ovr (ovr (ovr (zer 64) 0 [109,115,102,1]) 4 (big 1 k)) 8 (big 8 a)) 16 (big 8 b)) 24 (big 8 c)) 32 (big 4 d)=Ot k a b c d++zer 4:=by
 have e64:zer 64=[]++zer 64:=rfl;rw[e64,YG [] _ _ 0 rfl,NE,show([109,115,102,1]:List UInt8).length=4 from rfl,YG _ _ _ 4 rfl,Qp]
 rw[show zer (64-4-1)=zer 3++zer 56 from rfl,<-LP,YG _ _ _ 8 (by simp[Qp,QF]),Qp]
 rw[YG _ _ _ 16 (by simp[Qp,QF]),Qp,YG _ _ _ 24 (by simp[Qp,QF]),Qp,YG _ _ _ 32 (by simp[Qp,QF]),Qp]
 rw[Ot,show zer (56-8-8-8-4)=zer 24++zer 4 from rfl,LP _ (zer 24)]
theorem Mk.first{w W:World}{m:MV}{bm g bp:Nat}(h:Mk w W m bm g bp (zer 64)):∃W',(∀ty,(Builtin.copy_ #[83,9] ty #[.slice (Zp g) 4 4,.string ⟨#[109,115,102,1]⟩]).run prog W= .ok (goInt 4) W')∧Mk w W' m bm g bp (ovr (zer 64) 0 [109,115,102,1]):=by
 refine⟨W.setCells g 0 (cY [109,115,102,1]),fun ty=>QbS ty (k:=0) (n:=4) (m:=4) (o:=0) h.row (by rw[QF];decide) (fun _=>rfl) (Lb _),h.upo (Upo.sets (S:=fun b=>b=g) (.inl rfl) _ 0 _ (Upo.refl _ _)) (h.row.over 0 _ (by rw[QF];decide)) ?_⟩
 rw[QaR _ _ _ (by rw[QF];decide),QF]
theorem Mk.seal{w W:World}{m:MV}{bm g bp:Nat}{k a b c d:Nat}(h:Mk w W m bm g bp (ovr (ovr (ovr (ovr (ovr (ovr (zer 64) 0 [109,115,102,1]) 4 (big 1 k)) 8 (big 8 a)) 16 (big 8 b)) 24 (big 8 c)) 32 (big 4 d)))(t:BA)(ht:(⟨(sld (Ot k a b c d)).toArray⟩:BA)=t) :
  Calls prog 161 #[.slice (Zp g) 64 64] W fun e w'=>e= .returned (.string t)∧Below w.heap.size w w':=by
 have hr:=h.row;have hl:=h.len;rw[Qmp] at hr hl;have htk:(Ot k a b c d++zer 4).take (64-4)=Ot k a b c d:=by
  rw[LH (by rw[JL];decide),Lu (by rw[JL];decide)]
 refine(Je W g 64 64 _ hr hl (by decide) (Lb _) (by decide) t (by rw[htk];exact ht)).mono ?_
 rintro e w' ⟨rfl,_,hup⟩;exact⟨rfl,hup.since h.bel h.lg⟩
theorem QjS(w:World)(m:MV)(h1:m.size<18446744073709551616)(h2:m.items<18446744073709551616)(h3:m.nodes<18446744073709551616)(t:BA)(ht:(⟨(mrk m).toArray⟩:BA)=t) :
  Calls prog 139 #[.agg (mC m)] w fun e w'=>e= .returned (.string t)∧Below w.heap.size w w':=by
 obtain⟨mk,ma,mb,mc,md⟩:=m;have HS:=fun W=>QdQ W mk
 have h4:=md.isLt
 by_cases hk:1<=mk∧mk<=32
 ·rw[LS hk] at HS;rw[mrk,Lo hk] at ht;obtain⟨k,rfl⟩:∃k:Nat,mk=(k:Int):=⟨mk.toNat,by omega⟩
  simp only[Int.toNat_natCast] at ht h1 h2 h3;have hw:IntKind.u64.wrap (k:Int)=(k:Int):=by rw[IntKind.wrap_u64];omega
  obtain⟨d,hd⟩:∃d,md.toNat=d:=⟨_,rfl⟩;have hw2:IntKind.u64.wrap (d:Int)=(d:Int):=by rw[IntKind.wrap_u64];omega
  have H4:Hid (k<18446744073709551616∧ma<18446744073709551616∧mb<18446744073709551616∧mc<18446744073709551616∧d<18446744073709551616):=⟨by omega,h1,h2,h3,by omega⟩
  have hmk:∀u:World,(Instr.makeSlice 83 (.int .i64 64) (.int .i64 64)).run prog u= .ok (.slice (Zp u.heap.size) 64 64) (u.alloc (.cells (Array.replicate 64 (Value.int .u8 0)) 5)):=fun u=>U4 64 (by decide) u
  have HPP:Hid (∀W g,Calls prog 204 #[.slice (Zp g) 64 64] W fun e w'=>e= .returned (mP g)∧Below W.heap.size W w'):=fun W g=>QfM W g 64 64 (by decide)
  obtain⟨z64,hz⟩:∃z,Array.replicate 64 (Value.int .u8 0)=z:=⟨_,rfl⟩;rw[hz] at hmk;have HZ:Hid (Array.replicate 64 (Value.int .u8 0)=z64):=hz;have HT:Hid ((⟨(sld (Ot k ma mb mc d)).toArray⟩:BA)=t):=by rw[<-hd];exact ht
  clear ht hz h1 h2 h3 h4 hk;unfold mC;rw[hd]
  go_enter func139,ntmps139
  go_upto_region 5 with (first
   | (go_at_call 203;with_reducible refine(HS _).mono ?_;rintro e w1 ⟨rfl,rfl⟩)
   | (go_at_call 204;with_reducible refine(HPP.out _ _).mono ?_;rintro e w2 ⟨rfl,hb⟩;unfold mP))
  obtain⟨w3,hw3⟩:∃w3,w2.alloc (.cells (pC (w.heap.size+1)) 283)=w3:=⟨_,rfl⟩;obtain⟨wa,hwa⟩:∃wa,w.alloc (.cells (mC ⟨(k:Int),ma,mb,mc,md⟩) 209)=wa:=⟨_,rfl⟩;have M3:Mk w w3 ⟨(k:Int),ma,mb,mc,md⟩ w.heap.size (w.heap.size+1) w2.heap.size (zer 64):=by
   have hb':=hb;unfold mC at hwa;rw[hd] at hwa;rw[hwa] at hb';have hsa:wa.heap.size=w.heap.size+1:=by rw[<-hwa];simp
   have y0:Byt (wa.alloc (.cells z64 5)) (w.heap.size+1) (zer 64):=by
    rw[<-HZ.out,<-hsa];exact Ou wa 64
   have s2:w.heap.size+2<=w2.heap.size:=by have:=hb'.size;simp at this;omega
   have y2:=y0.next hb' (by simp;omega)
   have m2:w2.heap[w.heap.size]? = some (.cells (mC ⟨(k:Int),ma,mb,mc,md⟩) 209 (0,0)):=by
    rw[hb'.block _ (by simp;omega),(MapKept.heap_alloc wa _).2 _ (by omega),<-hwa,U7]
    unfold mC;rw[hd]
   have b2:Below w.heap.size w w2:=Qa (by rw[<-hwa];exact bal (bal (Lc _ _) _) _) hb'
   rw[<-hw3];exact⟨(MapKept.heap_alloc w2 _).2 _ (by omega) |>.trans m2,U7 _ _,y2.same ((MapKept.heap_alloc w2 _).2 _ (by omega)),QF _,by omega,by omega,by omega,bal b2 _⟩
  unfold pC at hw3;rw[hw3];generalize w.heap.size+1=g at *;generalize w2.heap.size=bp at *;obtain⟨w4,hcp,M⟩:=M3.first;have HM:Hid (∀W l,Mk w W ⟨(k:Int),ma,mb,mc,md⟩ w.heap.size g bp l->W.cell? ⟨w.heap.size,0,none⟩=some (.int .i64 k)∧W.cell? ⟨w.heap.size,1,none⟩=some (.int .u64 ma)∧W.cell? ⟨w.heap.size,2,none⟩=some (.int .u64 mb)∧W.cell? ⟨w.heap.size,3,none⟩=some (.int .u64 mc)∧W.cell? ⟨w.heap.size,4,none⟩=some (.int .u32 d) ∧
    W.cell? ⟨bp,0,none⟩=some (.slice (Zp g) 4 4)∧W.cell? ⟨bp,1,none⟩=some (.slice (some ⟨g,4,none⟩) 1 1)∧W.cell? ⟨bp,2,none⟩=some (.slice (some ⟨g,8,none⟩) 8 8)∧W.cell? ⟨bp,3,none⟩=some (.slice (some ⟨g,16,none⟩) 8 8)∧W.cell? ⟨bp,4,none⟩=some (.slice (some ⟨g,24,none⟩) 8 8)∧W.cell? ⟨bp,5,none⟩=some (.slice (some ⟨g,32,none⟩) 4 4)):=fun W l h=>by
   have:=h.cells;simp only[hd] at this;exact this
  have p0:=(HM.out _ _ M3).2.2.2.2.2.1;obtain⟨c0,c1,c2,c3,c4,_,q1,q2,q3,q4,q5⟩:=HM.out _ _ M;clear hw3 hd hb HPP HS hmk hwa
  go_wp2_with (first
   | (refine Uh (by rfl) _ _ _ _ (by rfl) (by rfl) (by rfl) (hcp _) ?_)
   | (go_at_call 196;(first
     | (with_reducible refine(M.put 4 1 k (by decide) (by decide) H4.out.1).mono ?_)
     | (with_reducible refine(M.put 8 8 ma (by decide) (by decide) H4.out.2.1).mono ?_)
     | (with_reducible refine(M.put 16 8 mb (by decide) (by decide) H4.out.2.2.1).mono ?_)
     | (with_reducible refine(M.put 24 8 mc (by decide) (by decide) H4.out.2.2.2.1).mono ?_)
     | (with_reducible refine(M.put 32 4 d (by decide) (by decide) H4.out.2.2.2.2).mono ?_));rintro e w5 ⟨rfl,M⟩;obtain⟨c0,c1,c2,c3,c4,_,q1,q2,q3,q4,q5⟩:=HM.out _ _ M)
   | (go_at_call 161;with_reducible refine(M.seal t HT.out).mono ?_;rintro e w6 ⟨rfl,hb6⟩))
  go_ret
  exact⟨rfl,hb6⟩
 ·rw[LC hk] at HS;rw[mrk,Le hk] at ht;subst ht;unfold mC
  go_enter func139,ntmps139
  go_wp2_with (go_at_call 203;with_reducible refine(HS _).mono ?_;rintro e w1 ⟨rfl,rfl⟩)
  go_ret
  exact⟨rfl,bal (Lc _ _) _⟩
end St.Rc
namespace St
open Rc
theorem bdw{B:Nat}{w W:World}(h:Below B w W):Below B w W.drew:=⟨h.os,h.tape,h.output,h.size,h.block⟩
theorem Qpt{w W:World}(h:Below w.heap.size w W){g:Nat}(hg:w.heap.size<=g)(a b c d e:Value):Below w.heap.size w (((((W.setCell ⟨g,0,none⟩ a).setCell ⟨g,1,none⟩ b).setCell ⟨g,2,none⟩ c).setCell ⟨g,3,none⟩ d).setCell ⟨g,4,none⟩ e) :=
 Upo.below (S:=fun _=>False) (((((Upo.of h).set g 0 a (.inr hg)).set g 1 b (.inr hg)).set g 2 c (.inr hg)).set g 3 d (.inr hg) |>.set g 4 e (.inr hg)) (Lb _) (fun _ q=>q.elim)
theorem Qm5{W:World}{g:Nat}{x0 x1 x2 x3 x4:Value}{T:TypeId}(h:W.heap[g]? = some (.cells #[x0,x1,x2,x3,x4] T (0,0)))(a b c d e:Value):(((((W.setCell ⟨g,0,none⟩ a).setCell ⟨g,1,none⟩ b).setCell ⟨g,2,none⟩ c).setCell ⟨g,3,none⟩ d).setCell ⟨g,4,none⟩ e).heap[g]? = some (.cells #[a,b,c,d,e] T (0,0)):=by
 have h1:(W.setCell ⟨g,0,none⟩ a).heap[g]? = some (.cells #[a,x1,x2,x3,x4] T (0,0)):=Ln W g 0 _ _ a h;have h2:((W.setCell ⟨g,0,none⟩ a).setCell ⟨g,1,none⟩ b).heap[g]? = some (.cells #[a,b,x2,x3,x4] T (0,0)):=Ln _ g 1 _ _ b h1;have h3:(((W.setCell ⟨g,0,none⟩ a).setCell ⟨g,1,none⟩ b).setCell ⟨g,2,none⟩ c).heap[g]? = some (.cells #[a,b,c,x3,x4] T (0,0)):=Ln _ g 2 _ _ c h2;have h4:((((W.setCell ⟨g,0,none⟩ a).setCell ⟨g,1,none⟩ b).setCell ⟨g,2,none⟩ c).setCell ⟨g,3,none⟩ d).heap[g]? = some (.cells #[a,b,c,d,x4] T (0,0)):=Ln _ g 3 _ _ d h3;exact Ln _ g 4 _ _ e h4
section
variable {q p:Nat} {T:Nat->Prop} {D:DV} {S:SV}
theorem Qoe(c:BitVec 32)(s:List UInt8)(ss:LB):chn c s ss<4294967296:=Qi1 _
theorem QhF(w:World)(h:Sk w q p T D S)(s:BA)(hs:s.size<=1073741824)(ao:OA)(b off len cap:Nat)(ss:LB)(hr:RdS w ao b off len ss)(hmx:len<=9223372036854775807)(m:MV)(hm:nxM S.k S.ends S.chain s.data.toList ss=m) :
  Calls prog 131 #[Zv q,.string s,.slice ao len cap] w fun e w'=>e= .returned (.agg (mC m))∧Below w.heap.size w w':=by
 obtain⟨hk1,hk2,hf,_,_,hl⟩:=h.small;have hb:=Qcw (S.ends.length+1);have hlt:=Qoe S.chain s.data.toList ss;obtain⟨cv,hcv⟩:∃c,chn S.chain s.data.toList ss=c:=⟨_,rfl⟩;have hz:=Qe s;have em:mC m=#[.int .i64 S.k,.int .u64 ((S.ends.length:Int)+1),.int .u64 ((lst S.ends:Int)+(s.size:Int)),.int .u64 ((nn (S.ends.length+1):Int)*40),.int .u32 cv]:=by
  rw[<-hm,mC,nxM,hz,hcv];simp only[BitVec.toNat_ofNat];rw[NJ (by omega)]
  simp
 rw[em];obtain⟨w1,hw1⟩:∃W,w.alloc (.cells #[.int .i64 0,.int .u64 0,.int .u64 0,.int .u64 0,.int .u32 0] 209)=W:=⟨_,rfl⟩;have u1:Below w.heap.size w w1:=by rw[<-hw1];exact bal (Lc _ _) _
 obtain⟨bo,hbo⟩:∃b,w.heap.size=b:=⟨_,rfl⟩;obtain⟨ea,ec,hcs⟩:=h.seen;have HC:Hid (∀W,Below w.heap.size w W->W.cell? ⟨q,1,none⟩=some (.int .i64 S.k)∧W.cell? ⟨q,2,none⟩=some (.slice ea S.ends.length ec)∧W.cell? ⟨q,3,none⟩=some (.int .u32 S.chain.toNat)):=fun W hW=>⟨(hcs W hW).2.1,(hcs W hW).2.2.1,(hcs W hW).2.2.2.1⟩
 have HS:Hid (∀W,Below w.heap.size w W->Calls prog 51 #[Zv q] W fun e w'=>e= .returned (.int .u64 S.ends.length)∧w'=W):=fun W hW=>JP W (h.next hW)
 have HL:Hid (∀W,Below w.heap.size w W->Calls prog 117 #[Zv q,.string ⟨#[105,116,101,109,115]⟩] W fun e w'=>e= .returned (.int .i64 (lst S.ends:Int))∧w'=W):=fun W hW=>Y7 W (h.next hW)
 have HN:Hid (∀W,Calls prog 184 #[.int .i64 ((S.ends.length:Int)+1)] W fun e w'=>e= .returned (.int .u64 (nn (S.ends.length+1):Int))∧w'=W):=fun W=>by
  have:=YV W (S.ends.length+1) (by omega)
  rw[Int.natCast_add] at this;exact this
 have HK:Hid (∀W,Below w.heap.size w W->Calls prog 198 #[.int .u32 S.chain.toNat,.string s,.slice ao len cap] W fun e w'=>e= .returned (.int .u32 cv)∧Below w.heap.size w w'∧Below W.heap.size W w'):=fun W hW=>
  (Qhv W S.chain s (by omega) ao b off len cap ss (hr.next hW (Lb _)) hmx cv hcv).mono fun e w' z=>⟨z.1,Qa hW z.2,z.2⟩
 clear hr hcs h hm em hcv hz hlt;generalize S.chain.toNat=cc at *;generalize nn (S.ends.length+1)=m1 at *;generalize lst S.ends=l1 at *;generalize S.k=k at *;generalize S.ends.length=n at *;generalize hsz:s.size=sz at *;have e1:IntKind.u64.wrap ((n:Int)+1)=(n:Int)+1:=Yz _ (by omega) (by omega)
 have e2:IntKind.i64.wrap ((n:Int)+1)=(n:Int)+1:=by rw[LE];omega
 have e3:IntKind.i64.wrap ((l1:Int)+(sz:Int))=(l1:Int)+(sz:Int):=by rw[LE];omega
 have e4:IntKind.u64.wrap ((l1:Int)+(sz:Int))=(l1:Int)+(sz:Int):=Yz _ (by omega) (by omega)
 have e5:IntKind.u64.wrap ((m1:Int)*40)=(m1:Int)*40:=Yz _ (by omega) (by omega)
 have H5:Hid (∀W a b c d e,Below w.heap.size w W->Below w.heap.size w (((((W.setCell ⟨bo,0,none⟩ a).setCell ⟨bo,1,none⟩ b).setCell ⟨bo,2,none⟩ c).setCell ⟨bo,3,none⟩ d).setCell ⟨bo,4,none⟩ e)):=fun W a b c d e hW=>Qpt hW (by omega) a b c d e
 have HC5:Hid (∀W a b c d e,Below w.heap.size w W->(((((W.setCell ⟨bo,0,none⟩ a).setCell ⟨bo,1,none⟩ b).setCell ⟨bo,2,none⟩ c).setCell ⟨bo,3,none⟩ d).setCell ⟨bo,4,none⟩ e).cell? ⟨q,1,none⟩=some (.int .i64 k)∧(((((W.setCell ⟨bo,0,none⟩ a).setCell ⟨bo,1,none⟩ b).setCell ⟨bo,2,none⟩ c).setCell ⟨bo,3,none⟩ d).setCell ⟨bo,4,none⟩ e).cell? ⟨q,2,none⟩=some (.slice ea n ec)∧(((((W.setCell ⟨bo,0,none⟩ a).setCell ⟨bo,1,none⟩ b).setCell ⟨bo,2,none⟩ c).setCell ⟨bo,3,none⟩ d).setCell ⟨bo,4,none⟩ e).cell? ⟨q,3,none⟩=some (.int .u32 cc)):=fun W a b c d e hW=>HC.out _ (H5.out W a b c d e hW)
 have HW:=Qc hw1;have HB:=Qc hbo;have hco:w1.heap[bo]? = some (.cells #[.int .i64 0,.int .u64 0,.int .u64 0,.int .u64 0,.int .u32 0] 209 (0,0)):=by rw[<-hw1,<-hbo];exact U7 _ _
 have HO:Hid (∀W,Below w1.drew.heap.size w1.drew W -> ∀j,W.frozen? ⟨bo,j,none⟩=false):=fun W hW j=>frozen_of_row W bo j _ _ ((hW.block bo (Array.getElem?_eq_some_iff.1 hco).1).trans hco)
 have HP:Hid (∀W,Below w1.drew.heap.size w1.drew W->W.heap[bo]? = some (.cells #[.int .i64 0,.int .u64 0,.int .u64 0,.int .u64 0,.int .u32 0] 209 (0,0))):=fun W hW=>(hW.block bo (Array.getElem?_eq_some_iff.1 hco).1).trans hco
 clear hco;clear hw1 hbo
 go_enter func131,ntmps131
 go_upto_region 1 with (fail)
 rw[HW.out,HB.out];have u:=bdw u1
 go_region_held3 (fun Z=>Z.cell? ⟨q,1,none⟩=some (.int .i64 k)∧Z.cell? ⟨q,2,none⟩=some (.slice ea n ec)∧Z.cell? ⟨q,3,none⟩=some (.int .u32 cc)) (first|assumption|(with_reducible exact HC5.out _ _ _ _ _ _ u)|(with_reducible exact HC.out _ u)) (first
  | (go_at_call 51;(with_reducible refine(HS.out _ u).mono ?_);rintro e w2 ⟨rfl,rfl⟩)
  | (go_at_call 117;(with_reducible refine(HL.out _ u).mono ?_);rintro e w2 ⟨rfl,rfl⟩)
  | (go_at_call 184;(with_reducible refine(HN.out _).mono ?_);rintro e w2 ⟨rfl,rfl⟩)
  | (go_at_call 198;(with_reducible refine(HK.out _ u).mono ?_);rintro e w2 ⟨rfl,u,u2⟩;have hfz:=HO.out _ u2;have ⟨b0,b1,b2,b3,b4⟩:=Yu (HP.out _ u2)))
 all_goals
  have z5:=H5.out w2 (.int .i64 k) (.int .u64 ((n:Int)+1)) (.int .u64 ((l1:Int)+(sz:Int))) (.int .u64 ((m1:Int)*40)) (.int .u32 cv) u;have z6:=Yu (Qm5 (HP.out _ u2) (.int .i64 k) (.int .u64 ((n:Int)+1)) (.int .u64 ((l1:Int)+(sz:Int))) (.int .u64 ((m1:Int)*40)) (.int .u32 cv));clear H5 HC5 HC HS HL HN HK HO HP hfz b0 b1 b2 b3 b4;generalize (((((w2.setCell ⟨bo,0,none⟩ (.int .i64 k)).setCell ⟨bo,1,none⟩ (.int .u64 ((n:Int)+1))).setCell ⟨bo,2,none⟩ (.int .u64 ((l1:Int)+(sz:Int)))).setCell ⟨bo,3,none⟩ (.int .u64 ((m1:Int)*40))).setCell ⟨bo,4,none⟩ (.int .u32 cv))=wz at *;obtain⟨y0,y1,y2,y3,y4⟩:=z6
  repeat go_step
  exact LA (v := .agg #[.int .i64 k,.int .u64 ((n:Int)+1),.int .u64 ((l1:Int)+(sz:Int)),.int .u64 ((m1:Int)*40),.int .u32 cv]) (by simp[results,results131,go_sem,y0,y1,y2,y3,y4]) rfl ⟨rfl,z5⟩
end
end St
namespace St
open Go.Shelf
def Tryz.lays156_ren:Go.Shelf.Ren:=⟨fun|156=>135|165=>200|166=>201|169=>202|240=>234|241=>235|276=>246|277=>247|n=>n,fun|31=>22|9=>9|3=>3|4=>4|0=>0|20=>20|72=>274|76=>278|70=>272|37=>83|75=>277|127=>303|164=>220|5=>5|80=>280|n=>n,fun|n=>n⟩
theorem Tryz.lays156:Go.Proofs.Lays.n156 prog Tryz.lays156_ren := {
 mixed:=by kernel_rfl
 f156:=func135.trans (LZ some (by kernel_rfl))
 f165:=func200.trans (LZ some (by kernel_rfl))
 f166:=func201.trans (LZ some (by kernel_rfl))
 f169:=func202.trans (LZ some (by kernel_rfl))
 f240:=func234.trans (LZ some (by kernel_rfl))
 f241:=func235.trans (LZ some (by kernel_rfl))
 f276:=func246.trans (LZ some (by kernel_rfl))
 f277:=func247.trans (LZ some (by kernel_rfl))
 t0:=underlying0
 a0:=Tryz.isAgg0
 z0:=Tryz.sizeOf0
 v0:=Tryz.zeroValue0
 t3:=underlying3
 a3:=Tryz.isAgg3
 z3:=Tryz.sizeOf3
 v3:=Tryz.zeroValue3
 t4:=underlying4
 a4:=Tryz.isAgg4
 z4:=Tryz.sizeOf4
 v4:=Tryz.zeroValue4
 t9:=underlying9
 a9:=Tryz.isAgg9
 z9:=Tryz.sizeOf9
 v9:=Tryz.zeroValue9
 t20:=underlying20
 a20:=Tryz.isAgg20
 z20:=Tryz.sizeOf20
 v20:=Tryz.zeroValue20
 t31:=underlying22
 a31:=Tryz.isAgg22
 z31:=Tryz.sizeOf22
 v31:=Tryz.zeroValue22
 t37:=underlying83
 a37:=Tryz.isAgg83
 z37:=Tryz.sizeOf83
 v37:=Tryz.zeroValue83
 t70:=underlying272
 a70:=Tryz.isAgg272
 z70:=Tryz.sizeOf272
 v70:=Tryz.zeroValue272
 t72:=underlying274
 a72:=Tryz.isAgg274
 z72:=Tryz.sizeOf274
 v72:=Tryz.zeroValue274
 t75:=underlying277
 a75:=Tryz.isAgg277
 z75:=Tryz.sizeOf277
 v75:=Tryz.zeroValue277
 t76:=underlying278
 a76:=Tryz.isAgg278
 z76:=Tryz.sizeOf278
 v76:=Tryz.zeroValue278
 t127:=underlying303
 a127:=Tryz.isAgg303
 z127:=Tryz.sizeOf303
 v127:=Tryz.zeroValue303
 t164:=underlying220
 a164:=Tryz.isAgg220
 z164:=Tryz.sizeOf220
 v164:=Tryz.zeroValue220 }
theorem Tryz.Builder_Extra_156:Builder.Extra prog Tryz.lays156_ren := {
 sizeBuilder:=by kernel_rfl
 liesBuilder:=by kernel_rfl
 t5:=underlying5
 a5:=Tryz.isAgg5
 z5:=Tryz.sizeOf5
 v5:=Tryz.zeroValue5
 infoByte:=by kernel_rfl
 cellsByte:=by kernel_rfl
 sizeByte:=by kernel_rfl
 neB5:=by decide }
open Go.RowKit in
theorem Tryz.strings_Join_none(a:OA)(c:Nat)(sep:BA)(w:World) :
  Calls prog 135 #[.slice a 0 c,.string sep] w fun e w'=>e= .returned (.string ⟨#[]⟩)∧w'=w:=Any.strings_Join_none Tryz.lays156 Tryz.Builder_Extra_156 a c sep w
open Go.RowKit in
theorem Tryz.strings_Join(bk o c:Nat)(xs:LB)(sep:BA)(w:World)(hcells:∀(j:Nat) x,xs[j]? = some x->w.cell? ⟨bk,o+j,none⟩=some (.string x))(hbk:bk<w.heap.size)(hN:xs.length<=140737488355328)(hcap:xs.length<=c)(hlen:(Lib.join (xs.map (·.data.toList)) sep.data.toList).length<=140737488355328) :
  Calls prog 135 #[.slice (some ⟨bk,o,none⟩) xs.length c,.string sep] w fun e w'=>e= .returned (.string ⟨(Lib.join (xs.map (·.data.toList)) sep.data.toList).toArray⟩)∧Below w.heap.size w w':=Any.strings_Join Tryz.lays156 Tryz.Builder_Extra_156 bk o c xs sep w hcells hbk hN hcap hlen
end St
end Go.Proofs.YtoblgjledefdbabGreatDoor
