/- Own work. -/
import Derived.Test.YtoblgjledefdbaaGreatDoorQm20
set_option maxRecDepth 100000
namespace Go.Proofs.YtoblgjledefdbaaGreatDoor
open Go.RowKit
attribute [local go_sem ↓] Go.wp_at_zero Go.wp_at_succ
open Go.Proofs.Tryz
namespace St
open Rc
section
variable {q p:Nat} {T:Nat->Prop} {D:DV} {S:SV}
theorem Uk(n:Nat)(h:n<=65536):nn n<=nn (n+1)∧nn (n+1)<=131074∧nn (n+1)<=nn n+41:=by
 have hb:=Od (n+1);unfold nn at hb ⊢;obtain⟨t,xA,h1,h2⟩ : ∃t,t<=40∧n % Pl.pw t=Pl.pw t - 1 ∧ ¬n / Pl.pw t % 2=1:=by
  suffices hh : ∀f t,t+f=40->n % Pl.pw t=Pl.pw t - 1 -> ∃t,t<=40∧n % Pl.pw t=Pl.pw t - 1 ∧ ¬n / Pl.pw t % 2=1 from hh 40 0 rfl (by rw[Pl.OZ];omega)
  intro f
  induction f with
  | zero=>intro t ht h0;exact⟨t,by omega,h0,by rw[Ii (Lx (show n<2^20 by omega) (Pl.OY (a:=20) (by omega)))];decide⟩
  | succ f ih =>
   intro t ht h0
   by_cases ho:n / Pl.pw t % 2=1
   ·exact ih (t+1) (by omega) (Pl.Qce t n h0 ho)
   ·exact⟨t,by omega,h0,ho⟩
 rw[Pl.new_N t n h1 h2 (by omega)] at hb ⊢
 omega
theorem Qdt(S:SV)(ds:LB):nxt S ds=true↔ds.length=nn (S.ends.length+1) - nn S.ends.length ∧ ∀d∈ds,d.size=S.k:=by
 simp[nxt]
theorem QaH(w:World)(h:Sk w q p T D S)(hfew:S.ends.length<65536)(ao:OA)(b off len cap:Nat)(ds:LB)(hr:Rc.RdS w ao b off len ds)(hmx:len<=9223372036854775807)(r:Bool)(hR:nxt S ds=r) :
  Calls prog 262 #[.pointer (some ⟨q,0,none⟩),.slice ao len cap] w fun e w'=>e = .returned (.bool r)∧w'=w:=by
 obtain⟨ea,ec,⟨c0,c1,c2,c3,c4⟩,_⟩:=h.cells;obtain⟨xL,xM,hf,_⟩:=h.small;have hm:=Uk S.ends.length hf;have HN:Hid (Calls prog 245 #[.int .i64 (S.ends.length:Int)] w fun e w'=>e = .returned (.int .u64 (nn S.ends.length:Int))∧w'=w):=Q3 w S.ends.length (by omega)
 have xE:Hid (Calls prog 245 #[.int .i64 ((S.ends.length:Int)+1)] w fun e w'=>e = .returned (.int .u64 (nn (S.ends.length+1):Int))∧w'=w):=by
  have:=Q3 w (S.ends.length+1) (by omega)
  rw[IK] at this;exact this
 have hx:nxt S ds=true↔len=nn (S.ends.length+1) - nn S.ends.length ∧ ∀d∈ds,d.size=S.k:=by rw[Qdt,hr.hl]
 clear h;generalize nxt S ds=x0 at *;subst hR;generalize nn (S.ends.length+1)=m1 at *;generalize nn S.ends.length=m0 at *;generalize S.k=k at *;generalize S.ends.length=n at *;have e1:IntKind.i64.wrap ((n:Int)+1)=(n:Int)+1:=by rw[Lr];omega
 have e2:IntKind.u64.wrap (len:Int)=(len:Int):=YD _ (by omega) (by omega)
 have e3:IntKind.u64.wrap ((m1:Int) - (m0:Int))=((m1 - m0:Nat):Int):=by rw[YD _ (by omega) (by omega)];omega
 by_cases hl:len=m1 - m0
 ·have hd:(((len:Int)) != ((m1 - m0:Nat):Int))=false:=by simp[hl]
  have xG:((len:Int))=((m1 - m0:Nat):Int):=by omega
  generalize m1 - m0=m at *;subst hl
  go_enter func262,ntmps262
  go_wp2_with (go_at_call 245;first|((with_reducible refine HN.out.mono ?_);rintro e w1 ⟨rfl,rfl⟩)|((with_reducible refine xE.out.mono ?_);rintro e w1 ⟨rfl,rfl⟩))
  go_loopg [25] len (fun g x wr => ∃j:Nat,j<=len∧g=len - j∧x = .int .i64 (j:Int)∧Hid (∀d∈ds.take j,d.size=k)∧wr=w1)
  case atStart=>go_light;exact⟨0,Ll _,rfl,rfl,fun d hd=>by simp at hd,rfl⟩
  case round =>
   obtain⟨j,hj,rfl,rfl,HA,rfl⟩:=hrel
   by_cases hlt:j<len
   ·have hz:(j:Int)<(len:Int):=by omega
    obtain rfl:=hr.ptr (by omega)
    have ck:=hr.at hlt;have hw:IntKind.i64.wrap ((j:Int)+1)=(j:Int)+1:=by rw[Lr];omega
    obtain⟨d,xA⟩:=Ze (ds.getD j ByteArray.empty);have xB:j<ds.length:=by rw[hr.hl];exact hlt
    have xJ:d∈ds:=by rw[<-xA,Ld,Lh xB];exact L3 _
    have xC:ds.take (j+1)=ds.take j++[d]:=by rw[<-xA,LR xB,Ld,Lh xB];rfl
    rw[xA] at ck
    by_cases he:d.size=k
    ·have xH:((d.size:Int) != (k:Int))=false:=by simp[he]
     have xI:(d.size:Int)=(k:Int):=by omega
     have xF:Hid (∀d∈ds.take (j+1),d.size=k):=fun y hy=>by
      rw[xC] at hy
      rcases List.mem_append.1 hy with h|h
      ·exact HA.out y h
      ·rw[List.mem_singleton.1 h];exact he
     clear hr hx HA xC;go_wp2
     go_roundg (len - (j+1))
     case rel=>go_light;exact⟨j+1,by omega,rfl,by go_num,xF,rfl⟩
     case measure=>go_light;omega
    ·have xH:((d.size:Int) != (k:Int))=true:=by simp;omega
     have xI : ¬(d.size:Int)=(k:Int):=by omega
     have xD:x0=false:=by
      cases x0 with
      | false=>rfl
      | true=>exact absurd ((hx.1 rfl).2 d xJ) he
     subst xD;clear hr hx HA xC;go_wp2
     go_ret
     first|exact⟨rfl,rfl⟩|exact⟨trivial,rfl⟩
   ·have hz : ¬(j:Int)<(len:Int):=by omega
    have xK:x0=true:=hx.2 ⟨by trivial,fun d hd=>HA.out d (by rw[Lo (by rw[hr.hl];omega)];exact hd)⟩
    subst xK;clear hr hx HA;go_wp2
    go_ret
    exact⟨rfl,rfl⟩
 ·have hd:(((len:Int)) != ((m1 - m0:Nat):Int))=true:=by simp;omega
  have xG : ¬((len:Int))=((m1 - m0:Nat):Int):=by omega
  have xD:x0=false:=by
   cases x0 with
   | false=>rfl
   | true=>exact absurd (hx.1 rfl).1 hl
  subst xD;generalize m1 - m0=m at *;clear hx
  go_enter func262,ntmps262
  go_wp2_with (go_at_call 245;first|((with_reducible refine HN.out.mono ?_);rintro e w1 ⟨rfl,rfl⟩)|((with_reducible refine xE.out.mono ?_);rintro e w1 ⟨rfl,rfl⟩))
  go_ret
  exact⟨rfl,rfl⟩
def refE(S:SV)(item:List UInt8)(ds:LB):Int :=
 if S.lame then 191 else if 1048576<item.length then 100 else if 65536<=S.ends.length then 101 else if nxt S ds=false then 192 else 0
theorem Qe4(w:World)(h:Sk w q p T D S)(s:BA)(hs:s.size<=9223372036854775807)(ao:OA)(b off len cap:Nat)(ds:LB)(hr:Rc.RdS w ao b off len ds)(hmx:len<=9223372036854775807)(r:Int)(hR:refE S s.data.toList ds=r) :
  Calls prog 166 #[.pointer (some ⟨q,0,none⟩),.string s,.slice ao len cap] w fun e w'=>e = .returned (.int .i64 r)∧w'=w:=by
 obtain⟨ea,ec,⟨c0,c1,c2,c3,c4⟩,_⟩:=h.cells;obtain⟨xB,xC,hf,_⟩:=h.small;unfold refE at hR;rw[Qb] at hR
 by_cases h1:S.lame=true
 ·rw[Lk h1] at hR;subst hR;rw[h1] at c4;clear h hr
  go_enter func166,ntmps166;go_wp2
  go_ret
  exact⟨rfl,rfl⟩
 ·rw[Le h1] at hR;rw[Bool.eq_false_iff.2 h1] at c4
  by_cases h2:1048576<s.size
  ·rw[Lk h2] at hR;subst hR;have hd:(1048576:Int)<(s.size:Int):=by omega
   clear h hr
   go_enter func166,ntmps166;go_wp2
   go_ret
   exact⟨rfl,rfl⟩
  ·rw[Le h2] at hR;have hd : ¬(1048576:Int)<(s.size:Int):=by omega
   by_cases h3:65536<=S.ends.length
   ·rw[Lk h3] at hR;subst hR;have xA:(65536:Int)<=(S.ends.length:Int):=by omega
    generalize S.ends.length=n at *;clear h hr
    go_enter func166,ntmps166;go_wp2
    go_ret
    exact⟨rfl,rfl⟩
   ·rw[Le h3] at hR;have xA : ¬(65536:Int)<=(S.ends.length:Int):=by omega
    by_cases h4:nxt S ds=false
    ·rw[Lk h4] at hR;subst hR;have HN:=Qd (QaH w h (by omega) ao b off len cap ds hr hmx _ h4)
     generalize S.ends.length=n at *;clear h hr
     go_enter func166,ntmps166
     go_wp2_with (go_at_call 262;refine HN.out.mono ?_;rintro e w1 ⟨rfl,rfl⟩)
     go_ret
     exact⟨rfl,rfl⟩
    ·rw[Le h4] at hR;subst hR;have HN:=Qd (QaH w h (by omega) ao b off len cap ds hr hmx true (by simpa using h4))
     generalize S.ends.length=n at *;clear h hr
     go_enter func166,ntmps166
     go_wp2_with (go_at_call 262;refine HN.out.mono ?_;rintro e w1 ⟨rfl,rfl⟩)
     go_ret
     exact⟨rfl,rfl⟩
end
theorem QfX(n:Nat)(hn:n<=8796093021952)(u:World):(Instr.makeSlice 22 (.int .i64 (n:Int)) (.int .i64 (n:Int))).run prog u = .ok (.slice (some ⟨u.heap.size,0,none⟩) n n) (u.alloc (.cells (Array.replicate n (Value.string ByteArray.empty)) 9)):=by
 have:=run_make_row' (P:=prog) 22 9 (.string ByteArray.empty) 16 underlying22 Rc.Tryz.infoS rfl .i64 .i64 n (by omega) (by omega) u
 rw[this,Rc.Y5]
theorem Qiu(w:World)(n:Nat)(hn:n<=8796093021952):Rc.Qi (w.alloc (.cells (Array.replicate n (Value.string ByteArray.empty)) 9)) w.heap.size (.slice (some ⟨w.heap.size,0,none⟩) n n) (List.replicate n ByteArray.empty):=by
 refine⟨by simp,.inr ⟨w.heap.size,n,Array.replicate n (Value.string ByteArray.empty),by simp,La _,Yq _ _,by simp,by unfold maxLen;omega,by simp,by simp⟩⟩
theorem Jz(p:Nat)(ds:LB):(Q5 p ds).length=ds.length:=by simp[Q5]
theorem QiA(p:Nat)(ds:LB)(d:BA):Q5 p (ds++[d])=Q5 p ds++[tx (nod (p+ds.length) d.data.toList)]:=by simp[Q5]
theorem Qds(w:World){q p:Nat}{T:Nat->Prop}{D:DV}{S:SV}(h:Sk w q p T D S)(ao:OA)(b off len cap:Nat)(ds:LB)(hr:Rc.RdS w ao b off len ds)(hmx:len<=1000)(h32 : ∀d∈ds,d.size<=32) :
  Calls prog 168 #[.pointer (some ⟨q,0,none⟩),.slice ao len cap] w fun e w' => ∃v,e = .returned v∧Rc.Qi w' w.heap.size v (Q5 (nn S.ends.length) ds)∧Below w.heap.size w w':=by
 obtain⟨ea,ec,⟨c0,c1,c2,c3,c4⟩,_⟩:=h.cells;obtain⟨xM,xN,hf,_⟩:=h.small;have HN:=Qd (Q3 w S.ends.length (by omega))
 have hb:=Od S.ends.length;clear h;generalize nn S.ends.length=m at *;generalize S.ends.length=n at *;have HM:=QfX len (by omega) w
 have HO:=Qd (Qiu w len (by omega))
 have u0:Below w.heap.size w (w.alloc (.cells (Array.replicate len (Value.string ByteArray.empty)) 9)):=bal (Lb _ _) _;have HU:=Qd u0;obtain⟨w1,xH⟩:=Ze (w.alloc (.cells (Array.replicate len (Value.string ByteArray.empty)) 9));rw[xH] at HM HO HU;clear xH u0;obtain⟨g,hg⟩:=Ze w.heap.size;have HG:=Qd hg;rw[hg] at HM HO;have HB:Hid (∀W,Below w.heap.size w W->Rc.RdS W ao b off len ds):=fun W hW=>hr.next hW (La _)
 have hl:=hr.hl;have hp:=hr.ptr;clear hg hr
 go_enter func168,ntmps168
 go_wp2_with (go_at_call 245;refine HN.out.mono ?_;rintro e w2 ⟨rfl,rfl⟩)
 go_loopg [20] len (fun g' x wr => ∃j:Nat,j<=len∧g'=len - j∧x = .int .i64 (j:Int)∧Hid (Rc.Qi wr g (.slice (some ⟨g,0,none⟩) len len) (Q5 m (ds.take j)++List.replicate (len - j) ByteArray.empty))∧Hid (Below w2.heap.size w2 wr))
 case atStart=>go_light;exact⟨0,Ll _,rfl,rfl,HO,HU⟩
 case round =>
  obtain⟨j,hj,rfl,rfl,HA,HW⟩:=hrel
  by_cases hlt:j<len
  ·have hz:(j:Int)<(len:Int):=by omega
   obtain rfl:=hp (by omega)
   have ck:=(HB.out _ HW.out).at hlt;obtain⟨d,xA⟩:=Ze (ds.getD j ByteArray.empty);have xD:j<ds.length:=by omega
   have xI:d∈ds:=by rw[<-xA,Ld,Lh xD];exact L3 _
   have xF:ds.take (j+1)=ds.take j++[d]:=by rw[<-xA,LR xD,Ld,Lh xD];rfl
   rw[xA] at ck;have hw:IntKind.i64.wrap ((j:Int)+1)=(j:Int)+1:=by rw[Lr];omega
   have xO:IntKind.u64.wrap (j:Int)=(j:Int):=YD _ (by omega) (by omega)
   have xP:IntKind.u64.wrap ((m:Int)+(j:Int))=((m+j:Nat):Int):=by rw[YD _ (by omega) (by omega)];omega
   have xC:=h32 d xI;obtain⟨tn,xG⟩:=Ze (tx (nod (m+j) d.data.toList));have HC:Hid (Calls prog 266 #[.int .u64 ((m+j:Nat):Int),.string d] wr fun e w'=>e = .returned (.string tn)∧Below wr.heap.size wr w'):=Rc.Ju wr (m+j) (by omega) d (by omega) tn (by rw[nodS,Qb,Lk xC];exact xG)
   have xB:Hid (∀W,Below wr.heap.size wr W->(W.frozen? ⟨g,j,none⟩=false ∧ ∃x,W.cell? ⟨g,j,none⟩=some (.string x))∧Rc.Qi (W.setCell ⟨g,j,none⟩ (.string tn)) g (.slice (some ⟨g,0,none⟩) len len) (Q5 m (ds.take (j+1))++List.replicate (len - (j+1)) ByteArray.empty)∧Below w2.heap.size w2 (W.setCell ⟨g,j,none⟩ (.string tn))):=fun W hW=>by
    have ho:=Rc.Qv HA.out hW (La _);have xL:j<(Q5 m (ds.take j)++List.replicate (len - j) ByteArray.empty).length:=by simp[Jz];omega
    have xE:=Rc.Ur ho xL;refine⟨⟨xE.2,_,xE.1⟩,?_,(Qa HW.out hW).setCell (by rw[HG.out];exact La _) _⟩
    have:=QmC ho j tn;have xJ:(Q5 m (ds.take j)).length=j:=by rw[Jz,Lz];omega
    have xK:(ds.take j).length=j:=by rw[Lz];omega
    rw[xF,QiA,xK,xG,show len - j=(len - (j+1))+1 by omega,IR] at *
    rw[L4 _ _ (by omega),xJ,Il,List.set_cons_zero] at this
    rw[Lq];exact this
   clear HA HW xF HB xA
   go_wp2_with (go_at_call 266;refine HC.out.mono ?_;rintro e w3 ⟨rfl,u3⟩;have ⟨⟨f1,x1,f2⟩,_⟩:=xB.out _ u3)
   go_roundg (len - (j+1))
   case rel=>go_light;exact⟨j+1,by omega,rfl,by go_num,(xB.out _ u3).2.1,(xB.out _ u3).2.2⟩
   case measure=>go_light;omega
  ·have hz : ¬(j:Int)<(len:Int):=by omega
   have HZ:Hid (Rc.Qi wr w2.heap.size (.slice (some ⟨g,0,none⟩) len len) (Q5 m ds)∧Below w2.heap.size w2 wr):=by
    have:=HA.out;rw[Lo (by omega),show len - j=0 by omega,List.replicate_zero,LS] at this
    exact⟨by rw[HG.out];exact this,HW.out⟩
   clear HA HW HB;go_wp2
   go_ret
   exact⟨_,rfl,HZ.out⟩
end St
namespace St
def tot:List (List UInt8×FV)->Nat
 | []=>0
 | (_,f)::r=>f.now.length+tot r
theorem Qks{x:List UInt8×FV}{r:List (List UInt8×FV)}(h:Ord (x::r)):Ord r:=⟨(List.pairwise_cons.1 h.1).2,fun p hp=>h.2 p (LT _ hp)⟩
theorem Qaf : ∀ {L:List (List UInt8×FV)} (_:Ord L) (s:List UInt8) (f:FV),tot (QW L s f)+(Qe L s).now.length=tot L+f.now.length
 | [],_,s,f=>by
  rw[QW,Qe]
  split
  ·rename_i h;have:=UM.1 h;simp only[tot,fz];simp;omega
  ·simp[tot,fz]
 | (t,g)::r,h,s,f=>by
  rw[QW,Qe]
  by_cases e:t=s
  ·rw[Lk e,Lk e]
   split
   ·rename_i hg;have:=UM.1 hg;simp only[tot];omega
   ·simp only[tot];omega
  ·rw[Le e,Le e]
   by_cases e2:s<t
   ·rw[Lk e2];have hn:Qe r s=fz:=by
     apply YE
     intro hm;obtain⟨p,hp,xA⟩:=List.mem_map.1 hm;have h3:=(List.pairwise_cons.1 h.1).1 p hp;have h4:t<s:=by rw[<-xA];exact h3
     exact N5 _ (I5 h4 e2)
    rw[hn]
    split
    ·rename_i hg;have:=UM.1 hg;rw[this.1];rfl
    ·simp only[tot,fz];simp;omega
   ·rw[Le e2];have:=Qaf (Qks h) s f;simp only[tot];omega
theorem Qft{D:DV}(h:D.fk=0)(s:List UInt8)(f:FV):Ui D s f=(Q9 { D with acts:=D.acts+1 } s f,0):=by
 have e:Yt { D with acts:=D.acts+1 } = ({ D with acts:=D.acts+1 },0,[]):=by
  unfold Yt;exact Lk h
 unfold Ui;rw[e]
 rfl
theorem U6{α:Type}{P:List α->Prop}(h0:P [])(hs : ∀l x,P l->P (l++[x]))(l:List α):P l:=by
 rw[<-List.reverse_reverse l]
 induction l.reverse with
 | nil=>exact h0
 | cons x r ih=>rw[Id];exact hs _ _ ih
section
variable {D E:DV} {at_ k j:Nat} {ks:List Bool}
end
section
variable {D:DV} {l:List (List UInt8×List UInt8)} {n:Nat}
end
end St
namespace St
open Rc
abbrev It:=List UInt8×LB
structure BV where
 ends:List Nat
 chain:BitVec 32
 a:List UInt8
 b:List UInt8
 m:List UInt8
def BV.z:BV:=⟨[],0#32,[],[],[]⟩
def BV.mk'(k:Nat)(B:BV)(x:It):MV:=nxM k B.ends B.chain (pay x.1) (Q5 (nn B.ends.length) x.2)
def BV.ad(k:Nat)(B:BV)(x:It):BV:=⟨B.ends++[(B.mk' k x).items],(B.mk' k x).chain,B.a++pay x.1,B.b++Rc.Qk (Q5 (nn B.ends.length) x.2),B.m++mrk (B.mk' k x)⟩
def bA(k:Nat)(A:List It):BV:=A.foldl (BV.ad k) BV.z
theorem Yl(k:Nat)(A:List It)(x:It):bA k (A++[x])=(bA k A).ad k x:=by simp[bA]
def sA(k:Nat)(A:List It):SV:=⟨k,(bA k A).ends,(bA k A).chain,false⟩
structure OkI(k n:Nat)(x:It):Prop where
 len:x.1.length<=1048576
 cnt:x.2.length=nn (n+1) - nn n
 sz : ∀d∈x.2,d.size=k
structure OkA(k:Nat)(A:List It):Prop where
 k1:1<=k
 k2:k<=32
 few:A.length<=65536
 it : ∀i x,A[i]? = some x->OkI k i x
theorem Qmv{k:Nat}(h1:1<=k)(h2:k<=32):OkA k []:=⟨h1,h2,by simp,fun i x h=>by simp at h⟩
theorem OkA.init{k:Nat}{A:List It}{x:It}(h:OkA k (A++[x])):OkA k A :=
 ⟨h.k1,h.k2,by have:=h.few;simp at this;omega,fun i y hy=>h.it i y (by rw[Ly (List.getElem?_eq_some_iff.1 hy).1];exact hy)⟩
theorem OkA.last{k:Nat}{A:List It}{x:It}(h:OkA k (A++[x])):OkI k A.length x:=h.it A.length x (by simp)
theorem OkA.take{k:Nat}{A:List It}(h:OkA k A)(j:Nat):OkA k (A.take j) :=
 ⟨h.k1,h.k2,by have:=h.few;rw[Lz];omega,fun i y hy=>h.it i y (by rw[LQ] at hy;split at hy;exact hy;cases hy)⟩
theorem YF(x:BA)(l:LB):Rc.Qk (x::l)=x.data.toList++Rc.Qk l:=by simp[Rc.Qk]
theorem QcN(p:Nat)(d:BA)(ds:LB):Q5 p (d::ds)=tx (nod p d.data.toList)::Q5 (p+1) ds:=by
 have e:(fun(i:Nat) (d:BA)=>tx (nod (p+(i+1)) d.data.toList))=fun i d=>tx (nod (p+1+i) d.data.toList):=by
  funext i d
  rw[show p+(i+1)=p+1+i by omega]
 simp[Q5,List.mapIdx_cons,e]
theorem Oa(p:Nat)(ds:LB)(h : ∀d∈ds,d.size<=32):(Rc.Qk (Q5 p ds)).length=40*ds.length:=by
 induction ds generalizing p with
 | nil=>rfl
 | cons d ds ih =>
  rw[QcN,YF,Lc,ih (p+1) (fun x hx=>h x (LT _ hx)),Jc,OS _ _ (by rw[Qb];exact h d (by simp)),LE]
  omega
structure LenA(k:Nat)(A:List It):Prop where
 ends:(bA k A).ends.length=A.length
 lst:lst (bA k A).ends=(bA k A).a.length
 a:(bA k A).a.length<=1048584*A.length
 b:(bA k A).b.length=40*nn A.length
 m:(bA k A).m.length=64*A.length
theorem Qkd(l:List Nat)(x:Nat):lst (l++[x])=x:=by simp[lst]
theorem OkA.lens{k:Nat}{A:List It} : OkA k A->LenA k A:=by
 refine U6 (P:=fun A=>OkA k A->LenA k A) (fun _=>⟨rfl,rfl,La _,rfl,rfl⟩) (fun A x ih h => ?_) A
 have l:=ih h.init;have hx:=h.last;have hf:=h.few;simp only[List.length_append,List.length_cons,List.length_nil] at hf;have hm:=Uk A.length (by omega)
 have e:(bA k (A++[x]))=(bA k A).ad k x:=Yl k A x;have ei:((bA k A).mk' k x).items=(bA k A).a.length+(x.1.length+8):=by
  show Go.Proofs.YtoblgjledefdbaaGreatDoor.St.lst (bA k A).ends+(pay x.1).length=_
  rw[l.lst,pay_len]
 refine⟨?_,?_,?_,?_,?_⟩
 ·rw[e];simp[BV.ad,l.ends]
 ·rw[e]
  show Go.Proofs.YtoblgjledefdbaaGreatDoor.St.lst ((bA k A).ends++[((bA k A).mk' k x).items])=((bA k A).a++pay x.1).length
  rw[Qkd,ei,Lc,pay_len]
 ·rw[e]
  show((bA k A).a++pay x.1).length<=_
  have:=l.a;have:=hx.len;rw[Lc,pay_len,Lc];simp only[List.length_cons,List.length_nil];omega
 ·rw[e]
  show((bA k A).b++Rc.Qk (Q5 (nn (bA k A).ends.length) x.2)).length=_
  rw[Lc,Oa _ _ (fun d hd=>by rw[hx.sz d hd];exact h.k2),l.b,hx.cnt,Lc]
  simp only[List.length_cons,List.length_nil,Nat.zero_add];omega
 ·rw[e]
  show((bA k A).m++mrk ((bA k A).mk' k x)).length=_
  rw[Lc,Qdn _ ⟨by show(1:Int)<=(k:Int);have:=h.k1;omega,by show(k:Int)<=32;have:=h.k2;omega⟩,l.m,Lc]
  simp only[List.length_cons,List.length_nil];omega
theorem QnM(k:Nat)(A B:List It):(bA k A).a <+: (bA k (A++B)).a∧(bA k A).b <+: (bA k (A++B)).b∧(bA k A).m <+: (bA k (A++B)).m:=by
 refine U6 (P:=fun B=>(bA k A).a <+: (bA k (A++B)).a∧(bA k A).b <+: (bA k (A++B)).b∧(bA k A).m <+: (bA k (A++B)).m) (by simp) (fun B x ih => ?_) B
 rw[<-Lq,Yl];exact⟨ih.1.trans (NR _ _),ih.2.1.trans (NR _ _),ih.2.2.trans (NR _ _)⟩
theorem QaT(k:Nat)(A:List It)(j:Nat):(bA k (A.take j)).a <+: (bA k A).a∧(bA k (A.take j)).b <+: (bA k A).b∧(bA k (A.take j)).m <+: (bA k A).m:=by
 have:=QnM k (A.take j) (A.drop j)
 rwa [Nj] at this
theorem OkA.mvok{k:Nat}{A:List It}{x:It}(h:OkA k (A++[x])):((bA k A).mk' k x).Ok:=by
 have l:=h.init.lens;have hx:=h.last;have hf:=h.few;simp only[List.length_append,List.length_cons,List.length_nil] at hf;have hm:=Uk A.length (by omega)
 refine⟨by show(1:Int)<=(k:Int);have:=h.k1;omega,by show(k:Int)<=32;have:=h.k2;omega,?_,?_,?_⟩
 ·show(bA k A).ends.length+1<_;rw[l.ends];omega
 ·show lst (bA k A).ends+(pay x.1).length<_
  have:=l.a;have:=hx.len;rw[l.lst,pay_len];omega
 ·show nn ((bA k A).ends.length+1)*40<_;rw[l.ends];omega
theorem Qep(p:Nat)(ds:LB)(t:List UInt8)(h : ∀d∈ds,d.size<=32)(j:Nat)(d:BA)(hd:ds[j]? = some d):((Rc.Qk (Q5 p ds)++t).drop (40*j)).take 40=nod (p+j) d.data.toList:=by
 induction ds generalizing p j with
 | nil=>simp at hd
 | cons e ds ih =>
  rw[QcN,YF,Jc,Lq];have hl:(nod p e.data.toList).length=40:=OS _ _ (by rw[Qb];exact h e (by simp))
  cases j with
  | zero =>
   simp only[List.getElem?_cons_zero,Option.some.injEq] at hd
   subst hd;rw[Nat.mul_zero,ND,Lt (by omega),Lo (by omega),N8]
  | succ j =>
   simp only[List.getElem?_cons_succ] at hd
   rw[show 40*(j+1)=(nod p e.data.toList).length+40*j by omega,<-IB,ID,ih (p+1) (fun x hx=>h x (LT _ hx)) j hd,show p+1+j=p+(j+1) by omega]
theorem QeW(k:Nat)(b:List UInt8)(p:Nat)(ds:LB)(hk:k<=32)(h : ∀d∈ds,d.size=k)(t:List UInt8)(hb:b.drop (40*p)=Rc.Qk (Q5 p ds)++t)(hpl:40*p<=b.length) : ∀j,j<=ds.length->rdN k b p j=some ((Q5 p ds).take j)
 | 0,_=>rfl
 | j+1,hj=>by
  have h32 : ∀d∈ds,d.size<=32:=fun d hd=>by rw[h d hd];exact hk
  obtain⟨d,hd⟩ : ∃d,ds[j]? = some d:=⟨_,Lh (by omega)⟩
  have hrow:Yb b (p+j)=nod (p+j) d.data.toList:=by
   rw[Yb,show 40*(p+j)=40*p+40*j by omega,<-IB,hb]
   exact Qep p ds t h32 j d hd
  have xB:d∈ds:=NX hd;have xC:rnod k (p+j) (nod (p+j) d.data.toList)=some d.data.toList:=by
   have:=Qe7 (p+j) d.data.toList (by rw[Qb];exact h32 d xB)
   rwa [Qb,h d xB] at this
  have xA:40*(p+j)+40<=b.length:=by
   have e:=Lw List.length hb;rw[Nb,Lc,Oa p ds h32] at e;omega
  rw[rdN,QeW k b p ds hk h t hb hpl j (by omega)]
  simp only;rw[Lk ⟨xA,by rw[hrow,xC];rfl⟩,hrow]
  have e2:(Q5 p ds)[j]? = some (tx (nod (p+j) d.data.toList)):=by
   unfold Q5;rw[List.getElem?_mapIdx,hd];rfl
  rw[NH,e2];rfl
theorem QhD(x:List UInt8)(h:x.length<=1048576):whl (pay x)=true:=by
 have:=Qe9 x [] h;rw[LS] at this;unfold whl;rw[this];simp[pay_len]
theorem Qld{k:Nat}{A:List It}{x:It}(h:OkA k (A++[x])){I N:List UInt8}(hI:(bA k (A++[x])).a <+: I)(hN:(bA k (A++[x])).b <+: N) :
  tkN k I N ((bA k A).ends,(bA k A).chain) (mrk ((bA k A).mk' k x))=some ((bA k (A++[x])).ends,(bA k (A++[x])).chain):=by
 have l:=h.init.lens;have l2:=h.lens;have hx:=h.last;have hf:=h.few;simp only[List.length_append,List.length_cons,List.length_nil] at hf;have hm:=Uk A.length (by omega)
 obtain⟨tI,hI⟩:=hI;obtain⟨tN,hN⟩:=hN;rw[Yl] at hI hN;have ei:((bA k A).mk' k x).items=(bA k A).a.length+(x.1.length+8):=by
  show lst (bA k A).ends+(pay x.1).length=_
  rw[l.lst,pay_len]
 have hp:(I.drop (lst (bA k A).ends)).take (((bA k A).mk' k x).items - lst (bA k A).ends)=pay x.1:=by
  rw[ei,l.lst,<-hI]
  show List.take _ (List.drop _ (((bA k A).a++pay x.1)++tI))=_
  exact Oh _ _ _ _ _ rfl (by rw[pay_len];omega)
 have hb:N.drop (40*nn A.length)=Rc.Qk (Q5 (nn A.length) x.2)++tN:=by
  rw[<-hN,<-l.b]
  show List.drop _ (((bA k A).b++Rc.Qk (Q5 (nn (bA k A).ends.length) x.2))++tN)=_
  rw[Lq,ID,l.ends]
 have hr:=QeW k N (nn A.length) x.2 h.k2 hx.sz tN hb (by rw[<-hN,<-l.b];show _<=(((bA k A).b++Rc.Qk (Q5 (nn (bA k A).ends.length) x.2))++tN).length;simp only[List.length_append];omega) x.2.length (La _)
 rw[Lo (by rw[Jz];exact La _),hx.cnt] at hr
 have xA:I.length=(bA k A).a.length+(x.1.length+8)+tI.length:=by
  rw[<-hI]
  show(((bA k A).a++pay x.1)++tI).length=_
  simp only[List.length_append,pay_len]
 unfold tkN;rw[QkQ _ h.mvok];simp only;rw[Le (by
  rw[hp,QhD _ hx.len,ei,l.lst,l.ends];simp;omega),l.ends,hr]
 simp only;rw[hp,Lk (by unfold BV.mk';rw[l.ends]),Yl]
 rfl
theorem Qhl{k:Nat}{A:List It}{x:It}{M:List UInt8}(h:OkA k (A++[x]))(hM:(bA k (A++[x])).m <+: M):Uw M A.length=mrk ((bA k A).mk' k x):=by
 have l:=h.init.lens;obtain⟨t,hM⟩:=hM;rw[Uw,<-hM,Yl]
 show List.take _ (List.drop _ (((bA k A).m++mrk ((bA k A).mk' k x))++t))=_
 exact Oh _ _ _ _ _ l.m (Qdn _ ⟨by show(1:Int)<=(k:Int);have:=h.k1;omega,by show(k:Int)<=32;have:=h.k2;omega⟩)
theorem QcY(A:List It)(j:Nat)(hj:j<A.length):A.take (j+1)=A.take j++[A[j]]:=LR hj
theorem Qfj{k:Nat}{A:List It}(h:OkA k A){I N M:List UInt8}(hI:(bA k A).a <+: I)(hN:(bA k A).b <+: N)(hM:(bA k A).m <+: M) : ∀j,j<=A.length->tkA k I N M j=some ((bA k (A.take j)).ends,(bA k (A.take j)).chain)
 | 0,_=>rfl
 | j+1,hj=>by
  have e:=QcY A j (by omega)
  have hp:=QaT k A (j+1);have ht:=h.take (j+1);rw[e] at hp ht;rw[tkA,Qfj h hI hN hM j (by omega)]
  simp only;have hl:(A.take j).length=j:=by rw[Lz];omega
  have hr:=Qhl ht (hp.2.2.trans hM);rw[hl] at hr;rw[hr,Qld ht (hp.1.trans hI) (hp.2.1.trans hN),e]
theorem Qog(m:MV)(h:1<=m.k∧m.k<=32):mrk m≠zer 64:=by
 unfold mrk;rw[Lk h];intro e;have:=Lw (fun l=>l.head?) e
 simp[sld,UH,zer] at this
theorem QhR{k:Nat}{A:List It}(h:OkA k A){t:List UInt8}(ht:t.length<64∨t=zer 64):J3 ((bA k A).m++t)=A.length:=by
 have l:=h.lens;unfold J3
 rcases ht with ht|rfl
 ·have hd:((bA k A).m++t).length / 64=A.length:=by rw[Lc,l.m];omega
  rw[hd,Le];rintro⟨h0,hz⟩;obtain⟨B,x,rfl⟩ : ∃B x,A=B++[x]:=by
   rcases List.eq_nil_or_concat A with rfl|⟨B,x,rfl⟩
   ·simp at h0
   ·exact⟨B,x,List.concat_eq_append⟩
  have hr:=Qhl h (NR _ t);simp only[List.length_append,List.length_cons,List.length_nil,Nat.zero_add,Nat.add_sub_cancel] at hz;rw[hr] at hz;exact Qog _ ⟨by show(1:Int)<=(k:Int);have:=h.k1;omega,by show(k:Int)<=32;have:=h.k2;omega⟩ hz
 ·have hd:((bA k A).m++zer 64).length / 64=A.length+1:=by rw[Lc,l.m,Qw];omega
  have hz:Uw ((bA k A).m++zer 64) (A.length+1 - 1)=zer 64:=by
   unfold Uw;rw[LP,<-l.m,ID,Lo (by rw[Qw];exact La _)]
  rw[hd,Lk ⟨by omega,hz⟩]
  omega
theorem Qgz{k:Nat}{A:List It}(h:OkA k A){I N t:List UInt8}(hI:(bA k A).a <+: I)(hN:(bA k A).b <+: N)(ht:t.length<64∨t=zer 64):Oe k I N ((bA k A).m++t)=some ((bA k A).ends,(bA k A).chain):=by
 rw[Oe,QhR h ht,Qfj h hI hN (NR _ _) A.length (La _),Lo (La _)]
end St
end Go.Proofs.YtoblgjledefdbaaGreatDoor
