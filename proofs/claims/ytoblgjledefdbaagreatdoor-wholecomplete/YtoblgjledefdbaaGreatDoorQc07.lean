/- Own work. -/
import Derived.Deep.Upon
import Derived.Test.YtoblgjledefdbaaGreatDoorQc06
set_option maxRecDepth 100000
set_option maxHeartbeats 1000000
namespace Go.Proofs.YtoblgjledefdbaaGreatDoor
open Go.RowKit
attribute [local go_sem ↓] Go.wp_at_zero Go.wp_at_succ
open Go.Proofs.Tryz
def nb(s:BA)(e:Nat):Nat×Nat×BA :=
 if e≠0 then (0,e,s) else ((Y5 s.data.toList 0 0).1,(Y5 s.data.toList 0 0).2.1,if (Y5 s.data.toList 0 0).2.1=0 then s.extract (Y5 s.data.toList 0 0).2.2 s.size else ByteArray.empty)
theorem QnX{s:BA}{n k:Nat}(h:Y5 s.data.toList 0 0=(n,0,k)):nb s 0=(n,0,s.extract k s.size):=by
 simp[nb,h]
theorem QcX{s:BA}{n e k:Nat}(h:Y5 s.data.toList 0 0=(n,e,k))(he:e≠0):nb s 0=(n,e,ByteArray.empty):=by
 simp[nb,h,he]
theorem QcE(s:BA)(k:Nat)(hk:k<s.size):s.data.toList.drop k=s[k]::s.data.toList.drop (k+1):=by
 rw[L8 (by simpa using hk)]
 rfl
theorem Q2{q:Prop}(h:q):Hid q:=h
theorem or7(n b k:Nat)(hn:n<128^k)(hk:k<=9)(h:k=9->b<=1) :
  bits .or .u64 (n:Int) (IntKind.u64.wrap ((b:Int)%128*2^(7*k)))=((n+b%128*128^k:Nat):Int)∧n+b%128*128^k<18446744073709551616:=by
 have e9:(128:Nat)^9=9223372036854775808:=by decide
 have hp:128^k<=128^9:=Qde hk;have hx:b%128*128^k<=9223372036854775808:=by
  rcases IU k 9 with h9|h9
  ·have hp1:128^(k+1)<=128^9:=Qde (by omega)
   have:b%128*128^k<=127*128^k:=LM _ (by omega)
   rw[LJ] at hp1;omega
  ·obtain rfl:k=9:=by omega
   have:b%128*128^9<=1*128^9:=LM _ (by have:=h rfl;omega)
   omega
 have e1:((b:Int)%128*2^(7*k))=((b%128*128^k:Nat):Int):=by
  rw[Ww,Int.natCast_pow,Int.pow_mul];rfl
 have e2:(2:Nat)^(7*k)=128^k:=by rw[Nat.pow_mul]
 rw[e1,IntKind.wrap_u64,Int.emod_eq_of_lt (by omega) (by omega),u64_or_nat _ _ (by omega) (by omega)]
 refine⟨?_,by omega⟩
 have:=Nat.two_pow_add_eq_or_of_lt (i:=7*k) (b:=n) (by rw[e2];exact hn) (b%128)
 rw[Nat.or_comm,<-e2,LU (b%128),<-this,I5 n]
theorem QkZ(w:World)(p e:Nat)(s:BA)(hr:Rdr w p s e)(hs:s.size<=9223372036854775807) :
  Calls prog 386 #[Pq p] w fun x w'=>x= .returned (.tuple #[.int .u64 ((nb s e).1:Int),.int .i64 ((nb s e).2.1:Int)])∧Rdr w' p (nb s e).2.2 (nb s e).2.1∧Ch p w w':=by
 have c0:=hr.c0;have c1:=hr.c1;have f0:=hr.f0;have f1:=hr.f1
 by_cases he:e=0
 ·subst he;have F60:=Qbd w p 60 s hr;have F61:=Qbd w p 61 s hr;have RSC:Hid (∀k,Rdr (w.setCell ⟨p,0,none⟩ (.string (s.extract k s.size))) p (s.extract k s.size) 0):=fun k=>hr.set0 _
  clear hr
  go_enter func386,ntmps386;go_wp2
  go_loopg [4,5] 10 (fun g x i wr=>w=wr ∧ ∃(k n:Nat),k<=s.size∧k<=9∧g=10-k∧x= .int .u64 n∧i= .int .i64 k∧Hid (n<128^k∧Y5 (s.data.toList.drop k) k n=Y5 s.data.toList 0 0))
  case atStart=>go_light;exact⟨rfl,0,0,Ln _,by omega,rfl,rfl,rfl,by decide,by rw[IE]⟩
  case round=>
   obtain⟨rfl,k,n,hk,h9,rfl,rfl,rfl,HS⟩:=hrel
   by_cases hlt:k<s.size
   ·have hz:(k:Int)<(s.size:Int):=by omega
    obtain⟨b,hb⟩:∃b,s[k].toNat=b:=⟨_,rfl⟩;have hb8:b<256:=by rw[<-hb];exact s[k].toNat_lt
    obtain⟨hn,hsc⟩:=HS.out;rw[QcE s k hlt,Y5,hb] at hsc;clear HS
    by_cases hi:k=9∧1<b
    ·obtain⟨rfl,hi⟩:=hi;rw[Lm ⟨rfl,hi⟩] at hsc;have HT:=Q2 (QcX hsc.symm (by decide))
     have hi':(1:Int)<(b:Int):=by omega
     clear hsc hn
     go_wp2_with (go_at_call 409;refine F61.mono ?_;rintro x w' ⟨rfl,h1,h2⟩)
     go_ret2
     rw[HT.out];exact⟨rfl,h1,h2⟩
    ·obtain⟨ho,hlim⟩:=or7 n b k hn h9 (by omega)
     rw[Ld hi] at hsc;obtain⟨m,hm⟩:∃m,m=n+b%128*128^k:=⟨_,rfl⟩;rw[<-hm] at ho hlim
     by_cases hl:b<128
     ·rw[Lm hl,<-show b%128=b from Nz hl,<-hm,show b%128=b from Nz hl] at hsc
      have hl':(b:Int)<128:=by omega
      by_cases h0:b=0∧0<k
      ·rw[Lm h0] at hsc;have HT:=Q2 (QcX hsc.symm (by decide))
       obtain⟨rfl,h0⟩:=h0;have h0':(0:Int)<(k:Int):=by omega
       clear hsc hn hm
       by_cases hk9:k=9
       ·subst hk9
        go_wp2_with (go_at_call 409;refine F61.mono ?_;rintro x w' ⟨rfl,h1,h2⟩)
        go_ret2
        rw[HT.out];exact⟨rfl,h1,h2⟩
       ·have hq:¬(k:Int)=9:=by omega
        go_wp2_with (go_at_call 409;refine F61.mono ?_;rintro x w' ⟨rfl,h1,h2⟩)
        go_ret2
        rw[HT.out];exact⟨rfl,h1,h2⟩
      ·rw[Ld h0] at hsc;have HT:=Q2 (QnX hsc.symm);clear hsc hn hm;have HC:Hid (Ch p w (w.setCell ⟨p,0,none⟩ (.string (s.extract (k+1) s.size)))):=(Ch.refl p w).set 0 _;have hz1:((k:Int)+1)<=(s.size:Int):=by omega
       by_cases hk9:k=9
       ·subst hk9;have hb1:¬(1:Int)<(b:Int):=by omega
        have hb0:¬(b:Int)=0:=by omega
        have ho9:bits .or .u64 (n:Int) ((b:Int)%128*9223372036854775808)=(m:Int):=by
         rw[<-ho,IntKind.wrap_u64];have e:(2:Int)^(7*9)=9223372036854775808:=by decide
         rw[e,Int.emod_eq_of_lt (a:=(b:Int)%128*9223372036854775808) (by omega) (by omega)]
        go_wp2
        go_ret2
        rw[HT.out];exact⟨rfl,RSC.out _,HC.out⟩
       ·have hq:¬(k:Int)=9:=by omega
        by_cases hb0:b=0
        ·obtain rfl:k=0:=by omega
         subst hb0;have ho0:bits .or .u64 (n:Int) 0=(m:Int):=by rw[<-ho];rfl
         go_wp2
         go_ret2
         rw[HT.out];exact⟨rfl,RSC.out _,HC.out⟩
        ·have hb1:¬(b:Int)=0:=by omega
         go_wp2
         go_ret2
         rw[HT.out];exact⟨rfl,RSC.out _,HC.out⟩
     ·have hq:¬(k:Int)=9:=by omega
      have hl':¬(b:Int)<128:=by omega
      have HS:Hid (m<128^(k+1)∧Y5 (s.data.toList.drop (k+1)) (k+1) m=Y5 s.data.toList 0 0):=by
       rw[Ld hl,<-hm] at hsc;refine⟨?_,hsc⟩
       rw[hm,LJ];have:b%128*128^k<=127*128^k:=LM _ (by omega)
       omega
      clear hsc hn hm;go_wp2
      go_roundg (10-(k+1))
      case rel=>go_light;exact⟨rfl,k+1,m,by omega,by omega,rfl,rfl,by go_num,HS.out⟩
      case measure=>go_light;omega
   ·obtain rfl:k=s.size:=by omega
    have hz:¬(s.size:Int)<(s.size:Int):=by omega
    have hsc:=HS.out.2;rw[Nk (by simp),Y5] at hsc
    have HT:=Q2 (QcX hsc.symm (by decide))
    clear hsc HS
    go_wp2_with (go_at_call 409;refine F60.mono ?_;rintro x w' ⟨rfl,h1,h2⟩)
    go_ret2
    rw[HT.out];exact⟨rfl,h1,h2⟩
 ·have ht:nb s e=(0,e,s):=by rw[nb,Lm he]
  rw[ht];have hz:¬(e:Int)=0:=by omega
  go_enter func386,ntmps386;go_wp2
  go_quiet (fail)
  go_wp2
  go_ret2
  exact⟨rfl,hr.drewN _,(Ch.refl p w).drewN _⟩
def cY(l:List UInt8):List Value:=l.map fun b=>Value.int .u8 b.toNat
theorem QE(l:List UInt8):(cY l).length=l.length:=by simp[cY]
theorem Tryz.infoY:(prog.info? 5).map (fun i=>(i.zero,i.size,i.bytes))=some (some (.int .u8 0),1,1):=by kernel_rfl
def OwnY(w:World)(B:Nat)(v:Value)(l:List UInt8):Prop:=w.ownsRow B 5 1 v l.length (cY l)
theorem Qh5{w:World}{B:Nat}{v:Value}{l:List UInt8}(h:OwnY w B v l):(convert 127 9 v).run prog w= .ok (.string ⟨l.toArray⟩) w:=by
 have hc:=fun g=>h.cells (g:=g)
 obtain⟨h1,h2⟩:=h
 rcases h2 with ⟨rfl,h0⟩|⟨g,cap,cur,rfl,hg,hh,r⟩
 ·have:l=[]:=List.length_eq_zero_iff.1 h0;subst this;exact run_convert_bytes_nil w 127 5 underlying127 underlying5 0 0 9 underlying9
 ·refine run_convert_bytes_back _ 127 9 5 ⟨g,0,none⟩ cap l underlying127 underlying5 underlying9 fun j hj=> ?_
  exact hc g rfl j _ (by simp[cY,List.getElem?_eq_getElem hj])
theorem QkC{w:World}{B:Nat}{v:Value}{l:List UInt8}(h:OwnY w B v l):∀k,v.ownBlock=some k->B<=k:=by
 obtain⟨_,h2⟩:=h
 rcases h2 with ⟨rfl,_⟩|⟨g,cp,cur,rfl,hg,_⟩
 ·intro k hk;cases hk
 ·intro k hk;cases hk;exact hg
theorem QkB(w:World):OwnY (w.alloc (.cells #[] 5)) w.heap.size (.slice (Zp w.heap.size) 0 0) [] :=
 ⟨rfl,.inr ⟨w.heap.size,0,#[],rfl,La _,Lt w _,La _,by unfold maxLen;omega,rfl,rfl⟩⟩
theorem Jk(w:World){ops:Array Oper}{rest:List Oper}{o:Oper}{a:Act}{Q:Exit->Act->World->Prop}
  (hg:o.guard=none) (s x:Operand) (hop:o.op=Op.call { callee:=Callee.builtin Builtin.append,args:=#[s,x],argTypes:=#[127,127] })
  (B:Nat) (v:Value) (L:List UInt8) (hs:a.eval s=v) (hown:OwnY w B v L) (y:Nat) (b:UInt8) (hb:y=b.toNat) (hx:a.eval x= .slice (Zp w.heap.size) 1 1)
  (hlen:L.length<=1000) (hB:B<=w.heap.size)
  (hK:∀v' w',OwnY w' B v' (L++[b])->Below B w w'->wpList prog ops Q rest (a.put o.dst v') w'):wpList prog ops Q (o::rest) a (w.alloc (.cells #[.int .u8 y] 5)):=by
 obtain⟨i0,hi,hz0,hz1,hz2⟩:=info_parts Tryz.infoY;subst hb;refine wpList_append_own _ hg s x _ hop B 5 i0 (.int .u8 0) 1 1 underlying127 hi hz0 hz1 hz2 rfl (by decide) _ _ _ hs (World.ownsRow.alloc hown _) ⟨w.heap.size,0,none⟩ 1 1 (cY [b]) hx (by simp[cY]) ?_ (by intro u hu;simp[cY] at hu;subst hu;rfl) (by unfold maxLen;omega) (by omega) (by simp;omega) ?_
 ·intro j u hu;have hj:j=0:=by have:=(List.getElem?_eq_some_iff.1 hu).1;simp[cY] at this;exact this
  subst hj;have hu':Value.int .u8 b.toNat=u:=Ic hu;subst hu';rw[Addr.add_mid,Nq]
  rfl
 ·intro v' w' h1 h2 _;refine hK v' w' ?_ (((Lb _ _).alloc hB _).trans ((Lb _ _).grown h2 (by simp;omega) (QkC hown)))
  rw[OwnY,Le,cY,LL];exact h1
theorem QpF:∀x:Nat,x<256->x ||| 128=x%128+128:=by decide
theorem QlO(n:Nat):bits .or .u8 ((n:Int)%256) 128=((UInt8.ofNat (n%128+128)).toNat:Int):=by
 rw[QR (by omega)]
 have:=u8_or_nat (n%256) 128 (by omega) (by decide)
 rw[show((n%256:Nat):Int)=(n:Int)%256 by omega,show((128:Nat):Int)=128 from rfl] at this
 rw[this,QpF _ (by omega)]
 omega
theorem OL(w:World)(n:Nat)(hn:n<18446744073709551616) :
  Calls prog 311 #[.int .u64 n] w fun x w'=>x= .returned (.string ⟨(num n).toArray⟩)∧Below w.heap.size w w':=by
 have HL:=Q2 (Yv (n:=n) hn)
 go_enter func311,ntmps311;go_wp2
 go_loopg [0,3] n (fun g x v wr=> ∃(m:Nat) (pre:List UInt8),m=g∧x= .int .u64 m∧OwnY wr w.heap.size v pre∧Hid (pre++num m=num n∧m<=n)∧Below w.heap.size w wr)
 case atStart=>go_light;exact⟨n,[],rfl,rfl,QkB w,⟨rfl,La _⟩,(Lb _ _).alloc (La _) _⟩
 case round=>
  obtain⟨m,pre,hg,rfl,hown,HP,hb⟩:=hrel;subst hg;have HS:Hid (pre.length<=10∧w.heap.size<=wr.heap.size):=by
   have:=LW List.length HP.out.1;rw[Le] at this;have:=HL.out;exact⟨by omega,hb.size⟩
  by_cases hm:m<128
  ·have hm':(m:Int)<128:=by omega
   have HY:=Q2 (QR (x:=m) (by omega)).symm
   have HR:Hid (pre++[UInt8.ofNat m]=num n):=by
    have:=HP.out.1;rw[QaQ hm] at this;exact this
   go_wp2_with (at_builtin;refine Jk _ rfl _ _ rfl w.heap.size _ pre rfl hown m (UInt8.ofNat m) HY.out rfl ?c1 ?c2 ?_)
   case c1=>have:=HS.out;omega
   case c2=>exact HS.out.2
   intro v' w2 r1 r2;have hcv:=Qh5 r1;rw[HR.out] at hcv;go_wp2
   go_ret
   exact⟨rfl,hb.trans r2⟩
  ·have hm':¬(m:Int)<128:=by omega
   have hm2:(128:Int)<=(m:Int):=by omega
   obtain⟨c,hc⟩:∃c,c=UInt8.ofNat (m%128+128):=⟨_,rfl⟩;obtain⟨y,hy⟩:∃y,y=c.toNat:=⟨_,rfl⟩;have ey:=QlO m;rw[<-hc,<-hy] at ey;have HY:=Q2 hy;clear hy;have HR:Hid ((pre++[c])++num (m/128)=num n∧m/128<=n):=by
    have:=HP.out;rw[OM (by omega),<-hc] at this
    exact⟨by rw[<-this.1];simp,by omega⟩
   clear hc;have HQ:Hid ((m:Int)/128=((m/128:Nat):Int)∧m/128<m):=⟨by omega,by omega⟩
   go_wp2_with (at_builtin;refine Jk _ rfl _ _ rfl w.heap.size _ pre rfl hown y c HY.out rfl ?c1 ?c2 ?_)
   case c1=>have:=HS.out;omega
   case c2=>exact HS.out.2
   intro v' w2 r1 r2;have hb2:=hb.trans r2;clear r2 hb hown;go_wp2
   go_roundg (m/128)
   case rel=>go_light;exact⟨m/128,_,rfl,by rw[<-HQ.out.1],r1,HR.out,hb2⟩
   case measure=>go_light;exact HQ.out.2
namespace St
theorem Qe(s:BA):s.data.toList.length=s.size:=NZ
def cY(l:List UInt8):List Value:=l.map fun b=>Value.int .u8 b.toNat
theorem QE(l:List UInt8):(cY l).length=l.length:=by simp[cY]
theorem U6(l m:List UInt8):cY (l++m)=cY l++cY m:=by simp[cY]
theorem Qff(l:List UInt8):∀u∈cY l,u.oneCell'=true:=fun u hu=>by obtain⟨_,_,rfl⟩:=List.mem_map.1 hu;rfl
def Ty(w:World)(g:Nat)(T:TypeId):Prop := ∃cs fr,w.heap[g]? = some (.cells cs T fr)
theorem Ty.lt{w:World}{g:Nat}{T:TypeId}(h:Ty w g T):g<w.heap.size:=by
 obtain⟨cs,fr,h⟩:=h;exact(Array.getElem?_eq_some_iff.1 h).1
theorem Ty.same{w W:World}{g:Nat}{T:TypeId}(h:Ty w g T)(hb:W.heap[g]? = w.heap[g]?):Ty W g T:=by
 obtain⟨cs,fr,h⟩:=h;exact⟨cs,fr,hb.trans h⟩
theorem Ty.set{w:World}{g:Nat}{T:TypeId}(h:Ty w g T)(b i:Nat)(v:Value):Ty (w.setCell ⟨b,i,none⟩ v) g T:=by
 by_cases e:g=b
 ·subst e;obtain⟨cs,fr,h⟩:=h;exact⟨cs.setIfInBounds i v,fr,by simp[World.setCell,Array.getElem?_modify,h]⟩
 ·exact h.same (Below.heap_setCell _ _ _ _ e)
theorem Ty.sets{g:Nat}{T:TypeId}(b:Nat):∀(vs:List Value) (o:Nat) (w:World),Ty w g T->Ty (w.setCells b o vs) g T
 | [],_,_,h=>h
 | v::r,o,_,h=>Ty.sets b r (o+1) _ (h.set b o v)
theorem Ty.ne{w:World}{g k:Nat}{T U:TypeId}(h:Ty w g T)(h2:Ty w k U)(hT:T≠U):g≠k:=by
 rintro rfl;obtain⟨_,_,h⟩:=h;obtain⟨_,_,h2⟩:=h2;rw[h] at h2;injection h2 with h2
 injection h2 with _ h2 _
 exact hT h2
theorem O6{S:Nat->Prop}{w:World}{g:Nat}(hg:S g∨w.heap.size<=g):∀(vs:List Value) (o:Nat) (w':World),Upo S w w'->Upo S w (w'.setCells g o vs)
 | [],_,_,h=>h
 | v::r,o,_,h=>O6 hg r (o+1) _ (h.set g o v hg)
structure Rw(w:World)(ao:OA)(g cap:Nat)(l:List UInt8):Prop where
 ptr:ao=none∨ao=Zp g
 nil:ao=none->cap=0
 ty:ao=Zp g->Ty w g 5
 le:l.length<=cap
 rng:ao=Zp g->w.rangeAt g 0 (cY l)
 thr:ao=Zp g->w.there g 0 cap
section
variable {w W:World} {ao:OA} {g cap:Nat} {l:List UInt8}
theorem Qf0(w:World)(g:Nat):Rw w none g 0 []:=⟨.inl rfl,fun _=>rfl,fun h=>(by cases h),La _,fun h=>(by cases h),fun h=>by cases h⟩
theorem Rw.empty(h:Rw w ao g cap l)(e:ao=none):l=[]:=List.length_eq_zero_iff.1 (by have:=h.nil e;have:=h.le;omega)
theorem Rw.sm(h:Rw w ao g cap l)(h0:0<l.length):ao=Zp g:=by
 rcases h.ptr with e|e
 ·rw[h.empty e] at h0;simp at h0
 ·exact e
theorem QfO{b o:Nat}{cs:List Value}(h:w.rangeAt b o cs)(hb:W.heap[b]? = w.heap[b]?):W.rangeAt b o cs:=fun j v hv=>by
 rw[LI (a:=⟨b,o+j,none⟩) hb];exact h j v hv
theorem Qf6{b o n:Nat}(h:w.there b o n)(hb:W.heap[b]? = w.heap[b]?):W.there b o n:=fun j hj=>by
 rw[LI (a:=⟨b,o+j,none⟩) hb,N5 (a:=⟨b,o+j,none⟩) hb];exact h j hj
theorem Rw.same(h:Rw w ao g cap l)(hb:ao=Zp g->W.heap[g]? = w.heap[g]?):Rw W ao g cap l :=
 ⟨h.ptr,h.nil,fun e=>(h.ty e).same (hb e),h.le,fun e=>QfO (h.rng e) (hb e),fun e=>Qf6 (h.thr e) (hb e)⟩
theorem Rw.next{B:Nat}(h:Rw w ao g cap l)(hb:Below B w W)(hB:w.heap.size<=B):Rw W ao g cap l :=
 h.same fun e=>hb.block g (by have:=(h.ty e).lt;omega)
theorem Rw.off(h:Rw w ao g cap l){p:Nat}(i:Nat)(v:Value)(hp:ao=Zp g->g≠p):Rw (w.setCell ⟨p,i,none⟩ v) ao g cap l :=
 h.same fun e=>Below.heap_setCell _ _ _ _ (hp e)
theorem Rw.cut(h:Rw w ao g cap l){k:Nat}(hk:k<=l.length):Rw w ao g cap (l.take k) :=
 ⟨h.ptr,h.nil,h.ty,by have:=h.le;simp;omega,fun e j v hv=>h.rng e j v (by
  rw[cY,NN] at hv;rw[Nb] at hv
  split at hv
  ·exact hv
  ·cases hv),h.thr⟩
theorem Rw.at(h:Rw w ao g cap l){j:Nat}(hj:j<l.length):w.cell? ⟨g,j,none⟩=some (.int .u8 ((l.getD j 0).toNat:Int)):=by
 have:=h.rng (h.sm (by omega)) j (.int .u8 ((l.getD j 0).toNat:Int)) (by simp[cY,List.getElem?_eq_getElem hj,List.getD_eq_getElem?_getD])
 rwa [Lo] at this
theorem JP{b o:Nat}{cs:List Value}(h:w.rangeAt b o cs)(k:Nat)(vs:List Value)(hk:k+vs.length<=cs.length)(ht:w.there b (o+k) vs.length) :
  (w.setCells b (o+k) vs).rangeAt b o (cs.take k++vs++cs.drop (k+vs.length)):=fun j u hu=>by
 have hlen:(cs.take k).length=k:=by simp;omega
 by_cases hj:j<k
 ·rw[LH,LE (by omega),Nb,Lm hj] at hu
  rw[World.cell?_setCells_out b vs (o+k) w ⟨b,o+j,none⟩ (fun _ _=>Or.inl (by show o+j<o+k;omega))]
  exact h j u hu
 ·by_cases hj2:j<k+vs.length
  ·rw[LE (by simp;omega),LQ (by omega),hlen] at hu
   have:=World.cell?_setCells_in b vs (o+k) w (fun i hi=>(ht i hi).1) (j-k) (by omega)
   rw[show o+k+(j-k)=o+j by omega] at this
   rw[this,<-hu,Ll (by omega)]
  ·rw[LQ (by simp;omega)] at hu
   rw[NI,show k+vs.length+(j-(cs.take k++vs).length)=j by simp;omega] at hu
   rw[World.cell?_setCells_out b vs (o+k) w ⟨b,o+j,none⟩ (fun _ _=>Or.inr (by show o+k+vs.length<=o+j;omega))]
   exact h j u hu
theorem Rw.over(h:Rw w ao g cap l)(k:Nat)(t:List UInt8)(hk:k+t.length<=l.length):Rw (w.setCells g k (cY t)) ao g cap (l.take k++t++l.drop (k+t.length)):=by
 refine⟨h.ptr,h.nil,fun e=>Ty.sets g _ _ _ (h.ty e),by have:=h.le;simp;omega,fun e=> ?_,fun e=>World.there_setCells (h.thr e) _ _ _⟩
 have:=JP (h.rng e) k (cY t) (by rw[QE,QE];exact hk) (fun j hj=>by
  rw[Lo];have:=h.thr e (k+j) (by rw[QE] at hj;have:=h.le;omega)
  rwa [Lo] at this)
 rw[Lo] at this;rw[U6,U6]
 simpa [cY,List.map_take,List.map_drop] using this
theorem QbV(W:World)(ty:TypeId){ax:OA}{k n c:Nat}{t:BA}(hn:k+n<=l.length)(h:Rw W ao g cap l)(hx:ax=ao∨ax=ao.map (·.add k))(h0:ax=ao->k=0∨n=0)(hc:Nat.min t.size n=c)(m:Nat) :
  (Builtin.copy_ #[127,9] ty #[.slice ax n m,.string t]).run prog W= .ok (goInt c) (W.setCells g k (cY (t.data.toList.take c))):=by
 have hs:∀W,(Go.sizeOf 5).run prog W= .ok 1 W:=fun W=>by kernel_rfl
 have hl:(cY (t.data.toList.take c)).length=c:=by
  rw[QE,LA,Qe];have:c<=t.size:=by rw[<-hc];exact I0 _ _
  omega
 have he:List.take c (List.map (fun x:UInt8=>Value.int IntKind.u8 (x.toNat:Int)) t.data.toList)=cY (t.data.toList.take c):=by rw[cY,NN]
 have hcn:c<=n:=by rw[<-hc];exact Wp _ _
 by_cases z:c=0
 ·subst z;have e0:cY (t.data.toList.take 0)=[]:=by simp[cY]
  rw[e0]
  cases ax with
  | none=>simp[Builtin.copy_,run_underlying underlying127,Builtin.lenOf,Builtin.firstCells,hs,hc];rfl
  | some a=>simp[Builtin.copy_,run_underlying underlying127,Builtin.lenOf,Builtin.firstCells,hs,hc];rfl
 ·have ea:=h.sm (by omega)
  have eax:ax=some ⟨g,k,none⟩:=by
   rcases hx with e|e
   ·rcases h0 e with q|q
    ·rw[e,ea,q]
    ·omega
   ·rw[e,ea,IL,Addr.add_mid,Lo]
  have hth:=h.thr ea;have hst:=run_storeCells_cells (P:=prog) g k (cY (t.data.toList.take c)) 0 W (by rw[hl];intro j hj;have:=hth (k+j) (by have:=h.le;omega);simpa using this.1) (by rw[hl];intro j hj;have:=hth (k+j) (by have:=h.le;omega);simpa using this.2) (Qff _)
  simp only[Nat.add_zero] at hst;rw[eax];simp[Builtin.copy_,run_underlying underlying127,Builtin.lenOf,Builtin.firstCells,hs,hc];rw[he,hst]
  rfl
theorem Qo(w:World)(cs:Array Value)(t:TypeId)(n:Nat)(hn:n<=cs.size):(w.alloc (.cells cs t)).there w.heap.size 0 n:=fun j hj=>by
 refine⟨?_,Wr _ _ _ _⟩
 rw[Nq,Lo,Nh (by omega)];rfl
theorem Rw.app(h:Rw w ao g cap l)(tx ty:TypeId)(x:Value)(t:List UInt8)(hs:Src prog 1 tx x t.length (cY t) w)(hl:l.length+t.length<=140737488355328) :
  ∃ao' g' cap' w',(Builtin.append_ #[127,tx] ty #[.slice ao l.length cap,x]).run prog w= .ok (.slice ao' (l++t).length cap') w'∧Rw w' ao' g' cap' (l++t)∧Upo (fun b=>ao=Zp g∧b=g) w w'∧((ao'=ao∧g'=g)∨(g'=w.heap.size∧g'<w'.heap.size))∧(ao=Zp g->Ty w' g 5):=by
 obtain⟨i0,hi,hz0,hz1,hz2⟩:=info_parts Tryz.infoY
 by_cases hroom:l.length+t.length<=cap
 ·rcases h.ptr with e|e
  ·have hc:=h.nil e;have el:=h.empty e;have et:t=[]:=List.length_eq_zero_iff.1 (by omega)
   subst et el hc e;refine⟨none,g,0,w,?_,Qf0 w g,Upo.refl _ _,.inl ⟨rfl,rfl⟩,fun e=>(by cases e)⟩
   have hk:=hs.kind;have hs2:=hs.cells;simp only[List.length_nil] at hs2
   rcases hk with ⟨e',hk⟩|hk <;> simp[Builtin.append_,run_underlying underlying127,run_underlying hk,Go.sizeOf,typeInfo,hi,hs.len,hs2,hz1]
  ·subst e;have hr:=run_append_room_src (P:=prog) w 127 tx ty 5 i0 underlying127 hi g 0 l.length cap x t.length (cY t) (by rw[hz1];exact hs) hroom
    (fun j hj=>by rw[hz1,Nj,Nr];rw[QE] at hj;exact(h.thr rfl (l.length+j) (by omega)).1) (fun j hj=>by rw[hz1,Nj,Nr];rw[QE] at hj;exact(h.thr rfl (l.length+j) (by omega)).2)
   rw[hz1,Nj,Lo] at hr;refine⟨_,g,cap,_,by rw[hr,Le],⟨.inr rfl,fun e=>(by cases e),fun _=>Ty.sets g _ _ _ (h.ty rfl),by rw[Le];exact hroom,fun _=> ?_,fun _=>World.there_setCells (h.thr rfl) _ _ _⟩,O6 (.inl ⟨rfl,rfl⟩) _ _ _ (Upo.refl _ _),.inl ⟨rfl,rfl⟩,fun _=>Ty.sets g _ _ _ (h.ty rfl)⟩
   rw[U6];intro j u hu
   by_cases hj:j<l.length
   ·rw[LE (by rw[QE];exact hj)] at hu
    exact World.rangeAt_setCells_apart (h.rng rfl) g l.length (cY t) (.inr (.inl (by rw[QE,Lo];exact La _))) j u hu
   ·rw[LQ (by rw[QE];omega),QE] at hu
    have:=World.rangeAt_setCells_same w g l.length (cY t) (fun j hj=>by have:=h.thr rfl (l.length+j) (by rw[QE] at hj;omega);rwa [Lo] at this) (j-l.length) u hu
    rwa [show l.length+(j-l.length)=0+j by omega] at this
 ·have hold:(Builtin.firstCells i0.size l.length (.slice ao l.length cap)).run prog w.drew= .ok (cY l).toArray w.drew:=by
   rcases h.ptr with e|e
   ·rw[e,h.empty e];exact run_firstCells_none w.drew _ 0 0 cap
   ·rw[e,hz1];exact run_firstCells_some w.drew 1 l.length _ l.length cap (cY l) (by rw[QE,Nj]) (fun j u hu=>by rw[Addr.add_mid];exact h.rng e j u hu)
  have hr:=run_append_grow_src (P:=prog) w 127 tx ty 5 i0 (.int .u8 0) underlying127 hi hz0 ao l.length cap (cY l) hold x t.length (cY t) (by rw[hz1];exact hs) (by omega) (by omega) (by rw[hz2];exact growslice_fits (by omega) (by omega))
  have hge:=grownCap_ge w (l.length+t.length) cap 5;obtain⟨cc,hcc⟩:∃cc,grownCap w (l.length+t.length) cap 5=cc:=⟨_,rfl⟩;rw[hcc] at hr hge;refine⟨Zp w.heap.size,w.heap.size,cc,w.drew.alloc (.cells ((cY l++cY t).toArray++Builtin.zeroCells (Value.int IntKind.u8 0).cells (cc-(l.length+t.length))) 5),by rw[hr,Le],⟨.inr rfl,fun e=>(by cases e),fun _=>⟨_,_,Lt w.drew _⟩,by rw[Le];exact hge,fun _=> ?_,fun _=> ?_⟩,(Upo.refl _ w).drew.alloc _,.inr ⟨rfl,by simp⟩,fun e=>(h.ty e).same ((MapKept.heap_alloc w.drew _).2 g (h.ty e).lt)⟩
  ·intro j u hu
   show(w.drew.alloc _).cell? ⟨w.drew.heap.size,0+j,none⟩=some u
   rw[Nq,Lo];rw[U6] at hu;rw[I6 (by have:=(List.getElem?_eq_some_iff.1 hu).1;simpa using this)]
   simpa using hu
  ·refine Qo w.drew _ 5 _ ?_
   have hz1':(Value.int IntKind.u8 0).cells.size=1:=rfl;simp only[Array.size_append,List.size_toArray,size_zeroCells,hz1',QE,List.length_append];omega
theorem Qld(w:World)(t:BA):Src prog 1 9 (.string t) t.data.toList.length (cY t.data.toList) w:=by
 rw[Qe];exact Src.ofString w underlying9 t
theorem Rw.src(h:Rw w ao g cap l){k:Nat}(hk:k<=l.length){ax:OA}(hx:ax=ao∨ax=ao.map (·.add k))(h0:ax=ao->k=0∨k=l.length)(m:Nat):Src prog 1 127 (.slice ax (l.length-k) m) (l.drop k).length (cY (l.drop k)) w:=by
 have hlen:(l.drop k).length=l.length-k:=by simp
 rw[hlen]
 rcases Wg (l.length-k) with z|z
 ·have e:l.drop k=[]:=List.length_eq_zero_iff.1 (by omega)
  rw[e,z]
  cases ax with
  | none=>exact Src.ofNil w underlying127 m
  | some a=>exact Src.ofSlice w underlying127 a 0 m _ (by simp[cY]) (fun j u hu=>by simp[cY] at hu) (fun u hu=>by simp[cY] at hu)
 ·have ea:=h.sm (by omega)
  have eax:ax=some ⟨g,k,none⟩:=by
   rcases hx with e|e
   ·rcases h0 e with q|q
    ·rw[e,ea,q]
    ·omega
   ·rw[e,ea,IL,Addr.add_mid,Lo]
  rw[eax];refine Src.ofSlice w underlying127 _ _ m _ (by rw[QE,hlen,Nj]) (fun j u hu=> ?_) (Qff _)
  rw[cY,Ih,NI] at hu;have:=h.rng ea (k+j) u hu;rw[Lo] at this;rw[Addr.add_mid];exact this
theorem Rw.conv(h:Rw w ao g cap l){k n:Nat}(hk:k+n<=l.length){ax:OA}(hx:ax=ao∨ax=ao.map (·.add k))(h0:ax=ao->k=0∨n=0)(m:Nat) :
  (convert 127 9 (.slice ax n m)).run prog w= .ok (.string ⟨((l.drop k).take n).toArray⟩) w:=by
 have hlen:((l.drop k).take n).length=n:=by simp;omega
 cases hax:ax with
 | none=>
  have z:n=0:=by
   rcases hx with e|e
   ·have:=h.empty (e.symm.trans hax);rw[this] at hk;simp at hk;omega
   ·have ea:ao=none:=by cases ao with
     | none=>rfl
     | some a=>rw[hax] at e;cases e
    have:=h.empty ea;rw[this] at hk;simp at hk;omega
  subst z;rw[We];have:∀W:World,(convert 127 9 (.slice none 0 m)).run prog W= .ok (.string ⟨#[]⟩) W:=fun W=>by
   simp[convert,run_underlying underlying127,run_underlying underlying9,run_underlying underlying5,Conv.bytesToString]
   rfl
  exact this w
 | some a=>
  have hr:=run_convert_bytes_back w 127 9 5 a m ((l.drop k).take n) underlying127 underlying5 underlying9 fun j hj=> ?_
  ·rw[hlen] at hr;exact hr
  ·rw[hlen] at hj;have ea:=h.sm (by omega)
   have eax:a=⟨g,k,none⟩:=by
    rcases hx with e|e
    ·rcases h0 e with q|q
     ·rw[hax,ea] at e;injection e with e;rw[e,q]
     ·omega
    ·rw[hax,ea,IL,Addr.add_mid,Lo] at e;injection e
   rw[eax,Addr.add_mid,h.at (by omega)]
   have:(List.take n (List.drop k l))[j]'(by omega)=l.getD (k+j) 0:=by
    rw[List.getElem_take,List.getElem_drop,Lc,Ll (by omega)];rfl
   rw[this]
end
theorem QeV{w w':World}{ops:Array Oper}{o:Oper}{a:Act}{K:Act->World->Prop}{Q:Exit->Act->World->Prop}{E:Prop}(hgd:o.guard=none)(s x:Operand)(t u:TypeId)
  (hop:o.op=Op.call { callee:=Callee.builtin Builtin.append,args:=#[s,x],argTypes:=#[t,u] }) {vs vx v':Value} (hs:a.eval s=vs) (hx:a.eval x=vx) (hr:(Builtin.append_ #[t,u] o.type #[vs,vx]).run prog w= .ok v' w')
  (hK:K (a.put o.dst v') w'):if Region.wanted o (yielded ops a.tmps)=true then Oper.wp prog o a w K Q else E:=by
 have hw:Region.wanted o (yielded ops a.tmps)=true:=by simp[Region.wanted,hgd]
 rw[Lm hw];unfold Oper.wp;simp[execOp,hop,resolve,invoke,builtin,hs,hx,hr,Result.andThen];exact hK
end St
namespace St.Rc
section
variable {S T:Nat->Prop} {w w' w1 w2:World}
theorem _root_.Go.Proofs.YtoblgjledefdbaaGreatDoor.St.Upo.on(h:Upo S w w1)(h2:Upo S w1 w2):Upo S w w2:=h.trans h2 fun _ _ q=>q
theorem _root_.Go.Proofs.YtoblgjledefdbaaGreatDoor.St.Upo.sets{g:Nat}(hg:S g∨w.heap.size<=g):∀(vs:List Value) (o:Nat) (w':World),Upo S w w'->Upo S w (w'.setCells g o vs)
 | [],_,_,h=>h
 | v::r,o,_,h=>Upo.sets hg r (o+1) _ (h.set g o v hg)
theorem _root_.Go.Proofs.YtoblgjledefdbaaGreatDoor.St.Upo.since{g:Nat}(h:Upo (fun b=>b=g) w1 w2)(h1:Below w.heap.size w w1)(hg:w.heap.size<=g):Below w.heap.size w w2 :=
 h1.trans (h.below h1.size fun b hb=>by omega)
end
structure Byt(w:World)(g:Nat)(l:List UInt8):Prop where
 rng:w.rangeAt g 0 (cY l)
 thr:w.there g 0 l.length
section
variable {w W:World} {g:Nat} {l:List UInt8}
theorem Byt.at(h:Byt w g l){j:Nat}(hj:j<l.length):w.cell? ⟨g,j,none⟩=some (.int .u8 ((l.getD j 0).toNat:Int)):=by
 have:=h.rng j (.int .u8 ((l.getD j 0).toNat:Int)) (by simp[cY,List.getElem?_eq_getElem hj,List.getD_eq_getElem?_getD])
 rwa [Lo] at this
theorem Byt.free(h:Byt w g l){j:Nat}(hj:j<l.length):w.frozen? ⟨g,j,none⟩=false:=by
 have:=(h.thr j hj).2
 rwa [Lo] at this
theorem Byt.lt(h:Byt w g l)(h0:0<l.length):g<w.heap.size:=Lf _ _ (h.at h0)
theorem QM{b o n:Nat}(h:w.there b o n)(a:Addr)(v:Value):(w.setCell a v).there b o n:=fun j hj=>by
 obtain⟨h1,h2⟩:=h j hj;refine⟨?_,by rw[NR];exact h2⟩
 by_cases e:a=⟨b,o+j,none⟩
 ·subst e;obtain⟨u,hu⟩:=Option.isSome_iff_exists.1 h1;rw[LX w _ v hu];rfl
 ·rw[Lq _ _ _ _ e];exact h1
theorem YG{b o:Nat}{cs:List Value}(h:w.rangeAt b o cs)(i:Nat)(v:Value):(w.setCell ⟨b,o+i,none⟩ v).rangeAt b o (cs.set i v):=fun j u hu=>by
 rw[List.getElem?_set] at hu
 split at hu
 ·rename_i e
  subst e
  split at hu
  ·rename_i hl
   cases hu;have:=h i cs[i] (Ll hl);exact LX w _ _ this
  ·cases hu
 ·rename_i e
  rw[Lq _ _ _ _ (fun e'=>e (by have:=LW Addr.off e';simp at this;omega))]
  exact h j u hu
theorem Byt.set(h:Byt w g l)(j:Nat)(b:UInt8)(x:Int)(hx:x=(b.toNat:Int)):Byt (w.setCell ⟨g,j,none⟩ (.int .u8 x)) g (l.set j b):=by
 subst hx;refine⟨?_,by rw[IK];exact QM h.thr _ _⟩
 have:=YG h.rng j (.int .u8 b.toNat);rw[Lo] at this;rw[cY,List.map_set];exact this
theorem Byt.same(h:Byt w g l)(hb:W.heap[g]? = w.heap[g]?):Byt W g l:=by
 refine⟨fun j v hv=> ?_,fun j hj=> ?_⟩
 ·rw[LI (a:=⟨g,0+j,none⟩) hb];exact h.rng j v hv
 ·rw[LI (a:=⟨g,0+j,none⟩) hb,N5 (a:=⟨g,0+j,none⟩) hb];exact h.thr j hj
theorem Byt.next{B:Nat}(h:Byt w g l)(hb:Below B w W)(hg:g<B):Byt W g l:=h.same (hb.block g hg)
theorem QlN(w:World)(s:BA)(cap:Nat)(t:TypeId):Byt (w.alloc (.cells (bytesRow s cap) t ((bytesRow s cap).size,(bytesRow s cap).size+1))) w.heap.size s.data.toList:=by
 have hsz:s.data.size<=(bytesRow s cap).size:=by simp[bytesRow]
 have hc:∀j,(hj:j<s.data.size)->(w.alloc (.cells (bytesRow s cap) t ((bytesRow s cap).size,(bytesRow s cap).size+1))).cell? ⟨w.heap.size,j,none⟩=some (.int .u8 (s.data[j].toNat:Int)):=fun j hj=>by
  rw[World.cell?_alloc_mark,bytesRow_at s cap j hj]
 refine⟨fun j v hv=> ?_,fun j hj=> ?_⟩
 ·have hj:j<s.data.size:=by have:=(List.getElem?_eq_some_iff.1 hv).1;rw[QE,NZ] at this;exact this
  rw[Lo,hc j hj,<-hv];simp[cY,Array.getElem?_eq_getElem hj]
 ·rw[NZ] at hj;rw[Lo,hc j hj,World.frozen?_alloc_mark]
  refine⟨rfl,?_⟩
  rw[Lx (by omega)];rfl
theorem Oq(w:World)(n:Nat):Byt (w.alloc (.cells (Array.replicate n (Value.int .u8 0)) 5)) w.heap.size (zer n):=by
 refine⟨fun j v hv=> ?_,Qo w _ _ _ (by simp[zer])⟩
 rw[Nq,Lo];have:cY (zer n)=List.replicate n (Value.int .u8 0):=by simp[cY,zer]
 rw[this] at hv;rw[<-hv];simp[Array.getElem?_replicate,List.getElem?_replicate]
theorem J1(v:Value)(n:Nat):madeCells #[v] n=Array.replicate n v:=by
 apply Array.ext
 ·simp[size_madeCells]
 ·intro i h1 h2;simp[madeCells,Nat.mod_one]
theorem U9(n:Nat)(hn:n<=140737488355328)(u:World):(Instr.makeSlice 127 (.int .i64 n) (.int .i64 n)).run prog u= .ok (.slice (Zp u.heap.size) n n) (u.alloc (.cells (Array.replicate n (Value.int .u8 0)) 5)):=by
 have:=run_make_row' (P:=prog) 127 5 (.int .u8 0) 1 underlying127 Tryz.infoY rfl .i64 .i64 n (by omega) (by omega) u
 rw[this,J1]
theorem Byt.conv(h:Byt w g l){k n:Nat}(hk:k+n<=l.length)(o:Nat)(ho:0<n->o=k)(m:Nat)(t:BA)(ht:(⟨((l.drop k).take n).toArray⟩:BA)=t) :
  (convert 127 9 (.slice (some ⟨g,o,none⟩) n m)).run prog w= .ok (.string t) w:=by
 subst ht;have hlen:((l.drop k).take n).length=n:=by simp;omega
 have hr:=run_convert_bytes_back w 127 9 5 ⟨g,o,none⟩ m ((l.drop k).take n) underlying127 underlying5 underlying9 fun j hj=> ?_
 ·rw[hlen] at hr;exact hr
 ·rw[hlen] at hj;obtain rfl:=ho (by omega)
  rw[Addr.add_mid,h.at (by omega)]
  have:(List.take n (List.drop o l))[j]'(by omega)=l.getD (o+j) 0:=by
   rw[List.getElem_take,List.getElem_drop,Lc,Ll (by omega)];rfl
  rw[this]
def ovr(l:List UInt8)(k:Nat)(t:List UInt8):List UInt8:=l.take k++t++l.drop (k+t.length)
theorem QaS(l:List UInt8)(k:Nat)(t:List UInt8)(h:k+t.length<=l.length):(ovr l k t).length=l.length:=by
 simp only[ovr,List.length_append,List.length_take,List.length_drop];omega
theorem Byt.over(h:Byt w g l)(k:Nat)(t:List UInt8)(hk:k+t.length<=l.length):Byt (w.setCells g k (cY t)) g (ovr l k t):=by
 refine⟨?_,by rw[QaS l k t hk];exact World.there_setCells h.thr _ _ _⟩
 have:=JP h.rng k (cY t) (by rw[QE,QE];exact hk) (fun j hj=>by
  rw[Lo];have:=h.thr (k+j) (by rw[QE] at hj;omega)
  rwa [Lo] at this)
 rw[Lo] at this;rw[ovr,U6,U6]
 simpa [cY,List.map_take,List.map_drop] using this
theorem QbH(ty:TypeId){k n m o:Nat}{t:BA}(h:Byt w g l)(hn:k+n<=l.length)(ho:0<t.size->o=k)(ht:t.size<=n) :
  (Builtin.copy_ #[127,9] ty #[.slice (some ⟨g,o,none⟩) n m,.string t]).run prog w= .ok (goInt t.size) (w.setCells g k (cY t.data.toList)):=by
 have hs:∀W,(Go.sizeOf 5).run prog W= .ok 1 W:=fun W=>by kernel_rfl
 have hc:Nat.min t.size n=t.size:=Ix ht;have hl:(cY t.data.toList).length=t.size:=by rw[QE,Qe]
 have he:List.take t.size (List.map (fun x:UInt8=>Value.int IntKind.u8 (x.toNat:Int)) t.data.toList)=cY t.data.toList:=by
  rw[cY,<-NN,Lr (by rw[Qe];exact La _)]
 by_cases z:t.size=0
 ·have e0:cY t.data.toList=[]:=List.length_eq_zero_iff.1 (by rw[hl,z])
  rw[e0];simp[Builtin.copy_,run_underlying underlying127,Builtin.lenOf,Builtin.firstCells,hs,z]
  rfl
 ·obtain rfl:=ho (by omega)
  have hst:=run_storeCells_cells (P:=prog) g o (cY t.data.toList) 0 w (by rw[hl];intro j hj;have:=h.thr (o+j) (by omega);simpa using this.1) (by rw[hl];intro j hj;have:=h.thr (o+j) (by omega);simpa using this.2) (Qff _)
  simp only[Nat.add_zero] at hst;simp[Builtin.copy_,run_underlying underlying127,Builtin.lenOf,Builtin.firstCells,hs,hc];rw[he,hst]
  rfl
end
theorem Ur{w w':World}{ops:Array Oper}{rest:List Oper}{o:Oper}{a:Act}{Q:Exit->Act->World->Prop}(hgd:o.guard=none)(d s:Operand)(t u:TypeId)
  (ho:o.op= .call { callee := .builtin .copy,args:=#[d,s],argTypes:=#[t,u] }) {v x v':Value} (hd:a.eval d=v) (hs:a.eval s=x)
  (hr:(Builtin.copy_ #[t,u] o.type #[v,x]).run prog w= .ok v' w') (h:wpList prog ops Q rest (a.put o.dst v') w'):wpList prog ops Q (o::rest) a w:=by
 refine wpList_plain hgd fun K hK=> ?_
 unfold Oper.wp;simp[execOp,ho,resolve,invoke,builtin,hd,hs,hr,Result.andThen];exact hK _ _ h
end St.Rc
namespace St.Rc
theorem Qks(l:List UInt8)(a:Nat)(t r:List UInt8)(x:UInt8)(ha:a<l.length):(l.take (a+1)++t++r).set a x=l.take a++x::t++r:=by
 have e:(l.take a).length=a:=by simp;omega
 rw[L4 ha,LH,LH,Nf _ _ (by omega),e,NH]
 simp
theorem UA(w:World)(g off len cap n:Nat)(l:List UInt8)(hl:Byt w g l)(ho:off+len<=l.length)(h8:len<=8)(hn:n<18446744073709551616) :
  Calls prog 264 #[.slice (some ⟨g,off,none⟩) len cap,.int .u64 n] w fun e w'=>e= .returned (.tuple #[])∧Byt w' g (ovr l off (big len n))∧Upo (fun b=>b=g) w w':=by
 have HO:Hid (off+len<=l.length):=ho;have H0:Hid (Byt w g (l.take (off+len)++big 0 n++l.drop (off+len))∧Upo (fun b=>b=g) w w):=⟨by simp[big];exact hl,Upo.refl _ _⟩
 have k8:(len:Int)<=8:=by omega
 have k0:(0:Int)<=(len:Int):=by omega
 have hN:Hid (n<18446744073709551616):=hn;clear hl ho hn
 go_enter func264,ntmps264;go_wp2
 go_loopg [1,4] len (fun G x i wr=> ∃(j d:Nat),j+d=len∧j=G∧x= .int .u64 ((n/256^d:Nat):Int)∧i= .int .i64 ((j:Int)-1)∧Hid (Byt wr g (l.take (off+j)++big d n++l.drop (off+len))∧Upo (fun b=>b=g) w wr))
 case atStart=>go_light;exact⟨len,0,by omega,rfl,by simp,by simp,H0⟩
 case round=>
  clear H0;obtain⟨j,d,hj,rfl,rfl,rfl,HB⟩:=hrel;have hx:n/256^d<=n:=NO _ _
  by_cases hz:0<j
  ·obtain⟨m,rfl⟩:∃m,j=m+1:=⟨j-1,by omega⟩
   have em:((m+1:Nat):Int)-1=(m:Int):=by omega
   rw[em];have m0:(0:Int)<=(m:Int):=by omega
   have m1:(m:Int)<(len:Int):=by omega
   have hol:=HO.out;have cl:=HB.out.1.at (j:=off+m) (by simp[Qr];omega)
   have fz:=HB.out.1.free (j:=off+m) (by simp[Qr];omega)
   obtain⟨z,hz'⟩:∃z,((l.take (off+(m+1))++big d n++l.drop (off+len)).getD (off+m) 0).toNat=z:=⟨_,rfl⟩;rw[hz'] at cl;obtain⟨x,hxd⟩:∃x,n/256^d=x:=⟨_,rfl⟩;have hx2:Hid (x<18446744073709551616):=by show _<_;have:=hN.out;omega
   have HX:Hid (Byt (wr.setCell ⟨g,off+m,none⟩ (.int .u8 ((x:Int)%256))) g (l.take (off+m)++big (d+1) n++l.drop (off+len))∧Upo (fun b=>b=g) w (wr.setCell ⟨g,off+m,none⟩ (.int .u8 ((x:Int)%256)))):=by
    refine⟨?_,HB.out.2.set _ _ _ (.inl rfl)⟩
    have:=HB.out.1.set (off+m) (UInt8.ofNat x) ((x:Int)%256) (by rw[UInt8.toNat_ofNat'];omega)
    rw[show off+(m+1)=off+m+1 by omega,Qks l (off+m) _ _ _ (by omega)] at this
    rw[QiJ,hxd];exact this
   have HD:Hid (x/256=n/256^(d+1)):=by
    show _=_
    rw[LJ,<-L3,hxd]
   rw[hxd];clear HB hxd hz' hx hol;go_wp2
   go_roundg m
   case rel=>
    go_light;refine⟨m,d+1,by omega,rfl,?_,?_,HX⟩
    ·have:=HD.out;rw[<-this];go_num
    ·go_num
   case measure=>go_light;omega
  ·obtain rfl:j=0:=by omega
   obtain rfl:d=len:=by omega
   have em:((0:Nat):Int)-1 = -1:=by omega
   rw[em];have HE:Hid (Byt wr g (ovr l off (big d n))∧Upo (fun b=>b=g) w wr):=by
    refine⟨?_,HB.out.2⟩
    have:=HB.out.1;rw[Iq] at this;rw[ovr,Qr];exact this
   clear HB hx hj;go_wp2;exact bodyPost_end (results_none rfl _ prog wr) rfl ⟨rfl,HE.out⟩
theorem Qko(l:List UInt8)(k:Nat)(hk:k<l.length):num (l.take (k+1))=num (l.take k)*256+(l.getD k 0).toNat:=by
 rw[L4 hk,ON,Lc,Ll hk]
 rfl
theorem QmT(x y:Nat)(hx:x<72057594037927936)(hy:y<256):bits .or .u64 (IntKind.u64.wrap ((x:Int)*256)) (y:Int)=((x*256+y:Nat):Int):=by
 have e:IntKind.u64.wrap ((x:Int)*256)=((x*256:Nat):Int):=by rw[IntKind.wrap_u64];omega
 rw[e,u64_or_nat _ _ (by omega) (by omega),show x*256=x <<< 8 by rw[Nat.shiftLeft_eq],<-Nat.shiftLeft_add_eq_or_of_lt (show y<2^8 by omega)]
theorem Jc(w:World)(g off len cap:Nat)(l:List UInt8)(hl:Byt w g l)(ho:off+len<=l.length)(h8:len<=8)(r:Nat)(hr:num ((l.drop off).take len)=r) :
  Calls prog 321 #[.slice (some ⟨g,off,none⟩) len cap] w fun e w'=>e= .returned (.int .u64 r)∧w'=w:=by
 obtain⟨t,ht⟩:∃t,(l.drop off).take len=t:=⟨_,rfl⟩;have htl:t.length=len:=by rw[<-ht];simp;omega
 have HC:Hid (∀k,k<len->w.cell? ⟨g,off+k,none⟩=some (.int .u8 ((t.getD k 0).toNat:Int))):=fun k hk=>by
  rw[hl.at (by omega),<-ht]
  simp[List.getD_eq_getElem?_getD,List.getElem?_drop,hk]
 rw[ht] at hr;have HR:Hid (num t=r∧t.length=len):=⟨hr,htl⟩;have k8:(len:Int)<=8:=by omega
 have k0:(0:Int)<=(len:Int):=by omega
 clear hl ho ht hr htl
 go_enter func321,ntmps321;go_wp2
 go_loopg [3,8] len (fun G x i wr=>w=wr ∧ ∃(k m:Nat),k<=len∧G=len-k∧x= .int .u64 m∧i= .int .i64 k∧Hid (num (t.take k)=m))
 case atStart=>go_light;exact⟨rfl,0,0,by omega,rfl,rfl,rfl,rfl⟩
 case round=>
  obtain⟨rfl,k,m,hk,rfl,rfl,rfl,HM⟩:=hrel
  by_cases hlt:k<len
  ·have hz:(k:Int)<(len:Int):=by omega
   have kk:(0:Int)<=(k:Int):=by omega
   have cl:=HC.out k hlt;have hb:(t.getD k 0).toNat<256:=(t.getD k 0).toNat_lt;have hst:=Qko t k (by rw[HR.out.2];exact hlt)
   rw[HM.out] at hst;have hm:m<72057594037927936:=by
    rw[<-HM.out];exact Qkn _ 7 (by simp;omega)
   obtain⟨y,hy⟩:∃y,(t.getD k 0).toNat=y:=⟨_,rfl⟩;rw[hy] at cl hb hst;have eo:=QmT m y hm hb;rw[<-hst] at eo;have e1:(y:Int)%18446744073709551616=(y:Int):=by omega
   obtain⟨v,hv⟩:∃v,num (t.take (k+1))=v:=⟨_,rfl⟩;rw[hv] at eo hst;have HV:Hid (num (t.take (k+1))=v):=hv;clear HM hv hst hm hb hy;go_wp2
   go_roundg (len-(k+1))
   case rel=>go_light;exact⟨rfl,k+1,v,by omega,rfl,rfl,by go_num,HV⟩
   case measure=>go_light;omega
  ·obtain rfl:k=len:=by omega
   have hz:¬(k:Int)<(k:Int):=by omega
   have HE:Hid (m=r):=by
    show _=_
    have:=HM.out;rw[Lr (by rw[HR.out.2];exact La _),HR.out.1] at this
    exact this.symm
   clear HM;go_wp2
   go_ret
   exact⟨by rw[HE.out];rfl,rfl⟩
theorem Qdz(w:World)(k:Int):Calls prog 272 #[.int .i64 k] w fun e w'=>e= .returned (.bool (decide (1<=k∧k<=32)))∧w'=w:=by
 by_cases h1:1<=k
 ·by_cases h2:k<=32
  ·have e:decide (1<=k∧k<=32)=true:=by simp[h1,h2]
   rw[e]
   go_enter func272,ntmps272;go_wp2
   go_ret
   exact⟨rfl,rfl⟩
  ·have e:decide (1<=k∧k<=32)=false:=by simp[h2]
   rw[e]
   go_enter func272,ntmps272;go_wp2
   go_ret
   exact⟨rfl,rfl⟩
 ·have e:decide (1<=k∧k<=32)=false:=by simp[h1]
  rw[e]
  go_enter func272,ntmps272;go_wp2
  go_ret
  exact⟨rfl,rfl⟩
theorem QbE(w:World)(g n cap:Nat)(h8:8<=n)(hc:n<=cap)(hm:n<=140737488355328)(o:Nat)(ho:(if n-4=4 then 0 else 4)=o)(m:Nat)(hm2:n-8=m) :
  Calls prog 263 #[.slice (Zp g) n cap] w fun e w'=>e= .returned (.tuple #[.slice (Zp g) 4 4,.slice (some ⟨g,o,none⟩) m m])∧Below w.heap.size w w':=by
 have z1:(0:Int)<=(n:Int)-4:=by omega
 have z2:(n:Int)-4<=(cap:Int):=by omega
 have z3:(4:Int)<=(n:Int)-4:=by omega
 have z4:(4:Int)<=(cap:Int):=by omega
 have z5:(n:Int)<=140737488355328:=by omega
 have HO:Hid ((if n-4=4 then 0 else 4)=o∧n-4-4=m):=⟨ho,by omega⟩
 clear ho hm2
 go_enter func263,ntmps263;go_wp2
 go_quiet (fail)
 go_wp2
 ·obtain⟨h1,h2⟩:=HO.out;rw[Lm h] at h1;obtain rfl:m=0:=by omega
  subst h1;exact LK (v := .tuple #[.slice (Zp g) 4 4,.slice (Zp g) 0 0]) (by simp[results,results263,go_sem]) rfl ⟨rfl,Qi (Lb _ _) _⟩
 ·obtain⟨h1,h2⟩:=HO.out;rw[Ld h] at h1;rw[h2];subst h1;exact LK (v := .tuple #[.slice (Zp g) 4 4,.slice (some ⟨g,4,none⟩) m m]) (by simp[results,results263,go_sem]) rfl ⟨rfl,Qi (Lb _ _) _⟩
theorem QfH(w:World)(g n cap:Nat)(h8:36<=cap) :
  Calls prog 333 #[.slice (Zp g) n cap] w fun e w'=>e= .returned (.tuple #[.slice (Zp g) 32 32,.slice (some ⟨g,32,none⟩) 4 4])∧Below w.heap.size w w':=by
 have z1:(36:Int)<=(cap:Int):=by omega
 have z2:(32:Int)<=(cap:Int):=by omega
 go_enter func333,ntmps333;go_wp2
 go_quiet (fail)
 go_wp2;refine LK (v := .tuple #[.slice (Zp g) 32 32,.slice (some ⟨g,32,none⟩) 4 4]) (by simp[results,results333,go_sem]) rfl ⟨rfl,Qi (Lb _ _) _⟩
def mP(g:Nat):Value := .agg #[.slice (Zp g) 4 4,.slice (some ⟨g,4,none⟩) 1 1,.slice (some ⟨g,8,none⟩) 8 8,.slice (some ⟨g,16,none⟩) 8 8,.slice (some ⟨g,24,none⟩) 8 8,.slice (some ⟨g,32,none⟩) 4 4]
theorem QfF(w:World)(g n cap:Nat)(h8:36<=cap) :
  Calls prog 273 #[.slice (Zp g) n cap] w fun e w'=>e= .returned (mP g)∧Below w.heap.size w w':=by
 have z1:(36:Int)<=(cap:Int):=by omega
 have z2:(32:Int)<=(cap:Int):=by omega
 have z3:(24:Int)<=(cap:Int):=by omega
 have z4:(16:Int)<=(cap:Int):=by omega
 have z5:(5:Int)<=(cap:Int):=by omega
 have z6:(4:Int)<=(cap:Int):=by omega
 go_enter func273,ntmps273;go_wp2
 go_region
 go_wp2;refine LK (v:=mP g) (by simp[results,results273,go_sem,mP]) rfl ⟨rfl,Qi (bal (Lb _ _) _) 1⟩
theorem Jg(w:World)(g n cap:Nat)(l:List UInt8)(hl:Byt w g l)(hn:l.length=n)(h8:8<=n)(hc:n<=cap)(hm:n<=140737488355328)(t:BA)(ht:(⟨(sld (l.take (n-4))).toArray⟩:BA)=t) :
  Calls prog 265 #[.slice (Zp g) n cap] w fun e w'=>e= .returned (.string t)∧Byt w' g (sld (l.take (n-4)))∧Upo (fun b=>b=g) w w':=by
 obtain⟨k,hk⟩:∃k,n=k+4:=⟨n-4,by omega⟩
 subst hk;rw[Nx] at ht ⊢;obtain⟨u,hu⟩:∃u:BA,(⟨(l.take k).toArray⟩:BA)=u:=⟨_,rfl⟩;have hul:u.data.toList=l.take k:=by rw[<-hu]
 have hus:u.size=k:=by rw[<-Qe,hul];simp;omega
 have z1:(0:Int)<=(k:Int):=by omega
 have z2:(k:Int)<=(cap:Int):=by omega
 have z3:((k+4:Nat):Int)-4=(k:Int):=by omega
 have z4:(k:Int)<=140737488355328:=by omega
 have z5:(k:Int)<=((k+4:Nat):Int):=by omega
 have z6:¬cap=k:=by omega
 have HL:Hid (Byt w g l∧l.length=k+4∧g<w.heap.size):=⟨hl,hn,hl.lt (by omega)⟩
 have HC:Hid (∀W,Below w.heap.size w W->(convert 127 9 (.slice (Zp g) k k)).run prog W= .ok (.string u) W):=fun W hb=>
  (HL.out.1.next hb HL.out.2.2).conv (k:=0) (n:=k) (by have:=HL.out.2.1;omega) 0 (fun _=>rfl) k u (by rw[IE];exact hu)
 obtain⟨x,hx⟩:∃x,crc (l.take k)=x:=⟨_,rfl⟩;have hx4:=Qja (l.take k);rw[hx] at hx4;have HF:Hid (∀W,Calls prog 341 #[.slice (Zp W.heap.size) 1 1] (W.alloc (.cells #[.string u] 9)) fun e w'=>e= .returned (.int .u32 x)∧Below W.heap.size W w'):=fun W=>by
  refine(Qc5 _ _ W.heap.size 0 1 1 [u] ⟨rfl,fun _=>rfl,Qp W [.string u] 9,by intro s hs;simp at hs;subst hs;omega⟩ (by decide)).mono ?_
  rintro e w' ⟨rfl,hb⟩;refine⟨?_,((Lb _ _).alloc (La _) _).trans (hb.mono (by simp))⟩
  rw[<-hx,crc,sumL,<-hul];simp[Qk]
 have HP:Hid (∀W,Below w.heap.size w W->Calls prog 264 #[.slice (some ⟨g,k,none⟩) 4 (cap-k),.int .u64 x] W fun e w'=>e= .returned (.tuple #[])∧Byt w' g (sld (l.take k))∧Upo (fun b=>b=g) w w'):=fun W hb=>by
  refine(UA W g k 4 (cap-k) x l (HL.out.1.next hb HL.out.2.2) (by have:=HL.out.2.1;omega) (by decide) (by omega)).mono ?_
  rintro e w' ⟨rfl,hy,hup⟩;refine⟨rfl,?_,(Upo.of hb).on hup⟩
  rw[ovr,Qr,Nk (by rw[hn];exact La _),Nd,<-hx] at hy
  exact hy
 have HD:Hid (∀W,Byt W g (sld (l.take k))->(convert 127 9 (.slice (Zp g) (k+4) cap)).run prog W= .ok (.string t) W):=fun W hy=>by
  have hsl:(sld (l.take k)).length=k+4:=by rw[JR];simp;omega
  exact hy.conv (k:=0) (n:=k+4) (by omega) 0 (fun _=>rfl) cap t (by rw[IE,Lr (by omega)];exact ht)
 clear hl hn ht hx hu hul hus
 go_enter func265,ntmps265;go_wp2
 go_quiet (fail)
 have hb0:Below w.heap.size w (w.drewN nq):=Qi (Lb _ _) _;have kc:=HC.out _ hb0;generalize w.drewN nq=w1 at *
 go_wp2_with (first
  | (go_at_call 341;with_reducible refine(HF.out _).mono ?_;rintro e w2 ⟨rfl,hb⟩)
  | (go_at_call 264;with_reducible refine(HP.out _ (hb0.trans (hb.mono hb0.size))).mono ?_;rintro e w3 ⟨rfl,hy,hup⟩;have kd:=HD.out _ hy))
 go_ret
 exact⟨rfl,hy,hup⟩
end St.Rc
end Go.Proofs.YtoblgjledefdbaaGreatDoor
