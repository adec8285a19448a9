/- Own work. -/
import Derived.WalkLawsBesides
import Derived.Deep.DeepMakePanics
import Derived.Test.YtdocjikpcbmcgaaGreatDoorQj09
set_option maxRecDepth 100000
set_option maxHeartbeats 1000000
namespace Go.Proofs.YtdocjikpcbmcgaaGreatDoor
open Go.RowKit
attribute [local go_sem ↓] Go.wp_at_zero Go.wp_at_succ
def tkC(s:BA)(e:Nat)(n:Int):BA×Nat×BA :=
 if e≠0 then (ByteArray.empty,e,s) else if n<0∨(s.size:Int)<n then (ByteArray.empty,60,ByteArray.empty) else (s.extract 0 n.toNat,0,s.extract n.toNat s.size)
theorem Qak(w:World)(p e:Nat)(s:BA)(n:Int)(hr:Rdr w p s e) :
  Calls Tryz.prog 151 #[.pointer (some ⟨p,0,none⟩),.int .i64 n] w fun x w'=>x = .returned (.tuple #[.string (tkC s e n).1,.int .i64 ((tkC s e n).2.1:Int)])∧Rdr w' p (tkC s e n).2.2 (tkC s e n).2.1∧Ch p w w':=by
 have c0:=hr.c0;have c1:=hr.c1;have f0:=hr.f0;have f1:=hr.f1
 by_cases he:e=0
 ·subst he
  by_cases hn:n<0∨(s.size:Int)<n
  ·have ht:tkC s 0 n=(ByteArray.empty,60,ByteArray.empty):=by rw[tkC,if_neg (by simp),if_pos hn]
   rw[ht];have HF:=QbC w p 60 s hr;clear hr
   by_cases h0:n<0
   ·go_enter Tryz.func151,Tryz.ntmps151
    go_wp2_with (go_at_call 178;refine HF.mono ?_;rintro x w' ⟨rfl,h1,h2⟩)
    go_ret2
    exact⟨rfl,h1,h2⟩
   ·have h1:(s.size:Int)<n:=by omega
    go_enter Tryz.func151,Tryz.ntmps151
    go_wp2_with (go_at_call 178;refine HF.mono ?_;rintro x w' ⟨rfl,h1,h2⟩)
    go_ret2
    exact⟨rfl,h1,h2⟩
  ·have ht:tkC s 0 n=(s.extract 0 n.toNat,0,s.extract n.toNat s.size):=by rw[tkC,if_neg (by simp),if_neg hn]
   rw[ht];obtain⟨k,rfl⟩ : ∃k:Nat,n=k:=⟨n.toNat,by omega⟩
   have h0 : ¬(k:Int)<0:=by omega
   have h1 : ¬(s.size:Int)<(k:Int):=by omega
   have h2:(k:Int)<=(s.size:Int):=by omega
   have R1:Hid (Rdr (w.setCell ⟨p,0,none⟩ (.string (s.extract k s.size))) p (s.extract k s.size) 0):=hr.set0 _;clear hr
   go_enter Tryz.func151,Tryz.ntmps151;go_wp2
   go_ret2
   exact⟨rfl,R1.out,(Ch.refl p w).set 0 _⟩
 ·have ht:tkC s e n=(ByteArray.empty,e,s):=by rw[tkC,if_pos he]
  rw[ht];have hz : ¬(e:Int)=0:=by omega
  go_enter Tryz.func151,Tryz.ntmps151;go_wp2
  go_quiet (fail)
  go_wp2
  go_ret2
  exact⟨rfl,hr.drewN _,(Ch.refl p w).drewN _⟩
def nb(s:BA)(e:Nat):Nat×Nat×BA :=
 if e≠0 then (0,e,s) else ((Q9 s.data.toList 0 0).1,(Q9 s.data.toList 0 0).2.1,if (Q9 s.data.toList 0 0).2.1=0 then s.extract (Q9 s.data.toList 0 0).2.2 s.size else ByteArray.empty)
theorem QlO{s:BA}{n k:Nat}(h:Q9 s.data.toList 0 0=(n,0,k)):nb s 0=(n,0,s.extract k s.size):=by
 simp[nb,h]
theorem Qdv{s:BA}{n e k:Nat}(h:Q9 s.data.toList 0 0=(n,e,k))(he:e≠0):nb s 0=(n,e,ByteArray.empty):=by
 simp[nb,h,he]
theorem Qf1(s:BA)(k:Nat)(hk:k<s.size):s.data.toList.drop k=s[k]::s.data.toList.drop (k+1):=by
 rw[LC (by simpa using hk)]
 rfl
theorem Qg{q:Prop}(h:q):Hid q:=h
theorem or7(n b k:Nat)(hn:n<128^k)(hk:k<=9)(h:k=9->b<=1) :
  bits .or .u64 (n:Int) (IntKind.u64.wrap ((b:Int) % 128*2^(7*k)))=((n+b % 128*128^k:Nat):Int)∧n+b % 128*128^k<18446744073709551616:=by
 have e9:(128:Nat)^9=9223372036854775808:=by decide
 have hp:128^k<=128^9:=Qa4 hk;have hx:b % 128*128^k<=9223372036854775808:=by
  rcases IR k 9 with h9|h9
  ·have hp1:128^(k+1)<=128^9:=Qa4 (by omega)
   have:b % 128*128^k<=127*128^k:=Lo _ (by omega)
   rw[LA] at hp1;omega
  ·obtain rfl:k=9:=by omega
   have:b % 128*128^9<=1*128^9:=Lo _ (by have:=h rfl;omega)
   omega
 have e1:((b:Int) % 128*2^(7*k))=((b % 128*128^k:Nat):Int):=by
  rw[N5,Int.natCast_pow,Int.pow_mul];rfl
 have e2:(2:Nat)^(7*k)=128^k:=by rw[Nat.pow_mul]
 rw[e1,IntKind.wrap_u64,Int.emod_eq_of_lt (by omega) (by omega),u64_or_nat _ _ (by omega) (by omega)]
 refine⟨?_,by omega⟩
 have:=Nat.two_pow_add_eq_or_of_lt (i:=7*k) (b:=n) (by rw[e2];exact hn) (b % 128)
 rw[Nat.or_comm,<-e2,LY (b % 128),<-this,I9 n]
theorem Qju(w:World)(p e:Nat)(s:BA)(hr:Rdr w p s e)(hs:s.size<=9223372036854775807) :
  Calls Tryz.prog 152 #[.pointer (some ⟨p,0,none⟩)] w fun x w'=>x = .returned (.tuple #[.int .u64 ((nb s e).1:Int),.int .i64 ((nb s e).2.1:Int)])∧Rdr w' p (nb s e).2.2 (nb s e).2.1∧Ch p w w':=by
 have c0:=hr.c0;have c1:=hr.c1;have f0:=hr.f0;have f1:=hr.f1
 by_cases he:e=0
 ·subst he;have F60:=QbC w p 60 s hr;have F61:=QbC w p 61 s hr;have RSC:Hid (∀k,Rdr (w.setCell ⟨p,0,none⟩ (.string (s.extract k s.size))) p (s.extract k s.size) 0):=fun k=>hr.set0 _
  clear hr
  go_enter Tryz.func152,Tryz.ntmps152;go_wp2
  go_loopg [4,5] 10 (fun g x i wr=>w=wr ∧ ∃(k n:Nat),k<=s.size∧k<=9∧g=10 - k∧x = .int .u64 (n:Int)∧i = .int .i64 k∧Hid (n<128^k∧Q9 (s.data.toList.drop k) k n=Q9 s.data.toList 0 0))
  case atStart =>
   go_light;exact⟨rfl,0,0,Lf _,by omega,rfl,rfl,rfl,by decide,by rw[Iv]⟩
  case round =>
   obtain⟨rfl,k,n,hk,h9,rfl,rfl,rfl,HS⟩:=hrel
   by_cases hlt:k<s.size
   ·have hz:(k:Int)<(s.size:Int):=by omega
    obtain⟨b,hb⟩:=Ze (s[k].toNat);have hb8:b<256:=by rw[<-hb];exact s[k].toNat_lt
    obtain⟨hn,hsc⟩:=HS.out;rw[Qf1 s k hlt,Q9,hb] at hsc;clear HS
    by_cases hi:k=9∧1<b
    ·obtain⟨rfl,hi⟩:=hi;rw[if_pos ⟨rfl,hi⟩] at hsc;have HT:=Qg (Qdv hsc.symm (by decide))
     have hi':(1:Int)<(b:Int):=by omega
     clear hsc hn
     go_wp2_with (go_at_call 178;refine F61.mono ?_;rintro x w' ⟨rfl,h1,h2⟩)
     go_ret2
     rw[HT.out];exact⟨rfl,h1,h2⟩
    ·obtain⟨ho,hlim⟩:=or7 n b k hn h9 (by omega)
     rw[if_neg hi] at hsc;obtain⟨m,hm⟩ : ∃m,m=n+b % 128*128^k:=⟨_,rfl⟩;rw[<-hm] at ho hlim
     by_cases hl:b<128
     ·rw[if_pos hl,<-show b % 128=b from Nx hl,<-hm,show b % 128=b from Nx hl] at hsc
      have hl':(b:Int)<128:=by omega
      by_cases h0:b=0∧0<k
      ·rw[if_pos h0] at hsc;have HT:=Qg (Qdv hsc.symm (by decide))
       obtain⟨rfl,h0⟩:=h0;have h0':(0:Int)<(k:Int):=by omega
       clear hsc hn hm
       by_cases hk9:k=9
       ·subst hk9
        go_wp2_with (go_at_call 178;refine F61.mono ?_;rintro x w' ⟨rfl,h1,h2⟩)
        go_ret2
        rw[HT.out];exact⟨rfl,h1,h2⟩
       ·have hq : ¬(k:Int)=9:=by omega
        go_wp2_with (go_at_call 178;refine F61.mono ?_;rintro x w' ⟨rfl,h1,h2⟩)
        go_ret2
        rw[HT.out];exact⟨rfl,h1,h2⟩
      ·rw[if_neg h0] at hsc;have HT:=Qg (QlO hsc.symm);clear hsc hn hm;have HC:Hid (Ch p w (w.setCell ⟨p,0,none⟩ (.string (s.extract (k+1) s.size)))):=(Ch.refl p w).set 0 _;have hz1:((k:Int)+1)<=(s.size:Int):=by omega
       by_cases hk9:k=9
       ·subst hk9;have hb1 : ¬(1:Int)<(b:Int):=by omega
        have hb0 : ¬(b:Int)=0:=by omega
        have ho9:bits .or .u64 (n:Int) ((b:Int) % 128*9223372036854775808)=(m:Int):=by
         rw[<-ho,IntKind.wrap_u64];have e:(2:Int)^(7*9)=9223372036854775808:=by decide
         rw[e,Int.emod_eq_of_lt (a:=(b:Int) % 128*9223372036854775808) (by omega) (by omega)]
        go_wp2
        go_ret2
        rw[HT.out];exact⟨rfl,RSC.out _,HC.out⟩
       ·have hq : ¬(k:Int)=9:=by omega
        by_cases hb0:b=0
        ·obtain rfl:k=0:=by omega
         subst hb0;have ho0:bits .or .u64 (n:Int) 0=(m:Int):=by rw[<-ho];rfl
         go_wp2
         go_ret2
         rw[HT.out];exact⟨rfl,RSC.out _,HC.out⟩
        ·have hb1 : ¬(b:Int)=0:=by omega
         go_wp2
         go_ret2
         rw[HT.out];exact⟨rfl,RSC.out _,HC.out⟩
     ·have hq : ¬(k:Int)=9:=by omega
      have hl' : ¬(b:Int)<128:=by omega
      have HS:Hid (m<128^(k+1)∧Q9 (s.data.toList.drop (k+1)) (k+1) m=Q9 s.data.toList 0 0):=by
       rw[if_neg hl,<-hm] at hsc;refine⟨?_,hsc⟩
       rw[hm,LA];have:b % 128*128^k<=127*128^k:=Lo _ (by omega)
       omega
      clear hsc hn hm;go_wp2
      go_roundg (10 - (k+1))
      case rel =>
       go_light;exact⟨rfl,k+1,m,by omega,by omega,rfl,rfl,by go_num,HS.out⟩
      case measure=>go_light;omega
   ·obtain rfl:k=s.size:=by omega
    have hz : ¬(s.size:Int)<(s.size:Int):=by omega
    have hsc:=HS.out.2;rw[Nb (by simp),Q9] at hsc
    have HT:=Qg (Qdv hsc.symm (by decide))
    clear hsc HS
    go_wp2_with (go_at_call 178;refine F60.mono ?_;rintro x w' ⟨rfl,h1,h2⟩)
    go_ret2
    rw[HT.out];exact⟨rfl,h1,h2⟩
 ·have ht:nb s e=(0,e,s):=by rw[nb,if_pos he]
  rw[ht];have hz : ¬(e:Int)=0:=by omega
  go_enter Tryz.func152,Tryz.ntmps152;go_wp2
  go_quiet (fail)
  go_wp2
  go_ret2
  exact⟨rfl,hr.drewN _,(Ch.refl p w).drewN _⟩
def cY(l:List UInt8):List Value:=l.map fun b=>Value.int .u8 (b.toNat:Int)
theorem Tryz.infoY:(Tryz.prog.info? 5).map (fun i=>(i.zero,i.size,i.bytes))=some (some (.int .u8 0),1,1):=by kernel_rfl
def OwnY(w:World)(B:Nat)(v:Value)(l:List UInt8):Prop:=w.ownsRow B 5 1 v l.length (cY l)
theorem Qhs{w:World}{B:Nat}{v:Value}{l:List UInt8}(h:OwnY w B v l):(convert 95 9 v).run Tryz.prog w = .ok (.string ⟨l.toArray⟩) w:=by
 have hc:=fun g=>h.cells (g:=g)
 obtain⟨h1,h2⟩:=h
 rcases h2 with ⟨rfl,h0⟩|⟨g,cap,cur,rfl,hg,hh,r⟩
 ·have:l=[]:=LG.1 h0;subst this;exact run_convert_bytes_nil w 95 5 Tryz.underlying95 Tryz.underlying5 0 0 9 Tryz.underlying9
 ·refine run_convert_bytes_back _ 95 9 5 ⟨g,0,none⟩ cap l Tryz.underlying95 Tryz.underlying5 Tryz.underlying9 fun j hj => ?_
  exact hc g rfl j _ (by simp[cY,List.getElem?_eq_getElem hj])
theorem Qjg{w:World}{B:Nat}{v:Value}{l:List UInt8}(h:OwnY w B v l) : ∀k,v.ownBlock=some k->B<=k:=by
 obtain⟨_,h2⟩:=h
 rcases h2 with ⟨rfl,_⟩|⟨g,cp,cur,rfl,hg,_⟩
 ·intro k hk;cases hk
 ·intro k hk;cases hk;exact hg
theorem JB(w:World){ops:Array Oper}{rest:List Oper}{o:Oper}{a:Act}{Q:Exit->Act->World->Prop}
  (hg:o.guard=none) (s x:Operand) (hop:o.op=Op.call { callee:=Callee.builtin Builtin.append,args:=#[s,x],argTypes:=#[95,95] })
  (B:Nat) (v:Value) (L:List UInt8) (hs:a.eval s=v) (hown:OwnY w B v L) (y:Nat) (b:UInt8) (hb:y=b.toNat) (hx:a.eval x = .slice (some ⟨w.heap.size,0,none⟩) 1 1)
  (hlen:L.length<=1000) (hB:B<=w.heap.size)
  (hK : ∀v' w',OwnY w' B v' (L++[b])->Below B w w'->wpList Tryz.prog ops Q rest (a.put o.dst v') w'):wpList Tryz.prog ops Q (o::rest) a (w.alloc (.cells #[.int .u8 (y:Int)] 5)):=by
 obtain⟨i0,hi,hz0,hz1,hz2⟩:=info_parts Tryz.infoY;subst hb;refine wpList_append_own _ hg s x _ hop B 5 i0 (.int .u8 0) 1 1 Tryz.underlying95 hi hz0 hz1 hz2 rfl (by decide) _ _ _ hs (IP hown _) ⟨w.heap.size,0,none⟩ 1 1 (cY [b]) hx (by simp[cY]) ?_ (by intro u hu;simp[cY] at hu;subst hu;rfl) (by unfold maxLen;omega) (by omega) (by simp;omega) ?_
 ·intro j u hu;have hj:j=0:=by have:=(Lw.1 hu).1;simp[cY] at this;exact this
  subst hj;have hu':Value.int .u8 (b.toNat:Int)=u:=NE hu;subst hu';rw[Addr.add_mid,NY]
  rfl
 ·intro v' w' h1 h2 _;refine hK v' w' ?_ (((Below.refl _ _).alloc hB _).trans ((Below.refl _ _).grown h2 (by simp;omega) (Qjg hown)))
  rw[OwnY,Ld,cY,LK];exact h1
abbrev pnc:Ending := .panicked [{ v := .iface 31 (.int .i64 140),recovered:=false }]
theorem YD(w:World)(b:Bool)(hb:b=true):Calls Tryz.prog 106 #[.bool b] w fun e w'=>e = .returned (.tuple #[])∧w'=w:=by
 subst hb
 go_enter Tryz.func106,Tryz.ntmps106;go_wp2
 go_end0
 exact⟨rfl,rfl⟩
theorem Ub(w:World)(b:Bool)(hb:b=false):Calls Tryz.prog 106 #[.bool b] w fun e w'=>e=pnc∧w'=w:=by
 subst hb
 go_enter Tryz.func106,Tryz.ntmps106;go_wp2;exact⟨rfl,rfl,rfl⟩
theorem JH(s:BA)(k:Nat):(s.extract k s.size).data.toList=s.data.toList.drop k:=by
 rw[Nw,N7,N4,Lx (by rw[LD,Qo];omega)]
theorem Qec(s:BA)(k:Nat):(s.extract 0 k).data.toList=s.data.toList.take k:=by
 rw[Nw,N7,N4,Iv,In]
theorem QkM{s:BA}{n:Nat}{r:List UInt8}(h:nmb s.data.toList=some (n,r)) : ∃s',s'.data.toList=r∧nb s 0=(n,0,s')∧s'.size<=s.size:=by
 unfold nmb at h
 split at h
 ·rename_i h0
  obtain⟨a,b,c,hc⟩ : ∃a b c,Q9 s.data.toList 0 0=(a,b,c):=⟨_,_,_,rfl⟩;rw[hc] at h h0;simp only[Option.some.injEq,Prod.mk.injEq] at h h0;subst h0;obtain⟨rfl,rfl⟩:=h;refine⟨_,JH s c,QlO hc,?_⟩
  have:=congrArg List.length (JH s c);rw[Qo,LD,Qo] at this;omega
 ·cases h
theorem QkL{s:BA}(h:nmb s.data.toList=none) : ∃n e s',nb s 0=(n,e,s')∧e≠0:=by
 unfold nmb at h
 split at h
 ·cases h
 ·rename_i h0
  obtain⟨a,b,c,hc⟩ : ∃a b c,Q9 s.data.toList 0 0=(a,b,c):=⟨_,_,_,rfl⟩;rw[hc] at h0;exact⟨_,_,_,Qdv hc h0,h0⟩
theorem QbV(w:World)(p:Nat)(s:BA)(hr:Rdr w p s 0)(hs:s.size<=9223372036854775807) :
  Calls Tryz.prog 103 #[.pointer (some ⟨p,0,none⟩)] w fun e w'=>(∃n s',nmb s.data.toList=some (n,s'.data.toList)∧e = .returned (.int .u64 (n:Int))∧Rdr w' p s' 0∧Ch p w w'∧s'.size<=s.size)∨(nmb s.data.toList=none∧e=pnc∧Ch p w w'):=by
 have HR:=Qju w p 0 s hr hs
 cases hn:nmb s.data.toList with
 | none =>
  obtain⟨n,e,s',h1,h2⟩:=QkL hn;rw[h1] at HR;have h2':((e:Int) == 0)=false:=beq_false_of_ne (by omega)
  clear hr hs h1 hn h2
  go_enter Tryz.func103,Tryz.ntmps103
  go_wp2_with (first
   | (go_at_call 152;with_reducible refine HR.mono ?_;rintro x w1 ⟨rfl,h1,h2⟩)
   | (go_at_call 106;refine(Ub _ _ rfl).mono ?_;rintro x w2 ⟨rfl,rfl⟩))
  exact⟨rfl,.inr ⟨trivial,rfl,h2⟩⟩
 | some a =>
  obtain⟨n,r⟩:=a;obtain⟨s',rfl,h1,h3⟩:=QkM hn;rw[h1] at HR;clear hr hs h1 hn
  go_enter Tryz.func103,Tryz.ntmps103
  go_wp2_with (first
   | (go_at_call 152;with_reducible refine HR.mono ?_;rintro x w1 ⟨rfl,h1,h2⟩)
   | (go_at_call 106;refine(YD _ _ rfl).mono ?_;rintro x w2 ⟨rfl,rfl⟩))
  go_ret
  exact .inl ⟨n,s',rfl,rfl,h1,h2,h3⟩
theorem Qb9(w:World)(p:Nat)(s:BA)(hr:Rdr w p s 0)(hs:s.size<=9223372036854775807) :
  Calls Tryz.prog 102 #[.pointer (some ⟨p,0,none⟩)] w fun e w'=>(∃b s',s.data.toList=b::s'.data.toList∧e = .returned (.int .i64 (b.toNat:Int))∧Rdr w' p s' 0∧Ch p w w'∧s'.size<=s.size)∨(s.data.toList=[]∧e=pnc∧Ch p w w'):=by
 have HR:=Qak w p 0 s 1 hr
 by_cases h0:s.size=0
 ·have ht:tkC s 0 1=(ByteArray.empty,60,ByteArray.empty):=by rw[tkC,if_neg (by simp),if_pos (by omega)]
  rw[ht] at HR;have hl:s.data.toList=[]:=LG.1 (by rw[Qo];exact h0)
  clear hr hs ht
  go_enter Tryz.func102,Tryz.ntmps102
  go_wp2_with (first
   | (go_at_call 151;with_reducible refine HR.mono ?_;rintro x w1 ⟨rfl,h1,h2⟩)
   | (go_at_call 106;refine(Ub _ _ rfl).mono ?_;rintro x w2 ⟨rfl,rfl⟩))
  exact⟨rfl,.inr ⟨hl,rfl,h2⟩⟩
 ·have ht:tkC s 0 1=(s.extract 0 1,0,s.extract 1 s.size):=by rw[tkC,if_neg (by simp),if_neg (by omega)];rfl
  rw[ht] at HR;obtain⟨b,r,hl⟩ : ∃b r,s.data.toList=b::r:=by
   cases h:s.data.toList with
   | nil=>exact absurd (by rw[<-Qo,h];rfl) h0
   | cons b r=>exact⟨b,r,rfl⟩
  have h1:(s.extract 0 1).data.toList=[b]:=by rw[Qec,hl];rfl
  have h2:(s.extract 1 s.size).data.toList=r:=by rw[JH,hl];rfl
  have h3:=congrArg List.length h2;have h4:=congrArg List.length hl;rw[Qo] at h3 h4;generalize s.extract 0 1=t at *;generalize s.extract 1 s.size=s' at *;subst h2;obtain⟨⟨t⟩⟩:=t;obtain rfl:t=[b]:=h1;have hb : ∀W,(Instr.index 9 (.string ⟨⟨[b]⟩⟩) (.int .i64 0)).run Tryz.prog W = .ok (.int .u8 (b.toNat:Int)) W:=fun W=>by
   have e:(⟨⟨[b]⟩⟩:BA)[0]? = some b:=rfl;simp[Instr.index,asIntOf,run_underlying Tryz.underlying9,e]
  clear hr hs ht h0
  go_enter Tryz.func102,Tryz.ntmps102
  go_wp2_with (first
   | (go_at_call 151;with_reducible refine HR.mono ?_;rintro x w1 ⟨rfl,h1,h2⟩)
   | (go_at_call 106;refine(YD _ _ rfl).mono ?_;rintro x w2 ⟨rfl,rfl⟩))
  go_ret
  have e2:wrap64 (b.toNat:Int)=(b.toNat:Int):=by
   have:=b.toNat_lt;unfold wrap64;omega
  exact .inl ⟨b,s',hl,congrArg (fun x=>Ending.returned (.int .i64 x)) e2,h1,h2,by simp at h4;omega⟩
section
open Cv (cU RdC)
theorem U8{w:World}{p:Nat}{s:BA}(hr:Rdr w p s 0)(hs:s.size<=9223372036854775807)(h:nmb s.data.toList=none) :
  Calls Tryz.prog 103 #[.pointer (some ⟨p,0,none⟩)] w fun e w'=>e=pnc∧Ch p w w':=by
 refine(QbV w p s hr hs).mono ?_
 rintro e w' (⟨n,s',g1,_⟩|⟨_,g2,g3⟩)
 ·rw[h] at g1;cases g1
 ·exact⟨g2,g3⟩
theorem U9{w:World}{p n:Nat}{s:BA}{r:List UInt8}(hr:Rdr w p s 0)(hs:s.size<=9223372036854775807)(h:nmb s.data.toList=some (n,r)) :
  Calls Tryz.prog 103 #[.pointer (some ⟨p,0,none⟩)] w fun e w' => ∃s',s'.data.toList=r∧e = .returned (.int .u64 (n:Int))∧Rdr w' p s' 0∧Ch p w w'∧s'.size<=s.size:=by
 refine(QbV w p s hr hs).mono ?_
 rintro e w' (⟨n',s',g1,g2⟩|⟨g1,_⟩)
 ·rw[h] at g1;cases g1;exact⟨s',rfl,g2⟩
 ·rw[h] at g1;cases g1
theorem Ch.trans{p:Nat}{w w1 w2:World}(h:Ch p w w1)(h2:Ch p w1 w2):Ch p w w2 :=
 ⟨h.below.trans h2.below,fun q hq hne=>(h2.block q (LS hq h.below.size) hne).trans (h.block q hq hne)⟩
theorem Ch.low{p:Nat}{w w1 w2:World}(h:Ch p w w1)(hb:Below w.heap.size w1 w2)(hp:p<w.heap.size):Ch p w w2 :=
 ⟨h.below.trans (hb.mono (by omega)),fun q hq hne=>(hb.block q hq).trans (h.block q hq hne)⟩
def pan(e:Ending):Prop := ∃u v,e = .panicked [{ v := .iface u v,recovered:=false }]
theorem Ya:pan pnc:=⟨_,_,rfl⟩
theorem QkX(w:World)(x:Nat):RdC (w.alloc (.cells #[.int .u64 (x:Int)] 28)) (.slice (some ⟨w.heap.size,0,none⟩) 1 1) 1 (cU [x]) :=
 Qk2 (l:=[x]) ⟨rfl,fun _=>rfl,Qv w [.int .u64 (x:Int)] 28⟩ (fun h=>by cases h)
theorem Qhl(w:World)(x:Nat) : ∀(j:Nat) u,(cU [x])[j]? = some u->(w.alloc (.cells #[.int .u64 (x:Int)] 28)).cell? ((⟨w.heap.size,0,none⟩:Addr).add j)=some u:=fun j u hu=>by
 rw[Addr.add_mid];exact Qv w [.int .u64 (x:Int)] 28 j u hu
theorem Qdx{l r:List UInt8}{n:Nat}(h:nmb l=some (n,r)):n<18446744073709551616:=(UA h).2
theorem QhK{c x size d:Nat}{l r:List UInt8}(h:nmb l=some (d,r))(hd : ¬x+d<size):YZ (c+1) x size l=none:=by
 rw[YZ,h];simp only;rw[if_neg hd]
theorem QjA{c x size:Nat}{l:List UInt8}(h:nmb l=none):YZ (c+1) x size l=none:=by rw[YZ,h]
theorem QhL{c x size d:Nat}{l r:List UInt8}(h:nmb l=some (d,r))(hd:x+d<size):YZ (c+1) x size l=(YZ c (x+d+1) size r).map fun a=>((x+d)::a.1,a.2):=by
 rw[YZ,h];simp only;rw[if_pos hd]
 cases YZ c (x+d+1) size r <;> rfl
structure SetS(w:World)(p g c size:Nat)(l0:List UInt8)(wr:World)(j x:Nat)(acc:List Nat)(s:BA):Prop where
 rd:Rdr wr p s 0
 ch:Ch p w wr
 own:wr.ownsRow g 28 1 (.slice (some ⟨g,0,none⟩) j c) j (cU acc)
 jc:j<=c
 hg:w.heap.size<=g
 xs:x<=size
 go:YZ c 0 size l0=(YZ (c - j) x size s.data.toList).map fun a=>(acc++a.1,a.2)
 sz:s.size<=9223372036854775807
theorem SetS.read{w wr w1:World}{p g c size j x:Nat}{l0:List UInt8}{acc:List Nat}{s s':BA}{d:Nat}(h:SetS w p g c size l0 wr j x acc s)(hc:Ch p wr w1)(hp:p<w.heap.size)(hn:nmb s.data.toList=some (d,s'.data.toList))(hd:x+d<size)(hj:j<c) :
  w1.ownsRow g 28 1 (.slice (some ⟨g,0,none⟩) j c) j (cU acc)∧Ch p w w1∧YZ c 0 size l0=(YZ (c - (j+1)) (x+d+1) size s'.data.toList).map fun a=>((acc++[x+d])++a.1,a.2):=by
 have hg:=h.hg;refine⟨Qj h.own fun b hb _ => ?_,h.ch.trans hc,?_⟩
 ·cases hb;exact hc.block g (h.own.lt g rfl).2 (by omega)
 ·rw[h.go,show c - j=(c - (j+1))+1 by omega,QhL hn hd]
  cases YZ (c - (j+1)) (x+d+1) size s'.data.toList <;> simp
theorem Qfn : ∃i,Tryz.prog.info? 28=some i∧i.zero=some (.int .u64 0)∧i.size=1∧i.bytes=8:=by
 obtain⟨i0,h1,h2,h3,h4⟩:=info_parts Cv.Tryz.infoU;exact⟨i0,h1,h2,h3,h4⟩
theorem U6(size:Nat)(l:List UInt8):UU 2 size l=match nmb l with|none=>none|some (c,r)=>if c<=r.length then (match YZ c 0 size r with|none=>none|some (S,r')=>some (0,S,r')) else none:=rfl
theorem szno{c:Nat}{s:BA}(h : ¬c<=s.data.toList.length) : ¬(c:Int)<=(s.size:Int):=by rw[Qo] at h;omega
theorem QlT{c:Nat}{s:BA}(h:c<=s.data.toList.length):(c:Int)<=(s.size:Int):=by rw[Qo] at h;omega
theorem szw{s:BA}(h:s.size<=281474976710656):IntKind.u64.wrap (s.size:Int)=(s.size:Int):=by rw[IntKind.wrap_u64];omega
def SetQ(w:World)(p size:Nat)(s:BA)(e:Ending)(w':World):Prop :=
 (∃S s' g c,UU 2 size s.data.toList=some (0,S,s'.data.toList)∧e = .returned (.slice (some ⟨g,0,none⟩) S.length c)∧Cv.Own w' w.heap.size (.slice (some ⟨g,0,none⟩) S.length c) S∧Rdr w' p s' 0∧Ch p w w'∧s'.size<=s.size) ∨
   ((∀o S r,UU 2 size s.data.toList=some (o,S,r)->2^40<size)∧pan e∧Ch p w w')
theorem Qle(w:World)(p size:Nat)(s:BA)(hr:Rdr w p s 0)(hs:s.size<=281474976710656)(hsz:size<18446744073709551616) :
  Calls Tryz.prog 104 #[.pointer (some ⟨p,0,none⟩),.int .u64 (size:Int)] w (SetQ w p size s):=by
 have hp:=hr.lt
 cases hn:nmb s.data.toList with
 | none =>
  have HN:=U8 hr (by omega) hn
  have HQ:Hid (∀w',Ch p w w'->SetQ w p size s pnc w'):=fun w' hc => .inr ⟨fun o S r h=>(by rw[U6,hn] at h;cases h),Ya,hc⟩
  go_enter Tryz.func104,Tryz.ntmps104
  go_wp2_with (go_at_call 103;with_reducible refine HN.mono ?_;rintro x w1 ⟨rfl,hc⟩)
  exact⟨rfl,HQ.out _ hc⟩
 | some a =>
  obtain⟨c,r⟩:=a;have HN:=U9 hr (by omega) hn
  have hc64:=Qdx hn
  by_cases hcr:c<=r.length
  ·by_cases hbig:c<=35184372088832
   ·obtain⟨i0,i1,i2,i3,i4⟩:=Qfn;have HI:Hid (Tryz.prog.info? 28=some i0∧i0.zero=some (.int .u64 0)∧i0.size=1∧i0.bytes=8):=⟨i1,i2,i3,i4⟩;have HQ:Hid ((∀w',Ch p w w'->YZ c 0 size r=none -> ∀e,pan e->SetQ w p size s e w') ∧ ∀S s' g w',YZ c 0 size r=some (S,s'.data.toList)->Cv.Own w' w.heap.size (.slice (some ⟨g,0,none⟩) S.length c) S->Rdr w' p s' 0->Ch p w w'->s'.size<=s.size->SetQ w p size s (.returned (.slice (some ⟨g,0,none⟩) S.length c)) w'):=by
     constructor
     ·intro w' hc hz e he;refine .inr ⟨fun o S r h => ?_,he,hc⟩
      rw[U6,hn] at h;simp only at h;rw[if_pos hcr,hz] at h
      cases h
     ·intro S s' g w' h1 h2 h3 h4 h5;refine .inl ⟨S,s',g,c,?_,rfl,h2,h3,h4,h5⟩
      rw[U6,hn];simp only;rw[if_pos hcr,h1]
    have HK:Hid (c<=r.length∧s.size<=281474976710656∧c<=35184372088832∧size<18446744073709551616∧p<w.heap.size):=⟨hcr,hs,hbig,hsz,hp⟩;have hbig':(c:Int)<=35184372088832:=by omega
    clear hr hs hn hcr hsz hbig hc64 i1 i2 i3 i4 hp
    go_enter Tryz.func104,Tryz.ntmps104
    go_wp2_with (first
     | (go_at_call 103;(with_reducible refine HN.mono ?_;rintro x w1 ⟨s1,rfl,rfl,h1,h2,h3⟩;have HL:=JP w1 p 0 s1 h1;have hf:=QlT HK.out.1;have hf2:=szw (Lm h3 HK.out.2.1)))
     | (go_at_call 153;with_reducible refine HL.mono ?_;rintro x w2 ⟨rfl,rfl⟩)
     | (go_at_call 106;refine(YD _ _ rfl).mono ?_;rintro x w3 ⟨rfl,rfl⟩)
     | (at_make;refine wpList_make_own _ rfl _ _ _ rfl w3.heap.size 28 i0 (.int .u64 0) 1 Tryz.underlying53 HI.out.1 HI.out.2.1 HI.out.2.2.1 .i64 .u64 _ c rfl rfl rfl ?c1 ?c2 (Lb _) ?_))
    case c1=>rw[HI.out.2.2.2];have:=HK.out;omega
    case c2=>have:=HK.out;unfold maxLen;omega
    intro w4 o4 g4;obtain⟨g,hg⟩:=Ze w3.heap.size;rw[hg] at o4;have HS:Hid (SetS w p g c size s1.data.toList w4 0 0 [] s1):=by
     obtain⟨k1,k2,k3,k4,k5⟩:=HK.out;have hb:Zb w3 w4:=(Below.refl _ _).grown g4 (Lb _) (fun k hk=>by cases hk)
     have hz:=h2.below.size;exact⟨h1.next hb h1.lt,h2.low (hb.mono hz) k5,o4,Lf _,by omega,Lf _,by rw[In];cases YZ c 0 size s1.data.toList <;> rfl,by omega⟩
    have HZ:Hid (s1.size<=s.size):=h3;rw[hg];clear h1 h2 h3 hf hf2 o4 g4 HN HL hg;go_wp2
    go_loopg [6,7,8,9,21] c (fun m l x i8 o9 ix wr => ∃(j y:Nat) (acc:List Nat) (t:BA),m=c - j∧ix = .int .u64 (j:Int)∧x = .int .u64 (y:Int)∧l = .slice (some ⟨g,0,none⟩) j c∧SetS w p g c size s1.data.toList wr j y acc t∧t.size<=s.size)
    case atStart =>
     go_light;exact⟨0,0,[],s1,rfl,rfl,rfl,rfl,HS.out,HZ.out⟩
    case round =>
     obtain⟨j,y,acc,t,rfl,rfl,rfl,rfl,hS,ht⟩:=hrel;obtain⟨k1,k2,k3,k4,k5⟩:=HK.out;have HT:Hid (SetS w p g c size s1.data.toList wr j y acc t∧t.size<=s.size):=⟨hS,ht⟩;have hj0:(0:Int)<=(j:Int):=Le _
     by_cases hlt:j<c
     ·have hlt':(j:Int)<(c:Int):=by omega
      cases hn:nmb t.data.toList with
      | none =>
       have HN:=U8 hS.rd hS.sz hn;have HE:Hid (∀w',Ch p wr w'->SetQ w p size s pnc w'):=fun w' hc=>HQ.out.1 w' (hS.ch.trans hc) (by rw[hS.go,show c - j=(c - (j+1))+1 by omega,QjA hn];rfl) _ Ya
       clear hS ht k1 k2 k3 k4 k5 hn
       go_wp2_with (go_at_call 103;with_reducible refine HN.mono ?_;rintro x w1 ⟨rfl,hc⟩)
       exact⟨rfl,HE.out _ hc⟩
      | some a =>
       obtain⟨d,r⟩:=a;have HN:=U9 hS.rd hS.sz hn;have hd64:=Qdx hn;have hy:=hS.xs
       by_cases hd:y+d<size
       ·have HA:=fun W=>QfS y d W (by omega)
        have hd':((y+d:Nat):Int)<(size:Int):=by omega
        have HO:Hid (∀w1 s2,Rdr w1 p s2 0->Ch p wr w1->s2.data.toList=r->w1.ownsRow g 28 1 (.slice (some ⟨g,0,none⟩) j c) j (cU acc)∧Ch p w w1∧YZ c 0 size s1.data.toList=(YZ (c - (j+1)) (y+d+1) size s2.data.toList).map fun a=>((acc++[y+d])++a.1,a.2)):=fun w1 s2 hr1 hc1 he=>by
         subst he;exact hS.read hc1 k5 hn hd hlt
        have HX:Hid (y+d+1<=size∧y+d<18446744073709551615∧j+1<=c∧t.size<=s.size∧t.size<=9223372036854775807∧w.heap.size<=g∧p<w.heap.size):=⟨by omega,by omega,hlt,ht,hS.sz,hS.hg,k5⟩
        have e1:IntKind.u64.wrap (((y+d:Nat):Int)+1)=((y+d+1:Nat):Int):=by rw[IntKind.wrap_u64];omega
        have e2:IntKind.u64.wrap ((j:Int)+1)=((j+1:Nat):Int):=by rw[IntKind.wrap_u64];omega
        generalize y+d=z at *;clear hS ht k1 k2 k3 k4 k5 hn hd64 hy hd HS HZ HT
        go_wp2_with (first
         | (go_at_call 103;with_reducible refine HN.mono ?_;rintro x w1 ⟨s2,hs2,rfl,q1,q2,q3⟩;replace HO:=Qg (HO.out _ _ q1 q2 hs2))
         | (go_at_call 154;with_reducible refine(HA _).mono ?_;rintro x w2 ⟨rfl,rfl⟩)
         | (go_at_call 106;refine(YD _ _ rfl).mono ?_;rintro x w3 ⟨rfl,rfl⟩)
         | (at_builtin;refine wpList_append_fits _ rfl _ _ _ rfl g 28 i0 1 Tryz.underlying53 HI.out.1 HI.out.2.2.1 g j c (cU acc) rfl (HO.out.1.alloc _) ⟨w3.heap.size,0,none⟩ 1 1 (cU [z]) rfl rfl (Qhl w3 z) (Cv.Qh4 [z]) HX.out.2.2.1 ?_;intro w4 o4 g4))
        go_roundg (c - (j+1))
        case rel =>
         go_light;obtain⟨x1,x2,x3,x4,x5,x6,x7⟩:=HX.out;obtain⟨y1,y2,y3⟩:=HO.out;have hlt:=y1.lt g rfl;have hb:Below w.heap.size w3 w4:=(((Below.refl _ w3).alloc y2.below.size _)).grown g4 (by simp;have:=y2.below.size;omega) (fun k hk=>by cases hk;omega)
         have hb':Below (p+1) w3 w4:=hb.mono (by omega)
         refine⟨j+1,z+1,acc++[z],s2,rfl,by first|rfl|(simp;done)|(congr 1),by first|rfl|(congr 1),rfl,⟨q1.next hb' (by omega),y2.low hb x7,?_,x3,x6,x1,y3,by omega⟩,by omega⟩
         rw[Cv.cU,LK];exact o4
        case measure=>go_light;have:=HX.out.2.2.1;omega
       ·have HE:Hid (∀w',Ch p wr w'->SetQ w p size s pnc w'):=fun w' hc=>HQ.out.1 w' (hS.ch.trans hc) (by rw[hS.go,show c - j=(c - (j+1))+1 by omega,QhK hn hd];rfl) _ Ya
        by_cases ha:y+d<18446744073709551616
        ·have HA:=fun W=>QfS y d W ha
         have hd' : ¬((y+d:Nat):Int)<(size:Int):=by omega
         generalize y+d=z at *;clear hS ht k1 k2 k3 k4 k5 hn hd64 hy hd ha HS HZ
         go_wp2_with (first
          | (go_at_call 103;with_reducible refine HN.mono ?_;rintro x w1 ⟨s2,rfl,rfl,q1,q2,q3⟩)
          | (go_at_call 154;with_reducible refine(HA _).mono ?_;rintro x w2 ⟨rfl,rfl⟩)
          | (go_at_call 106;refine(Ub _ _ (by first|rfl|exact decide_eq_false (by omega))).mono ?_;rintro x w3 ⟨rfl,rfl⟩))
         exact⟨rfl,HE.out _ q2⟩
        ·have HA:=fun W=>QlX y d W (by omega) hd64 ha
         clear hS ht k1 k2 k3 k4 k5 hn hd64 hy hd ha HS HZ
         go_wp2_with (first
          | (go_at_call 103;with_reducible refine HN.mono ?_;rintro x w1 ⟨s2,rfl,rfl,q1,q2,q3⟩)
          | (go_at_call 154;with_reducible refine(HA _).mono ?_;rintro x w2 ⟨rfl,rfl⟩)
          | (go_at_call 106;refine(Ub _ _ rfl).mono ?_;rintro x w3 ⟨rfl,rfl⟩))
         exact⟨rfl,HE.out _ q2⟩
     ·obtain rfl:j=c:=by have:=hS.jc;omega
      have hlt' : ¬(j:Int)<(j:Int):=by omega
      clear hS ht k1 k2 k3 k4 k5 hlt;go_wp2
      go_ret
      obtain⟨hS,ht⟩:=HT.out;have hl:acc.length=j:=by have:=hS.own.1;simpa [cU] using this
      have e:=hS.go;rw[ND,YZ] at e;simp only[Option.map_some,List.append_nil] at e;have:=HQ.out.2 acc t g wr e (by rw[hl];have o:=hS.own.mono (base':=w.heap.size) hS.hg;rw[Cv.Own,hl];exact o) hS.rd hS.ch ht
      rw[hl] at this;exact this
   ·obtain⟨i0,i1,i2,i3,i4⟩:=Qfn;have hmk : ∀W:World,(Instr.makeSlice 53 (.int .i64 0) (.int .u64 (c:Int))).run Tryz.prog W = .halt (.panic (capPanic Tryz.prog)) W:=fun W=>run_make_refused W 53 28 i0 Tryz.underlying53 i1 .i64 .u64 c (by omega) (by have:=(UA hn).1;have h3:=congrArg List.length this;rw[Qo,Ld] at h3;omega) (.inr (by rw[i4];omega))
    have HQ:Hid (∀w',Ch p w w' -> ∀e,pan e->SetQ w p size s e w'):=fun w' hc e he => .inr ⟨fun o S r' h=>by
     rw[U6,hn] at h;simp only at h;rw[if_pos hcr] at h
     cases hz:YZ c 0 size r with
     | none=>rw[hz] at h;cases h
     | some a =>
      obtain⟨S',r2⟩:=a;obtain⟨z1,z2,z3⟩:=QaD _ _ _ _ _ (Lf _) hz;have:=J5 z3;omega,he,hc⟩
    have HK:Hid (c<=r.length∧s.size<=281474976710656):=⟨hcr,hs⟩;clear hr hs hn hcr hsz hbig hc64 i1 i2 i3 i4 hp
    go_enter Tryz.func104,Tryz.ntmps104
    go_wp2_with (first
     | (go_at_call 103;(with_reducible refine HN.mono ?_;rintro x w1 ⟨s1,rfl,rfl,h1,h2,h3⟩;have HL:=JP w1 p 0 s1 h1;have hf:=QlT HK.out.1;have hf2:=szw (Lm h3 HK.out.2)))
     | (go_at_call 153;with_reducible refine HL.mono ?_;rintro x w2 ⟨rfl,rfl⟩)
     | (go_at_call 106;refine(YD _ _ rfl).mono ?_;rintro x w3 ⟨rfl,rfl⟩))
    exact⟨rfl,HQ.out _ h2 _ ⟨_,_,rfl⟩⟩
  ·have HQ:Hid (∀w',Ch p w w'->SetQ w p size s pnc w'):=fun w' hc => .inr ⟨fun o S r h=>(by rw[U6,hn] at h;simp only at h;rw[if_neg hcr] at h;cases h),Ya,hc⟩
   have HK:Hid (¬c<=r.length∧s.size<=281474976710656):=⟨hcr,hs⟩;clear hr hs hn hcr hsz
   go_enter Tryz.func104,Tryz.ntmps104
   go_wp2_with (first
    | (go_at_call 103;go_loud (with_reducible refine HN.mono ?_;rintro x w1 ⟨s1,rfl,rfl,h1,h2,h3⟩;have HL:=JP w1 p 0 s1 h1;have hf:=szno HK.out.1;have hf2:=szw (Lm h3 HK.out.2)))
    | (go_at_call 153;with_reducible refine HL.mono ?_;rintro x w2 ⟨rfl,rfl⟩)
    | (go_at_call 106;refine(Ub _ _ (decide_eq_false (by omega))).mono ?_;rintro x w3 ⟨rfl,rfl⟩))
   exact⟨rfl,HQ.out _ h2⟩
end
end Go.Proofs.YtdocjikpcbmcgaaGreatDoor
