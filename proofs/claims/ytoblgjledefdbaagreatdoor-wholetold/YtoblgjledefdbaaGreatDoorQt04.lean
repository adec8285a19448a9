/- Own work. -/
import Derived.Lib.AppendZeros
import Derived.WalkLawsBesides
import Derived.Test.YtoblgjledefdbaaGreatDoorQt03
set_option maxRecDepth 100000
set_option maxHeartbeats 2000000
namespace Go.Proofs.YtoblgjledefdbaaGreatDoor
open Go.RowKit
attribute [local go_sem ↓] Go.wp_at_zero Go.wp_at_succ
open Go.Proofs.Tryz
namespace St.Rc
theorem Qle(l:List UInt8)(a:Nat)(t r:List UInt8)(x:UInt8)(ha:a<l.length):(l.take (a+1)++t++r).set a x=l.take a++x::t++r:=by
 have e:(l.take a).length=a:=by simp;omega
 rw[LM ha,Lw,Lw,Nb _ _ (by omega),e,NL]
 simp
theorem Uv(w:World)(g off len cap n:Nat)(l:List UInt8)(hl:Byt w g l)(ho:off+len<=l.length)(h8:len<=8)(hn:n<18446744073709551616) :
  Calls prog 264 #[.slice (some ⟨g,off,none⟩) len cap,.int .u64 n] w fun e w'=>e= .returned (.tuple #[])∧Byt w' g (ovr l off (big len n))∧Upo (fun b=>b=g) w w':=by
 have HO:Hid (off+len<=l.length):=ho;have H0:Hid (Byt w g (l.take (off+len)++big 0 n++l.drop (off+len))∧Upo (fun b=>b=g) w w):=⟨by simp[big];exact hl,Upo.refl _ _⟩
 have k8:(len:Int)<=8:=by omega
 have k0:(0:Int)<=(len:Int):=by omega
 have hN:Hid (n<18446744073709551616):=hn;clear hl ho hn
 go_enter func264,ntmps264;go_wp2
 go_loopg [1,4] len (fun G x i wr=> ∃(j d:Nat),j+d=len∧j=G∧x= .int .u64 ((n/256^d:Nat):Int)∧i= .int .i64 ((j:Int)-1)∧Hid (Byt wr g (l.take (off+j)++big d n++l.drop (off+len))∧Upo (fun b=>b=g) w wr))
 case atStart=>go_light;exact⟨len,0,by omega,rfl,by simp,by simp,H0⟩
 case round=>
  clear H0;obtain⟨j,d,hj,rfl,rfl,rfl,HB⟩:=hrel;have hx:n/256^d<=n:=N5 _ _
  by_cases hz:0<j
  ·obtain⟨m,rfl⟩:∃m,j=m+1:=⟨j-1,by omega⟩
   have em:((m+1:Nat):Int)-1=(m:Int):=by omega
   rw[em];have m0:(0:Int)<=(m:Int):=by omega
   have m1:(m:Int)<(len:Int):=by omega
   have xC:=HO.out;have cl:=HB.out.1.at (j:=off+m) (by simp[Qk];omega)
   have fz:=HB.out.1.free (j:=off+m) (by simp[Qk];omega)
   obtain⟨z,xB⟩:=Ze (((l.take (off+(m+1))++big d n++l.drop (off+len)).getD (off+m) 0).toNat);rw[xB] at cl;obtain⟨x,xA⟩:=Ze (n/256^d);have xD:Hid (x<18446744073709551616):=by show _<_;have:=hN.out;omega
   have HX:Hid (Byt (wr.setCell ⟨g,off+m,none⟩ (.int .u8 ((x:Int)%256))) g (l.take (off+m)++big (d+1) n++l.drop (off+len))∧Upo (fun b=>b=g) w (wr.setCell ⟨g,off+m,none⟩ (.int .u8 ((x:Int)%256)))):=by
    refine⟨?_,HB.out.2.set _ _ _ (.inl rfl)⟩
    have:=HB.out.1.set (off+m) (UInt8.ofNat x) ((x:Int)%256) (by rw[UInt8.toNat_ofNat'];omega)
    rw[show off+(m+1)=off+m+1 by omega,Qle l (off+m) _ _ _ (by omega)] at this
    rw[QjM,xA];exact this
   have HD:Hid (x/256=n/256^(d+1)):=by
    show _=_
    rw[LH,<-L4,xA]
   rw[xA];clear HB xA xB hx xC;go_wp2
   go_roundg m
   case rel=>
    go_light;refine⟨m,d+1,by omega,rfl,?_,?_,HX⟩
    ·have:=HD.out;rw[<-this];go_num
    ·go_num
   case measure=>go_light;omega
  ·obtain rfl:j=0:=by omega
   obtain rfl:d=len:=by omega
   have em:((0:Nat):Int)-1 = -1:=by omega
   rw[em];have HE:Hid (Byt wr g (ovr l off (big d n))∧Upo (fun b=>b=g) w wr):=by
    refine⟨?_,HB.out.2⟩
    have:=HB.out.1;rw[Ik] at this;rw[ovr,Qk];exact this
   clear HB hx hj;go_wp2;exact bodyPost_end (results_none rfl _ prog wr) rfl ⟨rfl,HE.out⟩
theorem Qk8(l:List UInt8)(k:Nat)(hk:k<l.length):num (l.take (k+1))=num (l.take k)*256+(l.getD k 0).toNat:=by
 rw[LM hk,Qap,Ld,Lk hk]
 rfl
theorem QnI(x y:Nat)(hx:x<72057594037927936)(hy:y<256):bits .or .u64 (IntKind.u64.wrap ((x:Int)*256)) (y:Int)=((x*256+y:Nat):Int):=by
 have e:IntKind.u64.wrap ((x:Int)*256)=((x*256:Nat):Int):=by rw[IntKind.wrap_u64];omega
 rw[e,u64_or_nat _ _ (by omega) (by omega),show x*256=x <<< 8 by rw[Nat.shiftLeft_eq],<-Nat.shiftLeft_add_eq_or_of_lt (show y<2^8 by omega)]
theorem Q9(w:World)(g off len cap:Nat)(l:List UInt8)(hl:Byt w g l)(ho:off+len<=l.length)(h8:len<=8)(r:Nat)(hr:num ((l.drop off).take len)=r) :
  Re 321 #[.slice (some ⟨g,off,none⟩) len cap] w (.int .u64 r):=by
 obtain⟨t,ht⟩:=Ze ((l.drop off).take len);have xB:t.length=len:=by rw[<-ht];simp;omega
 have HC:Hid (∀k,k<len->w.cell? ⟨g,off+k,none⟩=some (.int .u8 ((t.getD k 0).toNat:Int))):=fun k hk=>by
  rw[hl.at (by omega),<-ht]
  simp[List.getD_eq_getElem?_getD,List.getElem?_drop,hk]
 rw[ht] at hr;have HR:Hid (num t=r∧t.length=len):=⟨hr,xB⟩;have k8:(len:Int)<=8:=by omega
 have k0:(0:Int)<=(len:Int):=by omega
 clear hl ho ht hr xB
 go_enter func321,ntmps321;go_wp2
 go_loopg [3,8] len (fun G x i wr=>w=wr ∧ ∃(k m:Nat),k<=len∧G=len-k∧x= .int .u64 m∧i= .int .i64 k∧Hid (num (t.take k)=m))
 case atStart=>go_light;exact⟨rfl,0,0,by omega,rfl,rfl,rfl,rfl⟩
 case round=>
  obtain⟨rfl,k,m,hk,rfl,rfl,rfl,HM⟩:=hrel
  by_cases hlt:k<len
  ·have hz:(k:Int)<(len:Int):=by omega
   have kk:(0:Int)<=(k:Int):=by omega
   have cl:=HC.out k hlt;have hb:(t.getD k 0).toNat<256:=(t.getD k 0).toNat_lt;have xA:=Qk8 t k (by rw[HR.out.2];exact hlt)
   rw[HM.out] at xA;have hm:m<72057594037927936:=by
    rw[<-HM.out];exact OR _ 7 (by simp;omega)
   obtain⟨y,hy⟩:=Ze ((t.getD k 0).toNat);rw[hy] at cl hb xA;have eo:=QnI m y hm hb;rw[<-xA] at eo;have e1:(y:Int)%18446744073709551616=(y:Int):=by omega
   obtain⟨v,hv⟩:=Ze (num (t.take (k+1)));rw[hv] at eo xA;have HV:Hid (num (t.take (k+1))=v):=hv;clear HM hv xA hm hb hy;go_wp2
   go_roundg (len-(k+1))
   case rel=>go_light;exact⟨rfl,k+1,v,by omega,rfl,rfl,by go_num,HV⟩
   case measure=>go_light;omega
  ·obtain rfl:k=len:=by omega
   have hz:¬(k:Int)<(k:Int):=by omega
   have HE:Hid (m=r):=by
    show _=_
    have:=HM.out;rw[Lp (by rw[HR.out.2];exact La _),HR.out.1] at this
    exact this.symm
   clear HM;go_wp2
   go_ret
   exact⟨by rw[HE.out];rfl,rfl⟩
theorem QaG(w:World)(k:Int):Re 272 #[.int .i64 k] w (.bool (decide (1<=k∧k<=32))):=by
 by_cases h1:1<=k
 ·by_cases h2:k<=32
  ·have e:decide (1<=k∧k<=32)=true:=by simp[h1,h2]
   rw[e]
   go_enter func272,ntmps272;go_wp2
   go_ret
   exact⟨rfl,rfl⟩
  ·have e:decide (1<=k∧k<=32)=false:=by simp[h2]
   rw[e]
   go_enter func272,ntmps272;go_wp2
   go_ret
   exact⟨rfl,rfl⟩
 ·have e:decide (1<=k∧k<=32)=false:=by simp[h1]
  rw[e]
  go_enter func272,ntmps272;go_wp2
  go_ret
  exact⟨rfl,rfl⟩
theorem Qcp(w:World)(g n cap:Nat)(h8:8<=n)(hc:n<=cap)(hm:n<=140737488355328)(o:Nat)(ho:(if n-4=4 then 0 else 4)=o)(m:Nat)(hm2:n-8=m) :
  Zr 263 #[.slice (Zp g) n cap] w (.tuple #[.slice (Zp g) 4 4,.slice (some ⟨g,o,none⟩) m m]):=by
 have z1:(0:Int)<=(n:Int)-4:=by omega
 have z2:(n:Int)-4<=(cap:Int):=by omega
 have z3:(4:Int)<=(n:Int)-4:=by omega
 have z4:(4:Int)<=(cap:Int):=by omega
 have z5:(n:Int)<=140737488355328:=by omega
 have HO:Hid ((if n-4=4 then 0 else 4)=o∧n-4-4=m):=⟨ho,by omega⟩
 clear ho hm2
 go_enter func263,ntmps263;go_wp2
 go_quiet (fail)
 go_wp2
 ·obtain⟨h1,h2⟩:=HO.out;rw[Lf h] at h1;obtain rfl:m=0:=by omega
  subst h1;exact LD (v := .tuple #[.slice (Zp g) 4 4,.slice (Zp g) 0 0]) (by simp[results,results263,go_sem]) rfl ⟨rfl,Qi (Lb _ _) _⟩
 ·obtain⟨h1,h2⟩:=HO.out;rw[Le h] at h1;rw[h2];subst h1;exact LD (v := .tuple #[.slice (Zp g) 4 4,.slice (some ⟨g,4,none⟩) m m]) (by simp[results,results263,go_sem]) rfl ⟨rfl,Qi (Lb _ _) _⟩
theorem Qci(w:World)(g n cap:Nat)(h8:36<=cap) :
  Zr 333 #[.slice (Zp g) n cap] w (.tuple #[.slice (Zp g) 32 32,.slice (some ⟨g,32,none⟩) 4 4]):=by
 have z1:(36:Int)<=(cap:Int):=by omega
 have z2:(32:Int)<=(cap:Int):=by omega
 go_enter func333,ntmps333;go_wp2
 go_quiet (fail)
 go_wp2;refine LD (v := .tuple #[.slice (Zp g) 32 32,.slice (some ⟨g,32,none⟩) 4 4]) (by simp[results,results333,go_sem]) rfl ⟨rfl,Qi (Lb _ _) _⟩
def mP(g:Nat):Value := .agg #[.slice (Zp g) 4 4,.slice (some ⟨g,4,none⟩) 1 1,.slice (some ⟨g,8,none⟩) 8 8,.slice (some ⟨g,16,none⟩) 8 8,.slice (some ⟨g,24,none⟩) 8 8,.slice (some ⟨g,32,none⟩) 4 4]
theorem Qcg(w:World)(g n cap:Nat)(h8:36<=cap) :
  Zr 273 #[.slice (Zp g) n cap] w (mP g):=by
 have z1:(36:Int)<=(cap:Int):=by omega
 have z2:(32:Int)<=(cap:Int):=by omega
 have z3:(24:Int)<=(cap:Int):=by omega
 have z4:(16:Int)<=(cap:Int):=by omega
 have z5:(5:Int)<=(cap:Int):=by omega
 have z6:(4:Int)<=(cap:Int):=by omega
 go_enter func273,ntmps273;go_wp2
 go_region
 go_wp2;refine LD (v:=mP g) (by simp[results,results273,go_sem,mP]) rfl ⟨rfl,Qi (bal (Lb _ _) _) 1⟩
theorem Jv(w:World)(g n cap:Nat)(l:List UInt8)(hl:Byt w g l)(hn:l.length=n)(h8:8<=n)(hc:n<=cap)(hm:n<=140737488355328)(t:BA)(ht:(⟨(sld (l.take (n-4))).toArray⟩:BA)=t) :
  Calls prog 265 #[.slice (Zp g) n cap] w fun e w'=>e= .returned (.string t)∧Byt w' g (sld (l.take (n-4)))∧Upo (fun b=>b=g) w w':=by
 obtain⟨k,hk⟩:∃k,n=k+4:=⟨n-4,by omega⟩
 subst hk;rw[Nm] at ht ⊢;obtain⟨u,hu⟩:∃u:BA,(⟨(l.take k).toArray⟩:BA)=u:=⟨_,rfl⟩;have xB:u.data.toList=l.take k:=by rw[<-hu]
 have xD:u.size=k:=by rw[<-Qb,xB];simp;omega
 have z1:(0:Int)<=(k:Int):=by omega
 have z2:(k:Int)<=(cap:Int):=by omega
 have z3:((k+4:Nat):Int)-4=(k:Int):=by omega
 have z4:(k:Int)<=140737488355328:=by omega
 have z5:(k:Int)<=((k+4:Nat):Int):=by omega
 have z6:¬cap=k:=by omega
 have HL:Hid (Byt w g l∧l.length=k+4∧g<w.heap.size):=⟨hl,hn,hl.lt (by omega)⟩
 have HC:Hid (∀W,Bl w W->(convert 127 9 (.slice (Zp g) k k)).run prog W= .ok (.string u) W):=fun W hb=>
  (HL.out.1.next hb HL.out.2.2).conv (k:=0) (n:=k) (by have:=HL.out.2.1;omega) 0 (fun _=>rfl) k u (by rw[NM];exact hu)
 obtain⟨x,hx⟩:=Ze (crc (l.take k));have xE:=Qkf (l.take k);rw[hx] at xE;have HF:Hid (∀W,Calls prog 341 #[.slice (Zp W.heap.size) 1 1] (W.alloc (.cells #[.string u] 9)) fun e w'=>e= .returned (.int .u32 x)∧Bl W w'):=fun W=>by
  refine(Qd8 _ _ W.heap.size 0 1 1 [u] ⟨rfl,fun _=>rfl,Qv W [.string u] 9,by intro s hs;simp at hs;subst hs;omega⟩ (by decide)).mono ?_
  rintro e w' ⟨rfl,hb⟩;refine⟨?_,((Lb _ _).alloc (La _) _).trans (hb.mono (by simp))⟩
  rw[<-hx,crc,sumL,<-xB];simp[Qj]
 have HP:Hid (∀W,Bl w W->Calls prog 264 #[.slice (some ⟨g,k,none⟩) 4 (cap-k),.int .u64 x] W fun e w'=>e= .returned (.tuple #[])∧Byt w' g (sld (l.take k))∧Upo (fun b=>b=g) w w'):=fun W hb=>by
  refine(Uv W g k 4 (cap-k) x l (HL.out.1.next hb HL.out.2.2) (by have:=HL.out.2.1;omega) (by decide) (by omega)).mono ?_
  rintro e w' ⟨rfl,hy,xC⟩;refine⟨rfl,?_,(Upo.of hb).on xC⟩
  rw[ovr,Qk,L3 (by rw[hn];exact La _),LU,<-hx] at hy
  exact hy
 have HD:Hid (∀W,Byt W g (sld (l.take k))->(convert 127 9 (.slice (Zp g) (k+4) cap)).run prog W= .ok (.string t) W):=fun W hy=>by
  have xF:(sld (l.take k)).length=k+4:=by rw[Oj];simp;omega
  exact hy.conv (k:=0) (n:=k+4) (by omega) 0 (fun _=>rfl) cap t (by rw[NM,Lp (by omega)];exact ht)
 clear hl hn ht hx hu xB xD
 go_enter func265,ntmps265;go_wp2
 go_quiet (fail)
 have xA:Bl w (w.drewN nq):=Qi (Lb _ _) _;have kc:=HC.out _ xA;generalize w.drewN nq=w1 at *
 go_wp2_with (first
  | (go_at_call 341;with_reducible refine(HF.out _).mono ?_;rintro e w2 ⟨rfl,hb⟩)
  | (go_at_call 264;with_reducible refine(HP.out _ (xA.trans (hb.mono xA.size))).mono ?_;rintro e w3 ⟨rfl,hy,xC⟩;have kd:=HD.out _ hy))
 go_ret
 exact⟨rfl,hy,xC⟩
end St.Rc
theorem Qm4(w:World)(s:BA):(Instr.field 315 (.agg #[.string s]) 0).run prog w= .ok (.string s) w:=by kernel_rfl
structure Ap(w wr:World)(m:Nat)(k:Int)(L:LB)(x:BA)(j:Nat)(v:Value):Prop where
 blk:wr.heap[m+1]? = some (.cells #[.int .i64 k,.int .u64 ((L.length+1:Nat):Int),.map (some m)] 172 (0,0))
 lst:wr.heap[w.heap.size]? = some (.cells #[.int .i64 j,.int .u64 (((L.length+1)/2^j-1:Nat):Int)] 249 (0,0))
 mp:Mp wr m (fj (clk k) L x j)
 own:Qh wr (w.heap.size+1) v (nw (clk k) (L++[x]) j)
 ch:Chf m w wr
theorem Qgo(w:World)(ht:Tb w)(m:Nat)(k:Int)(L:LB)(hF:Frs w m k L)(s:BA)(hs:s.size<=1048576)(hL:L.length<65536)(t:Nat)(hT:tr 64 (L.length+1)=t) :
  Calls prog 163 #[.pointer (some ⟨m+1,0,none⟩),.string s] w fun e w'=> ∃v,e= .returned (.tuple #[v,.int .i64 0])∧Frs w' m k (L++[s])∧Qh w' w.heap.size v (nw (clk k) (L++[s]) t)∧Chf m w w':=by
 have h1:decide ((1048576:Int)<(s.size:Int))=false:=LA (by omega)
 have h2:decide ((65536:Int)<=(L.length:Int))=false:=LA (by omega)
 have c1:=hF.c1;have f1:=hF.fz 1;have zS:=hF.lt;have zV:IntKind.u64.wrap ((L.length:Int)+1)=((L.length+1:Nat):Int):=by rw[Qg2 _ (by omega) (by omega)];omega
 obtain⟨d0,yL⟩:=Ze (dg (clk k) (Up s));have yU:Hid (∀W,Tb W->Zr 145 #[.int .i64 k,.string s] W (.string d0)):=fun W hT=>Qfa W hT k s (by omega) d0 yL
 go_enter func163,ntmps163
 go_upto_region 7 with (fail)
 obtain⟨w0,xY⟩:=Ze ((w.setCell ⟨m+1,1,none⟩ (.int .u64 ((L.length:Int)+1))).alloc (.cells #[.int .i64 0,.int .u64 L.length] 249));rw[xY];have xL:(w.setCell ⟨m+1,1,none⟩ (.int .u64 ((L.length:Int)+1))).heap.size=w.heap.size:=by simp
 have yI:∀q,q<w.heap.size->w0.heap[q]? = (w.setCell ⟨m+1,1,none⟩ (.int .u64 ((L.length:Int)+1))).heap[q]? := fun q hq=>by
  rw[<-xY];exact(MapKept.heap_alloc _ _).2 q (by rw[xL];exact hq)
 have xD:w0.heap[m+1]? = some (.cells #[.int .i64 k,.int .u64 ((L.length:Int)+1),.map (some m)] 172 (0,0)):=by
  rw[yI _ zS];exact Lm w (m+1) 1 _ 172 (.int .u64 ((L.length:Int)+1)) hF.blk
 have xG:w0.heap[w.heap.size]? = some (.cells #[.int .i64 0,.int .u64 L.length] 249 (0,0)):=by
  have:=LC (w.setCell ⟨m+1,1,none⟩ (.int .u64 ((L.length:Int)+1))) (.cells #[.int .i64 0,.int .u64 L.length] 249);rw[xL,xY] at this;exact this
 have xW:Mp w0 m (ff (clk k) L):=hF.mp.same (by rw[yI m (by omega)];exact Below.heap_setCell _ _ _ _ (by simp))
 have yR:w.heap.size<w0.heap.size:=(Array.getElem?_eq_some_iff.1 xG).1
 have xJ:Chf m w w0:=by
  have h:=(Chf.refl m w).set (b:=m+1) 1 (.int .u64 ((L.length:Int)+1)) (.inl rfl) (by omega)
  have:=h.next (w2:=w0) (by rw[<-xY];exact bal (Lb _ _) _) (by omega)
  exact this
 have c0:w0.cell? ⟨m+1,0,none⟩=some (.int .i64 k):=by rw[cell_of_row w0 (m+1) 0 _ _ (0,0) xD];rfl
 have xP:=ht.chf hF xJ;have zO:Hid (∀W,Chf m w W->Tb W):=fun W hc=>ht.chf hF hc
 clear xY xL yI c1 f1 h1 h2 zV
 go_upto_region 8 with (go_at_call 145;with_reducible refine(yU.out _ xP).mono ?_;rintro e w1 ⟨rfl,xQ⟩)
 have xE:w1.heap[m+1]? = _:=(xQ.block (m+1) (by omega)).trans xD
 have xB:w1.heap[w.heap.size]? = _:=(xQ.block w.heap.size yR).trans xG;have xX:=xW.same (xQ.block m (by omega))
 have xT:=xJ.next xQ (by omega)
 obtain⟨es,cl,xM,xI⟩:=(xX.same (W:=w1.drew) rfl).write (h:=0) (k:=L.length) ⟨⟨by omega,by omega⟩,by omega⟩ d0
 have xH:nd (clk k) (L++[s]) 0 L.length=d0:=by rw[nd,<-yL];simp
 rw[<-xH,Qkx] at xI;have xK:Chf m w (ChangeMaps.setBlock w1.drew m (.map es cl)):=(Chf.next xT (Lb _ _).drew (by omega)).put _
 have xF:(ChangeMaps.setBlock w1.drew m (.map es cl)).heap[m+1]? = _:=(Ji _ (by omega)).trans xE
 have xC:(ChangeMaps.setBlock w1.drew m (.map es cl)).heap[w.heap.size]? = _:=(Ji _ (by omega)).trans xB
 obtain⟨w2,zK⟩:=Ze (ChangeMaps.setBlock w1.drew m (.map es cl));rw[zK] at xM xI xK xF xC;have x2:w1.cell? ⟨m+1,2,none⟩=some (.map (some m)):=by rw[cell_of_row w1 (m+1) 2 _ _ (0,0) xE];rfl
 have y0:w1.cell? ⟨w.heap.size,0,none⟩=some (.int .i64 0):=by rw[cell_of_row w1 _ 0 _ _ (0,0) xB];rfl
 have y1:w1.cell? ⟨w.heap.size,1,none⟩=some (.int .u64 L.length):=by rw[cell_of_row w1 _ 1 _ _ (0,0) xB];rfl
 unfold kv nv at xM;clear zK xW xX xJ xT xD xG xQ xP c0 yU xE xB;have yX:Hid (∀W,Rf 253 #[.int .u64 ((L.length:Int)+1)] W (.int .i64 t)):=fun W=>(Oo (L.length+1) W (by omega) t hT).mono fun _ _ h=>⟨h.1,h.2.symm⟩
 have yF:Hid (Ap w (w2.alloc (.cells #[.string d0] 9)) m k L s 0 (.slice (Zp w2.heap.size) 1 1)):=by
  have zW:w.heap.size<w2.heap.size:=(Array.getElem?_eq_some_iff.1 xC).1
  refine⟨((MapKept.heap_alloc _ _).2 _ (by omega)).trans xF,((MapKept.heap_alloc _ _).2 _ zW).trans ?_,xI.same ((MapKept.heap_alloc _ _).2 _ (by omega)),?_,xK.next (bal (Lb _ _) _) (by omega)⟩
  ·rw[xC];simp
  ·rw[QnD,Lc,LK,Nm,xH];exact QO (Qee w2 d0) (by omega)
 have xS:(w2.alloc (.cells #[.string d0] 9)).cell? ⟨m+1,1,none⟩=some (.int .u64 ((L.length:Int)+1)):=by rw[cell_of_row _ (m+1) 1 _ _ (0,0) yF.out.blk];rfl
 have zT:∀q,q<w2.heap.size->(w2.alloc (.cells #[.string d0] 9)).heap[q]? = w2.heap[q]? := fun q hq=>(MapKept.heap_alloc _ _).2 _ hq
 have zU:t<=16:=by rw[<-hT];exact Qmh (by omega) (by omega)
 clear zT xI xK xF xC
 go_region
 go_wp2_with (go_at_call 253;with_reducible refine(yX.out _).mono ?_;rintro e w3 ⟨rfl,rfl⟩)
 have HK:=Qc hF;have yM:=QK k;have yS:Hid (d0=nd (clk k) (L++[s]) 0 ((L.length+1)/2^0-1)):=by show d0=_;rw[Iw,Nat.div_one,Nm,xH]
 have yT:=Qc hT;clear yX xS x2 y0 y1 xM xH yL ht hF hs yR hT;generalize w2.alloc (.cells #[.string d0] 9)=w3 at *;generalize w2.heap.size=z2 at *
 go_loopg [7,8,50] t (fun g x v i wr=> ∃(j:Nat) (d:BA),j<=t∧g=t-j∧x= .string d∧Hid (d=nd (clk k) (L++[s]) j ((L.length+1)/2^j-1))∧i= .int .i64 j∧Hid (Ap w wr m k L s j v))
 case atStart=>go_light;exact⟨0,d0,Ln _,rfl,rfl,yS,rfl,yF⟩
 case round=>
  clear yF yS;obtain⟨j,d,hj,rfl,rfl,yG,rfl,HA⟩:=hrel
  by_cases hjt:j<t
  ·have hz:(j:Int)<(t:Int):=by omega
   have yR:(0:Int)<=(j:Int):=Lh _;have kB:(j:Int)<=16:=by omega
   obtain⟨q',xO⟩:=Qme (j:=j+1) yT.out (by omega)
   obtain⟨q,rfl⟩:∃q,q'=q+1:=⟨q'-1,by
    have:q'≠0:=by rintro rfl;simp at xO
    omega⟩
   have e1:(L.length+1)/2^(j+1)-1=q:=by rw[Qhw xO];omega
   have e2:(L.length+1)/2^j-1=2*q+1:=by
    rw[Qhw (q:=2*(q+1)) (by rw[xO,LH,LZ])];omega
   obtain⟨a,ha⟩:=Ze (2*q+1);have zP:a<=L.length+1:=by rw[<-ha,<-e2];exact Lr (Nat.sub_le _ _) (N5 _ _)
   have zY:(1:Int)<=(a:Int):=by omega
   have zZ:(a:Int)<=65536:=by omega
   obtain⟨lf,yN⟩:=Ze (nd (clk k) (L++[s]) j (2*q));have hb:=HA.out.blk;have hl:=HA.out.lst;rw[e2,ha] at hl;have z0:wr.cell? ⟨m+1,0,none⟩=some (.int .i64 k):=by rw[cell_of_row wr (m+1) 0 _ _ (0,0) hb];rfl
   have z2:wr.cell? ⟨m+1,2,none⟩=some (.map (some m)):=by rw[cell_of_row wr (m+1) 2 _ _ (0,0) hb];rfl
   have l0:wr.cell? ⟨w.heap.size,0,none⟩=some (.int .i64 j):=by rw[cell_of_row wr _ 0 _ _ (0,0) hl];rfl
   have l1:wr.cell? ⟨w.heap.size,1,none⟩=some (.int .u64 a):=by rw[cell_of_row wr _ 1 _ _ (0,0) hl];rfl
   have xA:=(HA.out.mp.same (W:=wr.drew) rfl).look (h:=(j:Int)) (k:=2*q) ⟨⟨by omega,by omega⟩,by omega⟩ false
   rw[Qm5 (clk k) L s j q xO,yN] at xA;unfold kv nv at xA;rw[show((2*q:Nat):Int)=(a:Int)-1 by omega] at xA
   simp only[Option.getD_some,Bool.false_eq_true,if_false] at xA;obtain⟨d',yK⟩:∃d',dg (clk k) (QN lf d)=d':=⟨_,rfl⟩;have zl:lf.size=clk k:=by rw[<-yN];exact Yt yM _ _ _
   have zd:d.size=clk k:=by rw[yG.out];exact Yt yM _ _ _
   have yV:Hid (∀W,Tb W->Zr 227 #[.int .i64 k,.string lf,.string d] W (.string d')):=fun W hT=>U8 W hT k lf d (by omega) (by omega) d' yK
   have xZ:Hid (d'=nd (clk k) (L++[s]) (j+1) ((L.length+1)/2^(j+1)-1)):=by
    show d'=_
    rw[e1,nd,yN,<-yK,yG.out,e2]
   have zA:=(zO.out wr HA.out.ch);have yW:Hid (Tb wr.drew):=⟨zA.rs⟩;have zR:=Qm4 wr.drew lf;have HW:Hid (∀W,Below wr.drew.heap.size wr.drew W->W.cell? ⟨w.heap.size,0,none⟩=some (.int .i64 j)∧W.cell? ⟨w.heap.size,1,none⟩=some (.int .u64 a)∧W.frozen? ⟨w.heap.size,0,none⟩=false∧W.frozen? ⟨w.heap.size,1,none⟩=false ∧
     W.heap[w.heap.size]? = some (.cells #[.int .i64 j,.int .u64 a] 249 (0,0))∧W.heap[m+1]? = some (.cells #[.int .i64 k,.int .u64 ((L.length+1:Nat):Int),.map (some m)] 172 (0,0))∧Mp W m (fj (clk k) L s j)∧Chf m w W ∧ ∀v l,Qh wr (w.heap.size+1) v l->Qh W (w.heap.size+1) v l):=fun W hbW=>by
    have xV:=(hbW.block w.heap.size (Array.getElem?_eq_some_iff.1 hl).1).trans hl
    have yO:m+1<wr.heap.size:=(Array.getElem?_eq_some_iff.1 hb).1
    refine⟨?_,?_,frozen_of_row W _ 0 _ _ xV,frozen_of_row W _ 1 _ _ xV,xV,(hbW.block (m+1) yO).trans hb,HA.out.mp.same (hbW.block m (by show m<wr.heap.size;omega)),HA.out.ch.trans (Chf.of (w:=wr) ⟨hbW.os,hbW.tape,hbW.output,hbW.size,hbW.block⟩ (by omega)),fun v l ho=>QB (w:=wr) ho ⟨hbW.os,hbW.tape,hbW.output,hbW.size,hbW.block⟩ (La _)⟩
    ·rw[cell_of_row W _ 0 _ _ (0,0) xV];rfl
    ·rw[cell_of_row W _ 1 _ _ (0,0) xV];rfl
   clear hb hl zl zd yK yG zA
   go_upto_region 12 with (fail)
   go_region
   go_upto_region 15 with (go_at_call 227;with_reducible refine(yV.out _ yW.out).mono ?_;rintro e w4 ⟨rfl,zB⟩;obtain⟨p0,p1,p2,p3,P⟩:=HW.out _ zB)
   obtain⟨zE,zC,zG,zD,zH⟩:=P;have yZ:=Lm w4 w.heap.size 0 _ 249 (.int .i64 ((j:Int)+1)) zE;have yH:=Lm _ w.heap.size 1 _ 249 (.int .u64 ((a:Int)/2)) yZ;have yO:m+1<w.heap.size:=HK.out.lt;have yD:∀b,b≠w.heap.size->((w4.setCell ⟨w.heap.size,0,none⟩ (.int .i64 ((j:Int)+1))).setCell ⟨w.heap.size,1,none⟩ (.int .u64 ((a:Int)/2))).heap[b]? = w4.heap[b]? := fun b hb=>
    (Below.heap_setCell _ ⟨w.heap.size,1,none⟩ _ b hb).trans (Below.heap_setCell _ ⟨w.heap.size,0,none⟩ _ b hb)
   have xS:Chf m w ((w4.setCell ⟨w.heap.size,0,none⟩ (.int .i64 ((j:Int)+1))).setCell ⟨w.heap.size,1,none⟩ (.int .u64 ((a:Int)/2))) :=
    (zD.set 0 _ (.inr (La _)) (by omega)).set 1 _ (.inr (La _)) (by omega)
   have yA:=(yD (m+1) (by omega)).trans zC
   have yP:=zG.same (yD m (by omega))
   have zI:∀v l,Qh wr (w.heap.size+1) v l->Qh ((w4.setCell ⟨w.heap.size,0,none⟩ (.int .i64 ((j:Int)+1))).setCell ⟨w.heap.size,1,none⟩ (.int .u64 ((a:Int)/2))) (w.heap.size+1) v l:=fun v l ho=>by
    obtain⟨g1,g2⟩:=zH v l ho;refine⟨g1,?_⟩
    rcases g2 with g2|⟨g,cap,cur,rfl,hg,hh,r⟩
    ·exact .inl g2
    ·exact .inr ⟨g,cap,cur,rfl,hg,(yD g (by omega)).trans hh,r⟩
   obtain⟨w5,yE⟩:=Ze ((w4.setCell ⟨w.heap.size,0,none⟩ (.int .i64 ((j:Int)+1))).setCell ⟨w.heap.size,1,none⟩ (.int .u64 ((a:Int)/2)));rw[yE] at yH xS yA yP;rw[yE];have xU:w5.heap[w.heap.size]? = some (.cells #[.int .i64 ((j:Int)+1),.int .u64 ((a:Int)/2)] 249 (0,0)):=yH;have zJ:∀v l,Qh wr (w.heap.size+1) v l->Qh w5 (w.heap.size+1) v l:=fun v l ho=>by rw[<-yE];exact zI v l ho
   obtain⟨es,cl,xM,yC⟩:=(yP.same (W:=w5.drew) rfl).write (h:=((j+1:Nat):Int)) (k:=q) ⟨⟨by omega,by omega⟩,by omega⟩ d'
   rw[show d'=nd (clk k) (L++[s]) (j+1) q by rw[xZ.out,e1],Qm6 (clk k) L s j q xO] at yC
   have zX:w.heap.size<w5.heap.size:=(Array.getElem?_eq_some_iff.1 xU).1
   have yJ:Chf m w (ChangeMaps.setBlock w5.drew m (.map es cl)):=(Chf.next xS (Lb _ _).drew (by omega)).put _
   have xN:(ChangeMaps.setBlock w5.drew m (.map es cl)).heap[m+1]? = _:=(Ji _ (by omega)).trans yA
   have yB:(ChangeMaps.setBlock w5.drew m (.map es cl)).heap[w.heap.size]? = _:=(Ji _ (by omega)).trans xU
   have yQ:Qh (ChangeMaps.setBlock w5.drew m (.map es cl)) (w.heap.size+1) u8 (nw (clk k) (L++[s]) j):=by
    obtain⟨g1,g2⟩:=zJ _ _ HA.out.own;refine⟨g1,?_⟩
    rcases g2 with g2|⟨g,cap,cur,e,hg,hh,r⟩
    ·exact .inl g2
    ·exact .inr ⟨g,cap,cur,e,hg,(Ji _ (by omega)).trans hh,r⟩
   obtain⟨w6,zL⟩:=Ze (ChangeMaps.setBlock w5.drew m (.map es cl));rw[zL] at xM yC yJ xN yB yQ;have x2:w5.cell? ⟨m+1,2,none⟩=some (.map (some m)):=by rw[cell_of_row w5 (m+1) 2 _ _ (0,0) yA];rfl
   have y0:w5.cell? ⟨w.heap.size,0,none⟩=some (.int .i64 ((j:Int)+1)):=by rw[cell_of_row w5 _ 0 _ _ (0,0) xU];rfl
   have y1:w5.cell? ⟨w.heap.size,1,none⟩=some (.int .u64 ((a:Int)/2)):=by rw[cell_of_row w5 _ 1 _ _ (0,0) xU];rfl
   unfold kv nv at xM;have ea:(a:Int)/2=(q:Int):=by omega
   rw[<-ea,show((j+1:Nat):Int)=(j:Int)+1 by omega] at xM
   have HY:Hid (d'.size<=9223372036854775807):=by show d'.size<=_;rw[xZ.out,Yt yM];omega
   have HO:=Qc yQ;have yY:Hid (w.heap.size<w6.heap.size):=(Array.getElem?_eq_some_iff.1 yB).1
   have zN:Hid ((nw (clk k) (L++[s]) j).length<=17):=by show _<=_;rw[QpK];omega
   have HG:Hid (Mp w6 m (fj (clk k) L s (j+1))∧Chf m w w6∧w6.heap[m+1]? = some (.cells #[.int .i64 k,.int .u64 ((L.length+1:Nat):Int),.map (some m)] 172 (0,0))∧w6.heap[w.heap.size]? = some (.cells #[.int .i64 ((j+1:Nat):Int),.int .u64 (((L.length+1)/2^(j+1)-1:Nat):Int)] 249 (0,0))∧m+1<w.heap.size) :=
    ⟨yC,yJ,xN,by rw[yB,e1,<-ea];rfl,yO⟩
   clear zL yE yZ yH zB zE zC zG zD zH yD xS yA yP zI xU zJ yC zX yJ xN yB yQ xA zR HW yV yW z0 z2 l0 l1 p0 p1 p2 p3 ea xO e1 e2 zP
   go_region
   go_wp2_with (at_builtin;refine QR _ rfl _ _ rfl (w.heap.size+1) _ _ rfl (YD HO.out _) (Zp w6.heap.size) w6.heap.size 0 1 [d'] rfl (Ux w6 d' HY.out) (fun h=>by cases h) ?c1 ?c2 ?_)
   case c1=>have:=zN.out;simp;omega
   case c2=>have:=yY.out;simp;omega
   intro v2 w7 h7 xN;have zM:Hid (Ap w w7 m k L s (j+1) v2):=by
    obtain⟨g1,g2,g3,g4,g5⟩:=HG.out;have kA:=yY.out;have xR:Below (w.heap.size+1) w6 w7:=((Lb _ _).alloc (by omega) _).trans xN
    have zQ:Chf m w w7:=⟨g2.below.trans (xR.mono (by omega)),fun b hb x y=>(xR.block b (by omega)).trans (g2.block b hb x y)⟩
    refine⟨(xR.block _ (by omega)).trans g3,(xR.block _ (by omega)).trans g4,g1.same (xR.block m (by omega)),?_,zQ⟩
    rw[QnC,Lc,LK,<-xZ.out];exact h7
   clear h7 xN;go_wp2
   go_roundg (t-(j+1))
   case rel=>go_light;exact⟨j+1,d',by omega,rfl,rfl,xZ,by go_num,zM⟩
   case measure=>go_light;omega
  ·obtain rfl:j=t:=by omega
   have hz:¬((j:Int)<(j:Int)):=by omega
   go_wp2
   go_ret2
   have zF:=HA.out.mp;rw[Qpp (clk k) L s j hL yT.out] at zF;refine⟨_,rfl,⟨?_,zF,HK.out.k1,HK.out.k2,by simp;omega⟩,QO HA.out.own (by omega),HA.out.ch⟩
   rw[HA.out.blk];simp
section
variable {n i H:Nat} {A B:List (Nat×Nat)}
end
def sb(q:Nat):Nat:=if q%2=1 then q-1 else q+1
section
open Cv (RdC Ap)
abbrev dn:Value := .slice none 0 0
theorem QaL(w:World)(o:Obj):Bl w (w.drew.alloc o):=(Lb w.heap.size w).drew.alloc (by simp) o
theorem JX{α:Type}(d:α)(l:List α)(j:Nat)(h:j<l.length):l.take (j+1)=l.take j++[l.getD j d]:=by
 rw[N9,Ld,Lk h];rfl
theorem Qhh{α:Type}(Ls:List (List α))(j:Nat):(Ls.take j).flatten.length<=Ls.flatten.length:=by
 have:=Lv (fun x:List (List α)=>x.flatten.length) (Nv j Ls)
 simp only[List.flatten_append,List.length_append] at this;omega
theorem Qpr(w:World)(n:Nat)(hn:n<=8796093022208) :
  Calls prog 313 #[.slice none 0 0,.int .i64 n] w fun e w'=> ∃v,e= .returned v∧w'.ownsRow w.heap.size 249 2 v 0 []∧Bl w w':=by
 obtain⟨i0,hi,xC,xD,xE⟩:=info_parts Cv.Tryz.infoB
 by_cases h0:n=0
 ·subst h0;clear hn
  go_enter func313,ntmps313;go_wp2
  go_ret
  exact⟨_,rfl,Np _ _ _ _,Lb _ _⟩
 ·have hr:=fun ty=>Lib.run_append_nil_zeros (P:=prog) w 187 3 ty 249 i0 _ .i64 .i64 underlying187 underlying3 hi xC n (by omega) (by rw[xD];decide) (by omega) (by rw[xE];omega)
  obtain⟨G,hG⟩:=Ze (grownCap w n 0 249);have xB:=grownCap_ge w n 0 249;have xA:=grownCap_le_maxLen w n 0 249 (by unfold maxLen;omega)
  rw[hG] at xB xA hr;have HO:Hid ((w.drew.alloc (.cells (Builtin.zeroCells (Value.cells (.agg #[.int .i64 0,.int .u64 0])) n++Builtin.zeroCells (Value.cells (.agg #[.int .i64 0,.int .u64 0])) (G-n)) 249)).ownsRow w.heap.size 249 2 (.slice (Zp w.heap.size) 0 G) 0 []):=by
   refine⟨rfl,.inr ⟨w.heap.size,G,_,rfl,La _,LC w.drew _,Ln _,xA,?_,by simp⟩⟩
   rw[Array.size_append,size_zeroCells,size_zeroCells,show(Value.cells (.agg #[.int .i64 0,.int .u64 0])).size=2 from rfl,<-LS]
   congr 1
   omega
  have xF:G<=9223372036854775807:=by unfold maxLen at xA;omega
  have xG:(0:Int)<(n:Int):=by omega
  have xH:¬(n:Int)<0:=by omega
  clear hG xB xA hi xC xD xE h0
  go_enter func313,ntmps313
  go_wp2_with (at_builtin;refine Lib.wpList_append_run _ rfl _ _ _ _ rfl _ _ rfl rfl _ _ (hr _) ?_)
  go_ret
  exact⟨_,rfl,HO.out,QaL w _⟩
structure CatB(w:World)(g0:Nat)(us:List Value)(Ls:List (List (Int×Nat))):Prop where
 len:us.length=Ls.length
 cell:∀j,j<us.length->w.cell? ⟨g0,j,none⟩=some (us.getD j dn)
 rd:∀j,j<us.length->RdC w (us.getD j dn) (Ls.getD j []).length (Cv.cB (Ls.getD j []))
theorem CatB.next{w W:World}{g0:Nat}{us:List Value}{Ls:List (List (Int×Nat))}(h:CatB w g0 us Ls)(hb:Bl w W):CatB W g0 us Ls :=
 ⟨h.len,fun j hj=>(hb.cell (Lo w _ (h.cell j hj))).trans (h.cell j hj),fun j hj=>Cv.Qcr (h.rd j hj) hb⟩
theorem Qj9(w:World)(g0 c0:Nat)(us:List Value)(Ls:List (List (Int×Nat)))(h:CatB w g0 us Ls)(hu:us.length<=1000)(hm:Ls.flatten.length<=8796093022208)(cl:List (Int×Nat))(hcl:Ls.flatten=cl) :
  Calls prog 220 #[.slice (Zp g0) us.length c0] w fun e w'=> ∃v,e= .returned v∧w'.ownsRow w.heap.size 249 2 v cl.length (Cv.cB cl)∧Bl w w':=by
 obtain⟨i0,hi,xB,xH,xI⟩:=info_parts Cv.Tryz.infoB;have HC:Hid (∀W,Bl w W->CatB W g0 us Ls):=fun W hb=>h.next hb
 have HX:Hid (us.length=Ls.length∧us.length<=1000∧Ls.flatten.length<=8796093022208∧Ls.flatten=cl):=⟨h.len,hu,hm,hcl⟩;have xM:(us.length:Int)<=1000:=by omega
 have xD:=Lb w.heap.size w;have HI:Hid (prog.info? 249=some i0∧i0.zero=some (.agg #[.int .i64 0,.int .u64 0])∧i0.size=2∧i0.bytes=16):=⟨hi,xB,xH,xI⟩;clear h hu hm hcl hi xB xH xI
 go_enter func220,ntmps220;go_wp2
 go_loopg [3,11] us.length (fun g s i wr=> ∃j:Nat,j<=us.length∧g=us.length-j∧i= .int .i64 j∧s= .int .i64 ((Ls.take j).flatten.length:Int)∧Bl w wr)
 case atStart=>go_light;exact⟨0,Ln _,rfl,rfl,rfl,xD⟩
 case round=>
  clear xD;obtain⟨j,hj,rfl,rfl,rfl,hb⟩:=hrel
  by_cases hlt:j<us.length
  ·have hz:(j:Int)<(us.length:Int):=by omega
   have xB:(0:Int)<=(j:Int):=Lh _;have cj:=(HC.out wr hb).cell j hlt;obtain⟨ao,xL,hv,_,_⟩:=(HC.out wr hb).rd j hlt;rw[hv] at cj;obtain⟨m,xC⟩:=Ze ((Ls.getD j []).length);rw[xC] at cj;have hs:(Ls.take (j+1)).flatten.length=(Ls.take j).flatten.length+m:=by
    rw[JX [] Ls j (by have:=HX.out.1;omega),Ix,Lc,List.flatten_singleton,xC]
   have xA:=Qhh Ls (j+1);obtain⟨a,ha⟩:=Ze ((Ls.take j).flatten.length);rw[ha] at hs ⊢;have xJ:a+m<=8796093022208:=by have:=HX.out.2.2.1;omega
   have e1:IntKind.i64.wrap ((a:Int)+(m:Int))=(a:Int)+(m:Int):=by rw[Lq];omega
   have xK:¬(a:Int)+(m:Int)<0:=by omega
   have HS:Hid ((a:Int)+(m:Int)=((Ls.take (j+1)).flatten.length:Nat)):=by show _=_;rw[hs];omega
   clear hs xA ha xC hv xJ;go_wp2
   go_roundg (us.length-(j+1))
   case rel=>go_light;exact⟨j+1,by omega,rfl,by go_num,by rw[HS.out],hb⟩
   case measure=>go_light;omega
  ·obtain rfl:j=us.length:=by omega
   have hz:¬((us.length:Int)<(us.length:Int)):=by omega
   have ha:(Ls.take us.length).flatten.length=Ls.flatten.length:=by rw[HX.out.1,NJ]
   rw[ha];have HG:Hid (∀W,Calls prog 313 #[.slice none 0 0,.int .i64 Ls.flatten.length] W fun e w'=> ∃v,e= .returned v∧w'.ownsRow W.heap.size 249 2 v 0 []∧Bl W w'):=fun W=>Qpr W _ HX.out.2.2.1
   obtain⟨q,hq⟩:=Ze Ls.flatten.length;rw[hq] at HG ⊢;clear ha hlt hj hq
   go_wp2_with (go_at_call 313;with_reducible refine(HG.out _).mono ?_;rintro e w1 ⟨v,rfl,ho,xE⟩)
   have xF:=Qa hb xE;have xG:w1.ownsRow w.heap.size 249 2 v 0 []:=ho.mono hb.size;clear hb xE ho;go_wp2
   go_loopg [6,27] us.length (fun g v i wr=> ∃j:Nat,j<=us.length∧g=us.length-j∧i= .int .i64 j∧wr.ownsRow w.heap.size 249 2 v (Ls.take j).flatten.length (Cv.cB (Ls.take j).flatten)∧Bl w wr)
   case atStart=>go_light;exact⟨0,Ln _,rfl,rfl,xG,xF⟩
   case round=>
    clear xF xG;obtain⟨j,hj,rfl,rfl,ho,hb⟩:=hrel
    by_cases hlt:j<us.length
    ·have hz:(j:Int)<(us.length:Int):=by omega
     have xB:(0:Int)<=(j:Int):=Lh _;have cj:=(HC.out wr hb).cell j hlt;have rj:=(HC.out wr hb).rd j hlt;obtain⟨u,hu⟩:=Ze (us.getD j dn);obtain⟨l,hl⟩:=Ze (Ls.getD j []);rw[hu] at cj rj;rw[hl] at rj;have ht:(Ls.take (j+1)).flatten=(Ls.take j).flatten++l:=by
      rw[JX [] Ls j (by have:=HX.out.1;omega),Ix,List.flatten_singleton,hl]
     have xA:=Qhh Ls (j+1);obtain⟨a,ha⟩:=Ze ((Ls.take j).flatten);rw[ha] at ht ho;rw[ht,Lc] at xA;have HS:Hid ((Ls.take (j+1)).flatten=a++l∧a.length+l.length<=8796093022208∧RdC wr u l.length (Cv.cB l)∧wr.ownsRow w.heap.size 249 2 u6 a.length (Cv.cB a)∧w.heap.size<=wr.heap.size):=⟨ht,by have:=HX.out.2.2.1;omega,rj,ho,hb.size⟩
     clear ht xA ha hl hu ho rj
     go_wp2_with (at_builtin;refine Cv.Jm _ rfl _ _ _ rfl w.heap.size 249 i0 (.agg #[.int .i64 0,.int .u64 0]) 2 16 underlying187 HI.out.1 HI.out.2.1 HI.out.2.2.1 HI.out.2.2.2 rfl (by decide) _ a.length (Cv.cB a) rfl HS.out.2.2.2.1 _ l.length (Cv.cB l) rfl HS.out.2.2.1 (Cv.QA l) (Cv.QaM l) ?c1 ?c2 HS.out.2.2.2.2 ?_)
     case c1=>have:=HS.out.2.1;unfold maxLen;omega
     case c2=>have:=HS.out.2.1;omega
     intro v' w1 hap;have HY:Hid (w1.ownsRow w.heap.size 249 2 v' (a++l).length (Cv.cB (a++l))∧Bl w w1):=by
      refine⟨?_,(Cv.QgJ hb HS.out.2.2.2.2 HS.out.2.2.2.1 hap.grown).1⟩
      rw[Lc,Cv.QdF];exact hap.own
     clear hap hb;go_wp2
     go_roundg (us.length-(j+1))
     case rel=>
      go_light;refine⟨j+1,by omega,rfl,by go_num,?_,HY.out.2⟩
      rw[HS.out.1];exact HY.out.1
     case measure=>go_light;omega
    ·obtain rfl:j=us.length:=by omega
     have hz:¬((us.length:Int)<(us.length:Int)):=by omega
     rw[HX.out.1,NJ,HX.out.2.2.2] at ho;clear hlt hj;go_wp2
     go_ret
     exact⟨_,rfl,ho,hb⟩
end
section
open Cv (RdC zl)
theorem QoL{b:Nat×Nat}{n:Nat}(h:(b.2+1)*2^b.1<=n)(hn:n<=2^40):Fitb (b.1:Int) b.2∧b.1<=40∧b.2<2^40:=by
 have hp:=LN b.1;have h1:2^b.1<=(b.2+1)*2^b.1:=Il _ (by omega)
 have h2:b.2+1<=(b.2+1)*2^b.1:=If _ hp;have h3:b.1<2^b.1:=Nat.lt_two_pow_self;have h4:b.1<=40:=Cv.pw40 (h:=b.1) (by show 2^b.1<=_;omega)
 exact⟨⟨⟨by omega,by omega⟩,by omega⟩,h4,by omega⟩
theorem QpZ(q:Nat):Nat.xor q 1=sb q:=by
 unfold sb;have h1:Nat.xor q 1=q ^^^ 1:=rfl;rw[h1]
 apply Nat.eq_of_testBit_eq
 intro t;rw[Nat.testBit_xor]
 cases t with
 | zero=>
  have h0:∀x,Nat.testBit x 0=decide (x%2=1):=fun x=>Nat.testBit_zero x
  rw[h0,h0,h0]
  by_cases h:q%2=1
  ·rw[Lf h];have:(q-1)%2=0:=by omega
   simp[h,this]
  ·rw[Le h];have:(q+1)%2=1:=by omega
   simp[h,this]
 | succ t=>
  rw[Nat.testBit_succ,Nat.testBit_succ,Nat.testBit_succ]
  by_cases h:q%2=1
  ·rw[Lf h,show(q-1)/2=q/2 by omega];simp
  ·rw[Le h,show(q+1)/2=q/2 by omega];simp
end
namespace Cv
open Pl
structure Rd(w:World)(ao:OA)(b off n:Nat)(l:List Nat):Prop where
 len:l.length=n
 addr:0<n->ao=some ⟨b,off,none⟩
 cell:∀j,j<n->w.cell? ⟨b,off+j,none⟩=some (.int .u64 (l.getD j 0:Nat))
variable{w w':World}{ao:OA}{B b n:Nat}{l:List Nat}
theorem Rd.below{off:Nat}(r:Rd w ao b off n l)(h:Bl w w'):Rd w' ao b off n l :=
 ⟨r.len,r.addr,fun j hj=>(h.cell (p:=⟨b,off+j,none⟩) (Lo w _ (r.cell j hj))).trans (r.cell j hj)⟩
theorem Rd.lt{off:Nat}(r:Rd w ao b off n l)(h:0<n):b<w.heap.size:=Lo w ⟨b,off+0,none⟩ (r.cell 0 h)
theorem Rd.at{off:Nat}(r:Rd w ao b off n l)(h:Below B w w')(hb:0<n->b<B):Rd w' ao b off n l :=
 ⟨r.len,r.addr,fun j hj=>(LE (h.block b (hb (by omega)))).trans (r.cell j hj)⟩
def Inc(l:List Nat):Prop:=0<l.length ∧ ∀i,i+1<l.length->l.getD i 0<l.getD (i+1) 0
def incB(l:List Nat):Bool:=decide (0<l.length) && (List.range (l.length-1)).all (fun i=>decide (l.getD i 0<l.getD (i+1) 0))
theorem U4(l:List Nat):incB l=true↔Inc l:=by
 unfold incB Inc;rw[Bool.and_eq_true,decide_eq_true_iff,List.all_eq_true]
 constructor
 ·rintro⟨h1,h2⟩;exact⟨h1,fun i hi=>by simpa using h2 i (List.mem_range.2 (by omega))⟩
 ·rintro⟨h1,h2⟩;exact⟨h1,fun i hi=>by have:=List.mem_range.1 hi;simpa using h2 i (by omega)⟩
def QZ:Nat->List Nat->Nat->Prop
 | x,[],n=>x<=n
 | x,i::S,n=>x<=i∧QZ (i+1) S n
theorem YJ:∀ {S:List Nat} {x n:Nat},QZ x S n->x<=n:=by
 intro S
 induction S with
 | nil=>intro x n h;exact h
 | cons i S ih=>intro x n h;have:=ih h.2;have:=h.1;omega
theorem Qj4:∀(l:List Nat) (x n:Nat),(∀i,i+1<l.length->l.getD i 0<l.getD (i+1) 0)->(0<l.length->x<=l.getD 0 0)->(0<l.length->l.getD (l.length-1) 0<n)->x<=n->QZ x l n:=by
 intro l
 induction l with
 | nil=>intro x n _ _ _ h;exact h
 | cons a l ih=>
  intro x n h1 h2 h3 h4;refine⟨by simpa using h2 (by simp),ih (a+1) n (fun i hi=> ?_) (fun h=> ?_) (fun h=> ?_) ?_⟩
  ·have:=h1 (i+1) (by simp;omega)
   simpa using this
  ·have:=h1 0 (by simp;omega)
   simp at this ⊢;omega
  ·have:=h3 (by simp)
   rw[show(a::l).length-1=(l.length-1)+1 by simp;omega] at this
   simpa using this
  ·cases l with
   | nil=>have:=h3 (by simp);simp at this;omega
   | cons b l=>
    have h5:∀j,j<(b::l).length->a<(a::b::l).getD (j+1) 0:=fun j=>by
     induction j with
     | zero=>intro _;have:=h1 0 (by simp);simpa using this
     | succ j ihj=>intro hj;have g1:=ihj (by omega);have g2:=h1 (j+1) (by simp at *;omega);omega
    have h6:=h5 l.length (by simp)
    have h7:=h3 (by simp)
    simp only[List.length_cons,Nat.add_sub_cancel] at h7;omega
def YK(n:Nat)(l:List Nat):Nat:=if 2^40<n then 30 else if incB l=false then 40 else if n<=l.getD (l.length-1) 0 then 31 else 0
def rstS(n:Nat)(l:List Nat):List (Nat×Nat):=if YK n l=0 then rst 0 n l else []
theorem Qbt(h:YK n l=0):n<=2^40∧Inc l∧l.getD (l.length-1) 0<n∧QZ 0 l n:=by
 unfold YK at h
 split at h
 ·cases h
 ·rename_i h1
  split at h
  ·cases h
  ·rename_i h2
   split at h
   ·cases h
   ·rename_i h3
    have hi:Inc l:=(U4 l).1 (by cases hb:incB l with
     | true=>rfl
     | false=>exact absurd hb h2)
    exact⟨by omega,hi,by omega,Qj4 l 0 n hi.2 (fun _=>Ln _) (fun _=>by omega) (Ln _)⟩
theorem Qja(w:World)(ao:OA)(b off n cap:Nat)(l:List Nat)(r:Rd w ao b off n l)(hn:n<=maxLen) :
  Zr 320 #[.slice ao n cap] w (.bool (incB l)):=by
 have xF:(n:Int)<=9223372036854775807:=by unfold maxLen at hn;omega
 have HR:Hid (Rd w ao b off n l):=r;clear hn r
 go_enter func320,ntmps320;go_wp2
 go_loopg [3] n (fun g i wr=> ∃k:Nat,(k<=n∨k=1)∧1<=k∧g=n+1-k∧i= .int .i64 k∧(∀j,j+1<k->l.getD j 0<l.getD (j+1) 0)∧Bl w wr)
 case atStart=>go_light;exact⟨1,.inr rfl,La _,by omega,rfl,fun j hj=>absurd hj (by omega),Lb _ _⟩
 case round=>
  obtain⟨k,hk,xE,rfl,rfl,he,hb⟩:=hrel;have xD:(0:Int)<=(k:Int):=Lh _
  by_cases hlt:k<n
  ·obtain⟨i,rfl⟩:∃i,k=i+1:=⟨k-1,by omega⟩
   have r1:=HR.out.below hb;obtain rfl:=r1.addr (by omega)
   have c1:=r1.cell (i+1) hlt;have c2:=r1.cell i (by omega)
   have hz:((i+1:Nat):Int)<(n:Int):=by omega
   have ei:(((i+1:Nat):Int)-1)=(i:Int):=by omega
   have ec:((i+1:Nat):Int)=(i:Int)+1:=by omega
   have xH:(i:Int)+1<(n:Int):=by omega
   have xI:(i:Int)<(n:Int):=by omega
   have xB:(0:Int)<=(i:Int):=Lh _;have xC:(0:Int)<=(i:Int)+1:=by omega
   have HB:Hid (Bl w wr):=hb;have HE:Hid (∀j,j+1<i+1->l.getD j 0<l.getD (j+1) 0):=he;have HI:Hid (¬l.getD i 0<l.getD (i+1) 0->incB l=false):=fun hno=>by
    cases hB:incB l with
    | false=>rfl
    | true=>exact absurd (((U4 l).1 hB).2 i (by have:=HR.out.len;omega)) hno
   obtain⟨x,hx⟩:=Ze (l.getD (i+1) 0);obtain⟨y,hy⟩:=Ze (l.getD i 0);rw[hx] at c1;rw[hy] at c2;rw[hx,hy] at HI;have HX:Hid (l.getD (i+1) 0=x∧l.getD i 0=y):=⟨hx,hy⟩;have xA:i+1<n:=hlt;clear hx hy r1 hb he hk hlt
   by_cases hxy:x<=y
   ·have HN:Hid (incB l=false):=HI.out (by omega)
    go_wp2
    go_quiet (fail)
    go_wp2
    go_ret
    exact⟨by rw[HN.out];rfl,Qi HB.out _⟩
   ·go_wp2
    go_quiet (fail)
    go_wp2
    go_roundg (n+1-(i+1+1))
    case rel=>
     go_light;refine⟨i+1+1,by omega,by omega,rfl,by go_num,fun j hj=> ?_,Qi HB.out _⟩
     by_cases hjk:j=i
     ·subst hjk;rw[HX.out.1,HX.out.2];omega
     ·exact HE.out j (by omega)
    case measure=>go_light;omega
  ·have hz:¬(k:Int)<(n:Int):=by omega
   have xG:¬k<n:=by omega
   have HN:Hid (decide ((0:Int)<(n:Int))=incB l):=by
    have hl:=HR.out.len
    cases hB:incB l with
    | true=>have:=((U4 l).1 hB).1;exact LW (by omega)
    | false=>
     refine LA (fun hp=> ?_)
     have:incB l=true:=(U4 l).2 ⟨by omega,fun i hi=>he i (by omega)⟩
     rw[this] at hB;cases hB
   have HB:Hid (Bl w wr):=hb;clear he hb hk;go_wp2
   go_ret
   refine⟨?_,HB.out⟩
   have:=HN.out;simp at this ⊢;exact this
theorem Yp(m:Nat)(w:World)(ao:OA)(b off n cap:Nat)(l:List Nat)(r:Rd w ao b off n l)(hn:n<=maxLen) :
  Zr 228 #[.int .u64 m,.slice ao n cap] w (.int .i64 (YK m l:Nat)):=by
 have HR:=Qja w ao b off n cap l r hn;have xE:(n:Int)<=9223372036854775807:=by unfold maxLen at hn;omega
 by_cases h1:2^40<m
 ·have ht:decide ((1099511627776:Int)<(m:Int))=true:=LW (by omega)
  have he:YK m l=30:=by rw[YK,Lf h1]
  rw[he];clear h1 he
  go_enter func228,ntmps228;go_wp2
  go_ret
  exact⟨rfl,Lb _ _⟩
 ·have ht:decide ((1099511627776:Int)<(m:Int))=false:=LA (by omega)
  cases h2:incB l with
  | false=>
   have he:YK m l=40:=by rw[YK,Le h1,Lf h2]
   rw[he];rw[h2] at HR;clear h1 he
   go_enter func228,ntmps228
   go_wp2_with (go_at_call 320;with_reducible refine HR.mono ?_;rintro e w1 ⟨rfl,hb⟩)
   go_ret
   exact⟨rfl,hb⟩
  | true=>
   have h3:=(U4 l).1 h2;have hl:=r.len;rw[h2] at HR;obtain⟨j,rfl⟩:∃j,n=j+1:=⟨n-1,by have:=h3.1;omega⟩
   obtain rfl:=r.addr (by omega)
   have hc:=r.cell j (by omega)
   have e1:(((j+1:Nat):Int)-1)=(j:Int):=by omega
   have e2:((j+1:Nat):Int)=(j:Int)+1:=by omega
   have xF:(j:Int)<(j:Int)+1:=by omega
   have xD:(0:Int)<=(j:Int):=Lh _;have xA:l.getD (l.length-1) 0=l.getD j 0:=by rw[hl];rfl
   obtain⟨x,hx⟩:=Ze (l.getD j 0);rw[hx] at hc xA;have xB:∀w',Bl w w'->w'.cell? ⟨b,off+j,none⟩=some (.int .u64 x):=fun w' hb=>(hb.cell (p:=⟨b,off+j,none⟩) (Lo w _ hc)).trans hc
   by_cases h4:m<=x
   ·have he:YK m l=31:=by rw[YK,Le h1,Le (by rw[h2];decide),Lf (by rw[xA];exact h4)]
    rw[he];have xC:(m:Int)<=(x:Int):=by omega
    clear h1 he h2 h3 hl hx xA r hn
    go_enter func228,ntmps228
    go_wp2_with (go_at_call 320;with_reducible refine HR.mono ?_;rintro e w1 ⟨rfl,hb⟩;have c1:=xB w1 hb)
    go_ret
    exact⟨rfl,hb⟩
   ·have he:YK m l=0:=by rw[YK,Le h1,Le (by rw[h2];decide),Le (by rw[xA];exact h4)]
    rw[he];have xC:¬(m:Int)<=(x:Int):=by omega
    clear h1 he h2 h3 hl hx xA r hn
    go_enter func228,ntmps228
    go_wp2_with (go_at_call 320;with_reducible refine HR.mono ?_;rintro e w1 ⟨rfl,hb⟩;have c1:=xB w1 hb)
    go_ret
    exact⟨rfl,hb⟩
theorem Qkq(l:List Nat)(j:Nat)(h:j<l.length):l.drop j=l.getD j 0::l.drop (j+1):=by
 rw[LX h,Ld,Lk h];rfl
theorem QdM{k B0 M:Nat}(hk:k=277∨k=230∨k=389){I:(Nat->Prop)->List (Nat×Nat)->World->Prop}(G:Give k B0 M I)(hM:M<=4611686018427387904)(X:Nat->Prop)(acc:List (Nat×Nat))(n:Nat)(w:World)
  (ao:OA) (b off m cap:Nat) (l:List Nat) (hI:I X acc w) (hX:∀x,X x->x<w.heap.size) (hl:acc.length+100*(m+1)+1000<M) (r:Rd w ao b off m l) (hb:0<m->b<B0) (hc:QZ 0 l n) (hn:n<=2^40) :
  Calls prog 229 #[.int .u64 n,.slice ao m cap,gv k B0] w fun e w'=>e= .returned (.tuple #[])∧I X (acc++rst 0 n l) w'∧Below B0 w w' ∧ ∀x,X x->w'.heap[x]? = w.heap[x]? := by
 have HS:Hid (I X acc w∧(∀x,X x->x<w.heap.size)∧acc.length+100*(m+1)+1000<M∧Rd w ao b off m l∧(0<m->b<B0)∧QZ 0 l n∧n<=2^40):=⟨hI,hX,hl,r,hb,hc,hn⟩;have HM:Hid (M<=4611686018427387904):=hM;clear hI hX hl r hb hc hn hM
 go_enter func229,ntmps229;go_wp2
 go_loopg [6,8,11] m (fun g nx i8 ix wr=> ∃(j next:Nat) (acc':List (Nat×Nat)),j<=m∧g=m-j∧ix= .int .i64 j∧nx= .int .u64 next∧I X acc' wr∧acc'++rst next n (l.drop j)=acc++rst 0 n l∧QZ next (l.drop j) n∧Below B0 w wr∧(∀x,X x->wr.heap[x]? = w.heap[x]?)∧acc'.length<=acc.length+80*j)
 case atStart=>go_light;exact⟨0,0,acc,Ln _,rfl,rfl,rfl,HS.out.1,rfl,HS.out.2.2.2.2.2.1,Lb _ _,fun _ _=>rfl,La _⟩
 case round=>
  obtain⟨j,next,acc',hj,rfl,rfl,rfl,xF,xA,xD,xB,xH,xE⟩:=hrel;obtain⟨s1,s2,s3,s4,s5,s6,s7⟩:=HS.out;have xN:=HM.out;have xP:(0:Int)<=(j:Int):=Lh _;have xQ:(j:Int)<=4611686018427387904:=by omega
  clear xN
  by_cases hlt:j<m
  ·have xK:(j:Int)<(m:Int):=by omega
   have r':=s4.at xB s5;obtain rfl:=r'.addr (by omega)
   have cj:=r'.cell j hlt;have hd:=Qkq l j (by have:=s4.len;omega)
   obtain⟨x,hx⟩:=Ze (l.getD j 0);rw[hx] at cj hd;rw[hd] at xA xD;obtain⟨xL,xC⟩:=xD;have xO:=YJ xC;have HE:=QbX hk G X acc' next x wr xF (fun y hy=>Lz (s2 y hy) xB.size) (by omega) xL (by omega)
   have ex:IntKind.u64.wrap ((x:Int)+1)=(x:Int)+1:=by rw[IntKind.wrap_u64];omega
   have HX:Hid (acc'++cov next x++rst (x+1) n (l.drop (j+1))=acc++rst 0 n l∧QZ (x+1) (l.drop (j+1)) n∧Below B0 w wr∧(∀y,X y->wr.heap[y]? = w.heap[y]?)∧(acc'++cov next x).length<=acc.length+80*(j+1)∧j+1<=m):=by
    refine⟨by rw[Lw];exact xA,xC,xB,xH,?_,hlt⟩
    have:=O5 next x xL (by omega)
    simp;omega
   clear xA xC xB xH xE hlt r' hd hx xL xO s1 s2 s3 s4 s5 s6 s7 xF hj
   go_wp2_with (go_at_call 276;with_reducible refine HE.mono ?_;rintro e w1 ⟨rfl,xG,xI,xJ⟩)
   go_roundg (m-(j+1))
   case rel=>go_light;obtain⟨x1,x2,x3,x4,x5,x6⟩:=HX.out;refine⟨j+1,x+1,_,x6,rfl,by go_num,by go_num,xG,x1,x2,x3.trans xI,fun y hy=>(xJ y hy).trans (x4 y hy),x5⟩
   case measure=>go_light;have:=HX.out.2.2.2.2.2;omega
  ·obtain rfl:j=m:=by omega
   have xK:¬(j:Int)<(j:Int):=by omega
   have xM:l.drop j=[]:=List.drop_eq_nil_iff.2 (by have:=s4.len;omega)
   rw[xM] at xA xD;have HE:=QbX hk G X acc' next n wr xF (fun y hy=>Lz (s2 y hy) xB.size) (by omega) xD s7
   have HX:Hid (acc'++cov next n=acc++rst 0 n l∧Below B0 w wr∧(∀y,X y->wr.heap[y]? = w.heap[y]?)):=⟨xA,xB,xH⟩;clear xA xB xH xE hlt xM s1 s2 s3 s4 s5 s6 s7 xF hj xD
   go_wp2_with (go_at_call 276;with_reducible refine HE.mono ?_;rintro e w1 ⟨rfl,xG,xI,xJ⟩)
   go_end0
   obtain⟨x1,x2,x3⟩:=HX.out;rw[x1] at xG;exact⟨rfl,xG,x2.trans xI,fun y hy=>(xJ y hy).trans (x3 y hy)⟩
theorem Qpv(w:World):IC w.heap.size (fun _=>False) [] (w.alloc (.cells #[.int .u64 0] 48)):=⟨Qae _ _,fun h=>h⟩
theorem Qiu(n e:Nat)(w:World)(ao:OA)(b off m cap:Nat)(l:List Nat)(r:Rd w ao b off m l)(hm:m<=maxLen)(he:YK n l=e)(h0:e≠0) :
  Calls prog 323 #[.int .u64 n,.slice ao m cap] w fun x w'=>x= .returned (.tuple #[.int .u64 0,.int .i64 e])∧Bl w w':=by
 have HC:=Yp n w ao b off m cap l r hm;rw[he] at HC;have xA:¬(e:Int)=0:=by omega
 clear he r hm
 go_enter func323,ntmps323
 go_wp2_with (go_at_call 228;with_reducible refine HC.mono ?_;rintro x w1 ⟨rfl,hb⟩)
 go_ret2
 exact⟨rfl,hb⟩
theorem QeU(n:Nat)(w:World)(ao:OA)(b off m cap:Nat)(l:List Nat)(r:Rd w ao b off m l)(hm:m<=17592186044416)(he:YK n l=0) :
  Calls prog 323 #[.int .u64 n,.slice ao m cap] w fun x w'=>x= .returned (.tuple #[.int .u64 ((rst 0 n l).length:Nat),.int .i64 0])∧Bl w w':=by
 have HC:=Yp n w ao b off m cap l r (by unfold maxLen;omega)
 obtain⟨g1,g2,g3,g4⟩:=Qbt he;rw[he] at HC;have HE:∀w1,Bl w w1->_:=fun w1 hb1=>QdM (.inr (.inr rfl)) (Qgr w1.heap.size) (by decide) (fun _=>False) [] n (w1.alloc (.cells #[.int .u64 0] 48)) ao b off m cap l (Qpv w1) (fun _ h=>h.elim) (by simp;omega) ((r.below hb1).below ((Lb _ w1).alloc (La _) _)) (fun h=>Lz (r.lt h) hb1.size) g4 g1
 clear he r hm g1 g2 g3 g4
 go_enter func323,ntmps323
 go_upto_region 6 with (first
  | (go_at_call 228;with_reducible refine HC.mono ?_;rintro x w1 ⟨rfl,hb⟩;replace HE:=HE w1 hb)
  | (go_at_call 229;with_reducible refine HE.mono ?_;rintro x w2 ⟨rfl,hI,xA,_⟩))
 have h1:=hI.at0;rw[Nj] at h1;have c0:=cell_of_one h1;have HF:Hid (Bl w w2):=hb.trans ((((Lb _ w1).alloc (La _) _).trans xA).mono hb.size);clear h1 hI xA HE hb;go_wp2
 go_ret2
 exact⟨rfl,HF.out⟩
theorem Yq(n:Nat)(w:World)(ao:OA)(b off m cap:Nat)(l:List Nat)(r:Rd w ao b off m l)(hm:m<=17592186044416) :
  Calls prog 323 #[.int .u64 n,.slice ao m cap] w fun x w'=>x= .returned (.tuple #[.int .u64 ((rstS n l).length:Nat),.int .i64 (YK n l:Nat)])∧Bl w w':=by
 by_cases h:YK n l=0
 ·rw[rstS,Lf h,h];exact QeU n w ao b off m cap l r hm h
 ·rw[rstS,Le h];exact Qiu n _ w ao b off m cap l r (by unfold maxLen;omega) rfl h
def Row(q:Nat):Nat->List (Nat×Nat)->Prop
 | p,[]=>p=q
 | p,b::L=>p=b.2*pw b.1∧b.1<=40∧b.2<pw (40-b.1)∧Row q ((b.2+1)*pw b.1) L
theorem QhS{q m:Nat}{M:List (Nat×Nat)}(h':Row q m M):∀ {L:List (Nat×Nat)} {p:Nat},Row m p L->Row q p (L++M):=by
 intro L
 induction L with
 | nil=>intro p h;obtain rfl:p=m:=h;exact h'
 | cons b L ih=>intro p h;exact⟨h.1,h.2.1,h.2.2.1,ih h.2.2.2⟩
theorem QmC{h k:Nat}(hb:(k+1)*pw h<=2^40):h<=40∧k<pw (40-h):=by
 have h1:pw h<=(k+1)*pw h:=Il _ (by omega)
 have hh:h<=40:=pw40 (by omega)
 refine⟨hh,?_⟩
 have e:(2:Nat)^40=pw (40-h)*pw h:=by rw[<-OT,show 40-h+h=40 by omega];rfl
 rw[e] at hb;exact Lz (Wa k) (Nat.le_of_mul_le_mul_right hb (QC h))
theorem Qov{lo hi:Nat}(hhi:hi<=2^40):∀ {L:List (Nat×Nat)} {p:Nat},lo<=p->Til (Rg lo hi) hi p L->Row hi p L:=by
 intro L
 induction L with
 | nil=>
  intro p h1 h2
  show p=hi
  have:=h2.1
  by_cases he:p=hi
  ·exact he
  ·exact absurd ⟨h1,by omega⟩ (h2.2 p (La _) (by omega))
 | cons b L ih=>
  intro p h1 h2;obtain⟨a1,a2,a3,a4,a5,a6⟩:=h2;have xA:=YU b.1 b.2;have hm:=QmC (Lr a2 hhi);refine⟨?_,hm.1,hm.2,ih (by omega) a6⟩
  by_cases he:p=b.2*pw b.1
  ·exact he
  ·exact absurd ⟨h1,by omega⟩ (a3 p (La _) (by omega))
theorem QdI(lo hi:Nat)(h:lo<=hi)(hhi:hi<=2^40):Row hi lo (cov lo hi):=Qov hhi (La _) (Qbr lo hi h hhi)
end Cv
namespace Cv
open Pl
variable{H K i n:Nat}{A:Nat->Prop}
def inb(H K i:Nat):Bool:=decide (K*pw H<=i) && decide (i<(K+1)*pw H)
def tno:Nat->Nat->List Nat->List (Nat×Nat)
 | 0,K,S=>if (S.filter (inb 0 K)).length=0 then [(0,K)] else []
 | H+1,K,S=>if (S.filter (inb (H+1) K)).length=0 then [(H+1,K)] else tno H (2*K) (S.filter (inb (H+1) K))++tno H (2*K+1) (S.filter (inb (H+1) K))
theorem Yh : inb H K i=true↔K*pw H<=i∧i<(K+1)*pw H:=by simp[inb]
theorem J9(H K:Nat):(2*K)*pw H=K*pw (H+1):=(QE K H).symm
theorem Qb6(H K:Nat):(2*K+1)*pw H=K*pw (H+1)+pw H:=by rw[LS,L9,J9]
theorem Qbu(H K:Nat):(2*K+1+1)*pw H=(K+1)*pw (H+1):=by rw[show 2*K+1+1=2*(K+1) by omega,J9]
theorem Qhf(H K:Nat):(K+1)*pw (H+1)=K*pw (H+1)+pw H+pw H:=by rw[LS,L9,QH];omega
theorem Qh6(ha:All A H K)(hp:¬All A (H+1) (K/2)):Til A ((K+1)*pw H) (K*pw H) [(H,K)] :=
 ⟨La _,La _,fun i h1 h2=>by dsimp only at h2;omega,ha,hp,La _,fun i h1 h2=>by dsimp only at h1;omega⟩
theorem Qox(A:Nat->Prop):∀H K (S:List Nat),(∀i,K*pw H<=i->i<(K+1)*pw H->(A i↔i ∉ S)) -> ¬All A (H+1) (K/2)->Til A ((K+1)*pw H) (K*pw H) (tno H K S):=by
 intro H
 induction H with
 | zero=>
  intro K S hA hp;rw[tno];have e0:pw 0=1:=rfl
  split
  ·rename_i h
   refine Qh6 (fun i h1 h2=>(hA i h1 h2).2 (fun hi=> ?_)) hp
   have hm:i∈S.filter (inb 0 K):=List.mem_filter.2 ⟨hi,Yh.2 ⟨h1,h2⟩⟩;rw[List.length_eq_zero_iff.1 h] at hm
   cases hm
  ·rename_i h
   refine⟨by rw[e0];omega,fun i h1 h2 hr=>h ?_⟩
   cases hm:S.filter (inb 0 K) with
   | nil=>rfl
   | cons s M=>
    have hs:s∈S.filter (inb 0 K):=by rw[hm];exact NY
    obtain⟨g1,g2⟩:=List.mem_filter.1 hs;obtain⟨g3,g4⟩:=Yh.1 g2;rw[e0] at *;obtain rfl:i=s:=by omega
    exact absurd g1 ((hA i h1 h2).1 hr)
 | succ H ih=>
  intro K S hA hp;rw[tno];have hb:=Qhf H K;have xB:=QC H
  split
  ·rename_i h
   refine Qh6 (fun i h1 h2=>(hA i h1 h2).2 (fun hi=> ?_)) hp
   have hm:i∈S.filter (inb (H+1) K):=List.mem_filter.2 ⟨hi,Yh.2 ⟨h1,h2⟩⟩;rw[List.length_eq_zero_iff.1 h] at hm
   cases hm
  ·rename_i h
   have xA:¬All A (H+1) K:=fun hall=>h (by
    cases hm:S.filter (inb (H+1) K) with
    | nil=>rfl
    | cons s M=>
     have hs:s∈S.filter (inb (H+1) K):=by rw[hm];exact NY
     obtain⟨g1,g2⟩:=List.mem_filter.1 hs;obtain⟨g3,g4⟩:=Yh.1 g2;exact absurd g1 ((hA s g3 g4).1 (hall s g3 g4)))
   have hM:∀i,K*pw (H+1)<=i->i<(K+1)*pw (H+1)->(A i↔i ∉ S.filter (inb (H+1) K)):=fun i h1 h2=>by
    rw[hA i h1 h2,List.mem_filter,Yh];exact⟨fun h g=>h g.1,fun h g=>h ⟨g,h1,h2⟩⟩
   have e1:=J9 H K;have e2:=Qb6 H K;have e3:=Qbu H K;have t1:=ih (2*K) (S.filter (inb (H+1) K)) (fun i h1 h2=>hM i (by omega) (by omega)) (by rw[show 2*K/2=K by omega];exact xA)
   have t2:=ih (2*K+1) (S.filter (inb (H+1) K)) (fun i h1 h2=>hM i (by omega) (by omega)) (by rw[show(2*K+1)/2=K by omega];exact xA)
   rw[Qbu] at t2;rw[J9] at t1;exact QeI t2 t1
theorem QpE(t:Nat->Nat->List (Nat×Nat))(ht:∀h k,(k+1)*pw h<=n -> ¬All A (h+1) (k/2)->Til A ((k+1)*pw h) (k*pw h) (t h k))(hn:¬A n) :
  ∀h x,(∃c,x=c*pw h)->n-x<pw h->x<=n->Til A n x ((dnL h x n).flatMap (fun b=>t b.1 b.2)):=by
 intro h
 induction h with
 | zero=>
  intro x _ h2 h3;rw[Oh] at h2;exact⟨h3,fun i h5 h6=>by omega⟩
 | succ h ih=>
  intro x h1 h2 h3;obtain⟨c,hc⟩:=h1;have hp:=QC h;have xA:=QH h;rw[QE] at hc;rw[dnL]
  split
  ·rename_i hfit
   have hk:x/pw h=2*c:=by rw[hc];exact ND _ hp
   have e1:(2*c+1)*pw h=x+pw h:=by rw[LS,L9,<-hc]
   have e2:2*c/2=c:=by omega
   have e3:c*pw (h+1)=x:=by rw[QE];exact hc.symm
   rw[hk,I6];have t1:=ht h (2*c) (by omega) (by rw[e2];exact fun hall=>hn (hall n (by omega) (by rw[LS,L9,e3];omega)))
   have t2:=ih (x+pw h) ⟨2*c+1,e1.symm⟩ (by omega) (by omega)
   rw[<-e1] at t2;rw[<-hc] at t1;rw[<-e1];exact QeI t2 t1
  ·exact ih x ⟨2*c,hc⟩ (by omega) h3
theorem mt_all {A:Nat->Prop} {n:Nat} (t:Nat->Nat->List (Nat×Nat)) (ht:∀h k,(k+1)*pw h<=n -> ¬All A (h+1) (k/2)->Til A ((k+1)*pw h) (k*pw h) (t h k)) (hn:¬A n) (h40:n<=2^40) :
    Til A n 0 ((dnL 41 0 n).flatMap (fun b=>t b.1 b.2)) :=
  QpE t ht hn 41 0 ⟨0, by simp⟩ (by have:pw 41=2 ^ 41:=rfl
                                    omega) (Ln _)
theorem QnP(h k:Nat):k/2*pw (h+1)<=k*pw h∧(k+1)*pw h<=(k/2+1)*pw (h+1):=by
 rw[QE,QE];exact⟨LJ _ (by omega),LJ _ (by omega)⟩
theorem Qh8{lo hi:Nat}(hA:∀j,lo<=j->j<hi->A j)(hl:lo=0 ∨ ¬A (lo-1))(hh:¬A hi):∀ {L:List (Nat×Nat)} {p:Nat},lo<=p->Til (Rg lo hi) hi p L->Til A hi p L:=by
 intro L
 induction L with
 | nil=>intro p h1 h2;exact⟨h2.1,fun i i1 i2=>absurd ⟨by omega,i2⟩ (h2.2 i i1 i2)⟩
 | cons b L ih=>
  intro p h1 h2;obtain⟨a1,a2,a3,a4,a5,a6⟩:=h2;have xA:=YU b.1 b.2;refine⟨a1,a2,fun i i1 i2=>absurd ⟨by omega,by omega⟩ (a3 i i1 i2),fun i i1 i2=>hA i (by omega) (by omega),fun hall=>a5 (fun i i1 i2=> ?_),ih (by omega) a6⟩
  obtain⟨p1,p2⟩:=QnP b.1 b.2;refine⟨?_,?_⟩
  ·by_cases hlo:lo<=i
   ·exact hlo
   ·rcases hl with hl|hl
    ·omega
    ·exact absurd (hall (lo-1) (by omega) (by omega)) hl
  ·by_cases hhi:i<hi
   ·exact hhi
   ·exact absurd (hall hi (by omega) (by omega)) hh
theorem Qio:∀ {S:List Nat} {x n:Nat},QZ x S n -> ∀s∈S,x<=s∧s<n:=by
 intro S
 induction S with
 | nil=>intro x n _ s hs;cases hs
 | cons i S ih=>
  intro x n h s hs;have h1:=h.1;have h2:=YJ h.2
  rcases List.mem_cons.1 hs with rfl|hs
  ·exact⟨h1,by omega⟩
  ·have:=ih h.2 s hs;omega
theorem Qn5(hn:n<=2^40):∀(S:List Nat) (x:Nat),(∀i,x<=i->(A i↔i<n∧i ∉ S))->(x=0 ∨ ¬A (x-1))->QZ x S n->Til A n x (rst x n S):=by
  intro S
  induction S with
  | nil=>
    intro x hA hx hc;have xB:x<=n:=hc;exact Qh8 (fun j j1 j2=>(hA j j1).2 ⟨j2,by simp⟩) hx (fun h=>by have:=((hA n xB).1 h).1;omega) (La _) (Qbr x n xB hn)
  | cons i S ih=>
    intro x hA hx hc;obtain⟨c1,c2⟩:=hc;have xC:=YJ c2;have xA:¬A i:=fun h=>((hA i c1).1 h).2 NY
    have t1:Til A i x (cov x i):=Qh8 (fun j j1 j2=>(hA j j1).2 ⟨by omega,fun hj=>by
      rcases List.mem_cons.1 hj with rfl|hj
      · omega
      · have:=Qio c2 j hj;omega⟩) hx xA (La _) (Qbr x i c1 (by omega))
    have t2:Til A n (i+1) (rst (i+1) n S):=ih (i+1) (fun j j1=>by
      rw[hA j (by omega)]
      refine⟨fun h=>⟨h.1,fun hj=>h.2 (LV _ hj)⟩,fun h=>⟨h.1,fun hj=> ?_⟩⟩
      rcases List.mem_cons.1 hj with rfl|hj
      · omega
      · exact h.2 hj) (.inr (by rw[Nm];exact xA)) c2
    exact QeI (Qh7 t2 (I7 i) (fun j j1 j2=>by obtain rfl:j=i:=by omega
                                              exact xA)) t1
abbrev But(n:Nat)(S:List Nat):Nat->Prop:=fun i=>i<n∧i ∉ S
theorem QhU(n:Nat)(S:List Nat)(hn:n<=2^40)(hc:QZ 0 S n):Til (But n S) n 0 (rst 0 n S):=Qn5 hn S 0 (fun _ _=>Iff.rfl) (.inl rfl) hc
theorem QlC(n:Nat)(S:List Nat)(hn:n<=2^40)(hc:QZ 0 S n):rst 0 n S=(dnL 41 0 n).flatMap (fun b=>tno b.1 b.2 S) :=
 Qou (QhU n S hn hc) (mt_all (fun h k=>tno h k S) (fun h k hk hp=>Qox _ h k S (fun i _ i2=>⟨fun h=>h.2,fun h=>⟨by omega,h⟩⟩) hp) (fun h=>by have:=h.1;omega) hn)
theorem Qlq(H K:Nat):∀M:List Nat,(∀i∈M,inb (H+1) K i=true)->(M.filter (inb H (2*K))).length+(M.filter (inb H (2*K+1))).length=M.length:=by
 have e1:=J9 H K;have e2:=Qb6 H K;have e3:=Qbu H K;intro M
 induction M with
 | nil=>intro _;rfl
 | cons i M ih=>
  intro h;have h1:=Yh.1 (h i NY);have h2:=ih (fun j hj=>h j (LV _ hj))
  by_cases hm:i<(2*K+1)*pw H
  ·have a1:inb H (2*K) i=true:=Yh.2 ⟨by omega,hm⟩
   have a2:inb H (2*K+1) i=false:=by
    cases hb:inb H (2*K+1) i with
    | false=>rfl
    | true=>have:=(Yh.1 hb).1;omega
   rw[Id a1,Ic (by rw[a2];decide),LG,LG];omega
  ·have a1:inb H (2*K+1) i=true:=Yh.2 ⟨by omega,by omega⟩
   have a2:inb H (2*K) i=false:=by
    cases hb:inb H (2*K) i with
    | false=>rfl
    | true=>have:=(Yh.1 hb).2;omega
   rw[Id a1,Ic (by rw[a2];decide),LG,LG];omega
theorem QdP(S:List Nat)(H K:Nat):∀i∈S.filter (inb H K),inb H K i=true:=fun _ hi=>(List.mem_filter.1 hi).2
theorem Qdv:∀H K (S:List Nat),((S.filter (inb H K)).length=0->(tno H K S).length=1)∧((S.filter (inb H K)).length≠0->(tno H K S).length<=(S.filter (inb H K)).length*H):=by
 intro H
 induction H with
 | zero=>
  intro K S;refine⟨fun h=>by rw[tno,Lf h];rfl,fun h=>by rw[tno,Le h];simp⟩
 | succ H ih=>
  intro K S;refine⟨fun h=>by rw[tno,Lf h];rfl,fun h=> ?_⟩
  rw[tno,Le h,Lc];have hp:=Qlq H K (S.filter (inb (H+1) K)) (QdP S (H+1) K);obtain⟨l0,l1⟩:=ih (2*K) (S.filter (inb (H+1) K));obtain⟨r0,r1⟩:=ih (2*K+1) (S.filter (inb (H+1) K));generalize ((S.filter (inb (H+1) K)).filter (inb H (2*K))).length=a at *;generalize ((S.filter (inb (H+1) K)).filter (inb H (2*K+1))).length=b at *;generalize (tno H (2*K) (S.filter (inb (H+1) K))).length=x at *;generalize (tno H (2*K+1) (S.filter (inb (H+1) K))).length=y at *;generalize (S.filter (inb (H+1) K)).length=c at *;subst hp;rw[NV,Nd,LS]
  by_cases ha:a=0
  ·have:=l0 ha;have hb:b≠0:=by omega
   have:=r1 hb;subst ha;omega
  ·have:=l1 ha
   by_cases hb:b=0
   ·have:=r0 hb;subst hb;omega
   ·have:=r1 hb;omega
theorem QbP:∀ {S:List Nat} {a n:Nat} (_:QZ a S n) (j:Nat),j<S.length->S.getD j 0<n∧a<=S.getD j 0 ∧ ∀t,t<j->S.getD t 0<S.getD j 0:=by
 intro S
 induction S with
 | nil=>intro a n _ j hj;simp at hj
 | cons s r ih=>
  intro a n h j hj;have xA:=YJ h.2
  cases j with
  | zero=>exact⟨by simp;omega,by simpa using h.1,fun t ht=>absurd ht (N6 t)⟩
  | succ j=>
   obtain⟨g1,g2,g3⟩:=ih h.2 j (by simp at hj;omega)
   have h1:=h.1;refine⟨by simpa using g1,by simp;simp at g2;omega,fun t ht=> ?_⟩
   cases t with
   | zero=>simp;simp at g2;omega
   | succ t=>have:=g3 t (by omega);simpa using this
theorem Qin{S:List Nat}(h:QZ 0 S n)(h0:S≠[])(hn:n<=2^40):YK n S=0:=by
 have hl:0<S.length:=List.length_pos_iff.2 h0;have hi:Inc S:=⟨hl,fun i hi=>(QbP h (i+1) hi).2.2 i (by omega)⟩
 have xA:=(QbP h (S.length-1) (by omega)).1
 rw[YK,Le (by omega),Le (by rw[(U4 S).2 hi];decide),Le (by omega)]
end Cv
section
open Cv (RdC zl cU)
theorem Qr{w w':World}{B T s n:Nat}{x:Value}{cs:List Value}(h:w.ownsRow B T s x n cs)(hk:∀g,x.ownBlock=some g->B<=g->w'.heap[g]? = w.heap[g]?):w'.ownsRow B T s x n cs:=by
 obtain⟨h1,h2⟩:=h;refine⟨h1,?_⟩
 rcases h2 with h2|⟨g,cap,cur,rfl,hg,hh,h3⟩
 ·exact .inl h2
 ·exact .inr ⟨g,cap,cur,rfl,hg,(hk g rfl hg).trans hh,h3⟩
structure ChT(S:Nat->Prop)(w w':World):Prop where
 os:w'.os=w.os
 tape:w'.tape=w.tape
 output:w'.output=w.output
 size:w'.heap.size=w.heap.size
 block:∀b,¬S b->w'.heap[b]? = w.heap[b]?
theorem ChT.refl(S:Nat->Prop)(w:World):ChT S w w:=⟨rfl,rfl,rfl,rfl,fun _ _=>rfl⟩
theorem ChT.set{S:Nat->Prop}{w w':World}(h:ChT S w w')(b i:Nat)(v:Value)(hb:S b):ChT S w (w'.setCell ⟨b,i,none⟩ v):=by
 have h0:=(Lb 0 w').setCell (p:=⟨b,i,none⟩) (Ln _) v;refine⟨h0.os.trans h.os,h0.tape.trans h.tape,h0.output.trans h.output,by rw[<-h.size];simp,fun c hc=> ?_⟩
 rw[<-h.block c hc];exact Below.heap_setCell _ _ _ _ (by show c≠b;rintro rfl;exact hc hb)
def Six(w:World)(s:Nat)(a b c d e f:Value):Prop:=w.heap[s]? = some (.cells #[a,b,c,d,e,f] 138 (0,0))
section
variable {w W:World} {s:Nat} {a b c d e f:Value}
theorem Six.cells(h:Six w s a b c d e f):w.cell? ⟨s,0,none⟩=some a∧w.cell? ⟨s,1,none⟩=some b∧w.cell? ⟨s,2,none⟩=some c∧w.cell? ⟨s,3,none⟩=some d∧w.cell? ⟨s,4,none⟩=some e∧w.cell? ⟨s,5,none⟩=some f :=
 ⟨by rw[cell_of_row w s 0 _ _ (0,0) h];rfl,by rw[cell_of_row w s 1 _ _ (0,0) h];rfl,by rw[cell_of_row w s 2 _ _ (0,0) h];rfl,by rw[cell_of_row w s 3 _ _ (0,0) h];rfl,by rw[cell_of_row w s 4 _ _ (0,0) h];rfl,by rw[cell_of_row w s 5 _ _ (0,0) h];rfl⟩
theorem Six.fz(h:Six w s a b c d e f)(j:Nat):w.frozen? ⟨s,j,none⟩=false:=frozen_of_row w s j _ _ h
theorem Six.lt(h:Six w s a b c d e f):s<w.heap.size:=(Array.getElem?_eq_some_iff.1 h).1
theorem Six.same(h:Six w s a b c d e f)(hb:W.heap[s]? = w.heap[s]?):Six W s a b c d e f:=hb.trans h
theorem Six.next(h:Six w s a b c d e f)(hb:Bl w W):Six W s a b c d e f:=h.same (hb.block s h.lt)
theorem UO(w:World)(a b c d e f:Value):Six (w.alloc (.cells #[a,b,c,d,e,f] 138)) w.heap.size a b c d e f:=LC w _
def Yl(w:World)(s:Nat)(a b c d e f:Value):World:=(((((w.setCell ⟨s,0,none⟩ a).setCell ⟨s,1,none⟩ b).setCell ⟨s,2,none⟩ c).setCell ⟨s,3,none⟩ d).setCell ⟨s,4,none⟩ e).setCell ⟨s,5,none⟩ f
theorem Six.put(h:Six w s a b c d e f)(a' b' c' d' e' f':Value):Six (Yl w s a' b' c' d' e' f') s a' b' c' d' e' f':=by
 have h0:=Lm w s 0 _ _ a' h;have h1:=Lm _ s 1 _ _ b' h0;have h2:=Lm _ s 2 _ _ c' h1;have h3:=Lm _ s 3 _ _ d' h2;have h4:=Lm _ s 4 _ _ e' h3;exact Lm _ s 5 _ _ f' h4
theorem Ua(w:World)(s:Nat)(a b c d e f:Value):ChT (fun x=>x=s) w (Yl w s a b c d e f) :=
 ((((((ChT.refl (fun x=>x=s) w).set s 0 a rfl).set s 1 b rfl).set s 2 c rfl).set s 3 d rfl).set s 4 e rfl).set s 5 f rfl
end
theorem ChT.below{S:Nat->Prop}{w w':World}(h:ChT S w w'){B:Nat}(hS:∀b,S b->B<=b):Below B w w' :=
 ⟨h.os,h.tape,h.output,NE h.size.symm,fun b hb=>h.block b fun hs=>by have:=hS b hs;omega⟩
abbrev noP:Value := .agg #[.int .i64 0,.int .i64 0,.int .u64 0,.int .u64 0,.slice none 0 0,.slice none 0 0]
structure RdU(w:World)(ao:OA)(b off len:Nat)(l:List Nat):Prop where
 hl:l.length=len
 ptr:0<len->ao=some ⟨b,off,none⟩
 rng:w.rangeAt b off (cU l)
variable{W w:World}{ao da:OA}{B H b c dO db g j len n:Nat}{l l':List Nat}
theorem RdU.at{off:Nat}(h:RdU w ao b off len l)(hj:j<len):w.cell? ⟨b,off+j,none⟩=some (.int .u64 (l.getD j 0:Nat)) :=
 h.rng j _ (by have:=h.hl;simp[List.getElem?_eq_getElem (show j<l.length by omega),List.getD_eq_getElem?_getD])
theorem RdU.next{off:Nat}(h:RdU w ao b off len l)(hb:Bl w W):RdU W ao b off len l:=by
 refine⟨h.hl,h.ptr,fun j v hv=> ?_⟩
 have:=h.rng j v hv;exact(hb.cell (Lo w _ this)).trans this
theorem QnN(o:Cv.Own w B (.slice (Zp g) n c) (l++l')):RdU w (Zp g) g 0 l.length l :=
 ⟨rfl,fun _=>rfl,fun t v hv=>by
  have:=o.cells (g:=g) rfl t v (by rw[show cU (l++l')=cU l++cU l' from LQ,Ly (by have:=(List.getElem?_eq_some_iff.1 hv).1;simpa using this)];exact hv)
  rwa [Addr.add_mid] at this⟩
theorem Qlz{D:LB}(h:RdS w da db dO D.length D)(hH:H<=D.length):RdS w da db dO (D.take H).length (D.take H):=by
 refine⟨rfl,fun h0=>h.ptr ?_,fun j v hj=> ?_,fun s hs=>h.sz s (Nq hs)⟩
 ·rw[Lx] at h0;omega
 ·refine h.rng j v ?_
  rw[NK,LT] at hj
  split at hj
  ·exact hj
  ·cases hj
section
variable {q:Nat} {w w1 w2:World}
end
end
theorem Qej{B:Nat}{a w:World}(hb:Below B a w){b o:Nat}{cs:List Value}(hlt:b<B)(h:a.rangeAt b o cs):w.rangeAt b o cs:=fun j v hv=>by
 rw[hb.cell (p:=⟨b,o+j,none⟩) hlt];exact h j v hv
open Cv (RdC zl cU)
section
variable {w W:World} {s:Nat} {a b c d e f:Value}
end
section
variable {q:Nat} {w w1 w2:World}
end
section
open Cv (rst cov QZ YK Til)
structure PV where
 kd:Int
 k:Int
 old:Nat
 size:Nat
 S:List Nat
 D:LB
def cnt(kd k:Int)(old size:Nat)(S:List Nat):Option Nat :=
 if 1<=k∧k<=32∧size<=2^40 then
  if kd=1 then (if old=0∧S.length=1∧YK size S=0 then some (rst 0 size S).length else none)
  else if kd=2 then (if old=0∧YK size S=0 then some (rst 0 size S).length else none)
  else if kd=3 then (if old<=size∧S=[] then some ((cov 0 old).length+(cov old size).length) else none)
  else none
 else none
theorem Qot{A:Nat->Prop}{q:Nat} : ∀ {L:List (Nat×Nat)} {p:Nat},Til A q p L->L.length+p<=q:=by
 intro L
 induction L with
 | nil=>intro p h;have:=h.1;simp;omega
 | cons b L ih=>
  intro p h;obtain⟨h1,h2,h3,h4,h5,h6⟩:=h;have:=ih h6;have:=Cv.YU b.1 b.2;simp;omega
theorem QlN{n:Nat}{S:List Nat}(hn:n<=2^40)(hc:QZ 0 S n):(rst 0 n S).length<=n:=Qot (Cv.QhU n S hn hc)
theorem UV:∀ {S:List Nat} {x n:Nat},QZ x S n->S.length+x<=n:=by
 intro S
 induction S with
 | nil=>intro x n h;have:x<=n:=h;simp;omega
 | cons i S ih=>intro x n h;have:=ih h.2;have:=h.1;simp;omega
structure CntOk(kd k:Int)(old size:Nat)(S:List Nat)(c:Nat):Prop where
 kd1:1<=kd
 kd3:kd<=3
 k1:1<=k
 k32:k<=32
 hsz:size<=1099511627776
 hc:c<=1099511627776
 hold:old<=size
 len:S.length<=size
 chain:QZ 0 S size
 one:kd=1->S.length=1∧old=0
 two:kd=2->old=0
 three:kd=3->S=[]
theorem Q7{kd k:Int}{old size c:Nat}{S:List Nat}(h:cnt kd k old size S=some c):CntOk kd k old size S c:=by
 unfold cnt at h;have xA:(2:Nat)^40=1099511627776:=by decide
 split at h
 ·rename_i h0
  obtain⟨g1,g2,g3⟩:=h0
  split at h
  ·rename_i hk
   split at h
   ·rename_i h1
    obtain⟨a1,a2,a3⟩:=h1;have hc:=(Cv.Qbt a3).2.2.2;have hl:=UV hc;have hr:=QlN g3 hc
    cases h;exact⟨by omega,by omega,g1,g2,by omega,by omega,by omega,by omega,hc,fun _=>⟨a2,a1⟩,fun h=>by omega,fun h=>by omega⟩
   ·cases h
  ·rename_i hk1
   split at h
   ·rename_i hk
    split at h
    ·rename_i h1
     obtain⟨a1,a3⟩:=h1;have hc:=(Cv.Qbt a3).2.2.2;have hl:=UV hc;have hr:=QlN g3 hc
     cases h;exact⟨by omega,by omega,g1,g2,by omega,by omega,by omega,by omega,hc,fun h=>by omega,fun _=>a1,fun h=>by omega⟩
    ·cases h
   ·rename_i hk2
    split at h
    ·rename_i hk
     split at h
     ·rename_i h1
      obtain⟨a1,a3⟩:=h1;have h1:=Cv.UW old (by omega)
      have h2:=Cv.O5 old size a1 g3
      cases h;subst a3;exact⟨by omega,by omega,g1,g2,by omega,by omega,a1,by simp,Ln _,fun h=>by omega,fun h=>by omega,fun _=>rfl⟩
     ·cases h
    ·cases h
 ·cases h
def YL(D:LB):List UInt8:=(D.map (·.data.toList)).flatten
theorem YW(d:BA)(D:LB):YL (d::D)=d.data.toList++YL D:=by simp[YL]
theorem Qb(d:BA):d.data.toList.length=d.size:=NF
theorem Qe0{k:Nat} : ∀ {D:LB},(∀d∈D,d.size=k)->(YL D).length=D.length*k:=by
 intro D
 induction D with
 | nil=>intro _;simp[YL]
 | cons d D ih=>
  intro h;rw[YW,Lc,Qb,h d (by simp),ih (fun x hx=>h x (by simp[hx])),LG,LS,L9,Wj]
def QI:Nat->List Nat->List UInt8
 | _,[]=>[]
 | x,i::S=>num (i-x)++QI (i+1) S
def nxt:Nat->List Nat->Nat
 | x,[]=>x
 | _,i::S=>nxt (i+1) S
theorem QiL(i:Nat):∀(S:List Nat) (x:Nat),QI x (S++[i])=QI x S++num (i-nxt x S):=by
 intro S
 induction S with
 | nil=>intro x;simp[QI,nxt]
 | cons a S ih=>intro x;rw[NW,QI,ih,QI,Lw,nxt]
theorem QnE(i:Nat):∀(S:List Nat) (x:Nat),nxt x (S++[i])=i+1:=by
 intro S
 induction S with
 | nil=>intro x;rfl
 | cons a S ih=>intro x;rw[NW,nxt,ih]
theorem QiM:∀(S:List Nat) (x:Nat),S.length<=(QI x S).length:=by
 intro S
 induction S with
 | nil=>intro x;simp[QI]
 | cons a S ih=>intro x;have:=ih (a+1);have:=QnB (a-x);simp[QI];omega
def mid(p:PV):List UInt8:=if p.kd=1 then num (p.S.getD 0 0) else if p.kd=2 then num p.S.length++QI 0 p.S else num p.old
def enc(p:PV):List UInt8:=UInt8.ofNat p.kd.toNat::UInt8.ofNat p.k.toNat::(num p.size++(mid p++YL p.D))
def Jo(p:PV):Prop:=cnt p.kd p.k p.old p.size p.S=some p.D.length ∧ ∀d∈p.D,(d.size:Int)=p.k
instance (p:PV):Decidable (Jo p):=by unfold Jo;infer_instance
def nmb(l:List UInt8):Option (Nat×List UInt8):=if (Um l 0 0).2.1=0 then some ((Um l 0 0).1,l.drop (Um l 0 0).2.2) else none
theorem Qal{n:Nat}(hn:n<2^64)(t:List UInt8):nmb (num n++t)=some (n,t):=by
 have h:=QfL t n 0 0 (by decide) (by simpa using hn) (by decide) (.inl rfl)
 rw[nmb,h];simp
theorem UC{l r:List UInt8}{n:Nat}(h:nmb l=some (n,r)):l=num n++r∧n<2^64:=by
 unfold nmb at h
 split at h
 ·rename_i h0
  obtain⟨a,b,c,hc⟩:∃a b c,Um l 0 0=(a,b,c):=⟨_,_,_,rfl⟩;rw[hc] at h h0;simp only at h h0;subst h0;obtain⟨m,h1,h2,h3,h4,h5,h6,h7⟩:=Qdl l 0 0 a _ (by decide) (by decide) hc
  simp only[Option.some.injEq,Prod.mk.injEq] at h;obtain⟨rfl,rfl⟩:=h;rw[Ll,Iw,Nd] at h1;subst h1;rw[h2];exact⟨by simp,h7⟩
 ·cases h
def YR:Nat->Nat->Nat->List UInt8->Option (List Nat×List UInt8)
 | 0,_,_,l=>some ([],l)
 | c+1,x,size,l=>
  match nmb l with
  | none=>none
  | some (d,r)=>if x+d<size then (match YR c (x+d+1) size r with|none=>none|some (S,r')=>some ((x+d)::S,r')) else none
theorem Qji{size:Nat}(hs:size<=2^64)(t:List UInt8):∀(S:List Nat) (x:Nat),QZ x S size->YR S.length x size (QI x S++t)=some (S,t):=by
 intro S
 induction S with
 | nil=>intro x _;rfl
 | cons i S ih=>
  intro x h;have hl:=Cv.YJ h.2;have h1:=h.1;rw[LG,QI,Lw,YR,Qal (by omega)]
  simp only;rw[show x+(i-x)=i by omega,Lf (by omega),ih (i+1) h.2]
theorem Qa5{size:Nat} : ∀(c x:Nat) (l:List UInt8) (S:List Nat) (r:List UInt8),x<=size->YR c x size l=some (S,r)->S.length=c∧l=QI x S++r∧QZ x S size:=by
 intro c
 induction c with
 | zero=>
  intro x l S r hx h;simp only[YR,Option.some.injEq,Prod.mk.injEq] at h;obtain⟨rfl,rfl⟩:=h;exact⟨rfl,rfl,hx⟩
 | succ c ih=>
  intro x l S r hx h;rw[YR] at h
  split at h
  ·cases h
  ·rename_i d r' hn
   split at h
   ·rename_i hlt
    split at h
    ·cases h
    ·rename_i S' r'' hs
     simp only[Option.some.injEq,Prod.mk.injEq] at h;obtain⟨rfl,rfl⟩:=h;obtain⟨g1,g2,g3⟩:=ih _ _ _ _ hlt hs;obtain⟨n1,n2⟩:=UC hn;refine⟨by simp[g1],?_,by omega,g3⟩
     rw[QI,Lw,<-g2,I9,<-n1]
   ·cases h
def Yr:Nat->Nat->List UInt8->LB
 | 0,_,_=>[]
 | c+1,k,l=>⟨(l.take k).toArray⟩::Yr c k (l.drop k)
theorem Qix{k:Nat} : ∀(D:LB),(∀d∈D,d.size=k)->Yr D.length k (YL D)=D:=by
 intro D
 induction D with
 | nil=>intro _;rfl
 | cons d D ih=>
  intro h;have hd:d.data.toList.length=k:=by rw[Qb];exact h d (by simp)
  rw[LG,Yr,YW,IS hd,List.drop_left' hd,ih (fun x hx=>h x (by simp[hx]))]
theorem Qiw{k:Nat} : ∀(c:Nat) (l:List UInt8),c*k=l.length->YL (Yr c k l)=l∧(Yr c k l).length=c ∧ ∀d∈Yr c k l,d.size=k:=by
 intro c
 induction c with
 | zero=>intro l h;have:l=[]:=List.length_eq_zero_iff.1 (by omega);subst this;exact⟨rfl,rfl,fun d hd=>by cases hd⟩
 | succ c ih=>
  intro l h;rw[LS,L9] at h;obtain⟨g1,g2,g3⟩:=ih (l.drop k) (by rw[Ni];omega)
  refine⟨by rw[Yr,YW,g1];simp,by rw[Yr,LG,g2],fun d hd=> ?_⟩
  rw[Yr] at hd
  rcases List.mem_cons.1 hd with rfl|hd
  ·simp[ByteArray.size];omega
  ·exact g3 d hd
def UQ(kd:Nat)(size:Nat)(l:List UInt8):Option (Nat×List Nat×List UInt8) :=
 if kd=1 then (match nmb l with|none=>none|some (i,r)=>some (0,[i],r))
 else if kd=2 then (match nmb l with|none=>none|some (c,r)=>if c<=r.length then (match YR c 0 size r with|none=>none|some (S,r')=>some (0,S,r')) else none)
 else if kd=3 then (match nmb l with|none=>none|some (o,r)=>some (o,[],r))
 else some (0,[],l)
def O7(b0 b1 size old:Nat)(S:List Nat)(l:List UInt8):Option PV :=
 match cnt b0 b1 old size S with
 | none=>none
 | some c=>if c*b1=l.length then some ⟨b0,b1,old,size,S,Yr c b1 l⟩ else none
def decA(b0 b1:Nat)(l:List UInt8):Option PV :=
 match nmb l with
 | none=>none
 | some (size,l1)=>match UQ b0 size l1 with|none=>none|some (old,S,l2)=>O7 b0 b1 size old S l2
def dec:List UInt8->Option PV
 | b0::b1::l=>decA b0.toNat b1.toNat l
 | _=>none
theorem QmQ{p:PV}(h:Jo p):dec (enc p)=some p:=by
 obtain⟨kd,k,xB,xA,S,D⟩:=p;obtain⟨h1,h2⟩:=h;simp only at h1 h2;have o:=Q7 h1;have i1:=o.kd1;have i2:=o.kd3;have i3:=o.k1;have i4:=o.k32;have i5:=o.hsz;have i6:=o.hold;have i7:=o.len;obtain⟨a,rfl⟩:∃a:Nat,kd=a:=⟨kd.toNat,by omega⟩
 obtain⟨b,rfl⟩:∃b:Nat,k=b:=⟨k.toNat,by omega⟩
 have hD:∀d∈D,d.size=b:=fun d hd=>by have:=h2 d hd;omega
 simp only[enc,dec,decA,Int.toNat_natCast];rw[QQ (show a<256 by omega),QQ (show b<256 by omega),Qal (by omega)]
 simp only;have hm:UQ a xA (mid ⟨a,b,xB,xA,S,D⟩++YL D)=some (xB,S,YL D):=by
  have e1:((a:Int)=1)↔a=1:=by omega
  have e2:((a:Int)=2)↔a=2:=by omega
  simp only[UQ,mid,e1,e2]
  by_cases ha:a=1
  ·obtain⟨g1,g2⟩:=o.one (by omega)
   obtain⟨i,rfl⟩:=List.length_eq_one_iff.1 g1;have hc:=Cv.YJ o.chain.2;rw[Lf ha,Lf ha,show[i].getD 0 0=i from rfl,Qal (by omega),g2]
  ·rw[Le ha,Le ha]
   by_cases ha2:a=2
   ·have hl:=QiM S 0;rw[Lf ha2,Lf ha2,Lw,Qal (by omega)]
    simp only;rw[Lf (by simp;omega),Qji (by omega) _ _ _ o.chain]
    simp only[o.two (by omega)]
   ·rw[Le ha2,Le ha2,Lf (by omega),Qal (by omega)]
    simp only[o.three (by omega)]
 rw[hm];simp only[O7,h1];rw[Lf (by rw[Qe0 hD]),Qix D hD]
theorem Qhl{s:List UInt8}{p:PV}(h:dec s=some p):Jo p∧enc p=s∧(∃b0 b1:Nat,p.kd=b0∧p.k=b1):=by
 unfold dec at h
 split at h
 ·rename_i b0 b1 l
  unfold decA at h
  split at h
  ·cases h
  ·rename_i size l1 hn
   split at h
   ·cases h
   ·rename_i old S l2 hm
    unfold O7 at h
    split at h
    ·cases h
    ·rename_i c hc
     split at h
     ·rename_i hlen
      cases h;obtain⟨d1,d2,d3⟩:=Qiw c l2 hlen;obtain⟨n1,n2⟩:=UC hn;have o:=Q7 hc;have i1:=o.kd1;have i2:=o.kd3;have i5:=o.hsz;refine⟨⟨by simp only[d2];exact hc,fun d hd=>by have:=d3 d hd;simp only;omega⟩,?_,_,_,rfl,rfl⟩
      have hb:∀b:UInt8,UInt8.ofNat b.toNat=b:=fun b=>by simp
      simp only[enc,Int.toNat_natCast,hb,d1];rw[n1]
      congr 3
      have e1:((b0.toNat:Int)=1)↔b0.toNat=1:=by omega
      have e2:((b0.toNat:Int)=2)↔b0.toNat=2:=by omega
      simp only[mid,e1,e2];unfold UQ at hm
      split at hm
      ·rename_i h1
       rw[Lf h1]
       split at hm
       ·cases hm
       ·rename_i i r hi
        cases hm;obtain⟨m1,m2⟩:=UC hi;rw[m1];rfl
      ·rename_i h1
       rw[Le h1]
       split at hm
       ·rename_i h2
        rw[Lf h2]
        split at hm
        ·cases hm
        ·rename_i c' r hi
         split at hm
         ·split at hm
          ·cases hm
          ·rename_i S' r' hs
           cases hm;obtain⟨m1,m2⟩:=UC hi;obtain⟨g1,g2,g3⟩:=Qa5 _ _ _ _ _ (Ln _) hs;rw[m1,g1,Lw,<-g2]
         ·cases hm
       ·rename_i h2
        rw[Le h2]
        split at hm
        ·split at hm
         ·cases hm
         ·rename_i o' r hi
          cases hm;obtain⟨m1,m2⟩:=UC hi;rw[m1]
        ·rename_i h3
         omega
     ·cases h
 ·cases h
end
abbrev pnc:Ending := .panicked [{ v := .iface 28 (.int .i64 140),recovered:=false }]
theorem Yx(w:World)(b:Bool)(hb:b=true):Re 317 #[.bool b] w (.tuple #[]):=by
 subst hb
 go_enter func317,ntmps317;go_wp2
 go_end0
 exact⟨rfl,rfl⟩
theorem Y9(w:World)(b:Bool)(hb:b=false):Calls prog 317 #[.bool b] w fun e w'=>e=pnc∧w'=w:=by
 subst hb
 go_enter func317,ntmps317;go_wp2;exact⟨rfl,rfl,rfl⟩
theorem UZ(s:BA)(k:Nat):(s.extract k s.size).data.toList=s.data.toList.drop k:=by
 rw[Ii,Array.toList_extract,I5,Lp (by rw[Ni,Qb];omega)]
theorem Qaa(s:BA)(k:Nat):(s.extract 0 k).data.toList=s.data.toList.take k:=by
 rw[Ii,Array.toList_extract,I5,NM,Wl]
theorem Qnt{s:BA}{n:Nat}{r:List UInt8}(h:nmb s.data.toList=some (n,r)):∃s',s'.data.toList=r∧nb s 0=(n,0,s')∧s'.size<=s.size:=by
 unfold nmb at h
 split at h
 ·rename_i h0
  obtain⟨a,b,c,hc⟩:∃a b c,Um s.data.toList 0 0=(a,b,c):=⟨_,_,_,rfl⟩;rw[hc] at h h0;simp only[Option.some.injEq,Prod.mk.injEq] at h h0;subst h0;obtain⟨rfl,rfl⟩:=h;refine⟨_,UZ s c,QoR hc,?_⟩
  have:=Lv List.length (UZ s c);rw[Qb,Ni,Qb] at this;omega
 ·cases h
theorem Qns{s:BA}(h:nmb s.data.toList=none):∃n e s',nb s 0=(n,e,s')∧e≠0:=by
 unfold nmb at h
 split at h
 ·cases h
 ·rename_i h0
  obtain⟨a,b,c,hc⟩:∃a b c,Um s.data.toList 0 0=(a,b,c):=⟨_,_,_,rfl⟩;rw[hc] at h0;exact⟨_,_,_,Qd2 hc h0,h0⟩
theorem Q9(w:World)(p:Nat)(s:BA)(hr:Rdr w p s 0)(hs:s.size<=9223372036854775807) :
  Calls prog 315 #[Pq p] w fun e w'=>(∃n s',nmb s.data.toList=some (n,s'.data.toList)∧e= .returned (.int .u64 n)∧Rdr w' p s' 0∧Ch p w w'∧s'.size<=s.size)∨(nmb s.data.toList=none∧e=pnc∧Ch p w w'):=by
 have HR:=QlI w p 0 s hr hs
 cases hn:nmb s.data.toList with
 | none=>
  obtain⟨n,e,s',h1,h2⟩:=Qns hn;rw[h1] at HR;have xA:((e:Int) == 0)=false:=beq_false_of_ne (by omega)
  clear hr hs h1 hn h2
  go_enter func315,ntmps315
  go_wp2_with (first
   | (go_at_call 386;with_reducible refine HR.mono ?_;rintro x w1 ⟨rfl,h1,h2⟩)
   | (go_at_call 317;refine(Y9 _ _ rfl).mono ?_;rintro x w2 ⟨rfl,rfl⟩))
  exact⟨rfl,.inr ⟨trivial,rfl,h2⟩⟩
 | some a=>
  obtain⟨n,r⟩:=a;obtain⟨s',rfl,h1,h3⟩:=Qnt hn;rw[h1] at HR;clear hr hs h1 hn
  go_enter func315,ntmps315
  go_wp2_with (first
   | (go_at_call 386;with_reducible refine HR.mono ?_;rintro x w1 ⟨rfl,h1,h2⟩)
   | (go_at_call 317;refine(Yx _ _ rfl).mono ?_;rintro x w2 ⟨rfl,rfl⟩))
  go_ret
  exact .inl ⟨n,s',rfl,rfl,h1,h2,h3⟩
theorem Qcy(w:World)(p:Nat)(s:BA)(hr:Rdr w p s 0)(hs:s.size<=9223372036854775807) :
  Calls prog 314 #[Pq p] w fun e w'=>(∃b s',s.data.toList=b::s'.data.toList∧e= .returned (.int .i64 b.toNat)∧Rdr w' p s' 0∧Ch p w w'∧s'.size<=s.size)∨(s.data.toList=[]∧e=pnc∧Ch p w w'):=by
 have HR:=UH w p 0 s 1 hr
 by_cases h0:s.size=0
 ·have ht:tkC s 0 1=(ByteArray.empty,60,ByteArray.empty):=by rw[tkC,Le (by simp),Lf (by omega)]
  rw[ht] at HR;have hl:s.data.toList=[]:=List.length_eq_zero_iff.1 (by rw[Qb];exact h0)
  clear hr hs ht
  go_enter func314,ntmps314
  go_wp2_with (first
   | (go_at_call 385;with_reducible refine HR.mono ?_;rintro x w1 ⟨rfl,h1,h2⟩)
   | (go_at_call 317;refine(Y9 _ _ rfl).mono ?_;rintro x w2 ⟨rfl,rfl⟩))
  exact⟨rfl,.inr ⟨hl,rfl,h2⟩⟩
 ·have ht:tkC s 0 1=(s.extract 0 1,0,s.extract 1 s.size):=by rw[tkC,Le (by simp),Le (by omega)];rfl
  rw[ht] at HR;obtain⟨b,r,hl⟩:∃b r,s.data.toList=b::r:=by
   cases h:s.data.toList with
   | nil=>exact absurd (by rw[<-Qb,h];rfl) h0
   | cons b r=>exact⟨b,r,rfl⟩
  have h1:(s.extract 0 1).data.toList=[b]:=by rw[Qaa,hl];rfl
  have h2:(s.extract 1 s.size).data.toList=r:=by rw[UZ,hl];rfl
  have h3:=Lv List.length h2;have h4:=Lv List.length hl;rw[Qb] at h3 h4;generalize s.extract 0 1=t at *;generalize s.extract 1 s.size=s' at *;subst h2;obtain⟨⟨t⟩⟩:=t;obtain rfl:t=[b]:=h1;have hb:∀W,(Instr.index 9 (.string ⟨⟨[b]⟩⟩) (.int .i64 0)).run prog W= .ok (.int .u8 b.toNat) W:=fun W=>by
   have e:(⟨⟨[b]⟩⟩:BA)[0]? = some b:=rfl;simp[Instr.index,asIntOf,run_underlying underlying9,e]
  clear hr hs ht h0
  go_enter func314,ntmps314
  go_wp2_with (first
   | (go_at_call 385;with_reducible refine HR.mono ?_;rintro x w1 ⟨rfl,h1,h2⟩)
   | (go_at_call 317;refine(Yx _ _ rfl).mono ?_;rintro x w2 ⟨rfl,rfl⟩))
  go_ret
  have e2:wrap64 (b.toNat:Int)=(b.toNat:Int):=by
   have:=b.toNat_lt;unfold wrap64;omega
  exact .inl ⟨b,s',hl,Lv (fun x=>Ending.returned (.int .i64 x)) e2,h1,h2,by simp at h4;omega⟩
end Go.Proofs.YtoblgjledefdbaaGreatDoor
