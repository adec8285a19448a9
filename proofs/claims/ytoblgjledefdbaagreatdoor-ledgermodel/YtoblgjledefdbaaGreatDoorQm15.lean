/- Own work. -/
import Derived.Test.YtoblgjledefdbaaGreatDoorQm11
import Derived.Test.YtoblgjledefdbaaGreatDoorQm14
set_option maxRecDepth 100000
set_option maxHeartbeats 1000000
namespace Go.Proofs.YtoblgjledefdbaaGreatDoor
open Go.RowKit
open Go.Proofs.Tryz
namespace St
def cF(l:List (List UInt8×List UInt8)):List Value:=l.flatMap fun p=>[Value.string ⟨p.1.toArray⟩,Value.string ⟨p.2.toArray⟩]
theorem QnQ(l k:List (List UInt8×List UInt8)):cF (l++k)=cF l++cF k:=by simp[cF]
def OwnF(w:World)(B:Nat)(v:Value)(l:List (List UInt8×List UInt8)):Prop:=w.ownsRow B 72 2 v l.length (cF l)
theorem Tryz.infoF:(prog.info? 72).map (fun i=>(i.zero,i.size,i.bytes))=some (some (.agg #[.string ⟨#[]⟩,.string ⟨#[]⟩]),2,32):=by kernel_rfl
def Uc:List (List UInt8)->List (List UInt8)->List (List UInt8×List UInt8)
 | s::N,x::X=>if x=[] then Uc N X else (s,x)::Uc N X
 | _,_=>[]
theorem QcJ : ∀(N X:List (List UInt8)) (s x:List UInt8),N.length=X.length->Uc (N++[s]) (X++[x])=Uc N X++(if x=[] then [] else [(s,x)])
 | [],[],s,x,_=>by
  simp only[List.nil_append,Uc]
 | s'::N,x'::X,s,x,h=>by
  have ih:=QcJ N X s x (by simpa using h)
  simp only[List.cons_append,Uc]
  split
  ·exact ih
  ·rw[ih];rfl
 | [],_::_,_,_,h=>by simp at h
 | _::_,[],_,_,h=>by simp at h
theorem QeS : ∀(N X:List (List UInt8)),(Uc N X).length<=N.length
 | s::N,x::X=>by
  have:=QeS N X;simp only[Uc]
  split
  ·simp;omega
  ·simp;omega
 | [],_=>by simp[Uc]
 | _::_,[]=>by simp[Uc]
theorem UX{α:Type}(l:List α)(d:α)(j:Nat)(h:j<l.length):l.take (j+1)=l.take j++[l.getD j d]:=by
 rw[NH,Lh h,Ld,Lh h];rfl
theorem OL(L:List (List UInt8×FV)):(Qh L).length=L.length:=by simp[Qh]
theorem Qg2(L:List (List UInt8×FV))(j:Nat)(h:j<L.length):(Qh L).getD j []∈Qh L:=by
 have:j<(Qh L).length:=by rw[OL];exact h
 rw[Ld,Lh this];exact L3 this
structure Tl(w:World)(p m:Nat)(R:List UInt8->FR)(kb:Nat)(D:DV)(S:Nat->Prop)(fn:Nat)(caps:Array Value)(X:List (List UInt8))(J:Nat->World->Prop):Prop where
 len:X.length=D.L.length
 old : ∀x,S x->x<w.heap.size ∧ ¬YN p m R kb D x
 call : ∀(W:World) j,j<D.L.length->J j W->Upo S w W->Calls prog fn (#[Y6 (Qe D.L ((Qh D.L).getD j [])) (R ((Qh D.L).getD j []))]++caps) W fun e w' => ∃ao g cap,e = .returned (.slice ao (X.getD j []).length cap)∧Rw w' ao g cap (X.getD j [])∧J (j+1) w'∧Upo S W w'
 keep : ∀(W W':World) j,J j W->Below W.heap.size W W'∨(Upo (fun x=>w.heap.size<=x) W W')->J j W'
 zero : ∀W,Below w.heap.size w W->J 0 W
structure Tj(w:World)(N X:List (List UInt8))(nb:Nat)(na:OA)(S:Nat->Prop)(J:Nat->World->Prop)(j:Nat)(v:Value)(wr:World):Prop where
 own:OwnF wr w.heap.size v (Uc (N.take j) (X.take j))
 nms:RdN wr na nb N
 nty:0<N.length->w.heap.size<=nb∧Ty wr nb 9
 st:J j wr
 up:Upo S w wr
theorem Qx{w:World}{B T s n:Nat}{v:Value}{xs:List Value}(h:w.ownsRow B T s v n xs) : ∃ao cap,v = .slice ao n cap:=by
 rcases h.2 with ⟨rfl,rfl⟩|⟨g,cap,cur,rfl,_⟩
 ·exact⟨none,0,rfl⟩
 ·exact⟨_,cap,rfl⟩
theorem QF{w w':World}{B T s n:Nat}{v:Value}{xs:List Value}(h:w.ownsRow B T s v n xs)(hk : ∀g,v.ownBlock=some g->w'.heap[g]? = w.heap[g]?):w'.ownsRow B T s v n xs:=by
 obtain⟨h1,h2⟩:=h;refine⟨h1,?_⟩
 rcases h2 with h2|⟨g,cap,cur,hv,hg,hh,h3⟩
 ·exact .inl h2
 ·exact .inr ⟨g,cap,cur,hv,hg,(hk g (by rw[hv];rfl)).trans hh,h3⟩
theorem Qnr(w:World)(a b:Value)(T:TypeId) : ∀j u,[a,b][j]? = some u->(w.alloc (.cells #[a,b] T)).cell? ((⟨w.heap.size,0,none⟩:Addr).add j)=some u:=fun j u hu=>by
 rw[Addr.add_mid,LX,Lm]
 simpa using hu
theorem Qlh(w:World){p m:Nat}{R:List UInt8->FR}{ka:OA}{kb ko kc:Nat}{D:DV}(h:Dk w p m R ka kb ko kc D none)(S:Nat->Prop)(fn:Nat)(caps:Array Value)(X:List (List UInt8))(J:Nat->World->Prop)(hT:Tl w p m R kb D S fn caps X J)(hfn:fn=71∨fn=53) :
  Calls prog 52 #[.pointer (some ⟨p,0,none⟩),.func (.func fn) #[] caps] w fun e w' => ∃v,e = .returned v∧OwnF w' w.heap.size v (Uc (Qh D.L) X)∧J D.L.length w'∧Upo S w w':=by
 have HN:=Qil w h;have HH:Hid (Dk w p m R ka kb ko kc D none∧Tl w p m R kb D S fn caps X J):=⟨h,hT⟩;obtain⟨n,hn⟩:=Ze ((Qh D.L).length);have HL:Hid ((Qh D.L).length=n∧D.L.length=n∧n<=1099511627776):=⟨hn,by rw[<-hn,OL],by rw[<-hn,OL];exact h.cnt⟩
 rw[hn] at HN;clear h hT hn
 go_enter func52,ntmps52
 go_wp2_with (go_at_call 102;with_reducible refine HN.mono ?_;rintro e w1 ⟨na,nb,yJ,rfl,yB,yA,xP⟩)
 have HS:Hid (Tj w (Qh D.L) X nb na S J 0 (.slice none 0 0) w1):=⟨⟨rfl,.inl ⟨rfl,rfl⟩⟩,yB,by rw[HL.out.1];exact yA,HH.out.2.zero w1 xP,Upo.of xP⟩
 clear yB yA xP
 go_loopg [5,12] n (fun g x i wr => ∃j:Nat,j<=n∧g=n - j∧i = .int .i64 (j:Int)∧Tj w (Qh D.L) X nb na S J j x wr)
 case atStart=>exact⟨0,Ll _,rfl,rfl,HS.out⟩
 case round =>
  obtain⟨j,hj,rfl,rfl,hR⟩:=hrel
  by_cases hlt:j<n
  ·obtain⟨nm,xT⟩ : ∃nm:BA,(⟨((Qh D.L).getD j []).toArray⟩:BA)=nm:=⟨_,rfl⟩;have xQ:j<D.L.length:=by rw[HL.out.2.1];exact hlt
   have hk:=Qg2 D.L j xQ;have xM:nm.data.toList=(Qh D.L).getD j []:=by rw[<-xT]
   have cn:=hR.nms.cell j (by rw[HL.out.1];exact hlt)
   rw[xT] at cn;have ea:=hR.nms.ptr (by rw[HL.out.1];omega)
   have hD:Dk wr p m R ka kb ko kc D none:=HH.out.1.same fun x hx=>hR.up.block x (HH.out.1.lt hx) (fun hS=>(HH.out.2.old x hS).2 hx)
   obtain⟨c0,c1,c2,c3,c4,c5,c6⟩:=hD.cells;obtain⟨r,hl,hr⟩:=hD.look nm (by have:=hD.nm _ hk;rw[<-xM,Qb] at this;exact this)
   rw[xM] at hl hr;obtain rfl:r=R ((Qh D.L).getD j []):=hr.elim (fun q=>q.2) (fun q=>absurd hk q.1)
   obtain⟨V,hV⟩:=Ze (Y6 (Qe D.L ((Qh D.L).getD j [])) (R ((Qh D.L).getD j [])));have yE:=hl wr rfl;have HC:=HH.out.2.call wr j xQ hR.st hR.up;rw[hV] at yE HC;obtain⟨xs,xX⟩:=Ze (X.getD j []);rw[xX] at HC;have yK:(0:Int)<=(j:Int):=by omega
   have yL:(j:Int)<(n:Int):=by omega
   have hw:IntKind.i64.wrap ((j:Int)+1)=(j:Int)+1:=by have:=HL.out.2.2;rw[Lr];omega
   subst ea;have HR:Hid (Tj w (Qh D.L) X nb (some ⟨nb,0,none⟩) S J j u5 wr∧nm.data.toList=(Qh D.L).getD j []∧X.getD j []=xs∧j<n):=⟨hR,xM,xX,hlt⟩;have xY:Hid (Calls prog fn (#[V]++caps) wr fun e w' => ∃ao g cap,e = .returned (.slice ao xs.length cap)∧Rw w' ao g cap xs∧J (j+1) w'∧Upo S wr w'):=HC
   clear c0 c2 c3 c4 c5 c6 hR hD hl hr hV xX HC xM xT hk xQ hlt hj
   go_upto_region 5 with (fail)
   go_cut [8] from 13 to 34 (fun x wx => ∃ao g cap,x = .slice ao xs.length cap∧Rw wx ao g cap xs∧J (j+1) wx∧Upo S wr wx)
   case first =>
    rcases hfn with rfl|rfl
    ·go_wp2_with (go_at_call 71;with_reducible refine xY.out.mono ?_;rintro e w2 ⟨ao,g,cap,rfl,xI,xD,xF⟩)
     go_meet
     case rel=>exact⟨ao,g,cap,rfl,xI,xD,xF⟩
    ·go_wp2_with (go_at_call 53;with_reducible refine xY.out.mono ?_;rintro e w2 ⟨ao,g,cap,rfl,xI,xD,xF⟩)
     go_meet
     case rel=>exact⟨ao,g,cap,rfl,xI,xD,xF⟩
   case rest =>
    obtain⟨ao,g,cap,rfl,xI,xD,xF⟩:=hcut;obtain⟨w2,yF⟩ : ∃W,W=wc:=⟨_,rfl⟩;subst yF;have xR:w.heap.size<=nb:=(HR.out.1.nty (by rw[HL.out.1];have:=HR.out.2.2.2;omega)).1
    have xK : ∀x,w.heap.size<=x->x<wr.heap.size->w2.heap[x]? = wr.heap[x]? := fun x hx hx2=>xF.block x hx2 (fun hS=>by have:=(HH.out.2.old x hS).1;omega)
    have xC:OwnF w2 w.heap.size u5 (Uc ((Qh D.L).take j) (X.take j)):=QF HR.out.1.own fun g hg=>by
     have:=HR.out.1.own.lt g hg;exact xK g this.1 this.2
    have xB:RdN w2 (some ⟨nb,0,none⟩) nb (Qh D.L):=HR.out.1.nms.same fun h0=>xK nb xR (HR.out.1.nms.lt h0)
    have xA:0<(Qh D.L).length->w.heap.size<=nb∧Ty w2 nb 9:=fun h0=>⟨xR,(HR.out.1.nty h0).2.same (xK nb xR (HR.out.1.nty h0).2.lt)⟩
    have xG:Upo S w w2:=HR.out.1.up.trans xF (fun _ _ q=>q)
    have xN:(Qh D.L).take (j+1)=(Qh D.L).take j++[nm.data.toList]:=by rw[HR.out.2.1];exact UX _ _ _ (by rw[HL.out.1];exact HR.out.2.2.2)
    have xO:X.take (j+1)=X.take j++[xs]:=by rw[<-HR.out.2.2.1];exact UX _ _ _ (by rw[HH.out.2.len,HL.out.2.1];exact HR.out.2.2.2)
    have xE:Uc ((Qh D.L).take (j+1)) (X.take (j+1))=Uc ((Qh D.L).take j) (X.take j)++(if xs=[] then [] else [(nm.data.toList,xs)]):=by
     rw[xN,xO];exact QcJ _ _ _ _ (by rw[Lz,Lz,HL.out.1,HH.out.2.len,HL.out.2.1])
    have xJ:(Uc ((Qh D.L).take j) (X.take j)).length<=j:=by
     have:=QeS ((Qh D.L).take j) (X.take j);rw[Lz] at this;omega
    by_cases hx0:xs=[]
    ·subst hx0;rw[Lk rfl,LS] at xE;have HF:Hid (Tj w (Qh D.L) X nb (some ⟨nb,0,none⟩) S J (j+1) u5 w2):=⟨by rw[xE];exact xC,xB,xA,xD,xG⟩
     clear xC xB xA xG xN xO xE xJ xI xD xF xK;have hz : ¬((([]:List UInt8).length:Int) > 0):=by simp
     go_wp2
     go_roundg (n - (j+1))
     case rel=>go_light;exact⟨j+1,by have:=HR.out.2.2.2;omega,rfl,by go_num,HF.out⟩
     case measure=>go_light;have:=HR.out.2.2.2;omega
    ·rw[Le hx0] at xE;have xZ:(convert 127 9 (.slice ao xs.length cap)).run prog w2 = .ok (.string ⟨xs.toArray⟩) w2:=by
      have:=xI.conv (k:=0) (n:=xs.length) (by omega) (ax:=ao) (.inl rfl) (fun _ => .inl rfl) cap
      rwa [ND,L9] at this
     obtain⟨sx,xW⟩ : ∃sx:BA,(⟨xs.toArray⟩:BA)=sx:=⟨_,rfl⟩;rw[xW] at xZ;have yC:sx.data.toList=xs:=by rw[<-xW]
     have xV:(0:Int)<(xs.length:Int):=by have:xs.length≠0:=fun e=>hx0 (List.length_eq_zero_iff.1 e);omega
     obtain⟨i0,hi,yG,yH,yI⟩:=info_parts Tryz.infoF;obtain⟨xl,yD⟩:=Ze xs.length;have HX:Hid (nm.data.toList=nm.data.toList∧sx.data.toList=xs∧Tj w (Qh D.L) X nb (some ⟨nb,0,none⟩) S J j u5 wr):=⟨rfl,yC,HR.out.1⟩;have HP:Hid (OwnF w2 w.heap.size u5 (Uc ((Qh D.L).take j) (X.take j))∧RdN w2 (some ⟨nb,0,none⟩) nb (Qh D.L)∧(0<(Qh D.L).length->w.heap.size<=nb∧Ty w2 nb 9)∧J (j+1) w2∧Upo S w w2∧Uc ((Qh D.L).take (j+1)) (X.take (j+1))=Uc ((Qh D.L).take j) (X.take j)++[(nm.data.toList,xs)]∧(Uc ((Qh D.L).take j) (X.take j)).length<=j):=⟨xC,xB,xA,xD,xG,xE,xJ⟩;rw[yD] at xZ xV ⊢;clear xC xB xA xG xN xO xE xJ xI xD xF xK hx0 yC xW cn yD;have q1:(Uc ((Qh D.L).take j) (X.take j)).length+1<=maxLen:=by have:=HP.out.2.2.2.2.2.2;have:=HR.out.2.2.2;have:=HL.out.2.2;unfold maxLen;omega
     have q2:((Uc ((Qh D.L).take j) (X.take j)).length+1)*32<=140737488355328:=by have:=HP.out.2.2.2.2.2.2;have:=HR.out.2.2.2;have:=HL.out.2.2;omega
     have q3:w.heap.size<=(w2.alloc (.cells #[.string nm,.string sx] 72)).heap.size:=by have:=HP.out.2.2.2.2.1.size;simp;omega
     have Q:=Qd (L6 q1 (L6 q2 q3));clear q1 q2 q3
     go_wp2_with (first
      | (at_builtin;refine wpList_append_own _ rfl _ _ 42 rfl w.heap.size 72 i0 (.agg #[.string ⟨#[]⟩,.string ⟨#[]⟩]) 2 32 underlying42 hi yG yH yI rfl (by decide) _ _ _ rfl (HP.out.1.alloc _) ⟨w2.heap.size,0,none⟩ 1 1 [.string nm,.string sx] rfl rfl (Qnr _ _ _ _) (by simp[Value.oneCell']) Q.out.1 Q.out.2.1 Q.out.2.2 ?_;intro v' w3 own3 g3 nil3;go_frame)
      | go_in)
     obtain⟨xC,xB,xA,xD,xG,xE,xJ⟩:=HP.out;obtain⟨va,vc,rfl⟩:=Qx own3;have xL:Below w2.heap.size w2 (w2.alloc (.cells #[.string nm,.string sx] 72)):=bal (Lb _ _) _;have xH:Upo (fun x=>w.heap.size<=x) w2 w3:=by
      refine(Upo.of xL).trans (Upo.grown (S:=fun x=>w.heap.size<=x) g3 (fun b hb=>(xC.lt b hb).1)) (fun _ _ q=>q)
     have xS : ∀x,x<w2.heap.size->some x≠u5.ownBlock->w3.heap[x]? = w2.heap[x]? := fun x hx hn=>(g3.block x (by have:=xL.size;omega) hn).trans (xL.block x hx)
     have xU:some nb≠u5.ownBlock:=fun e=>by
      have h0:0<(Qh D.L).length:=by rw[HL.out.1];have:=HR.out.2.2.2;omega
      rcases xC.2 with ⟨q,_⟩|⟨g',cap',cur',q,_,hb',_⟩
      ·rw[q] at e;cases e
      ·rw[q] at e;simp only[Value.ownBlock,Option.some.injEq] at e;exact(xA h0).2.ne ⟨_,_,hb'⟩ (by decide) e
     have HF:Hid (Tj w (Qh D.L) X nb (some ⟨nb,0,none⟩) S J (j+1) (.slice va ((Uc ((Qh D.L).take j) (X.take j)).length+1) vc) w3):=by
      refine⟨?_,xB.same fun h0=>xS nb (xB.lt h0) xU,fun h0=>⟨(xA h0).1,(xA h0).2.same (xS nb (xA h0).2.lt xU)⟩,HH.out.2.keep w2 w3 (j+1) xD (.inr xH),xG.trans xH (fun b hb q=>by omega)⟩
      unfold OwnF;rw[xE,QnQ,Lc];have e2:cF [(nm.data.toList,xs)]=[.string nm,.string sx]:=by
       rw[<-HX.out.2.1]
       rfl
      rw[e2];exact own3
     clear xC xB xA xD xG xE xJ own3 xL xH xS xU HP HX g3 nil3;go_wp2
     go_roundg (n - (j+1))
     case rel=>go_light;exact⟨j+1,by have:=HR.out.2.2.2;omega,rfl,by go_num,HF.out⟩
     case measure=>go_light;have:=HR.out.2.2.2;omega
  ·obtain rfl:j=n:=by omega
   have hc : ¬((j:Int)<(j:Int)):=by omega
   have HR:Hid (Tj w (Qh D.L) X nb na S J j u5 wr):=hR;clear hR hlt hj;go_wp2
   go_ret
   refine⟨u5,rfl,?_,by rw[HL.out.2.1];exact HR.out.st,HR.out.up⟩
   have:=HR.out.own
   rwa [Lo (by rw[HL.out.1];exact La _),Lo (by rw[HH.out.2.len,HL.out.2.1];exact La _)] at this
def outs(ks:List Bool):List FV->Nat->List (List UInt8)
 | [],_=>[]
 | f::r,i=>(stay ks f i).1::outs ks r (stay ks f i).2
def ixa(ks:List Bool):List FV->Nat->Nat->Nat
 | _,i,0=>i
 | [],i,_+1=>i
 | f::r,i,j+1=>ixa ks r (stay ks f i).2 j
theorem Qj4(ks:List Bool)(fs:List FV)(i:Nat):ixa ks fs i 0=i:=by cases fs <;> rfl
theorem QeN(ks:List Bool) : ∀(fs:List FV) (i:Nat),(outs ks fs i).length=fs.length
 | [],_=>rfl
 | f::r,i=>by simp[outs,QeN ks r]
theorem Qhc(ks:List Bool) : ∀(fs:List FV) (i j:Nat),j<fs.length->(outs ks fs i).getD j []=(stay ks (fs.getD j fz) (ixa ks fs i j)).1∧ixa ks fs i (j+1)=(stay ks (fs.getD j fz) (ixa ks fs i j)).2
 | [],_,_,h=>by simp at h
 | f::r,i,0,_=>⟨rfl,by cases r <;> rfl⟩
 | f::r,i,j+1,h=>by
  have:=Qhc ks r (stay ks f i).2 j (by simpa using h)
  exact⟨this.1,this.2⟩
theorem QcI(ks:List Bool) : ∀(L:List (List UInt8×FV)) (i:Nat),Uc (Qh L) (outs ks (L.map (·.2)) i)=aft ks L i
 | [],_=>rfl
 | (s,f)::r,i=>by
  have:=QcI ks r (stay ks f i).2;simp only[Qh,List.map_cons,outs,Uc,aft] at *;rw[this]
theorem Ql1{L:List (List UInt8×FV)}(h:Ord L){j:Nat}(hj:j<L.length):Qe L ((Qh L).getD j [])=(L.map (·.2)).getD j fz:=by
 have e1:(Qh L).getD j []=(L[j]).1:=by simp[Qh,List.getD_eq_getElem?_getD,List.getElem?_eq_getElem hj]
 have e2:(L.map (·.2)).getD j fz=(L[j]).2:=by simp[List.getD_eq_getElem?_getD,List.getElem?_eq_getElem hj]
 rw[e1,e2];exact Qbn h (L3 hj)
section
variable {p m:Nat} {R:List UInt8->FR} {ka:OA} {kb ko kc:Nat} {D:DV}
theorem Qfv(w:World)(f:FV)(r:FR)(q qc:Nat)(ao:OA)(b o c:Nat)(ks:List Bool)(i:Nat)(hF:Fil w f r)(hc:Chs w q ao c ks i)(hk:RdL w ao b o ks)(hkl:ks.length<=9223372036854775807)(hq:w.heap[qc]? = some (.cells #[.pointer (some ⟨q,0,none⟩)] 123 (0,0))) :
  Calls prog 53 #[Y6 f r,.pointer (some ⟨qc,0,none⟩)] w fun e w' => ∃gr,e = .returned (.slice (some ⟨gr,0,none⟩) (stay ks f i).1.length (stay ks f i).1.length)∧w.heap.size<=gr∧Rw w' (some ⟨gr,0,none⟩) gr (stay ks f i).1.length (stay ks f i).1∧Chs w' q ao c ks (stay ks f i).2∧Upo (fun x=>x=q) w w':=by
 obtain⟨n,hn⟩:=Ze f.now.length;obtain⟨k,xC⟩:=Ze f.syn.length;obtain⟨P,hP⟩:=Ze (stay ks f i);rw[hP];simp only[Y6,fv,hn,xC];obtain⟨ra,rg,rc,rb,rh,rd,rs⟩:=r;simp only;obtain⟨w1,xB⟩:=Ze (w.alloc (.cells #[.slice ra n rc,.slice rb k rd,.int .i64 (rs:Int)] 129));have xA:Below w.heap.size w w1:=by rw[<-xB];exact bal (Lb _ _) _
 have HS:=stays_any w1 ra rg n rc f.now rb rh k rd rs f.syn q ao b o c ks i (hF.now.next xA (La _)) (hF.syn.next xA (La _)) hn xC (hc.same (xA.block q hc.lt)) (hk.next xA) hkl (by have:=hF.b1;omega) (by have:=hF.b2;omega) P hP
 have k1:w1.heap[w.heap.size]? = some (.cells #[.slice ra n rc,.slice rb k rd,.int .i64 (rs:Int)] 129 (0,0)):=by rw[<-xB];exact Yq _ _
 obtain⟨b0,b1,b2⟩:=Qs k1;have q1:w1.cell? ⟨qc,0,none⟩=some (.pointer (some ⟨q,0,none⟩)):=by
  have e:=(xA.block qc (Array.getElem?_eq_some_iff.1 hq).1).trans hq
  rw[cell_of_row w1 qc 0 _ _ (0,0) e];rfl
 have HB:=Qd (L6 xA hc.lt);have HW:Hid (w.alloc (.cells #[.slice ra n rc,.slice rb k rd,.int .i64 (rs:Int)] 129)=w1):=xB;clear hF hc hk hkl hq xA xB k1 hn xC hP
 go_enter func53,ntmps53
 go_upto_region 1 with (fail)
 rw[HW.out]
 go_wp2_with (go_at_call 54;with_reducible refine HS.mono ?_;rintro e w' ⟨gr,rfl,hg,hr,hc,hu⟩)
 go_ret
 exact⟨gr,rfl,Lu HB.out.1.size hg,hr,hc,(Upo.of HB.out.1).trans hu (fun _ _ e=>e)⟩
theorem QhG(w:World)(h:Dk w p m R ka kb ko kc D none)(ao:OA)(b o c:Nat)(ks:List Bool)(hk:RdL w ao b o ks)(hkl:ks.length<=9223372036854775807) :
  Calls prog 17 #[.pointer (some ⟨p,0,none⟩),.slice ao ks.length c] w fun e w' => ∃v,e = .returned v∧OwnF w' w.heap.size v (aft ks D.L 0)∧Below w.heap.size w w':=by
 obtain⟨w1,xA⟩:=Ze ((w.alloc (.cells #[.slice ao ks.length c,.int .i64 0] 125)).alloc (.cells #[.pointer (some ⟨w.heap.size,0,none⟩)] 123));have xB:Below w.heap.size w w1:=by rw[<-xA];exact bal (bal (Lb _ _) _) _
 have xG:w1.heap.size=w.heap.size+2:=by rw[<-xA];simp
 have xE:Chs w1 w.heap.size ao c ks 0:=by
  have e:cat ks 0=0:=by unfold cat;split <;> simp
  unfold Chs;rw[e,<-xA];exact new0 _ _ _
 have xF:w1.heap[w.heap.size+1]? = some (.cells #[.pointer (some ⟨w.heap.size,0,none⟩)] 123 (0,0)):=by rw[<-xA];exact new2 _ _ _
 have h1:=h.next xB;have xC:=hk.next xB;have HT:Tl w1 p m R kb D (fun x=>x=w.heap.size) 53 #[.pointer (some ⟨w.heap.size+1,0,none⟩)] (outs ks (D.L.map (·.2)) 0)
   (fun j W=>Chs W w.heap.size ao c ks (ixa ks (D.L.map (·.2)) 0 j)∧W.heap[w.heap.size+1]? = some (.cells #[.pointer (some ⟨w.heap.size,0,none⟩)] 123 (0,0))∧RdL W ao b o ks):=by
  refine⟨by rw[QeN];simp,fun x hx=>⟨by omega,fun hf => ?_⟩,fun W j hj hJ hu => ?_,fun W W' j hJ hW => ?_,fun W hW => ?_⟩
  ·have:=h.lt hf;omega
  ·have hD:Dk W p m R ka kb ko kc D none:=h1.same fun x hx=>hu.block x (h1.lt hx) (fun e=>by have:=h.lt hx;omega)
   have hF:=hD.fil _ (Qg2 D.L j hj) (by simp)
   obtain⟨o1,o2⟩:=Qhc ks (D.L.map (·.2)) 0 j (by simpa using hj)
   rw[<-Ql1 h.ord hj] at o1 o2;have hc:=Qfv W _ _ w.heap.size (w.heap.size+1) ao b o c ks _ hF hJ.1 hJ.2.2 hkl hJ.2.1;refine hc.mono ?_
   rintro e w' ⟨gr,rfl,hg,hr,xI,xD⟩;rw[o1,o2];refine⟨_,_,_,rfl,hr,⟨xI,(xD.block _ (Array.getElem?_eq_some_iff.1 hJ.2.1).1 (fun e=>by omega)).trans hJ.2.1,hJ.2.2.same fun h0=>xD.block b (hJ.2.2.lt h0) (Qjs hJ.1 hJ.2.2 h0)⟩,xD⟩
  ·have kp : ∀x,x<w1.heap.size->x<W.heap.size->W'.heap[x]? = W.heap[x]? := fun x h1 h2=>by
    rcases hW with q|q
    ·exact q.block x h2
    ·exact q.block x h2 (by omega)
   refine⟨hJ.1.same (kp _ (by omega) hJ.1.lt),(kp _ (by omega) (Array.getElem?_eq_some_iff.1 hJ.2.1).1).trans hJ.2.1,hJ.2.2.same fun h0=>kp b (xC.lt h0) (hJ.2.2.lt h0)⟩
  ·exact⟨by rw[Qj4];exact xE.same (hW.block _ (by omega)),(hW.block _ (by omega)).trans xF,xC.next hW⟩
 have HC:=Qlh w1 h1 _ _ _ _ _ HT (.inr rfl);rw[QcI] at HC;have xH:=Qd HC;have HB:=Qd (L6 xB xG);have HW:Hid ((w.alloc (.cells #[.slice ao ks.length c,.int .i64 0] 125)).alloc (.cells #[.pointer (some ⟨w.heap.size,0,none⟩)] 123)=w1):=xA;clear h HT HC h1 xC xF xE xB xG xA hk hkl
 go_enter func17,ntmps17
 go_upto_region 2 with (fail)
 rw[HW.out]
 go_wp2_with (go_at_call 52;with_reducible refine xH.out.mono ?_;rintro e w' ⟨v,rfl,ho,_,hu⟩)
 go_ret
 have hb:Below w.heap.size w w':=by
  refine⟨hu.os.trans HB.out.1.os,hu.tape.trans HB.out.1.tape,hu.output.trans HB.out.1.output,Lu HB.out.1.size hu.size,fun x hx=>(hu.block x (by have:=HB.out.2;omega) (fun e=>by omega)).trans (HB.out.1.block x hx)⟩
 refine⟨v,rfl,?_,hb⟩
 obtain⟨q1,q2⟩:=ho;refine⟨q1,?_⟩
 rcases q2 with q2|⟨g,cap,cur,e1,e2,e3⟩
 ·exact .inl q2
 ·exact .inr ⟨g,cap,cur,e1,by have:=HB.out.2;omega,e3⟩
end
end St
end Go.Proofs.YtoblgjledefdbaaGreatDoor
