/- Own work. -/
import Derived.Test.YtoblgjledefdbaaGreatDoorQm41
set_option maxRecDepth 100000
set_option maxHeartbeats 1000000
namespace Go.Proofs.YtoblgjledefdbaaGreatDoor
open Go.RowKit
attribute [local go_sem ↓] Go.wp_at_zero Go.wp_at_succ
open Go.Proofs.Tryz
theorem QcV(x:Int)(l:List Int):QU [x]++QU l=QU (x::l):=by
 apply I4
 rw[IH]
 apply Array.toList_inj.1
 rw[Array.toList_append,UW,UW,UW]
 rfl
def tlL(n k:Nat):List Int:=(nbL n 8).drop (8 - k)
theorem Qlf(n k:Nat)(h:k<8):((n / 256^k % 256:Nat):Int)::tlL n k=tlL n (k+1):=by
 unfold tlL;have hl:8 - (k+1)<(nbL n 8).length:=by rw[Qdo];omega
 rw[LN hl,show 8 - (k+1)+1=8 - k by omega]
 congr 1
 have:(nbL n 8)[8 - (k+1)]=((n / 256^(7 - (8 - (k+1))) % 256:Nat):Int):=by simp[nbL]
 rw[this,show 7 - (8 - (k+1))=k by omega]
theorem Qnw(x:Int)(h0:0<=x)(h1:x<18446744073709551616):IntKind.u64.wrap x=x:=by
 simp[IntKind.wrap,IntKind.signed,IntKind.bits];omega
theorem QdH(w:World)(n:Nat)(hn:n<18446744073709551616)(d:BA)(hs:d.size<2305843009213693952)(r:BA)(hr:UU n d=r) :
  Calls prog 109 #[.int .u64 (n:Int),.string d] w fun e w'=>e = .returned (.string r)∧Below w.heap.size w w':=by
 have hB:=Lb w.heap.size w
 go_enter func109,ntmps109;go_wp2
 go_loopg [0,5,6] 8 (fun g a s i wr => ∃(k N:Nat) (z:BA),k<=8∧g=8 - k∧a = .int .u64 (N:Int)∧s = .string z∧i = .int .i64 (k:Int)∧Hid (N=n / 256^k∧z=QU (tlL n k))∧z.size=k∧Below w.heap.size w wr)
 case atStart=>go_light;exact⟨0,n,⟨#[]⟩,Ll _,rfl,rfl,rfl,rfl,⟨by simp,rfl⟩,rfl,hB⟩
 case round =>
  clear hB;obtain⟨k,N,z,hk,rfl,rfl,rfl,rfl,HE,hz,hb⟩:=hrel
  by_cases hlt:k<8
  ·have h1:(k:Int)<8:=by omega
   obtain⟨y,hy⟩:=Ze (QU [(N:Int) % 256]);have cv:=fun W=>Jk W ((N:Int) % 256)
   have zy:=Y8 ((N:Int) % 256);rw[hy] at zy;simp only[hy] at cv;have HN:Hid ((N:Int) / 256=((n / 256^(k+1):Nat):Int)∧y++z=QU (tlL n (k+1))):=by
    have h:=HE.out;refine⟨?_,?_⟩
    ·rw[h.1,LC,<-L1];omega
    ·rw[<-hy,h.2,QcV,<-Qlf n k hlt,h.1];congr 2
   have xC : ¬(9223372036854775807<1+k):=by omega
   have ew:IntKind.u64.wrap ((N:Int) / 256)=(N:Int) / 256:=by
    have h:=HE.out.1;have:N<=n:=by rw[h];exact NM _ _
    exact Qnw _ (by omega) (by omega)
   have xA:(y++z).size=k+1:=by rw[L7,zy,hz];omega
   have HZ:=Qd xA;clear hy HE xA;go_wp2
   go_roundg (8 - (k+1))
   case rel=>go_light;exact⟨k+1,n / 256^(k+1),y++z,by omega,rfl,by rw[<-HN.out.1],rfl,by go_num,⟨rfl,HN.out.2⟩,HZ.out,bal hb _⟩
   case measure=>go_light;omega
  ·obtain rfl:k=8:=by omega
   have xD : ¬((8:Int)<8):=by decide
   have HT:=fun W=>UA W 3 z d (by omega) hs r (by
    rw[<-hr,HE.out.2,UU,QcV];rfl)
   rw[show((8:Nat):Int)=8 from rfl]
   clear HE hlt hk
   go_wp2_with (go_at_call 187;with_reducible refine(HT _).mono ?_;rintro e w1 ⟨rfl,xB⟩)
   go_ret
   exact⟨rfl,Qa hb xB⟩
theorem Qcf(w:World)(ht:Tr w)(k:Int)(ao:OA)(b off len cap:Nat)(ss:LB)(hr:RdS w ao b off len ss)(hsz : ∀s∈ss,s.size<=140737488351232)(hmx:len<=8796093022208)(r:BA)(hq:Q6 (clk k) ss=r) :
  Calls prog 110 #[.int .i64 k,.slice ao len cap] w fun e w'=>e = .returned (.string r)∧Below w.heap.size w w':=by
 by_cases h0:len=0
 ·subst h0;have:ss=[]:=List.length_eq_zero_iff.1 hr.hl;subst this;subst hq
  go_enter func110,ntmps110;go_wp2
  go_ret
  exact⟨rfl,Lb _ _⟩
 ·have xA:0<len:=by omega
  obtain rfl:=hr.ptr xA;obtain⟨m,rfl⟩ : ∃m,len=m+1:=⟨len - 1,by omega⟩
  have hc:=QO k;have xJ : ¬((m:Int)+1=0):=by omega
  have cm:=hr.at (k:=m) (by omega)
  have HL:Hid (Q6 (clk k) (ss.drop m)=ss.getD m ByteArray.empty):=by
   have:=Qck (clk k) ss (by rw[hr.hl];omega)
   rw[hr.hl] at this;exact this
  have xH:Hid (∀d,d=Q6 (clk k) ss->True):=fun _ _=>trivial
  have HM:Hid (∀j,j<m+1->(ss.getD j ByteArray.empty).size<=140737488351232):=fun j hj=>hsz _ (Y7 (by rw[hr.hl];exact hj))
  have HD:Hid (∀j,(Q6 (clk k) (ss.drop j)).size<=140737488351232):=fun j=>JI hc (by decide) _ (fun s hs=>hsz s (NY hs))
  have HN:Hid (∀j,j<m->Q6 (clk k) (ss.drop j)=dg (clk k) (bagT (ss.getD j ByteArray.empty) (Q6 (clk k) (ss.drop (j+1))))):=fun j hj=>Qcj _ _ _ (by rw[hr.hl];omega)
  have HT:Hid (Tr w):=ht;have HR:Hid (RdS w (some ⟨b,off,none⟩) b off (m+1) ss):=hr;have HQ:Hid (Q6 (clk k) (ss.drop 0)=r):=hq;obtain⟨d0,xC⟩:=Ze (ss.getD m ByteArray.empty);rw[xC] at cm;have xD:Hid (Q6 (clk k) (ss.drop m)=d0):=by rw[<-xC];exact HL
  clear xC HL ht hr hq hsz xH h0 xA
  go_enter func110,ntmps110;go_wp2
  go_loopg [5,6] m (fun g x i wr => ∃(j:Nat) (d:BA),j=g∧x = .string d∧i = .int .i64 ((j:Int) - 1)∧j<=m∧Hid (Q6 (clk k) (ss.drop j)=d)∧Below w.heap.size w wr)
  case atStart=>go_light;exact⟨m,d0,rfl,rfl,by go_num,La _,xD,Lb _ _⟩
  case round =>
   obtain⟨j,d,hg,rfl,rfl,hj,HE,hb⟩:=hrel;subst hg
   cases j with
   | zero =>
    have hz : ¬((0:Int) <= -1):=by decide
    rw[show((0:Nat):Int) - 1 = -1 from rfl]
    have HF:Hid (d=r):=HE.out.symm.trans HQ.out;clear HE HN HQ HM HD HR HT cm;obtain rfl:=HF.out;go_wp2
    go_ret
    exact⟨rfl,hb⟩
   | succ j =>
    have e1:((j+1:Nat):Int) - 1=(j:Int):=by omega
    have hz:(0:Int)<=(j:Int):=by omega
    have xK:(j:Int)<(m:Int)+1:=by omega
    have xI:j<m:=by omega
    have cj:=(HR.out.next hb (La _)).at (k:=j) (by omega)
    have z1:=HM.out j (by omega)
    have z2:=HD.out (j+1);have hn:=HN.out j xI;rw[HE.out] at z2 hn;generalize ss.getD j ByteArray.empty=p at *;have HG:=fun W=>QeZ W p d (by omega) (by omega) _ rfl
    obtain⟨t,ht⟩:=Ze (bagT p d);have zt:=Qcl p d;rw[ht] at zt;simp only[ht] at HG hn;obtain⟨d',xB⟩ : ∃d',dg (clk k) t=d':=⟨_,rfl⟩;have HO:Hid (∀W,Below w.heap.size w W->Calls prog 108 #[.int .i64 k,.string t] W fun e w'=>e = .returned (.string d')∧Below W.heap.size W w'):=fun W hb=>JV W (HT.out.next hb) k t (by omega) d' xB
    have xG:Hid (Q6 (clk k) (ss.drop j)=d'):=hn.trans xB;rw[e1];clear HE hn xB ht zt z1 z2 e1 cm xD
    go_wp2_with (first
     | (go_at_call 188;with_reducible refine(HG _).mono ?_;rintro e w1 ⟨rfl,xE⟩;replace hb:=Qa hb xE;clear xE)
     | (go_at_call 108;with_reducible refine(HO.out _ hb).mono ?_;rintro e w2 ⟨rfl,xF⟩;replace hb:=Qa hb xF;clear xF))
    go_roundg j
    case rel=>go_light;exact⟨j,d',rfl,rfl,by go_num,by omega,xG.out,hb⟩
    case measure=>go_light;omega
theorem Qe2(w:World)(ht:Tr w)(k:Int)(n:Nat)(hn:n<18446744073709551616)(ao:OA)(b off len cap:Nat)(ss:LB)(hr:RdS w ao b off len ss)(hsz : ∀s∈ss,s.size<=140737488351232)(hmx:len<=8796093022208)(r:BA)(hq:dg (clk k) (UU n (Q6 (clk k) ss))=r) :
  Calls prog 59 #[.int .i64 k,.int .u64 (n:Int),.slice ao len cap] w fun e w'=>e = .returned (.string r)∧Below w.heap.size w w':=by
 have hz:(Q6 (clk k) ss).size<=140737488351232:=JI (QO k) (by decide) _ hsz
 obtain⟨d,hd⟩:=Ze (Q6 (clk k) ss);have xD:=Qcf w ht k ao b off len cap ss hr hsz hmx d hd;rw[hd] at hq hz;obtain⟨t,xB⟩:=Ze (UU n d);have xE:=fun W=>QdH W n hn d (by omega) t xB
 have zt:=QbT n d;rw[xB] at hq zt;have HO:Hid (∀W,Below w.heap.size w W->Calls prog 108 #[.int .i64 k,.string t] W fun e w'=>e = .returned (.string r)∧Below W.heap.size W w'):=fun W hb=>JV W (ht.next hb) k t (by omega) r hq
 have hb:=Lb w.heap.size w;clear hq ht hd xB zt hz hr hsz hmx
 go_enter func59,ntmps59
 go_wp2_with (first
  | (go_at_call 110;with_reducible refine xD.mono ?_;rintro e w1 ⟨rfl,xA⟩;replace hb:=Qa hb xA;clear xA)
  | (go_at_call 109;with_reducible refine(xE _).mono ?_;rintro e w1 ⟨rfl,xA⟩;replace hb:=Qa hb xA;clear xA)
  | (go_at_call 108;with_reducible refine(HO.out _ hb).mono ?_;rintro e w2 ⟨rfl,xC⟩;replace hb:=Qa hb xC;clear xC))
 go_ret
 exact⟨rfl,hb⟩
section
open Cv (RdC zl cU tno)
open Pl (pw)
variable {GB RB:Nat}
theorem QkL{w:World}{ao:OA}{b off len:Nat}{l:List Nat}(h:RdU w ao b off len l):Cv.Rd w ao b off len l:=⟨h.hl,h.ptr,fun _ hj=>h.at hj⟩
theorem JL(w:World)(b off cap:Nat)(S:List Nat)(hr:RdU w (some ⟨b,off,none⟩) b off S.length S)(hm:S.length<=1048576) :
  Calls prog 141 #[.slice (some ⟨b,off,none⟩) S.length cap] w fun e w' => ∃v,e = .returned v∧Cv.Own w' w.heap.size v S∧Below w.heap.size w w':=by
 have hb:=bal (Lb w.heap.size w) (.cells #[] 48);have ho:Cv.Own (w.alloc (.cells #[] 48)) w.heap.size (.slice (some ⟨w.heap.size,0,none⟩) 0 0) []:=⟨rfl,.inr ⟨w.heap.size,0,_,rfl,La _,LH w _,Ll _,by decide,rfl,rfl⟩⟩
 have HO:=Qd ho;have HR:=Qd (Qhi (cap:=cap) (hr.next hb) (fun e=>by cases e))
 have HB:=Qd hb;have HE:=Lib.run_eql_slice_some_nil (P:=prog) w ⟨b,off,none⟩ S.length cap underlying66;clear hr ho hb
 go_enter func141,ntmps141
 go_wp2_with (at_builtin;refine Cv.QaQ _ rfl _ _ rfl w.heap.size _ [] rfl HO.out _ S rfl HR.out ?c1 ?c2 ?_)
 case c1=>simp only[List.length_nil];omega
 case c2=>have:=HB.out.size;exact this
 intro v' w' o' g' _;have HY:Hid (Cv.Own w' w.heap.size v' S∧Below w.heap.size w w'):=⟨o',HB.out.trans ((Lb _ _).grown g' HB.out.size (fun k hk=>by cases hk;exact La _))⟩
 clear o' g';go_wp2
 go_ret
 exact⟨_,rfl,HY.out.1,HY.out.2⟩
abbrev zP:Obj := .cells #[.int .i64 0,.int .i64 0,.int .u64 0,.int .u64 0,.slice none 0 0,.slice none 0 0] 138
theorem Qee(w:World)(m:Nat)(k:Int)(L:LB)(hF:Frs w m k L)(n:Nat)(hn:L.length<n)(ao:OA)(ns c:Nat) :
  Calls prog 82 #[.pointer (some ⟨m+1,0,none⟩),.int .u64 (n:Int),.slice ao ns c] w fun e w'=>e = .returned (.tuple #[noP,.int .i64 30])∧Below w.heap.size w w':=by
 have hb:=bal (Lb w.heap.size w) zP;have HS:=Yo _ m k L (hF.next hb (La _));have xA:(L.length:Int)<(n:Int):=by omega
 unfold zP at hb HS;clear hF hn
 go_enter func82,ntmps82
 go_wp2_with (go_at_call 132;with_reducible refine HS.mono ?_;rintro e w1 ⟨rfl,rfl⟩)
 refine Lv (v := .tuple #[noP,.int .i64 30]) (by simp[results,results82,go_sem]) rfl ⟨rfl,?_⟩
 exact hb
theorem Qfz(w:World)(m:Nat)(k:Int)(L:LB)(hF:Frs w m k L)(n:Nat)(hn:n<=L.length)(ao:OA)(b off ns c:Nat)(S:List Nat)(hr:RdU w ao b off ns S)(hm:ns<=maxLen)(e0:Nat)(he:Cv.QG n S=e0)(h0:e0≠0) :
  Calls prog 82 #[.pointer (some ⟨m+1,0,none⟩),.int .u64 (n:Int),.slice ao ns c] w fun e w'=>e = .returned (.tuple #[noP,.int .i64 (e0:Int)])∧Below w.heap.size w w':=by
 have hb:=bal (Lb w.heap.size w) zP;have HS:=(Yo _ m k L (hF.next hb (La _)));have HC:=Cv.Qe5 n e0 (w.alloc zP) ao b off ns c S (QkL (hr.next hb)) hm he h0;have xD : ¬(L.length:Int)<(n:Int):=by omega
 have hz : ¬(e0:Int)=0:=by omega
 have H6:=Qd (Qaa w (.int .i64 0) (.int .i64 0) (.int .u64 0) (.int .u64 0) (.slice none 0 0) (.slice none 0 0));unfold zP at hb HS HC;clear hF hn hr hm he h0
 go_enter func82,ntmps82
 go_wp2_with (first
  | (go_at_call 132;with_reducible refine HS.mono ?_;rintro e w1 ⟨rfl,rfl⟩)
  | (go_at_call 140;with_reducible refine HC.mono ?_;rintro e w2 ⟨v2,rfl,_,xB⟩;have h6:=H6.out.next xB;obtain⟨k0,k1,k2,k3,k4,k5⟩:=h6.cells;have f0:=h6.fz))
 have xC:=Yy w2 w.heap.size (.int .i64 0) (.int .i64 0) (.int .u64 0) (.int .u64 0) (.slice none 0 0) (.slice none 0 0);have xA:=h6.put (.int .i64 0) (.int .i64 0) (.int .u64 0) (.int .u64 0) (.slice none 0 0) (.slice none 0 0);unfold Jy at xC xA;obtain⟨s0,s1,s2,s3,s4,s5⟩:=xA.cells;refine Lv (v := .tuple #[noP,.int .i64 (e0:Int)]) (by simp[results,results82,go_sem,s0,s1,s2,s3,s4,s5]) rfl ⟨rfl,?_⟩
 exact(Qa hb xB).trans (xC.below (by rintro b rfl;exact La _))
def dgB(c:Nat)(L:LB)(n:Nat)(S:List Nat):LB:=(Cv.rst 0 n S).map fun b=>nd c L b.1 b.2
theorem Qoy{n:Nat}{S:List Nat}(he:Cv.QG n S=0) : ∀b∈Cv.rst 0 n S,(b.2+1)*2^b.1<=n:=by
 obtain⟨xA,_,_,hc⟩:=Cv.Yw he;exact fun b hb=>(Cv.Qnk (Cv.QdR n S xA hc) b hb).2
theorem QdT{n:Nat}{S:List Nat}(he:Cv.QG n S=0):S.length<=n∧0<S.length:=by
 obtain⟨xB,h0,_,hc⟩:=Cv.Yw he;refine⟨?_,h0.1⟩
 have xA : ∀(S:List Nat) (x n:Nat),Cv.QI x S n->S.length+x<=n:=by
  intro S
  induction S with
  | nil=>intro x n h;have h':x<=n:=h;rw[NL];omega
  | cons i S ih =>
   intro x n h;have:=ih _ _ h.2;have:=h.1;rw[LE];omega
 have:=xA S 0 n hc;omega
theorem QhI(w:World)(m:Nat)(k:Int)(L:LB)(hF:Frs w m k L)(hL:L.length<=5000)(n:Nat)(hn:n<=L.length)(ao:OA)(b off c:Nat)(S:List Nat)(hr:RdU w ao b off S.length S)(he:Cv.QG n S=0)(D:LB)(hD:dgB (clk k) L n S=D) :
  Calls prog 82 #[.pointer (some ⟨m+1,0,none⟩),.int .u64 (n:Int),.slice ao S.length c] w fun e w' => ∃vs vd,e = .returned (.tuple #[.agg #[.int .i64 2,.int .i64 k,.int .u64 0,.int .u64 (n:Int),vs,vd],.int .i64 0])∧Cv.Own w' w.heap.size vs S∧Qi w' w.heap.size vd D∧Below w.heap.size w w':=by
 obtain⟨xO,xK⟩:=QdT he;have xH:=Qoy he;obtain⟨xE,_,_,hc⟩:=Cv.Yw he;obtain rfl:=hr.ptr xK;obtain⟨o0,xI⟩:=Ze zP;have hb:=bal (Lb w.heap.size w) o0;have HS:=Yo _ m k L (hF.next hb (La _));obtain⟨C,hC⟩:=Ze (zl (Cv.rst 0 n S));have xR:C.length<=1000000:=by rw[<-hC,Cv.Je];have:=Cv.QmU n xE S 0 hc;omega
 have xD:Calls prog 140 #[.int .u64 (n:Int),.slice (some ⟨b,off,none⟩) S.length c] (w.alloc o0) fun e w' => ∃ao g cap,e = .returned (.tuple #[.slice ao C.length cap,.int .i64 0])∧RdB w' ao g 0 C.length C∧Below (w.alloc o0).heap.size (w.alloc o0) w':=by
  refine(Cv.QkO n (w.alloc o0) (some ⟨b,off,none⟩) b off S.length c S (QkL (hr.next hb)) (by omega)).mono fun e w' ⟨v,e1,e2,e3⟩ => ?_
  rw[he] at e1;rw[Cv.rstS,Lk he,hC] at e2;obtain⟨ao,g,n',cap,rfl,xL,_⟩:=Qhd e2 (fun x hx=>by
   rw[<-hC] at hx;obtain⟨b0,xQ,rfl⟩:=List.mem_map.1 hx;exact(Qo0 (xH b0 xQ) xE).1)
  obtain rfl:=xL.len;exact⟨ao,g,cap,e1,xL,e3⟩
 have xG:dgs (clk k) L C=some D:=by rw[<-hC,Qda (fun b hb=>Lu (xH b hb) hn),<-hD];rfl
 have HD:Hid (∀W ao g cap,Below w.heap.size w W->RdB W ao g 0 C.length C->Calls prog 106 #[.pointer (some ⟨m+1,0,none⟩),.slice ao C.length cap] W fun e w'=>Below W.heap.size W w' ∧ ∃ad md cd,e = .returned (.tuple #[.slice ad md cd,.bool true])∧Qi w' W.heap.size (.slice ad md cd) D):=fun W ao g cap hb hr=>by
  refine(OF W m k L (hF.next hb (La _)) ao g 0 cap C hr (by omega)).mono ?_
  rintro e w' ⟨xP,⟨h1,_⟩|⟨D',h1,v,rfl,ho⟩⟩
  ·rw[xG] at h1;cases h1
  ·rw[xG] at h1;injection h1 with h1
   subst h1;obtain⟨ad,md,cd,rfl⟩:=Cv.Qx ho;exact⟨xP,ad,md,cd,rfl,ho⟩
 have xN:Hid (∀W,Below w.heap.size w W->Calls prog 134 #[.pointer (some ⟨m+1,0,none⟩)] W fun e w'=>e = .returned (.int .i64 k)∧W=w'):=fun W hb=>(Ob W m k L (hF.next hb (La _))).mono fun _ _ h=>⟨h.1,h.2.symm⟩
 have xM:Hid (∀W,Below w.heap.size w W->Calls prog 141 #[.slice (some ⟨b,off,none⟩) S.length c] W fun e w' => ∃a1 n1 c1,e = .returned (.slice a1 n1 c1)∧Cv.Own w' W.heap.size (.slice a1 n1 c1) S∧Below W.heap.size W w'):=fun W hb=>(JL W b off c S (hr.next hb) (by omega)).mono fun e w' ⟨v,e1,e2,e3⟩=>by
  obtain⟨a1,n1,c1,rfl⟩:=Cv.Qx e2;exact⟨a1,n1,c1,e1,e2,e3⟩
 have xW : ¬(L.length:Int)<(n:Int):=by omega
 have HP:Hid (∀W,Below (w.alloc o0).heap.size (w.alloc o0) W->Six W w.heap.size (.int .i64 0) (.int .i64 0) (.int .u64 0) (.int .u64 0) (.slice none 0 0) (.slice none 0 0)):=fun W hb=>Six.next (show Six (w.alloc o0) _ _ _ _ _ _ _ by rw[<-xI];exact Qaa w _ _ _ _ _ _) hb
 rw[<-xI] at hb HS HP xD;unfold zP at hb HS HP xD;clear hF hn hr hL xI xH xG hD xR hC xO xK hc xE he
 go_enter func82,ntmps82
 go_wp2_with (first
  | (go_at_call 132;with_reducible refine HS.mono ?_;rintro e w0 ⟨rfl,rfl⟩)
  | (go_at_call 140;with_reducible refine xD.mono ?_;rintro e w1 ⟨ao,g,cap,rfl,xU,xA⟩)
  | (go_at_call 106;with_reducible refine(HD.out _ _ _ _ (Qa hb xA) xU).mono ?_;rintro e w2 ⟨xB,ad,md,cd,rfl,ho⟩)
  | (go_at_call 134;with_reducible refine(xN.out _ (Qa (Qa hb xA) xB)).mono ?_;rintro e w3 ⟨rfl,rfl⟩)
  | (go_at_call 141;with_reducible refine(xM.out _ (Qa (Qa hb xA) xB)).mono ?_;rintro e w4 ⟨a4,n4,c4,rfl,xT,xF⟩;have h6:=HP.out _ (Qa (Qa xA xB) xF);obtain⟨k0,k1,k2,k3,k4,k5⟩:=h6.cells;have f0:=h6.fz))
 have xJ:=h6.put (.int .i64 2) (.int .i64 k) (.int .u64 0) (.int .u64 (n:Int)) (.slice a4 n4 c4) (.slice ad md cd);have xC:=Yy w4 w.heap.size (.int .i64 2) (.int .i64 k) (.int .u64 0) (.int .u64 (n:Int)) (.slice a4 n4 c4) (.slice ad md cd);have xS:=(Qa xA xB).size;unfold Jy at xJ xC;obtain⟨s0,s1,s2,s3,s4,s5⟩:=xJ.cells;rw[NQ] at xS;refine Lv (v := .tuple #[.agg #[.int .i64 2,.int .i64 k,.int .u64 0,.int .u64 (n:Int),.slice a4 n4 c4,.slice ad md cd],.int .i64 0]) (by simp[results,results82,go_sem,s0,s1,s2,s3,s4,s5]) rfl ?_
 have xV:=xA.size;rw[NQ] at xV;refine⟨_,_,rfl,?_,?_,(Qa (Qa (Qa hb xA) xB) xF).trans (xC.below (by rintro b rfl;exact La _))⟩
 ·exact(QZ xT fun g _ hg=>xC.block g (by omega)).mono (by omega)
 ·exact(QZ (Qv ho xF (La _)) fun g _ hg=>xC.block g (by omega)).mono (by omega)
end
section
open Cv (RdC zl cU)
theorem Qbi{c:Nat}(hc:c<=32)(L:LB)(n:Nat)(S:List Nat) : ∀s∈dgB c L n S,s.size=c:=fun s hs=>by
 obtain⟨b,_,rfl⟩:=List.mem_map.1 hs;exact Yx hc _ _ _
theorem Qc9(c:Nat)(L:LB)(n:Nat)(S:List Nat):(dgB c L n S).length=(Cv.rst 0 n S).length:=Nc _
theorem QhJ(w:World)(m:Nat)(k:Int)(L:LB)(hF:Frs w m k L)(hL:L.length<=5000)(n:Nat)(hn:n<=L.length)(ao:OA)(b off c:Nat)(S:List Nat)(hr:RdU w ao b off S.length S)(he:Cv.QG n S=0)(D:LB)(hD:dgB (clk k) L n S=D) :
  Calls prog 82 #[.pointer (some ⟨m+1,0,none⟩),.int .u64 (n:Int),.slice ao S.length c] w fun e w' => ∃gs cs ad bd cd,e = .returned (.tuple #[.agg #[.int .i64 2,.int .i64 k,.int .u64 0,.int .u64 (n:Int),.slice (some ⟨gs,0,none⟩) S.length cs,.slice ad D.length cd],.int .i64 0])∧RdU w' (some ⟨gs,0,none⟩) gs 0 S.length S∧S.length<=cs∧RdS w' ad bd 0 D.length D∧D.length<=cd∧(ad=none->cd=0)∧Cv.Own w' w.heap.size (.slice (some ⟨gs,0,none⟩) S.length cs) S∧Qi w' w.heap.size (.slice ad D.length cd) D∧Below w.heap.size w w' :=
 (QhI w m k L hF hL n hn ao b off c S hr he D hD).mono fun e w' ⟨vs,vd,e1,e2,e3,e4⟩=>by
  obtain⟨gs,cs,rfl,_,hcs,_⟩:=Qiq e2 (QdT he).2;obtain⟨ad,bd,cd,rfl,r3,hcd,hnd⟩:=QR e3 (fun s hs=>by rw[<-hD] at hs;rw[Qbi (QO k) _ _ _ s hs];have:=QO k;omega)
  exact⟨gs,cs,ad,bd,cd,e1,Qhe (l':=[]) (by rw[LS];exact e2),hcs,r3,hcd,hnd,e2,e3,e4⟩
end
def pvB(k:Int)(L:LB)(n:Nat)(S:List Nat):PV:=⟨2,k,0,n,S,dgB (clk k) L n S⟩
theorem Ou{k:Int}(k1:1<=k)(k2:k<=32)(L:LB){n:Nat}(hn:n<=2^40){S:List Nat}(he:Cv.QG n S=0):Yk (pvB k L n S):=by
 have xA:(clk k:Int)=k:=by unfold clk;rw[Le (by omega),Le (by omega)];omega
 refine⟨?_,fun d hd => ?_⟩
 ·show cnt 2 k 0 n S=some (dgB (clk k) L n S).length
  rw[Qc9,cnt,Lk ⟨k1,k2,hn⟩,Le (by decide),Lk rfl,Lk ⟨rfl,he⟩]
 ·show(d.size:Int)=k
  rw[Qbi (QO k) L n S d hd];exact xA
section
variable {w:World} {a p:Nat} {U:Nat->Prop} {D:St.DV} {S:St.SV} {L:LB}
theorem QcM{W:World}{ao:OA}{b off len:Nat}{l:List Nat}(h:RdU w ao b off len l)(hb : ∀c,c<w.heap.size->c≠a->W.heap[c]? = w.heap[c]?)(hn:0<len->b≠a):RdU W ao b off len l :=
 ⟨h.hl,h.ptr,fun j v hv=>by
  have hc:=h.rng j v hv;have hlt:=Ln _ _ hc;exact(LD (a:=⟨b,off+j,none⟩) (hb b hlt (hn (by have:=(List.getElem?_eq_some_iff.1 hv).1;rw[show(Cv.cU l).length=l.length by simp[Cv.cU]] at this;have:=h.hl;omega)))).trans hc⟩
theorem QcB(w:World)(ht:Tb w)(h:Lg w 0 a p U D S L)(hL:L.length<=5000)(n:Nat)(hn:n<=L.length)(ao:OA)(b off len c:Nat)(X:List Nat)(hr:RdU w ao b off len X)(hb:0<len->b≠a)(he:Cv.QG n X=0) :
  Calls prog 38 #[.pointer (some ⟨a,0,none⟩),.int .u64 (n:Int),.slice ao len c] w fun e w'=>e = .returned (.tuple #[.string ⟨(enc (pvB S.k L n X)).toArray⟩,.int .i64 0])∧Below w.heap.size w w':=by
 refine QnC w ht h n ao len c _ 0 fun W m hT hbW hF => ?_
 have xB:=QcM hr hbW hb;have hl:=hr.hl;subst hl;refine(QhJ W m S.k L hF hL n hn ao b off c X xB he _ rfl).mono fun e w' z => ?_
 obtain⟨gs,cs,ad,bd,cd,rfl,z1,z2,z3,z4,z5,z6,z7,z8⟩:=z;have hw:=Ou hF.k1 hF.k2 L (n:=n) (by omega) he
 refine⟨_,_,rfl,z8,fun W' hW' => ?_⟩
 have hp:RdPC w' (some ⟨gs,0,none⟩) gs 0 cs ad bd 0 cd (pvB S.k L n X):=⟨z1,z3,by show(0:Nat)<_;decide,by show n<_;omega,?_,?_,z4⟩
 ·exact Qem W' (hp.next hW') hw _ rfl
 ·show X.length<=_
  have:=(QdT he).1;omega
 ·show(dgB (clk (S.k:Int)) L n X).length<=_
  obtain⟨xA,_,_,hc⟩:=Cv.Yw he;rw[Qc9];have:=QdS xA hc;omega
theorem Qif(w:World)(ht:Tb w)(h:Lg w 0 a p U D S L)(n:Nat)(ao:OA)(b off len c:Nat)(X:List Nat)(hr:RdU w ao b off len X)(hm:len<=maxLen)(hb:0<len->b≠a)(e0:Nat)(he:(if L.length<n then 30 else Cv.QG n X)=e0)(h0:e0≠0) :
  Calls prog 38 #[.pointer (some ⟨a,0,none⟩),.int .u64 (n:Int),.slice ao len c] w fun e w'=>e = .returned (.tuple #[.string ⟨#[]⟩,.int .i64 (e0:Int)])∧Below w.heap.size w w':=by
 refine QnC w ht h n ao len c _ e0 fun W m hT hbW hF => ?_
 have xB:=QcM hr hbW hb;have xA : ∀W':World,Calls prog 77 #[noP,.int .i64 (e0:Int)] W' fun e w''=>e = .returned (.tuple #[.string ⟨#[]⟩,.int .i64 (e0:Int)])∧Below W'.heap.size W' w'':=fun W'=>QfL W' 0 0 0 0 none 0 0 none 0 0 e0 (by omega)
 by_cases hn:L.length<n
 ·rw[Lk hn] at he;subst he;exact(Qee W m S.k L hF n hn ao len c).mono fun e w' z=>⟨_,_,z.1,z.2,fun W' _=>xA W'⟩
 ·rw[Le hn] at he;exact(Qfz W m S.k L hF n (by omega) ao b off len c X xB hm e0 he h0).mono fun e w' z=>⟨_,_,z.1,z.2,fun W' _=>xA W'⟩
end
theorem QhA(s:BA):St.tx s.data.toList=s:=by
 cases s
 rfl
theorem Qff{D:St.DV}{S:St.SV} : ∀(ds:LB) (p:Nat),(∀j d,ds[j]? = some d->St.Om D S (p+j)=(d.data.toList,0))->stE D S p ds=0
 | [],_,_=>rfl
 | d::ds,p,h=>by
  have h0:=h 0 d rfl;rw[N8] at h0;rw[stE,h0,Le (fun q=>q rfl),Lk (QhA d)]
  refine Qff ds (p+1) fun j x hx => ?_
  rw[show p+1+j=p+(j+1) by omega]
  exact h (j+1) x (by simpa using hx)
structure Has(k:Nat)(L:LB)(D:St.DV):Prop where
 k1:1<=k
 k2:k<=32
 few:L.length<=65536
 sz : ∀s∈L,s.size<=1048576
 down:D.down=false
 i:(St.bA k (itL k L)).a <+: (St.Qe D.L St.nmI).now
 n:(St.bA k (itL k L)).b <+: (St.Qe D.L St.nmN).now
section
variable {k:Nat} {L:LB} {D:St.DV} {S:St.SV}
theorem Has.ok(h:Has k L D):St.OkA k (itL k L):=Qao h.k1 h.k2 h.few h.sz
theorem Has.item(h:Has k L D)(hS:S.ends=(St.bA k (itL k L)).ends){i:Nat}{x:BA}(hx:L[i]? = some x):St.YS D S i=(x.data.toList,0) :=
 St.Ql8 h.ok hS h.down h.i i _ (QfS k L i x hx)
theorem Has.tk(h:Has k L D)(hS:S.ends=(St.bA k (itL k L)).ends)(hk:S.k=k) : ∀i,i<=L.length->tkL D S i=(L.take i,0)
 | 0,_=>rfl
 | i+1,hi=>by
  have ih:=h.tk hS hk i (by omega)
  obtain⟨x,hx⟩ : ∃x,L[i]? = some x:=⟨_,Lh (by omega)⟩
  have hit:=h.item hS hx;have ht:L.take (i+1)=L.take i++[x]:=by
   rw[LR (by omega)]
   congr 2
   exact Ns ((Lh (by omega)).symm.trans hx)
  have xA:stE D S (St.nn i) (mdL k (L.take i) x)=0:=Qff _ _ fun j d hd=>St.Qmq h.ok hS hk h.down h.n i j _ d (QfS k L i x hx) hd
  rw[tkL,ih];simp only;rw[hit,Le (fun q=>q rfl),Le (fun q=>q rfl),QhA,hk,xA,Le (fun q=>q rfl),ht]
theorem QjI(h:Has k L D):(St.bA k (itL k L)).ends.length=L.length:=by rw[h.ok.lens.ends,JP]
theorem Has.all(h:Has k L D)(hS:S.ends=(St.bA k (itL k L)).ends)(hk:S.k=k):tkL D S S.ends.length=(L,0):=by
 rw[hS,QjI h,h.tk hS hk L.length (La _),L9]
theorem Has.get(h:Has k L D)(hS:S.ends=(St.bA k (itL k L)).ends){i:Nat}{x:BA}(hx:L[i]? = some x):gtD D S L i=(x,0):=by
 unfold gtD;rw[h.item hS hx,Le (fun q=>q rfl),Lk,QhA]
 rw[QhA,smL,Ld,Nt,hx];rfl
theorem Qn4(hS:S.ends.length=L.length){i:Nat}(hi:L.length<=i):gtD D S L i=(⟨#[]⟩,31):=by
 unfold gtD;rw[St.Ql7 i (by omega),Lk (show ¬((31:Int)=0) by decide)]
theorem Qg0(h1:1<=k)(h2:k<=32)(hf:L.length<=65536)(hs : ∀s∈L,s.size<=1048576)(hd:D.down=false)(he:St.Ext k (itL k L) D.L):Has k L D :=
 ⟨h1,h2,hf,hs,hd,by rw[he.i];exact Iu,by rw[he.n];exact Iu⟩
theorem QnD{D D':St.DV}(hh:Has k L D')(ho:St.YX D (k:Int)=(D',some (St.sA k (itL k L)),0)):loD D (k:Int)=(D',some (St.sA k (itL k L),L),0):=by
 unfold loD;rw[ho];simp only;rw[hh.all rfl rfl,Lk rfl]
theorem a_of{D D':St.DV}{S':St.SV}{e:Int}{x:BA}(hx:x.size<=1048576)(hf:S.ends.length<65536)(hk:S.k=k)(ha:St.addD D S x.data.toList (mdL k L x)=(D',S',e)):aD D S L x=(D',S',if e=0 then L++[x] else L,e):=by
 unfold aD;rw[Le (by omega),Le (by omega),hk,ha]
end
theorem Qii(w:World):Calls prog 33 #[.pointer none] w fun e w'=>e = .returned (.tuple #[.int .u64 0,.int .i64 200])∧Below w.heap.size w w':=by
 have HW:Hid (∀W f,Calls prog 72 #[.pointer none,f] W fun e w'=>e = .returned (.tuple #[.int .u64 0,.int .i64 200])∧W=w'):=fun W f=>(QgF W f).mono fun e w' z=>⟨z.1,z.2.symm⟩
 have u1:=bal (Lb w.heap.size w) (.cells #[.pointer none] 27)
 go_enter func33,ntmps33
 go_wp2_with (go_at_call 72;(with_reducible refine(HW.out _ _).mono ?_);rintro e w2 ⟨rfl,rfl⟩)
 go_ret2
 exact⟨rfl,u1⟩
theorem Qo3{k c:Nat} : ∀(L:LB),(∀s∈L,s.size<=c)->(St.bA k (itL k L)).a.length<=(c+8)*L.length:=by
 intro L;refine St.U6 (P:=fun L=>(∀s∈L,s.size<=c)->(St.bA k (itL k L)).a.length<=(c+8)*L.length) (fun _=>by simp[itL,St.bA,St.BV.z]) (fun L x ih h => ?_) L
 have h1:=ih fun y hy=>h y (Ig _ hy)
 have h2:=h x (by simp)
 rw[Qew,St.Yl]
 show((St.bA k (itL k L)).a++St.Rc.pay x.data.toList).length<=_
 rw[Lc,St.Rc.pay_len,Lc,LF,NP,L8];have:x.data.toList.length=x.size:=by simp
 omega
theorem Qj2{k c:Nat}(h1:1<=k)(h2:k<=32)(hc:c<=1048576){L:LB}(hf:L.length<=65536)(hs : ∀s∈L,s.size<=c):(St.bA k (itL k L)).a.length+(St.bA k (itL k L)).b.length+(St.bA k (itL k L)).m.length<=(c+152)*L.length:=by
 have l:=(Qao h1 h2 hf (fun s h=>Lu (hs s h) hc)).lens
 have a:=Qo3 (k:=k) L hs;have n:=St.Od L.length;have b:=l.b;have m:=l.m;rw[JP] at b m;rw[LL] at a ⊢;omega
theorem a_qt{k R:Nat}{L:LB}{x:BA}{D:St.DV}(h1:1<=k)(h2:k<=32)(hf:L.length<65536)(hs : ∀s∈L++[x],s.size<=1048576)(hq:St.Qt R D)(he:St.Ext k (itL k L) D.L)(hR:(St.bA k (itL k (L++[x]))).a.length+(St.bA k (itL k (L++[x]))).b.length+(St.bA k (itL k (L++[x]))).m.length<=R)(hz:R<=268435456) :
  ∃D',aD D (St.sA k (itL k L)) L x=(D',St.sA k (itL k (L++[x])),L++[x],0)∧St.Qt R D'∧St.Ext k (itL k (L++[x])) D'.L∧D'.acts=D.acts+6:=by
 have xB:=Qao h1 h2 (L:=L++[x]) (by rw[Lc,LF];omega) hs
 have xA:=Qao h1 h2 (L:=L) (by omega) (fun s h=>hs s (Ig _ h))
 rw[Qew] at xB hR ⊢;obtain⟨D',y1,y2,y3,y4⟩:=St.QnL xB hq he hR hz;refine⟨D',?_,y2,y3,y4⟩
 have he:(St.sA k (itL k L)).ends.length=L.length:=by
  show(St.bA k (itL k L)).ends.length=_
  rw[xA.lens.ends,JP]
 rw[a_of (hs x (by simp)) (by omega) rfl y1,Lk rfl]
def Dw(w W:World)(p:Nat)(D:St.DV):Prop := ∃Sd,St.Dsk W p Sd D∧(∀b,Sd b->w.heap.size<=b)∧Below w.heap.size w W
def Nl(w W:World)(a p:Nat)(D:St.DV)(S:St.SV)(L:LB):Prop := ∃U,Lg W 0 a p U D S L∧(∀b,U b->w.heap.size<=b)∧Below w.heap.size w W
section
variable {w W W1:World} {a p:Nat} {D D':St.DV} {S S':St.SV} {L L':LB}
theorem Dw.below(h:Dw w W p D):Below w.heap.size w W:=by obtain⟨_,_,_,hb⟩:=h;exact hb
theorem Nl.below(h:Nl w W a p D S L):Below w.heap.size w W:=by obtain⟨_,_,_,hb⟩:=h;exact hb
theorem Nl.next(h:Nl w W a p D S L)(hb:Below W.heap.size W W1):Nl w W1 a p D S L:=by
 obtain⟨U,h1,h2,h3⟩:=h;exact⟨U,h1.next hb,h2,Qa h3 hb⟩
theorem Qf3(w:World)(n:Nat)(hn:n<=268435456):Calls prog 10 #[.int .i64 (n:Int)] w fun e w' => ∃p,e = .returned (.pointer (some ⟨p,0,none⟩))∧Dw w w' p (St.YU n) :=
 (St.Qdq w n n (by omega) (by omega)).mono fun e w' z=>by
  obtain⟨p,Sd,z1,z2,z3,z4⟩:=z;exact⟨p,z1,Sd,z2,z3,z4⟩
theorem Dw.base(hb:Below w.heap.size w W)(h:Dw W W1 p D):Dw w W1 p D:=by
 obtain⟨Sd,h1,h2,h3⟩:=h;exact⟨Sd,h1,fun b hb'=>Lu hb.size (h2 b hb'),Qa hb h3⟩
theorem Dw.open(ht:Tb w)(h:Dw w W p D)(hrm:St.Rm 7 D)(k:Int)(hl:loD D k=(D',some (S',L'),0)) :
  Calls prog 11 #[.pointer (some ⟨p,0,none⟩),.int .i64 k] W fun e w' => ∃a,e = .returned (.tuple #[.pointer (some ⟨a,0,none⟩),.int .i64 0])∧Nl w w' a p D' S' L'∧S'.ends.length=L'.length:=by
 obtain⟨Sd,h1,h2,h3⟩:=h;refine(Qas W (ht.next h3) h1 hrm (fun e=>by have:=ht.lt;have:=h2 _ e;omega) k).mono fun e w' z => ?_
 rw[hl] at z;obtain⟨a,U,z1,z2,z3,z4,z5,z6⟩:=z;exact⟨a,z1,⟨U,z2,fun b hb=>(z3 b hb).elim (h2 b) (fun e=>Lu h3.size e),h3.trans (z5.below h3.size h2)⟩,z6⟩
theorem Dw.open_no(ht:Tb w)(h:Dw w W p D)(hrm:St.Rm 7 D)(k:Int)(e0:Int)(hl:loD D k=(D',none,e0)) :
  Calls prog 11 #[.pointer (some ⟨p,0,none⟩),.int .i64 k] W fun e w'=>e = .returned (.tuple #[.pointer none,.int .i64 e0])∧Dw w w' p D':=by
 obtain⟨Sd,h1,h2,h3⟩:=h;refine(Qas W (ht.next h3) h1 hrm (fun e=>by have:=ht.lt;have:=h2 _ e;omega) k).mono fun e w' z => ?_
 rw[hl] at z;obtain⟨z1,xA,z2,z3,z4⟩:=z;exact⟨z1,xA,z2,fun b hb=>(z3 b hb).elim (h2 b) (fun e=>Lu h3.size e),h3.trans (z4.below h3.size h2)⟩
theorem Nl.tb(h:Nl w W a p D S L)(ht:Tb w):Tb W:=ht.next h.below
theorem Nl.append(h:Nl w W a p D S L)(ht:Tb w)(he:S.ends.length=L.length)(hb:Below W.heap.size W W1)(ao:OA)(b len cap:Nat)(xs:LB)(hr:RdS W1 ao b 0 len xs)(hlen:len<=1000000)(n3:0<len->b<w.heap.size∨W.heap.size<=b)(hR:RmA D S L xs)(n:Nat)(e0:Int)(hA:apD D S L xs=(D',S',L',n,e0)) :
  Calls prog 14 #[.pointer (some ⟨a,0,none⟩),.slice ao len cap] W1 fun e w'=>e = .returned (.tuple #[.int .i64 (n:Int),.int .i64 e0])∧Nl w w' a p D' S' L':=by
 have h1:=h.next hb;have xB:=h1.tb ht;obtain⟨U,y1,y2,y3⟩:=h;refine(QaK W1 xB (y1.next hb) he ao b len cap xs hr (by omega) (fun h0 hu => ?_) hR n e0 hA).mono fun e w' z=>⟨z.1,?_⟩
 ·have:=y1.lt hu;have:=y2 b hu
  rcases n3 h0 with e|e <;> omega
 ·obtain⟨U',z1,z2,z3⟩:=z.2;have xA:=Qa y3 hb;exact⟨U',z1,fun c hc=>(z2 c hc).elim (y2 c) (fun e=>Lu xA.size e),xA.trans (z3.below xA.size y2)⟩
theorem Nl.get(h:Nl w W a p D S L)(ht:Tb w)(he:S.ends.length=L.length)(i:Nat)(hi:i<18446744073709551616)(t:BA)(e0:Int)(hg:gtD D S L i=(t,e0)):Calls prog 39 #[.pointer (some ⟨a,0,none⟩),.int .u64 (i:Int)] W fun e w'=>e = .returned (.tuple #[.string t,.int .i64 e0])∧Below W.heap.size W w':=by
 have xA:=h.tb ht;obtain⟨U,y1,y2,y3⟩:=h;exact QbD W xA y1 he i hi t e0 hg
theorem Nl.batch(h:Nl w W a p D S L)(ht:Tb w)(hL:L.length<=5000)(n:Nat)(hn:n<=L.length)(hb:Below W.heap.size W W1)(ao:OA)(b off len c:Nat)(X:List Nat)(hr:RdU W1 ao b off len X)(hbl:0<len->b<w.heap.size∨W.heap.size<=b)(he:Cv.QG n X=0) :
  Calls prog 38 #[.pointer (some ⟨a,0,none⟩),.int .u64 (n:Int),.slice ao len c] W1 fun e w'=>e = .returned (.tuple #[.string ⟨(enc (pvB S.k L n X)).toArray⟩,.int .i64 0])∧Below W1.heap.size W1 w':=by
 have xA:=(h.next hb).tb ht;obtain⟨U,y1,y2,y3⟩:=h;refine QcB W1 xA (y1.next hb) hL n hn ao b off len c X hr (fun h0 e => ?_) he
 have:=y1.lt y1.own;have:=y2 a y1.own
 rcases hbl h0 with e1|e1 <;> omega
end
namespace St
open Rc
theorem Qg8(k R:Nat):Ext k [] (YU R).L∧Qt R (YU R):=⟨⟨rfl,rfl,rfl,fun _ _ _ _=>rfl⟩,rfl,rfl,Ul,rfl⟩
theorem Qhg{R:Nat}{D:DV}(h:Qt R D)(he:Oth D.L)(hR:R<=268435456)(ha:D.acts<=1000000):Rm 7 D:=⟨by omega,by have:=(JZ h.ord he).2;omega,by have:=h.tot;omega⟩
end St
end Go.Proofs.YtoblgjledefdbaaGreatDoor
