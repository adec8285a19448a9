/- Own work. -/
import Derived.Test.YtoblgjledefdbaaGreatDoorQm13
set_option maxRecDepth 100000
set_option maxHeartbeats 2000000
namespace Go.Proofs.YtoblgjledefdbaaGreatDoor
open Go.RowKit
open Go.Proofs.Tryz
namespace St
def JB(X:List UInt8)(N:Nat):List UInt8:=X.take N++List.replicate (N - X.length) 0
theorem QkT(X:List UInt8)(N:Nat):(JB X N).length=N:=by simp[JB];omega
theorem QkU(N:Nat):JB [] N=List.replicate N 0:=by simp[JB]
theorem QiG(X S:List UInt8)(N e c:Nat)(he:min X.length N=e)(hc:min S.length (N - e)=c):(JB X N).take e++S.take c++(JB X N).drop (e+c)=JB (X++S) N:=by
 have h1:(JB X N).take e=X.take N:=by
  rw[JB,Lt (by simp;omega)]
  rw[IE]
  rcases Nat.le_total X.length N with h|h
  ·rw[Lo (by omega),Lo h]
  ·rw[show min e N=N by omega]
 have h2:(JB X N).drop (e+c)=List.replicate (N - (X++S).length) 0:=by
  have hl:(X.take N).length=e:=by simp;omega
  rw[JB,List.drop_append,LZ (by omega),Nd,hl,List.drop_replicate,Lc]
  congr 1
  omega
 have h3:X.take N++S.take c=(X++S).take N:=by
  rw[List.take_append]
  congr 1
  rcases Nat.le_total S.length (N - e) with h|h
  ·rw[Lo (by omega),Lo (by omega)]
  ·rw[show c=N - X.length by omega]
 rw[h1,h2,h3,JB]
theorem QiF(X:List UInt8)(N:Nat)(h:N<=X.length):JB X N=X.take N:=by
 rw[JB,show N - X.length=0 by omega]
 simp
theorem Y5(v:Value)(n:Nat):madeCells #[v] n=Array.replicate n v:=by
 apply Array.ext
 ·simp[size_madeCells]
 ·intro i h1 h2;simp[madeCells,Nat.mod_one]
theorem QmS(w:World)(n:Nat):Rw (w.alloc (.cells (Array.replicate n (Value.int .u8 0)) 5)) (some ⟨w.heap.size,0,none⟩) w.heap.size n (List.replicate n 0):=by
 refine⟨.inr rfl,fun e=>(by cases e),fun _=>⟨_,_,Yq _ _⟩,by simp,fun _ j v hv => ?_,fun _=>Qm w _ _ _ (by simp)⟩
 rw[LX,Lm];have:cY (List.replicate n 0)=List.replicate n (Value.int .u8 0):=by simp[cY]
 rw[this] at hv;rw[<-hv];simp[Array.getElem?_replicate,List.getElem?_replicate]
theorem YT(n:Nat)(hn:n<=140737488355328)(u:World):(Instr.makeSlice 127 (.int .i64 (n:Int)) (.int .i64 (n:Int))).run prog u = .ok (.slice (some ⟨u.heap.size,0,none⟩) n n) (u.alloc (.cells (Array.replicate n (Value.int .u8 0)) 5)):=by
 have:=run_make_row' (P:=prog) 127 5 (.int .u8 0) 1 underlying127 Tryz.infoY rfl .i64 .i64 n (by omega) (by omega) u
 rw[this,Y5]
structure Sy(w:World)(bx gr q:Nat)(va vb:Value)(s:Nat)(ao:OA)(kc:Nat)(ks:List Bool)(f:FV)(i1 N k:Nat)(wr:World):Prop where
 up:Upo (fun x=>x=q) w wr
 box:wr.heap[bx]? = some (.cells #[va,vb,.int .i64 (s:Int)] 129 (0,0))
 row:Rw wr (some ⟨gr,0,none⟩) gr N (JB (sgo ks f i1 k).1 N)
 chs:Chs wr q ao kc ks (sgo ks f i1 k).2
theorem stays_any (w:World) (a:OA) (g n c:Nat) (l:List UInt8) (b:OA) (h m d s:Nat) (l2:List UInt8) (q:Nat) (ao:OA) (kb ko kc:Nat) (ks:List Bool) (i:Nat) (ra:Rw w a g c l) (rb:Rw w b h d l2) (hn:l.length=n) (hm:l2.length=m)
    (hc:Chs w q ao kc ks i) (hk:RdL w ao kb ko ks) (hkl:ks.length<=9223372036854775807) (hn2:n<=1099511627776) (hm2:m<=1099511627776) (P:List UInt8×Nat) (hP:Hid (stay ks ⟨l,l2⟩ i=P)) :
    Calls prog 54 #[.agg #[.slice a n c,.slice b m d,.int .i64 (s:Int)],.pointer (some ⟨q,0,none⟩)] w fun e w' => ∃gr,e = .returned (.slice (some ⟨gr,0,none⟩) P.1.length P.1.length)∧w.heap.size<=gr∧Rw w' (some ⟨gr,0,none⟩) gr P.1.length P.1∧Chs w' q ao kc ks P.2∧Upo (fun x=>x=q) w w':=by
  obtain⟨N,i1,hN⟩ : ∃N i1,slen ks ⟨l,l2⟩ i=(N,i1):=⟨_,_,rfl⟩;obtain⟨r,hr⟩:=Ze (!decide (n=m) && ch ks i)
  have hN2:N=(if r then n else m):=by
    have:=Lw Prod.fst hN;simp only[slen] at this;rw[hn,hm] at this;rw[<-hr,<-this]
    by_cases e:n=m
    · simp[e]
    · simp[e]
  have hq:=hc.lt;have HH:Hid (Rw w a g c l∧Rw w b h d l2∧RdL w ao kb ko ks∧ks.length<=9223372036854775807∧l.length=n∧l2.length=m∧n<=1099511627776∧m<=1099511627776∧q<w.heap.size):=⟨ra,rb,hk,hkl,hn,hm,hn2,hm2,hq⟩;have HN:Hid (slen ks ⟨l,l2⟩ i=(N,i1)∧N=(if r then n else m)):=⟨hN,hN2⟩
  have HG:Hid (∀W,Upo (fun x=>x=q) w W->Rw W a g c l∧Rw W b h d l2∧RdL W ao kb ko ks):=fun W hu=>by
    have ty : ∀ {x:Nat},Ty w x 5->x≠q:=fun {x} hx=>hx.ne ⟨_,_,hc⟩ (by decide)
    exact⟨ra.same fun e=>hu.block g (ra.ty e).lt (ty (ra.ty e)),rb.same fun e=>hu.block h (rb.ty e).lt (ty (rb.ty e)),hk.same fun h0=>hu.block kb (hk.lt h0) (Qjs hc hk h0)⟩
  have HC:Hid (Chs w q ao kc ks i):=hc;have HR:Hid ((!decide (n=m) && ch ks i)=r):=hr
  clear ra rb hk hkl hn hm hn2 hm2 hq hN hN2 hc hr
  go_enter func54,ntmps54
  go_upto_region 2 with (fail)
  obtain⟨w1,hw1⟩:=Ze (w.alloc (.cells #[.slice a n c,.slice b m d,.int .i64 (s:Int)] 129));have k1:w1.heap[w.heap.size]? = some (.cells #[.slice a n c,.slice b m d,.int .i64 (s:Int)] 129 (0,0)):=by rw[<-hw1];exact Yq _ _
  have HB1:Hid (Below w.heap.size w w1∧w1.heap.size=w.heap.size+1):=⟨by rw[<-hw1];exact bal (Lb _ _) _,by rw[<-hw1];simp⟩
  have HC1:Hid (Chs w1 q ao kc ks i):=HC.out.same (HB1.out.1.block q HH.out.2.2.2.2.2.2.2.2);obtain⟨b0,b1,b2⟩:=Qs k1;have K1:Hid (w1.heap[w.heap.size]? = some (.cells #[.slice a n c,.slice b m d,.int .i64 (s:Int)] 129 (0,0))):=k1;rw[hw1];clear hw1 k1
  go_cut [21] from 13 to 20 (fun x wx=>x = .bool r∧Chs wx q ao kc ks i1∧Upo (fun x=>x=q) w1 wx)
  case first =>
    by_cases e:n=m
    · have hr:false=r:=by rw[<-HR.out];simp[e]
      have hi:i=i1:=by have:=Lw Prod.snd HN.out.1;simp only[slen] at this;rw[Lk (by rw[HH.out.2.2.2.2.1,HH.out.2.2.2.2.2.1,e])] at this;exact this
      have e1:((n:Int) != (m:Int))=false:=by simp[e]
      subst hr hi;have e':(n:Int)=(m:Int):=by omega
      clear e;go_wp2
      go_meet
      case rel=>exact⟨rfl,HC1.out,Upo.refl _ _⟩
    · have hr:ch ks i=r:=by rw[<-HR.out];simp[e]
      have hi:i+1=i1:=by have:=Lw Prod.snd HN.out.1;simp only[slen] at this;rw[Le (by rw[HH.out.2.2.2.2.1,HH.out.2.2.2.2.2.1];exact e)] at this;exact this
      have e1:((n:Int) != (m:Int))=true:=by simp;omega
      have HX:=Js w1 q ao kb ko kc ks i HC1.out (HH.out.2.2.1.next HB1.out.1) HH.out.2.2.2.1 r hr;subst hi;clear hr;have e' : ¬(n:Int)=(m:Int):=by omega
      clear e
      go_wp2_with (go_at_call 103;with_reducible refine HX.mono ?_;rintro e w2 ⟨rfl,hc2,hu2⟩)
      go_meet
      case rel=>exact⟨rfl,hc2,hu2⟩
  case rest =>
    obtain⟨rfl,hc2,hu2⟩:=hcut;obtain⟨w2,hw2⟩ : ∃W,W=wc:=⟨_,rfl⟩;subst hw2;have K2:Hid (w2.heap[w.heap.size]? = some (.cells #[.slice a n c,.slice b m d,.int .i64 (s:Int)] 129 (0,0))):=(hu2.block _ (by have:=HB1.out.2;omega) (fun e=>by have:=HH.out.2.2.2.2.2.2.2.2;omega)).trans K1.out
    obtain⟨b0,b1,b2⟩:=Qs K2.out;have HU2:Hid (Upo (fun x=>x=q) w w2∧Chs w2 q ao kc ks i1∧w.heap.size+1<=w2.heap.size):=⟨(Upo.of HB1.out.1).trans hu2 (fun _ _ q=>q),hc2,by have:=hu2.size;have:=HB1.out.2;omega⟩
    clear hc2 hu2 HC1 HC HR K1 HB1
    go_upto_if 21 with (fail)
    go_cut [5] from 22 to 24 (fun x wx=>x = .int .i64 (N:Int)∧w2=wx)
    case first =>
      cases r
      · have e:N=m:=by simpa using HN.out.2
        subst e;go_wp2
        go_meet
        case rel=>exact⟨rfl,rfl⟩
      · have e:N=n:=by simpa using HN.out.2
        subst e;go_wp2
        go_meet
        case rel=>exact⟨rfl,rfl⟩
    case rest =>
      obtain⟨rfl,rfl⟩:=hcut;have hNle:N<=1099511627776:=by
        have:=HN.out.2;have h1:=HH.out.2.2.2.2.2.2.1;have h2:=HH.out.2.2.2.2.2.2.2.1
        cases r
        · simp at this;omega
        · simp at this;omega
      have hmk:=YT N (by omega)
      have HN3:Hid (N<=1099511627776):=hNle;clear hNle
      go_upto_region 5 with (fail)
      obtain⟨w3,hw3⟩:=Ze (w2.alloc (.cells (Array.replicate N (Value.int .u8 0)) 5));have S0:Sy w w.heap.size w2.heap.size q (.slice a n c) (.slice b m d) s ao kc ks ⟨l,l2⟩ i1 N 0 w3:=by
        rw[<-hw3];refine⟨HU2.out.1.alloc _,((MapKept.heap_alloc _ _).2 _ (by have:=HU2.out.2.2;omega)).trans K2.out,?_,HU2.out.2.1.same ((MapKept.heap_alloc _ _).2 _ HU2.out.2.1.lt)⟩
        have:=QmS w2 N
        simpa [sgo,QkU] using this
      rw[hw3];clear hw3 K2;have HS0:Hid (Sy w w.heap.size w2.heap.size q (.slice a n c) (.slice b m d) s ao kc ks ⟨l,l2⟩ i1 N 0 w3∧w.heap.size+1<=w2.heap.size):=⟨S0,HU2.out.2.2⟩;clear S0 HU2 b0 b1 b2 hmk;obtain⟨NS,hNS⟩:=Ze (nsec ⟨l,l2⟩);have HNS:Hid (nsec ⟨l,l2⟩=NS):=hNS;clear hNS;go_wp2
      go_loopg [7] NS (fun gg x wr => ∃k:Nat,k<=NS∧gg=NS - k∧x = .int .i64 ((64*k:Nat):Int)∧Sy w w.heap.size w2.heap.size q (.slice a n c) (.slice b m d) s ao kc ks ⟨l,l2⟩ i1 N k wr)
      case atStart=>exact⟨0,Ll _,rfl,rfl,HS0.out.1⟩
      case round =>
        obtain⟨k,hk,rfl,rfl,hS⟩:=hrel;obtain⟨M,hM⟩:=Ze (max n m);have hNS:(M+63) / 64=NS:=by rw[<-HNS.out,nsec];show _=(max l.length l2.length+63) / 64;rw[HH.out.2.2.2.2.1,HH.out.2.2.2.2.2.1,hM]
        have hm1:(if n<m then (m:Int) else (n:Int))=(M:Int):=by split <;> omega
        obtain⟨kk,hkk⟩:=Ze (64*k);have HKK:Hid (64*k=kk):=hkk;rw[hkk];obtain⟨b0,b1,b2⟩:=Qs hS.box;have HS:Hid (Sy w w.heap.size w2.heap.size q (.slice a n c) (.slice b m d) s ao kc ks ⟨l,l2⟩ i1 N k wr):=hS;clear hS
        by_cases hlt:k<NS
        · have hc1:(kk:Int)<(M:Int):=by omega
          have HM:Hid (max n m=M∧k<NS∧(M+63) / 64=NS):=⟨hM,hlt,hNS⟩;clear hkk hM hNS hlt hk
          go_upto_region 8 with (fail)
          rename_i K8 hK8
          obtain⟨A,hA⟩:=Ze (sec l k);obtain⟨B,hB⟩:=Ze (sec l2 k);have HAB:Hid (sec l k=A∧sec l2 k=B∧A.length=64∧B.length=64):=⟨hA,hB,by rw[<-hA];exact U9 _ _,by rw[<-hB];exact U9 _ _⟩
          have HA:Hid (∀W,Below wr.heap.size wr W->Calls prog 104 #[.slice a n c,.int .i64 (kk:Int)] W fun e w'=>e = .returned (sv A)∧Below W.heap.size W w'):=fun W hb=>by
            have:=QbY W a g n c k l (HG.out W (HS.out.up.next hb)).1 HH.out.2.2.2.2.1;rw[HKK.out,hA] at this;exact this
          have HB:Hid (∀W,Below wr.heap.size wr W->Calls prog 104 #[.slice b m d,.int .i64 (kk:Int)] W fun e w'=>e = .returned (sv B)∧Below W.heap.size W w'):=fun W hb=>by
            have:=QbY W b h m d k l2 (HG.out W (HS.out.up.next hb)).2.1 HH.out.2.2.2.2.2.1;rw[HKK.out,hB] at this;exact this
          clear hA hB;have HBx:Hid (∀W,Below wr.heap.size wr W->W.cell? ⟨w.heap.size,0,none⟩=some (.slice a n c)∧W.cell? ⟨w.heap.size,1,none⟩=some (.slice b m d)):=fun W hb=>by
            have:=Qs ((hb.block _ (Array.getElem?_eq_some_iff.1 HS.out.box).1).trans HS.out.box)
            exact⟨this.1,this.2.1⟩
          clear b0 b1 b2 hc1 hm1;refine QmN (by kernel_rfl) (by kernel_rfl) (fun j=>match j with|0 => .pointer (some ⟨w.heap.size,0,none⟩)|1 => .slice a n c|2 => .int .i64 (kk:Int)|3=>sv A|4 => .pointer (some ⟨w.heap.size,1,none⟩)|5 => .slice b m d|6 => .int .i64 (kk:Int)|7=>sv B|_=>undef) A B
            ⟨Qfb (bx:=w.heap.size) (k:=0) (j:=0) (by omega) rfl (by omega) rfl,Qhn (bx:=w.heap.size) (k:=0) (i:=0) (j:=1) (v := .slice a n c) (by omega) (by omega) rfl rfl rfl (fun W hb=>(HBx.out W hb).1) n c a rfl _ rfl,Qho (j:=2) (n:=(kk:Int)) (by omega) rfl rfl,
             Qhm (j:=3) (i:=1) (k:=2) (v := .slice a n c) (u := .int .i64 (kk:Int)) (l:=A) (by omega) (by omega) (by omega) rfl rfl rfl rfl rfl HA.out _ _ rfl rfl,Qfb (bx:=w.heap.size) (k:=1) (j:=4) (by omega) rfl (by omega) rfl,Qhn (bx:=w.heap.size) (k:=1) (i:=4) (j:=5) (v := .slice b m d) (by omega) (by omega) rfl rfl rfl (fun W hb=>(HBx.out W hb).2) m d b rfl _ rfl,Qho (j:=6) (n:=(kk:Int)) (by omega) rfl rfl,
             Qhm (j:=7) (i:=5) (k:=6) (v := .slice b m d) (u := .int .i64 (kk:Int)) (l:=B) (by omega) (by omega) (by omega) rfl rfl rfl rfl rfl HB.out _ _ rfl rfl,Qoz rfl,QoA rfl,QmX HAB.out.2.2.1 rfl rfl rfl,QmY HAB.out.2.2.2 rfl rfl rfl,trivial⟩ rfl rfl ?_
          intro p8 p9 w8 x8 x9 g8 g9 hne hb8;simp only[UT]
          go_simp
          refine hK8 _ _ ?_
          clear hK8;obtain⟨j,hj⟩:=Ze ((sgo ks ⟨l,l2⟩ i1 k).2);obtain⟨r9,hr9⟩:=Ze (!decide (A=B) && ch ks j)
          have HJ:Hid ((sgo ks ⟨l,l2⟩ i1 k).2=j∧(!decide (A=B) && ch ks j)=r9):=⟨hj,hr9⟩
          have HU8:Hid (Upo (fun x=>x=q) w w8):=HS.out.up.next hb8
          have HC8:Hid (Chs w8 q ao kc ks j):=by have:=HS.out.chs;rw[hj] at this;exact this.same (hb8.block q this.lt)
          have HX8:Hid (Sx w8 p8 A∧Sx w8 p9 B∧wr.heap.size<=p8∧wr.heap.size<=p9∧p8≠p9∧Below wr.heap.size wr w8):=⟨x8,x9,g8,g9,hne,hb8⟩;obtain⟨j2,hj2⟩:=Ze (if A=B then j else j+1)
          have HJ2:Hid ((if A=B then j else j+1)=j2):=hj2
          clear hj hr9 hj2 g8 g9 hne hb8 HA HB HBx
          go_upto_region 9 with (fail)
          go_cut [52] from 27 to 51 (fun x wx=>x = .bool r9∧Chs wx q ao kc ks j2∧Upo (fun x=>x=q) w8 wx)
          case first =>
            by_cases e:A=B
            · have hr:false=r9:=by rw[<-HJ.out.2];simp[e]
              have hi:j=j2:=by rw[<-HJ2.out,Lk e]
              subst hr hi;have e9:decide (A=B) = !false:=by simp[e]
              clear e
              go_wp2_with (first
                | (refine QQ (by rfl) _ (by rfl) p8 A (by rfl) x8 ?_)
                | (refine QQ (by rfl) _ (by rfl) p9 B (by rfl) x9 ?_)
                | (refine JH (by rfl) _ _ (by rfl) A B (by rfl) (by rfl) HAB.out.2.2.1 HAB.out.2.2.2 false e9 ?_))
              go_meet
              case rel=>exact⟨rfl,HC8.out,Upo.refl _ _⟩
            · have hr:ch ks j=r9:=by rw[<-HJ.out.2];simp[e]
              have hi:j+1=j2:=by rw[<-HJ2.out,Le e]
              have HX:=Js w8 q ao kb ko kc ks j HC8.out (HG.out w8 HU8.out).2.2 HH.out.2.2.2.1 r9 hr;subst hi;clear hr;have e9:decide (A=B) = !true:=by simp[e]
              clear e
              go_wp2_with (first
                | (refine QQ (by rfl) _ (by rfl) p8 A (by rfl) x8 ?_)
                | (refine QQ (by rfl) _ (by rfl) p9 B (by rfl) x9 ?_)
                | (refine JH (by rfl) _ _ (by rfl) A B (by rfl) (by rfl) HAB.out.2.2.1 HAB.out.2.2.2 true e9 ?_)
                | (go_at_call 103;with_reducible refine HX.mono ?_;rintro e w9 ⟨rfl,hc9,hu9⟩))
              go_meet
              case rel=>exact⟨rfl,hc9,hu9⟩
          case rest =>
            obtain⟨rfl,hc9,hu9⟩:=hcut;obtain⟨w9,hw9⟩ : ∃W,W=wc:=⟨_,rfl⟩;subst hw9;have hq:q<wr.heap.size:=by have:=HH.out.2.2.2.2.2.2.2.2;have:=HS.out.up.size;omega
            have y8:Sx w9 p8 A:=x8.same (hu9.block p8 x8.ty.lt (fun e=>by have:=HX8.out.2.2.1;omega))
            have y9:Sx w9 p9 B:=x9.same (hu9.block p9 x9.ty.lt (fun e=>by have:=HX8.out.2.2.2.1;omega))
            obtain⟨S,hS⟩:=Ze (if r9 then A else B)
            have HSS:Hid ((if r9 then A else B)=S):=hS
            have HC9:Hid (Chs w9 q ao kc ks j2∧Upo (fun x=>x=q) w8 w9∧q<wr.heap.size):=⟨hc9,hu9,hq⟩
            clear hS hc9 hu9 hq x8 x9
            go_upto_if 52 with (fail)
            go_cut [53] from 54 to 54 (fun x wx=>Sx wx p9 S∧Upo (fun x=>x=p9) w9 wx)
            case first =>
              cases r9
              · have e:B=S:=by simpa using HSS.out
                subst e;go_wp2
                go_meet
                case rel=>exact⟨y9,Upo.refl _ _⟩
              · have e:A=S:=by simpa using HSS.out
                subst e
                go_wp2_with (first
                  | (refine QQ (by rfl) _ (by rfl) p8 A (by rfl) y8 ?_)
                  | (refine Y0 (by rfl) _ _ (by rfl) p9 B A (by rfl) (by rfl) y9 HAB.out.2.2.1 ?_;intro w10 y10 hu10 hz10))
                go_meet
                case rel=>exact⟨y10,hu10⟩
            case rest =>
              obtain⟨y10,hu10⟩:=hcut;obtain⟨w10,hw10⟩ : ∃W,W=wc:=⟨_,rfl⟩;subst hw10;obtain⟨X,hX⟩:=Ze ((sgo ks ⟨l,l2⟩ i1 k).1);have hXl:X.length=kk:=by rw[<-hX,Qa4,HKK.out]
              obtain⟨e,he⟩:=Ze (min kk N);have he1:(0:Int)<=(e:Int):=by omega
              have he2:(e:Int)<=(N:Int):=by omega
              have hmin:(if N<kk then (N:Int) else (kk:Int))=(e:Int):=by split <;> omega
              obtain⟨c0,hc0⟩:=Ze (Nat.min 64 (N - e));have hc0':min 64 (N - e)=c0:=hc0;have HGR:Hid (w2.heap.size≠q∧w2.heap.size≠p8∧w2.heap.size≠p9∧w.heap.size≠p9):=by
                have h1:=HS0.out.2;have h2:=HH.out.2.2.2.2.2.2.2.2;have h3:=(HS.out.row.ty rfl).lt;have h4:=(Array.getElem?_eq_some_iff.1 HS.out.box).1
                have h5:=HX8.out.2.2.1;have h6:=HX8.out.2.2.2.1;exact⟨by omega,by omega,by omega,by omega⟩
              have keep : ∀x,x<wr.heap.size->x≠q->w10.heap[x]? = wr.heap[x]? := fun x hx hxq=>by
                obtain⟨_,_,h5,h6,_,hb8⟩:=HX8.out;have hu9:=HC9.out.2.1;exact(hu10.block x (by have:=hb8.size;have:=hu9.size;omega) (fun e=>by omega)).trans ((hu9.block x (by have:=hb8.size;omega) hxq).trans (hb8.block x hx))
              have r10:Rw w10.drew (some ⟨w2.heap.size,0,none⟩) w2.heap.size N (JB X N):=by
                have:=HS.out.row;rw[hX] at this;exact this.same (W:=w10.drew) fun _=>keep _ (this.ty rfl).lt HGR.out.1
              have y10':Sx w10.drew p9 S:=y10.same (W:=w10.drew) rfl;obtain⟨ax,hx⟩:=Ze (if N=e then some (⟨w2.heap.size,0,none⟩:Addr) else some (⟨w2.heap.size,e,none⟩:Addr))
              have hfirst:(Builtin.firstCells 1 c0 (.slice (some ⟨p9,0,none⟩) 64 64)).run prog w10.drew = .ok (cY (S.take c0)).toArray w10.drew:=by
                have hl:=y10'.len;refine run_firstCells_some w10.drew 1 c0 _ 64 64 (cY (S.take c0)) (by rw[Qp];simp;omega) (fun t u hu => ?_)
                rw[Addr.add_mid];refine y10'.rng t u ?_
                rw[cY,NO,LQ] at hu
                split at hu
                · exact hu
                · cases hu
              have HC:=O4 w10.drew 3 127 (d:=ax) (gd:=w2.heap.size) (od:=e) (dLen:=N - e) (dCap:=N - e) (x := .slice (some ⟨p9,0,none⟩) 64 64) (t:=S.take c0) (fun w'=>rfl) hc0 (by have:=y10'.len;simp;omega) hfirst
                (fun h0=>⟨by rw[<-hx,Le (by omega)],fun t ht=>by
                  have:=r10.thr rfl (e+t) (by omega)
                  rwa [Lm] at this⟩)
              have HNX:Hid (Sy w w.heap.size w2.heap.size q (.slice a n c) (.slice b m d) s ao kc ks ⟨l,l2⟩ i1 N (k+1) (w10.drew.setCells w2.heap.size e (cY (S.take c0)))):=by
                have hl:=y10'.len;have hsg:sgo ks ⟨l,l2⟩ i1 (k+1)=(X++S,j2):=by
                  obtain⟨hA,hB,_,_⟩:=HAB.out;simp only[sgo];rw[hA,hB,hX,HJ.out.1,<-HSS.out,<-HJ.out.2,<-HJ2.out]
                  by_cases eab:A=B
                  · simp[eab]
                  · simp[eab]
                have hu:Upo (fun x=>x=q∨x=w2.heap.size) wr (w10.drew.setCells w2.heap.size e (cY (S.take c0))):=by
                  obtain⟨_,_,h5,h6,_,hb8⟩:=HX8.out;have hu9:=HC9.out.2.1;refine Ub (.inl (.inr rfl)) _ _ _ (Upo.drew ⟨hu10.os.trans (hu9.os.trans hb8.os),hu10.tape.trans (hu9.tape.trans hb8.tape),hu10.output.trans (hu9.output.trans hb8.output),by have:=hb8.size;have:=hu9.size;have:=hu10.size;omega,fun x hx hn=>keep x hx (fun e=>hn (.inl e))⟩)
                have h0:=HS0.out.2;have hgr:=HGR.out;refine⟨HS.out.up.trans hu (fun x hx hq=>hq.resolve_right (by omega)),(hu.block _ (Array.getElem?_eq_some_iff.1 HS.out.box).1 (fun e=>by have:=HH.out.2.2.2.2.2.2.2.2;rcases e with e|e <;> omega)).trans HS.out.box,?_,?_⟩
                · rw[hsg];have:=r10.over e (S.take c0) (by rw[QkT];simp;omega)
                  have hlc:(S.take c0).length=c0:=by simp;omega
                  rw[hlc,QiG X S N e c0 (by rw[hXl];exact he) (by rw[hl];exact hc0')] at this
                  exact this
                · rw[hsg];have hch:=HC9.out.1;refine hch.same ?_
                  refine((Ub (S:=fun x=>x=w2.heap.size) (.inl rfl) _ _ _ (Upo.refl _ w10.drew)).block q ?_ (fun e=>hgr.1 e.symm)).trans (hu10.block q hch.lt (fun e=>by have:=HX8.out.2.2.2.1;have:=HC9.out.2.2;omega))
                  have:=hu10.size;have:=hch.lt
                  show q<w10.heap.size
                  omega
              have hkk:IntKind.i64.wrap ((kk:Int)+64)=((64*(k+1):Nat):Int):=by
                have h1:=HM.out;have h2:=HH.out.2.2.2.2.2.2.1;have h3:=HH.out.2.2.2.2.2.2.2.1;have h4:=HKK.out;rw[Lr];omega
              have HF:Hid (k<NS):=HM.out.2.1;clear hXl he hc0 hc0' keep r10 y10' hfirst y10 hu10 HX8 HC9 HGR HJ HJ2 HAB HSS HS HU8 HC8 y8 y9 hX
              go_upto_region 11 with (fail)
              go_region_law (first
                | (refine QcU (by rfl) _ _ _ _ (by rfl) (by rfl) (by rfl) HC ?_))
              all_goals
                obtain⟨w11,hw11⟩:=Ze (w10.drew.setCells w2.heap.size e (cY (S.take c0)));rw[hw11] at HNX ⊢;clear hw11 HC hx;go_wp2
                go_roundg (NS - (k+1))
                case rel=>go_light;exact⟨k+1,by have:=HF.out;omega,rfl,by go_num,HNX.out⟩
                case measure=>go_light;have:=HF.out;omega
        · have hc1 : ¬((kk:Int)<(M:Int)):=by omega
          obtain rfl:k=NS:=by omega
          have HP:Hid (P.1.length=N∧JB (sgo ks ⟨l,l2⟩ i1 k).1 N=P.1∧(sgo ks ⟨l,l2⟩ i1 k).2=P.2):=by
            have e1:=hP.out;simp only[stay,HN.out.1,HNS.out] at e1;have hNM:N<=64*k:=by
              have:=HN.out.2
              cases r
              · simp at this;omega
              · simp at this;omega
            have e2:P.1=(sgo ks ⟨l,l2⟩ i1 k).1.take N:=by rw[<-e1]
            refine⟨by rw[e2,Lz,Qa4];omega,by rw[QiF _ _ (by rw[Qa4];exact hNM),e2],by rw[<-e1]⟩
          clear hkk hM hNS hlt hk;go_wp2
          go_ret
          obtain⟨e1,e2,e3⟩:=HP.out;refine⟨w2.heap.size,by rw[e1];rfl,by have:=HS0.out.2;omega,?_,?_,HS.out.up⟩
          · rw[e1,<-e2];exact HS.out.row
          · rw[<-e3];exact HS.out.chs
end St
end Go.Proofs.YtoblgjledefdbaaGreatDoor
