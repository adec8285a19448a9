/- Own work. -/
import Derived.Test.YtdocjikpcbmcgaaGreatDoorQj25
set_option maxRecDepth 100000
set_option maxHeartbeats 4000000
namespace Go.Proofs.YtdocjikpcbmcgaaGreatDoor
open Go.RowKit
attribute [local go_sem ↓] Go.wp_at_zero Go.wp_at_succ
namespace Cv
open Pl
theorem QeV{lo hi H K:Nat}(h1:lo<=K*pw H)(h2:(K+1)*pw H<=hi):tin lo hi H K=[(H,K)]:=by
 cases H with
 | zero=>rw[tin,if_pos ⟨h1,h2⟩]
 | succ H=>rw[tin,if_pos ⟨h1,h2⟩]
theorem QdP{lo hi H K:Nat}(h : ¬(lo<=K*pw H∧(K+1)*pw H<=hi))(h2:(K+1)*pw H<=lo∨hi<=K*pw H):tin lo hi H K=[]:=by
 cases H with
 | zero=>rw[tin,if_neg h]
 | succ H=>rw[tin,if_neg h,if_pos h2]
theorem Qlt{lo hi H K:Nat}(h : ¬(lo<=K*pw (H+1)∧(K+1)*pw (H+1)<=hi))(h2 : ¬((K+1)*pw (H+1)<=lo∨hi<=K*pw (H+1))):tin lo hi (H+1) K=tin lo hi H (2*K)++tin lo hi H (2*K+1):=by
 rw[tin,if_neg h,if_neg h2]
theorem QdI(lo hi h K:Nat)(w:World)(h0:h=0)(hK:K<pw (40 - h)) :
  Calls Tryz.prog 87 #[bv h K,.int .u64 (lo:Int),.int .u64 (hi:Int)] w fun e w' => ∃v,e = .returned v∧Qz w' w.heap.size v (zl (tin lo hi h K))∧Zb w w':=by
 have HS:=fun w'=>QcS h K w' (by omega) hK
 have e0:pw h=1:=by rw[h0];rfl
 obtain⟨x,hx⟩:=Ze (K*pw h);obtain⟨y,hy⟩:=Ze ((K+1)*pw h);rw[hx,hy] at HS;have hxy:y=x+1:=by rw[e0] at hx hy;omega
 have T:=QdT w (h:Int) K 83
 by_cases c1:lo<=x
 ·have c1':(lo:Int)<=(x:Int):=by omega
  by_cases c2:y<=hi
  ·have c2':(y:Int)<=(hi:Int):=by omega
   have HT:Hid (tin lo hi h K=[(h,K)]):=QeV (by rw[hx];exact c1) (by rw[hy];exact c2)
   clear hx hy hxy e0 h0 hK
   go_enter Tryz.func87,Tryz.ntmps87
   go_wp2_with (go_at_call 141;with_reducible refine(HS _).mono ?_;rintro e w1 ⟨rfl,hb1⟩;obtain⟨t0,t1⟩:=T.below hb1)
   go_ret
   rw[HT.out];exact⟨_,rfl,Qgg w1 w.heap.size _ [((h:Int),K)] rfl (by have:=hb1.size;simp at this;omega) (by simp),bal (YA hb1) _⟩
  ·have c2' : ¬(y:Int)<=(hi:Int):=by omega
   have c3' : ¬(y:Int)<=(lo:Int):=by omega
   have c4':(hi:Int)<=(x:Int):=by omega
   have c3 : ¬y<=lo:=by omega
   have c4:hi<=x:=by omega
   have HT:Hid (tin lo hi h K=[]):=QdP (by rw[hx,hy];omega) (by rw[hx,hy];omega)
   clear hx hy hxy e0 h0 hK
   go_enter Tryz.func87,Tryz.ntmps87
   go_wp2_with (go_at_call 141;with_reducible refine(HS _).mono ?_;rintro e w1 ⟨rfl,hb1⟩;obtain⟨t0,t1⟩:=T.below hb1)
   go_ret
   rw[HT.out];exact⟨_,rfl,Lz _ _ _ _,YA hb1⟩
 ·have c1' : ¬(lo:Int)<=(x:Int):=by omega
  have c3':(y:Int)<=(lo:Int):=by omega
  have c3:y<=lo:=by omega
  have HT:Hid (tin lo hi h K=[]):=QdP (by rw[hx,hy];omega) (by rw[hx,hy];omega)
  clear hx hy hxy e0 h0 hK
  go_enter Tryz.func87,Tryz.ntmps87
  go_wp2_with (go_at_call 141;with_reducible refine(HS _).mono ?_;rintro e w1 ⟨rfl,hb1⟩;obtain⟨t0,t1⟩:=T.below hb1)
  go_ret
  rw[HT.out];exact⟨_,rfl,Lz _ _ _ _,YA hb1⟩
theorem QeN(lo hi:Nat) : ∀(H K:Nat) (w:World),H<=40->K<pw (40 - H) ->
  Calls Tryz.prog 87 #[bv H K,.int .u64 (lo:Int),.int .u64 (hi:Int)] w fun e w' => ∃v,e = .returned v∧Qz w' w.heap.size v (zl (tin lo hi H K))∧Zb w w':=by
 intro H
 induction H with
 | zero=>intro K w _ hK;exact QdI lo hi 0 K w rfl hK
 | succ H ih =>
  intro K w hH hK;have HS:=fun w'=>QcS (H+1) K w' hH hK
  obtain⟨x,hx⟩:=Ze (K*pw (H+1));obtain⟨y,hy⟩:=Ze ((K+1)*pw (H+1));have hxy:x<y:=by rw[<-hx,<-hy];exact Yr _ _
  rw[hx,hy] at HS;have T:=QdT w ((H+1:Nat):Int) K 83;have hKK:=QkI (h:=H) (k:=K) (by omega) hK
  have hbig:=Qgd hK;have I1:=fun w'=>ih (2*K) w' (by omega) (by omega)
  have I2:=fun w'=>ih (2*K+1) w' (by omega) hKK
  have l1:=Qbg lo hi H (2*K);have l2:=Qbg lo hi H (2*K+1);have hp40:pw H<=pw 40:=JV (by omega)
  have e40:pw 40=2^40:=rfl;have HZ:Hid ((zl (tin lo hi H (2*K))).length+(zl (tin lo hi H (2*K+1))).length<=2199023255552):=by
   show _<=_
   rw[Qq,Qq];omega
  have htwo:=Qlt (lo:=lo) (hi:=hi) (H:=H) (K:=K);have hhere:=QeV (lo:=lo) (hi:=hi) (H:=H+1) (K:=K);have hout:=QdP (lo:=lo) (hi:=hi) (H:=H+1) (K:=K);rw[hx,hy] at htwo hhere hout;obtain⟨h,hh⟩:=Ze (H+1);rw[hh] at HS T htwo hhere hout ⊢;obtain⟨p,hp⟩:=Ze (2*K);obtain⟨q,hq⟩:=Ze (p+1);rw[hp] at I1 I2 HZ htwo;rw[hq] at I2 HZ htwo;have eh:IntKind.i64.wrap ((h:Int) - 1)=(H:Int):=by rw[LW];omega
  have ep:IntKind.u64.wrap (2*(K:Int))=(p:Int):=by rw[IntKind.wrap_u64];omega
  have eq:IntKind.u64.wrap ((p:Int)+1)=(q:Int):=by rw[IntKind.wrap_u64];omega
  have key : ∀(b1 b2 b3 b4:Bool),True:=fun _ _ _ _=>trivial
  clear key l1 l2 hp40 e40 hh hp hq hbig hKK hx hy hH hK ih
  by_cases c1:lo<=x
  ·have c1':(lo:Int)<=(x:Int):=by omega
   by_cases c2:y<=hi
   ·have c2':(y:Int)<=(hi:Int):=by omega
    have HT:Hid (tin lo hi h K=[(h,K)]):=hhere c1 c2;clear htwo hhere hout hxy I1 I2
    go_enter Tryz.func87,Tryz.ntmps87
    go_wp2_with (go_at_call 141;with_reducible refine(HS _).mono ?_;rintro e w1 ⟨rfl,hb1⟩;obtain⟨t0,t1⟩:=T.below hb1)
    go_ret
    rw[HT.out];exact⟨_,rfl,Qgg w1 w.heap.size _ [((h:Int),K)] rfl (by have:=hb1.size;simp at this;omega) (by simp),bal (YA hb1) _⟩
   ·have c2' : ¬(y:Int)<=(hi:Int):=by omega
    have c3' : ¬(y:Int)<=(lo:Int):=by omega
    have c3 : ¬y<=lo:=by omega
    by_cases c4:hi<=x
    ·have c4':(hi:Int)<=(x:Int):=by omega
     have HT:Hid (tin lo hi h K=[]):=hout (fun h=>c2 h.2) (.inr c4)
     clear htwo hhere hout hxy I1 I2
     go_enter Tryz.func87,Tryz.ntmps87
     go_wp2_with (go_at_call 141;with_reducible refine(HS _).mono ?_;rintro e w1 ⟨rfl,hb1⟩;obtain⟨t0,t1⟩:=T.below hb1)
     go_ret
     rw[HT.out];exact⟨_,rfl,Lz _ _ _ _,YA hb1⟩
    ·have c4' : ¬(hi:Int)<=(x:Int):=by omega
     have HT:Hid (tin lo hi h K=tin lo hi H p++tin lo hi H q):=htwo (fun h=>c2 h.2) (fun h=>h.elim c3 c4)
     clear htwo hhere hout hxy
     go_enter Tryz.func87,Tryz.ntmps87
     go_upto_region 8 with (first
      | (go_at_call 141;with_reducible refine(HS _).mono ?_;rintro e w1 ⟨rfl,hb1⟩;obtain⟨t0,t1⟩:=T.below hb1)
      | (go_at_call 87;with_reducible refine(I1 _).mono ?_;rintro e w2 ⟨v2,rfl,o2,hb2⟩;clear t0 t1;obtain⟨t0,t1⟩:=(T.below hb1).below hb2)
      | (go_at_call 87;with_reducible refine(I2 _).mono ?_;rintro e w3 ⟨v3,rfl,o3,hb3⟩))
     have o23:=(YP o2 hb3).mono (base':=w.heap.size) (by have:=hb1.size;simp at this;omega)
     have hb:=Qa (Qa (YA hb1) hb2) hb3;clear o2 hb1 hb2 hb3 I1 I2 HS t0 t1 T
     go_wp2_with (at_builtin;refine JA _ rfl _ _ rfl w.heap.size v2 (zl (tin lo hi H p)) rfl o23 v3 (zl (tin lo hi H q)) rfl (Uo o3) HZ.out hb.size ?_)
     intro v' w4 r1 r2;have R:=UB hb hb.size o23 r2;go_wp2
     go_ret
     rw[HT.out,YL];exact⟨_,rfl,r1,R.1⟩
  ·have c1' : ¬(lo:Int)<=(x:Int):=by omega
   by_cases c3:y<=lo
   ·have c3':(y:Int)<=(lo:Int):=by omega
    have HT:Hid (tin lo hi h K=[]):=hout (fun h=>c1 h.1) (.inl c3)
    clear htwo hhere hout hxy I1 I2
    go_enter Tryz.func87,Tryz.ntmps87
    go_wp2_with (go_at_call 141;with_reducible refine(HS _).mono ?_;rintro e w1 ⟨rfl,hb1⟩;obtain⟨t0,t1⟩:=T.below hb1)
    go_ret
    rw[HT.out];exact⟨_,rfl,Lz _ _ _ _,YA hb1⟩
   ·have c3' : ¬(y:Int)<=(lo:Int):=by omega
    by_cases c4:hi<=x
    ·have c4':(hi:Int)<=(x:Int):=by omega
     have HT:Hid (tin lo hi h K=[]):=hout (fun h=>c1 h.1) (.inr c4)
     clear htwo hhere hout hxy I1 I2
     go_enter Tryz.func87,Tryz.ntmps87
     go_wp2_with (go_at_call 141;with_reducible refine(HS _).mono ?_;rintro e w1 ⟨rfl,hb1⟩;obtain⟨t0,t1⟩:=T.below hb1)
     go_ret
     rw[HT.out];exact⟨_,rfl,Lz _ _ _ _,YA hb1⟩
    ·have c4' : ¬(hi:Int)<=(x:Int):=by omega
     have HT:Hid (tin lo hi h K=tin lo hi H p++tin lo hi H q):=htwo (fun h=>c1 h.1) (fun h=>h.elim c3 c4)
     clear htwo hhere hout hxy
     go_enter Tryz.func87,Tryz.ntmps87
     go_upto_region 8 with (first
      | (go_at_call 141;with_reducible refine(HS _).mono ?_;rintro e w1 ⟨rfl,hb1⟩;obtain⟨t0,t1⟩:=T.below hb1)
      | (go_at_call 87;with_reducible refine(I1 _).mono ?_;rintro e w2 ⟨v2,rfl,o2,hb2⟩;clear t0 t1;obtain⟨t0,t1⟩:=(T.below hb1).below hb2)
      | (go_at_call 87;with_reducible refine(I2 _).mono ?_;rintro e w3 ⟨v3,rfl,o3,hb3⟩))
     have o23:=(YP o2 hb3).mono (base':=w.heap.size) (by have:=hb1.size;simp at this;omega)
     have hb:=Qa (Qa (YA hb1) hb2) hb3;clear o2 hb1 hb2 hb3 I1 I2 HS t0 t1 T
     go_wp2_with (at_builtin;refine JA _ rfl _ _ rfl w.heap.size v2 (zl (tin lo hi H p)) rfl o23 v3 (zl (tin lo hi H q)) rfl (Uo o3) HZ.out hb.size ?_)
     intro v' w4 r1 r2;have R:=UB hb hb.size o23 r2;go_wp2
     go_ret
     rw[HT.out,YL];exact⟨_,rfl,r1,R.1⟩
theorem YW(n:Nat)(w:World) :
  Calls Tryz.prog 40 #[.int .u64 (n:Int)] w fun x w' => ∃v,x = .returned (.tuple #[v,.int .i64 (YK 0 n n:Nat)])∧Qz w' w.heap.size v (zl (JC 0 n n))∧Zb w w':=by
 by_cases h:2^40<n
 ·have e:YK 0 n n=30:=by rw[YK,if_pos h]
  have ht:decide ((1099511627776:Int)<(n:Int))=true:=decide_eq_true (by omega)
  rw[JC,e,if_neg (by decide)]
  clear h e
  go_enter Tryz.func40,Tryz.ntmps40;go_wp2
  go_ret2
  exact⟨_,rfl,Lz _ _ _ _,Below.refl _ _⟩
 ·have e:YK 0 n n=0:=by rw[YK,if_neg h,if_neg (by omega),if_neg (by omega)]
  have ht:decide ((1099511627776:Int)<(n:Int))=false:=decide_eq_false (by omega)
  have HM:=fun w'=>QaR n w' (by omega)
  rw[JC,e,if_pos rfl,QH n (by omega)]
  clear h e
  go_enter Tryz.func40,Tryz.ntmps40
  go_wp2_with (go_at_call 86;with_reducible refine(HM _).mono ?_;rintro x w1 ⟨v,rfl,h1,h2⟩)
  go_ret2
  exact⟨_,rfl,h1,h2⟩
theorem QfI(lo hi n e:Nat)(w:World)(he:YK lo hi n=e)(h0:e≠0) :
  Calls Tryz.prog 41 #[.int .u64 (lo:Int),.int .u64 (hi:Int),.int .u64 (n:Int)] w fun x w' => ∃v,x = .returned (.tuple #[v,.int .i64 (e:Int)])∧Qz w' w.heap.size v []∧Zb w w':=by
 unfold YK at he
 by_cases h1:2^40<n
 ·rw[if_pos h1] at he;subst he;have ht:decide ((1099511627776:Int)<(n:Int))=true:=decide_eq_true (by omega)
  clear h0 h1
  go_enter Tryz.func41,Tryz.ntmps41;go_wp2
  go_ret2
  exact⟨_,rfl,Lz _ _ _ _,Below.refl _ _⟩
 ·rw[if_neg h1] at he;have ht:decide ((1099511627776:Int)<(n:Int))=false:=decide_eq_false (by omega)
  by_cases h2:n<hi
  ·rw[if_pos h2] at he;subst he;have ht2:(n:Int)<(hi:Int):=by omega
   clear h0 h1
   go_enter Tryz.func41,Tryz.ntmps41;go_wp2
   go_ret2
   exact⟨_,rfl,Lz _ _ _ _,Below.refl _ _⟩
  ·rw[if_neg h2] at he;have ht2 : ¬(n:Int)<(hi:Int):=by omega
   by_cases h3:hi<lo
   ·rw[if_pos h3] at he;subst he;have ht3:(hi:Int)<(lo:Int):=by omega
    clear h0 h1
    go_enter Tryz.func41,Tryz.ntmps41;go_wp2
    go_ret2
    exact⟨_,rfl,Lz _ _ _ _,Below.refl _ _⟩
   ·rw[if_neg h3] at he;exact absurd he.symm h0
theorem Qk6{q:Nat} : ∀ {L:List (Nat×Nat)} {p:Nat},Row q p L -> ∀b∈L,b.1<=40∧b.2<pw (40 - b.1):=by
 intro L
 induction L with
 | nil=>intro p _ b hb;cases hb
 | cons c L ih =>
  intro p h b hb
  rcases LH.1 hb with rfl|hb
  ·exact⟨h.2.1,h.2.2.1⟩
  ·exact ih h.2.2.2 b hb
theorem QhS{t:Nat×Nat->List (Nat×Nat)}(M:List (Nat×Nat))(k:Nat)(h:k<M.length):(M.take (k+1)).flatMap t=(M.take k).flatMap t++t (M.getD k (0,0)):=by
 rw[LQ h,NR,La,Lc h];simp
theorem Qcl{t:Nat×Nat->List (Nat×Nat)}(M:List (Nat×Nat))(k:Nat):((M.take k).flatMap t).length<=(M.flatMap t).length:=by
 conv=>rhs;rw[<-L9 k M,NR,Ld]
 omega
theorem QhG(lo hi n:Nat)(w:World)(hn:n<=2^40)(hh:hi<=n)(hl:lo<=hi) :
  Calls Tryz.prog 41 #[.int .u64 (lo:Int),.int .u64 (hi:Int),.int .u64 (n:Int)] w fun x w' => ∃v,x = .returned (.tuple #[v,.int .i64 0])∧Qz w' w.heap.size v (zl (cov lo hi))∧Zb w w':=by
 have ht:decide ((1099511627776:Int)<(n:Int))=false:=decide_eq_false (by omega)
 have ht2 : ¬(n:Int)<(hi:Int):=by omega
 have ht3 : ¬(hi:Int)<(lo:Int):=by omega
 have ht2' : ¬n<hi:=by omega
 have ht3' : ¬hi<lo:=by omega
 have HM:=fun w'=>QaR n w' hn
 have hrow:=UI 0 n (Lf _) hn;rw[QH n hn] at hrow;have hlen:=OQ lo hi hl (by omega)
 rw[QcL lo hi n hl hh hn] at hlen ⊢;have HQ:Hid ((∀b∈dnL 41 0 n,b.1<=40∧b.2<pw (40 - b.1))∧((dnL 41 0 n).flatMap (fun b=>tin lo hi b.1 b.2)).length<=80∧(dnL 41 0 n).length<=41):=⟨Qk6 hrow,hlen,YI 41 0 n⟩
 clear hn hh hl hrow hlen;generalize dnL 41 0 n=M at *
 go_enter Tryz.func41,Tryz.ntmps41
 go_upto_region 9 with ((go_at_call 86;with_reducible refine(HM _).mono ?_;rintro e w1 ⟨v1,rfl,o1,hb1⟩))
 obtain⟨ao,g,m,cap,rfl,r,_⟩:=Uc o1;have HR:Hid (RdB w1 ao g m (zl M)∧M.length=m∧Zb w w1):=⟨r,by have:=r.len;rwa [Qq] at this,hb1⟩
 clear r o1 hb1 HM;go_wp2
 go_loopg [8,10] m (fun gg v i wr => ∃k:Nat,k<=m∧gg=m - k∧i = .int .i64 (k:Int)∧Qz wr w1.heap.size v (zl ((M.take k).flatMap (fun b=>tin lo hi b.1 b.2)))∧Zb w1 wr)
 case atStart =>
  go_light;exact⟨0,Lf _,rfl,rfl,Lz _ _ _ _,Below.refl _ _⟩
 case round =>
  obtain⟨k,hk,rfl,rfl,hown,hb⟩:=hrel;obtain⟨s1,s2,s3⟩:=HR.out;obtain⟨g1,g2,g3⟩:=HQ.out;have hk0:(0:Int)<=(k:Int):=Le _;have hk41:(k:Int)<=41:=by omega
  by_cases hlt:k<m
  ·have hlt':(k:Int)<(m:Int):=by omega
   have r':=s1.below hb;obtain rfl:=r'.addr (by omega)
   have hc:=r'.cell k hlt;rw[Uf] at hc;have htk:=QhS (t:=fun b=>tin lo hi b.1 b.2) M k (by omega)
   have hl1:=Qcl (t:=fun b=>tin lo hi b.1 b.2) M (k+1)
   have hmem:=g1 (M.getD k (0,0)) (by rw[La,Lc (by omega)];exact LO _)
   obtain⟨⟨h,q⟩,hx⟩ : ∃x,M.getD k (0,0)=x:=⟨_,rfl⟩;rw[hx] at hc hmem htk;obtain⟨c1,c2⟩:=hc
   dsimp only at c1 c2 hmem htk
   have HW:=fun w'=>QeN lo hi h q w' hmem.1 hmem.2
   rw[htk,Ld] at hl1;generalize (M.take k).flatMap (fun b=>tin lo hi b.1 b.2)=P at *
   generalize tin lo hi h q=R at *;have HX:Hid ((M.take (k+1)).flatMap (fun b=>tin lo hi b.1 b.2)=P++R∧Zb w1 wr∧P.length+R.length<=80∧k+1<=m):=⟨htk,hb,by omega,hlt⟩
   clear htk hl1 hmem hx r' s1 s2 s3 g1 g2 g3 hlt hk hb
   go_wp2_with (first
    | (go_at_call 87;with_reducible refine(HW _).mono ?_;rintro e w2 ⟨v2,rfl,o2,hb2⟩)
    | (at_builtin;refine QO _ rfl _ _ rfl w1.heap.size _ (zl P) rfl (YP hown hb2) _ (zl R) rfl (Uo o2) ?c1 ?c2 ?_))
   case c1=>have:=HX.out.2.2.1;rw[Qq,Qq];omega
   case c2=>have:=(Qa HX.out.2.1 hb2).size;exact this
   intro v' w3 r1 r2 _;have hb12:=Qa HX.out.2.1 hb2;have RR:=UB hb12 hb12.size (YP hown hb2) r2;clear r2 hown o2 hb2 hb12 HW;go_wp2
   go_roundg (m - (k+1))
   case rel =>
    go_light;refine⟨k+1,HX.out.2.2.2,rfl,by go_num,?_,RR.1⟩
    rw[HX.out.1,YL];exact r1
   case measure=>go_light;have:=HX.out.2.2.2;omega
  ·obtain rfl:k=m:=by omega
   have hlt' : ¬(k:Int)<(k:Int):=by omega
   rw[Lx (by omega)] at hown
   obtain⟨ao8,m8,c8,rfl⟩:=Qh hown;have HF:Hid (Qz wr w.heap.size (.slice ao8 m8 c8) (zl (M.flatMap (fun b=>tin lo hi b.1 b.2)))∧Zb w wr):=⟨hown.mono s3.size,Qa s3 hb⟩
   clear s1 s2 s3 g1 g2 g3 hlt hk hb hown HR HQ;go_wp2
   go_ret2
   exact⟨_,rfl,HF.out⟩
theorem Qb6(lo hi n:Nat)(w:World) :
  Calls Tryz.prog 41 #[.int .u64 (lo:Int),.int .u64 (hi:Int),.int .u64 (n:Int)] w fun x w' => ∃v,x = .returned (.tuple #[v,.int .i64 (YK lo hi n:Nat)])∧Qz w' w.heap.size v (zl (JC lo hi n))∧Zb w w':=by
 by_cases h:YK lo hi n=0
 ·have h':=h;unfold YK at h'
  split at h'
  ·cases h'
  ·split at h'
   ·cases h'
   ·split at h'
    ·cases h'
    ·rw[h,JC,if_pos h];exact QhG lo hi n w (by omega) (by omega) (by omega)
 ·rw[JC,if_neg h];exact QfI lo hi n _ w rfl h
end Cv
theorem QcY(x:Int)(l:List Int):Q7 [x]++Q7 l=Q7 (x::l):=by
 apply Io
 rw[ID]
 apply NV.1
 rw[Array.toList_append,YQ,YQ,YQ]
 rfl
def tlL(n k:Nat):List Int:=(nbL n 8).drop (8 - k)
theorem QjK(n k:Nat)(h:k<8):((n / 256^k % 256:Nat):Int)::tlL n k=tlL n (k+1):=by
 unfold tlL;have hl:8 - (k+1)<(nbL n 8).length:=by rw[Qdu];omega
 rw[LC hl,show 8 - (k+1)+1=8 - k by omega]
 congr 1
 have:(nbL n 8)[8 - (k+1)]=((n / 256^(7 - (8 - (k+1))) % 256:Nat):Int):=by simp[nbL]
 rw[this,show 7 - (8 - (k+1))=k by omega]
theorem QlE(x:Int)(h0:0<=x)(h1:x<18446744073709551616):IntKind.u64.wrap x=x:=by
 simp[IntKind.wrap,IntKind.signed,IntKind.bits];omega
theorem Qac(w:World)(n:Nat)(hn:n<18446744073709551616)(d:BA)(hs:d.size<2305843009213693952)(r:BA)(hr:QN n d=r) :
  Zr 52 #[.int .u64 (n:Int),.string d] w (.string r):=by
 have hB:=Below.refl w.heap.size w
 go_enter Tryz.func52,Tryz.ntmps52;go_wp2
 go_loopg [0,5,6] 8 (fun g a s i wr => ∃(k N:Nat) (z:BA),k<=8∧g=8 - k∧a = .int .u64 (N:Int)∧s = .string z∧i = .int .i64 (k:Int)∧Hid (N=n / 256^k∧z=Q7 (tlL n k))∧z.size=k∧Zb w wr)
 case atStart =>
  go_light;exact⟨0,n,⟨#[]⟩,Lf _,rfl,rfl,rfl,rfl,⟨by simp,rfl⟩,rfl,hB⟩
 case round =>
  clear hB;obtain⟨k,N,z,hk,rfl,rfl,rfl,rfl,HE,hz,hb⟩:=hrel
  by_cases hlt:k<8
  ·have h1:(k:Int)<8:=by omega
   obtain⟨y,hy⟩:=Ze (Q7 [(N:Int) % 256]);have cv:=fun W=>JE W ((N:Int) % 256)
   have zy:=Uh ((N:Int) % 256);rw[hy] at zy;simp only[hy] at cv;have HN:Hid ((N:Int) / 256=((n / 256^(k+1):Nat):Int)∧y++z=Q7 (tlL n (k+1))):=by
    have h:=HE.out;refine⟨?_,?_⟩
    ·rw[h.1,LA,<-Nc];omega
    ·rw[<-hy,h.2,QcY,<-QjK n k hlt,h.1];congr 2
   have hns : ¬(9223372036854775807<1+k):=by omega
   have ew:IntKind.u64.wrap ((N:Int) / 256)=(N:Int) / 256:=by
    have h:=HE.out.1;have:N<=n:=by rw[h];exact Nv _ _
    exact QlE _ (by omega) (by omega)
   have hsz:(y++z).size=k+1:=by rw[LV,zy,hz];omega
   have HZ:=Qc hsz;clear hy HE hsz;go_wp2
   go_roundg (8 - (k+1))
   case rel =>
    go_light;exact⟨k+1,n / 256^(k+1),y++z,by omega,rfl,by rw[<-HN.out.1],rfl,by go_num,⟨rfl,HN.out.2⟩,HZ.out,bal hb _⟩
   case measure=>go_light;omega
  ·obtain rfl:k=8:=by omega
   have hzz : ¬((8:Int)<8):=by decide
   have HT:=fun W=>UP W 3 z d (by omega) hs r (by
    rw[<-hr,HE.out.2,QN,QcY];rfl)
   rw[show((8:Nat):Int)=8 from rfl]
   clear HE hlt hk
   go_wp2_with (go_at_call 100;with_reducible refine(HT _).mono ?_;rintro e w1 ⟨rfl,hb1⟩)
   go_ret
   exact⟨rfl,Qa hb hb1⟩
theorem UY(w:World)(ht:Tr w)(k:Int)(ao:OA)(b off len cap:Nat)(ss:LB)(hr:RdS w ao b off len ss)(hsz : ∀s∈ss,s.size<=140737488351232)(hmx:len<=8796093022208)(r:BA)(hq:QA (clk k) ss=r) :
  Zr 53 #[.int .i64 k,.slice ao len cap] w (.string r):=by
 by_cases h0:len=0
 ·subst h0;have:ss=[]:=LG.1 hr.hl;subst this;subst hq
  go_enter Tryz.func53,Tryz.ntmps53;go_wp2
  go_ret
  exact⟨rfl,Below.refl _ _⟩
 ·have hlen:0<len:=by omega
  obtain rfl:=hr.ptr hlen;obtain⟨m,rfl⟩ : ∃m,len=m+1:=⟨len - 1,by omega⟩
  have hc:=Qx k;have hne : ¬((m:Int)+1=0):=by omega
  have cm:=hr.at (k:=m) (by omega)
  have HL:Hid (QA (clk k) (ss.drop m)=ss.getD m ByteArray.empty):=by
   have:=Qco (clk k) ss (by rw[hr.hl];omega)
   rw[hr.hl] at this;exact this
  have HSZ:Hid (∀d,d=QA (clk k) ss->True):=fun _ _=>trivial
  have HM:Hid (∀j,j<m+1->(ss.getD j ByteArray.empty).size<=140737488351232):=fun j hj=>hsz _ (QI (by rw[hr.hl];exact hj))
  have HD:Hid (∀j,(QA (clk k) (ss.drop j)).size<=140737488351232):=fun j=>Yc hc (by decide) _ (fun s hs=>hsz s (LU hs))
  have HN:Hid (∀j,j<m->QA (clk k) (ss.drop j)=dg (clk k) (UG (ss.getD j ByteArray.empty) (QA (clk k) (ss.drop (j+1))))):=fun j hj=>Qcn _ _ _ (by rw[hr.hl];omega)
  have HT:Hid (Tr w):=ht;have HR:Hid (RdS w (some ⟨b,off,none⟩) b off (m+1) ss):=hr;have HQ:Hid (QA (clk k) (ss.drop 0)=r):=hq;obtain⟨d0,hd0⟩:=Ze (ss.getD m ByteArray.empty);rw[hd0] at cm;have HL2:Hid (QA (clk k) (ss.drop m)=d0):=by rw[<-hd0];exact HL
  clear hd0 HL ht hr hq hsz HSZ h0 hlen
  go_enter Tryz.func53,Tryz.ntmps53;go_wp2
  go_loopg [5,6] m (fun g x i wr => ∃(j:Nat) (d:BA),j=g∧x = .string d∧i = .int .i64 ((j:Int) - 1)∧j<=m∧Hid (QA (clk k) (ss.drop j)=d)∧Zb w wr)
  case atStart =>
   go_light;exact⟨m,d0,rfl,rfl,by go_num,Lb _,HL2,Below.refl _ _⟩
  case round =>
   obtain⟨j,d,hg,rfl,rfl,hj,HE,hb⟩:=hrel;subst hg
   cases j with
   | zero =>
    have hz : ¬((0:Int) <= -1):=by decide
    rw[show((0:Nat):Int) - 1 = -1 from rfl]
    have HF:Hid (d=r):=HE.out.symm.trans HQ.out;clear HE HN HQ HM HD HR HT cm;obtain rfl:=HF.out;go_wp2
    go_ret
    exact⟨rfl,hb⟩
   | succ j =>
    have e1:((j+1:Nat):Int) - 1=(j:Int):=by omega
    have hz:(0:Int)<=(j:Int):=by omega
    have hz2:(j:Int)<(m:Int)+1:=by omega
    have hjm:j<m:=by omega
    have cj:=(HR.out.next hb (Lb _)).at (k:=j) (by omega)
    have z1:=HM.out j (by omega)
    have z2:=HD.out (j+1);have hn:=HN.out j hjm;rw[HE.out] at z2 hn;generalize ss.getD j ByteArray.empty=p at *;have HG:=fun W=>QaQ W p d (by omega) (by omega) _ rfl
    obtain⟨t,ht⟩:=Ze (UG p d);have zt:=Qao p d;rw[ht] at zt;simp only[ht] at HG hn;obtain⟨d',hd'⟩ : ∃d',dg (clk k) t=d':=⟨_,rfl⟩;have HO:Hid (∀W,Zb w W->Zr 51 #[.int .i64 k,.string t] W (.string d')):=fun W hb=>Oj W (HT.out.next hb) k t (by omega) d' hd'
    have HE2:Hid (QA (clk k) (ss.drop j)=d'):=hn.trans hd';rw[e1];clear HE hn hd' ht zt z1 z2 e1 cm HL2
    go_wp2_with (first
     | (go_at_call 88;with_reducible refine(HG _).mono ?_;rintro e w1 ⟨rfl,hb1⟩;replace hb:=Qa hb hb1;clear hb1)
     | (go_at_call 51;with_reducible refine(HO.out _ hb).mono ?_;rintro e w2 ⟨rfl,hb2⟩;replace hb:=Qa hb hb2;clear hb2))
    go_roundg j
    case rel =>
     go_light;exact⟨j,d',rfl,rfl,by go_num,by omega,HE2.out,hb⟩
    case measure=>go_light;omega
theorem JY(w:World)(ht:Tr w)(k:Int)(n:Nat)(hn:n<18446744073709551616)(ao:OA)(b off len cap:Nat)(ss:LB)(hr:RdS w ao b off len ss)(hsz : ∀s∈ss,s.size<=140737488351232)(hmx:len<=8796093022208)(r:BA)(hq:dg (clk k) (QN n (QA (clk k) ss))=r) :
  Zr 21 #[.int .i64 k,.int .u64 (n:Int),.slice ao len cap] w (.string r):=by
 have hz:(QA (clk k) ss).size<=140737488351232:=Yc (Qx k) (by decide) _ hsz
 obtain⟨d,hd⟩:=Ze (QA (clk k) ss);have HBg:=UY w ht k ao b off len cap ss hr hsz hmx d hd;rw[hd] at hq hz;obtain⟨t,hrt⟩:=Ze (QN n d);have HRt:=fun W=>Qac W n hn d (by omega) t hrt
 have zt:=OF n d;rw[hrt] at hq zt;have HO:Hid (∀W,Zb w W->Zr 51 #[.int .i64 k,.string t] W (.string r)):=fun W hb=>Oj W (ht.next hb) k t (by omega) r hq
 have hb:=Below.refl w.heap.size w;clear hq ht hd hrt zt hz hr hsz hmx
 go_enter Tryz.func21,Tryz.ntmps21
 go_wp2_with (first
  | (go_at_call 53;with_reducible refine HBg.mono ?_;rintro e w1 ⟨rfl,hb1⟩;replace hb:=Qa hb hb1;clear hb1)
  | (go_at_call 52;with_reducible refine(HRt _).mono ?_;rintro e w1 ⟨rfl,hb1⟩;replace hb:=Qa hb hb1;clear hb1)
  | (go_at_call 51;with_reducible refine(HO.out _ hb).mono ?_;rintro e w2 ⟨rfl,hb2⟩;replace hb:=Qa hb hb2;clear hb2))
 go_ret
 exact⟨rfl,hb⟩
end Go.Proofs.YtdocjikpcbmcgaaGreatDoor
