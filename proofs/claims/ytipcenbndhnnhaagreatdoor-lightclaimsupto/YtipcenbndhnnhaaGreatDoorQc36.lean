/- Own work. -/
import Derived.Test.YtipcenbndhnnhaaGreatDoorQc27
import Derived.Test.YtipcenbndhnnhaaGreatDoorQc35
namespace Go.Proofs.YtipcenbndhnnhaaGreatDoor.Cv
open Pl
open Go.RowKit
attribute [local go_sem ↓] Go.wp_at_zero Go.wp_at_succ
theorem own_rd {w:World} {base:Nat} {v:Value} {l:List Nat} (h:Own w base v l) : ∃ ao b n cap,v = .slice ao n cap∧Rd w ao b 0 n l∧n≤maxLen∧n≤cap:=by
 obtain ⟨h1,h2⟩:=h
 rcases h2 with ⟨rfl,h2⟩ | ⟨g,cap,cur,rfl,hg,hh,hc1,hc2,hc3,hc4⟩
 ·exact ⟨none,0,0,0,rfl,⟨h2,fun h=>absurd h (by omega),fun j hj=>absurd hj (by omega)⟩,Nat.zero_le _,Nat.le_refl _⟩
 ·have hcl:=World.ownsRow.cells (w:=w) (base:=base) (e:=23) (size:=1) (v := .slice (some ⟨g,0,none⟩) l.length cap) (n:=l.length) (xs:=cU l) ⟨h1,.inr ⟨g,cap,cur,rfl,hg,hh,hc1,hc2,hc3,hc4⟩⟩ (g:=g) rfl
  refine ⟨some ⟨g,0,none⟩,g,l.length,cap,rfl,⟨rfl,fun _=>rfl,fun j hj => ?_⟩,by omega,hc1⟩
  have:=hcl j (.int .u64 (l.getD j 0:Nat)) (by simp [cU,List.getD_eq_getElem?_getD,List.getElem?_eq_getElem hj])
  rw [Addr.add_mid] at this
  exact this
def errT (n:Nat) (l:List Nat):Nat:=if incB l=false then 40 else if n≤l.getD (l.length - 1) 0 then 31 else 0
theorem errS_T {n:Nat} {l:List Nat} (h : ¬ 2^40<n):errS n l=errT n l:=by rw [errS,if_neg h,errT]
theorem rset_any (m:Nat) (w:World) (ao:Option Addr) (b off n cap:Nat) (l:List Nat) (r:Rd w ao b off n l) (hn:n≤maxLen) :
  Calls Tryz.prog 164 #[.int .u64 (m:Int),.slice ao n cap] w fun e w'=>e = .returned (.int .i64 (errT m l:Nat))∧Below w.heap.size w w':=by
 have hn':(n:Int)≤9223372036854775807:=by unfold maxLen at hn; omega
 by_cases hz:n=0
 ·have he:errT m l=40:=by
   rw [errT,if_pos]
   cases hB:incB l with
   | false=>rfl
   | true=>have:=((incB_iff l).1 hB).1; have:=r.len; omega
  rw [he]
  have hz':(n:Int)=0:=by omega
  clear r hn he
  subst hz
  go_enter Tryz.func164,Tryz.ntmps164
  go_wp2
  go_ret
  exact ⟨rfl,Below.refl _ _⟩
 ·have hz' : ¬ (n:Int)=0:=by omega
  have HR:Hid (Rd w ao b off n l):=r
  clear hn r
  go_enter Tryz.func164,Tryz.ntmps164
  go_wp2
  go_loopg [5] n (fun g i wr => ∃ k:Nat,k≤n∧1≤k∧g=n+1 - k∧i = .int .i64 (k:Int)∧(∀ j,j+1<k→l.getD j 0<l.getD (j+1) 0)∧Below w.heap.size w wr)
  case atStart =>
   go_light
   exact ⟨1,by omega,Nat.le_refl _,by omega,rfl,fun j hj=>absurd hj (by omega),Below.refl _ _⟩
  case round =>
   obtain ⟨k,hk,hk1,rfl,rfl,he,hb⟩:=hrel
   have hk0:(0:Int)≤(k:Int):=Int.natCast_nonneg _
   have r1:=HR.out.below hb
   obtain rfl:=r1.addr (by omega)
   by_cases hlt:k<n
   ·obtain ⟨i,rfl⟩ : ∃ i,k=i+1:=⟨k - 1,by omega⟩
    have c1:=r1.cell (i+1) hlt
    have c2:=r1.cell i (by omega)
    have hz:((i+1:Nat):Int)<(n:Int):=by omega
    have ei:(((i+1:Nat):Int) - 1)=(i:Int):=by omega
    have ec:((i+1:Nat):Int)=(i:Int)+1:=by omega
    have hz2:(i:Int)+1<(n:Int):=by omega
    have hz3:(i:Int)<(n:Int):=by omega
    have hi0:(0:Int)≤(i:Int):=Int.natCast_nonneg _
    have hi1:(0:Int)≤(i:Int)+1:=by omega
    have HB:Hid (Below w.heap.size w wr):=hb
    have HE:Hid (∀ j,j+1<i+1→l.getD j 0<l.getD (j+1) 0):=he
    have HI:Hid (¬ l.getD i 0<l.getD (i+1) 0→errT m l=40):=fun hno=>by
     rw [errT,if_pos]
     cases hB:incB l with
     | false=>rfl
     | true=>exact absurd (((incB_iff l).1 hB).2 i (by have:=HR.out.len; omega)) hno
    obtain ⟨x,hx⟩ : ∃ x,l.getD (i+1) 0=x:=⟨_,rfl⟩
    obtain ⟨y,hy⟩ : ∃ y,l.getD i 0=y:=⟨_,rfl⟩
    rw [hx] at c1
    rw [hy] at c2
    rw [hx,hy] at HI
    have HX:Hid (l.getD (i+1) 0=x∧l.getD i 0=y):=⟨hx,hy⟩
    have hlt2:i+1<n:=hlt
    clear hx hy r1 hb he hk hlt
    by_cases hxy:x≤y
    ·have HN:Hid (errT m l=40):=HI.out (by omega)
     go_wp2
     go_quiet (fail)
     go_wp2
     go_ret
     exact ⟨by rw [HN.out]; rfl,below_drewN HB.out _⟩
    ·go_wp2
     go_quiet (fail)
     go_wp2
     go_roundg (n+1 - (i+1+1))
     case rel =>
      go_light
      refine ⟨i+1+1,by omega,by omega,rfl,by go_num,fun j hj => ?_,below_drewN HB.out _⟩
      by_cases hjk:j=i
      ·subst hjk; rw [HX.out.1,HX.out.2]; omega
      ·exact HE.out j (by omega)
     case measure=>go_light; omega
   ·obtain rfl:k=n:=by omega
    have hz : ¬ (k:Int)<(k:Int):=by omega
    have hl:=HR.out.len
    have hinc:incB l=true:=(incB_iff l).2 ⟨by omega,fun i hi=>he i (by omega)⟩
    obtain ⟨j,rfl⟩ : ∃ j,k=j+1:=⟨k - 1,by omega⟩
    have hc:=r1.cell j (by omega)
    have e1:(((j+1:Nat):Int) - 1)=(j:Int):=by omega
    have e2:((j+1:Nat):Int)=(j:Int)+1:=by omega
    have hz1:(j:Int)<(j:Int)+1:=by omega
    have hj0:(0:Int)≤(j:Int):=Int.natCast_nonneg _
    have hlast:l.getD (l.length - 1) 0=l.getD j 0:=by rw [hl]; rfl
    obtain ⟨x,hx⟩ : ∃ x,l.getD j 0=x:=⟨_,rfl⟩
    rw [hx] at hc hlast
    have HB:Hid (Below w.heap.size w wr):=hb
    by_cases h4:m≤x
    ·have HN:Hid (errT m l=31):=by show _=_; rw [errT,if_neg (by rw [hinc]; decide),if_pos (by rw [hlast]; exact h4)]
     have h4':(m:Int)≤(x:Int):=by omega
     clear he hb hk hl hinc hx hlast r1
     go_wp2
     go_ret
     exact ⟨by rw [HN.out]; rfl,HB.out⟩
    ·have HN:Hid (errT m l=0):=by show _=_; rw [errT,if_neg (by rw [hinc]; decide),if_neg (by rw [hlast]; exact h4)]
     have h4' : ¬ (m:Int)≤(x:Int):=by omega
     clear he hb hk hl hinc hx hlast r1
     go_wp2
     go_ret
     exact ⟨by rw [HN.out]; rfl,HB.out⟩
theorem tno_here {H K:Nat} {S:List Nat} (h:(S.filter (inb H K)).length=0):tno H K S=[(H,K)]:=by
 cases H with
 | zero=>rw [tno,if_pos h]
 | succ H=>rw [tno,if_pos h]
theorem filter_yes {p:Nat→Bool} (S:List Nat) (k:Nat) (h:k<S.length) (hp:p (S.getD k 0)=true):(S.take (k+1)).filter p=(S.take k).filter p++[S.getD k 0]:=by
 rw [List.take_succ_eq_append_getElem h,List.filter_append]
 rw [List.getD_eq_getElem?_getD,List.getElem?_eq_getElem h] at hp ⊢
 simp at hp
 simp [hp]
theorem filter_no {p:Nat→Bool} (S:List Nat) (k:Nat) (h:k<S.length) (hp:p (S.getD k 0)=false):(S.take (k+1)).filter p=(S.take k).filter p:=by
 rw [List.take_succ_eq_append_getElem h,List.filter_append]
 rw [List.getD_eq_getElem?_getD,List.getElem?_eq_getElem h] at hp
 simp at hp
 simp [hp]
theorem filter_len {p:Nat→Bool} (S:List Nat) (k:Nat):((S.take k).filter p).length≤k:=by
 have h1:=List.length_filter_le p (S.take k)
 have h2:=List.length_take_le k S
 omega
abbrev Wo (h K:Nat) (S:List Nat):Prop := ∀ (w:World) (ao:Option Addr) (b off m cap:Nat),Rd w ao b off m S→m≤1048576 →
 Calls Tryz.prog 165 #[bv h K,.slice ao m cap] w fun e w' => ∃ v,e = .returned v∧OwnB w' w.heap.size v (zl (tno h K S))∧Below w.heap.size w w'
set_option maxHeartbeats 4000000 in
theorem rwithout_step (h K:Nat) (S:List Nat) (hh:h≤40) (hK:K<pw (40 - h)) (HI : ∀ g q M,h=g+1→q<pw (40 - g)→Wo g q M):Wo h K S:=by
 intro w ao b off m cap r hm
 have HS:=fun w'=>rspan_any h K w' hh hK
 obtain ⟨x,hx⟩ : ∃ x,K * pw h=x:=⟨_,rfl⟩
 obtain ⟨y,hy⟩ : ∃ y,(K+1) * pw h=y:=⟨_,rfl⟩
 rw [hx,hy] at HS
 have T:=two_new w (h:Int) K 94
 have hm':(m:Int)≤1048576:=by omega
 have HP:Hid (h≤40∧K<pw (40 - h)∧(∀ g q M,h=g+1→q<pw (40 - g)→Wo g q M)∧(∀ i,inb h K i=true↔x≤i∧i<y)):=⟨hh,hK,HI,fun i=>by rw [inb_iff,hx,hy]⟩
 have HR:Hid (Rd w ao b off m S):=r
 clear hh hK HI r hm hx hy
 go_enter Tryz.func165,Tryz.ntmps165
 go_upto_region 2 with ((go_at_call 182; with_reducible refine (HS _).mono ?_; rintro e w1 ⟨rfl,hb1⟩))
 have HT:Hid (Two w1 w.heap.size (h:Int) K∧Below w.heap.size w w1):=⟨T.below hb1,below_new hb1⟩
 clear T hb1 HS
 go_wp2
 go_loopg [7,8] m (fun gg v i wr => ∃ k:Nat,k≤m∧gg=m - k∧i = .int .i64 (k:Int)∧Own wr w1.heap.size v ((S.take k).filter (inb h K))∧Below w1.heap.size w1 wr)
 case atStart =>
  go_light
  exact ⟨0,Nat.zero_le _,rfl,rfl,World.ownsRow_nil _ _ _ _,Below.refl _ _⟩
 case round =>
  obtain ⟨k,hk,rfl,rfl,hown,hb⟩:=hrel
  have hk0:(0:Int)≤(k:Int):=Int.natCast_nonneg _
  have hk5:(k:Int)≤1048576:=by omega
  obtain ⟨ht,hbw⟩:=HT.out
  have r':=(HR.out.below hbw).below hb
  have hsl:=HR.out.len
  have hinb:=HP.out.2.2.2
  by_cases hlt:k<m
  ·have hlt':(k:Int)<(m:Int):=by omega
   obtain rfl:=r'.addr (by omega)
   have c1:=r'.cell k hlt
   have fy:=filter_yes (p:=inb h K) S k (by omega)
   have fn:=filter_no (p:=inb h K) S k (by omega)
   have hfl:=filter_len (p:=inb h K) S k
   obtain ⟨s,hs⟩ : ∃ s,S.getD k 0=s:=⟨_,rfl⟩
   rw [hs] at c1 fy fn
   by_cases hin:x≤s∧s<y
   ·obtain ⟨g1,g2⟩:=hin
    have g1':(x:Int)≤(s:Int):=by omega
    have g2':(s:Int)<(y:Int):=by omega
    have hf:=fy ((hinb s).2 ⟨g1,g2⟩)
    generalize (S.take k).filter (inb h K)=P at *
    have HX:Hid ((S.take (k+1)).filter (inb h K)=P++[s]∧Below w1.heap.size w1 wr∧P.length≤k∧k+1≤m):=⟨hf,hb,hfl,hlt⟩
    clear fy fn hf hfl hs hinb hsl r' ht hbw hb hlt hk
    go_wp2_with (at_builtin; refine wpList_append_U _ rfl _ _ rfl w1.heap.size _ P rfl (hown.alloc _) _ [s] rfl (rdc_num wr s 23) ?c1 ?c2 ?_)
    case c1=>have:=HX.out.2.2.1; simp; omega
    case c2=>have:=HX.out.2.1.size; simp; omega
    intro v' w2 r1 r2 _
    have R:=ownB_step HX.out.2.1 HX.out.2.1.size hown r2
    clear r2 hown
    go_wp2
    go_roundg (m - (k+1))
    case rel =>
     go_light
     refine ⟨k+1,HX.out.2.2.2,rfl,by go_num,?_,R.1⟩
     rw [HX.out.1]; exact r1
    case measure=>go_light; have:=HX.out.2.2.2; omega
   ·have hf:=fn (by
     cases hB:inb h K s with
     | false=>rfl
     | true=>exact absurd ((hinb s).1 hB) hin)
    have HX:Hid ((S.take (k+1)).filter (inb h K)=(S.take k).filter (inb h K)∧Below w1.heap.size w1 wr∧k+1≤m):=⟨hf,hb,hlt⟩
    clear fy fn hf hfl hs hinb hsl r' ht hbw hb hlt hk
    by_cases g1:x≤s
    ·have g1':(x:Int)≤(s:Int):=by omega
     have g2' : ¬ (s:Int)<(y:Int):=by omega
     have g2 : ¬ s<y:=by omega
     go_wp2
     go_roundg (m - (k+1))
     case rel =>
      go_light
      refine ⟨k+1,HX.out.2.2,rfl,by go_num,?_,HX.out.2.1⟩
      rw [HX.out.1]; exact hown
     case measure=>go_light; have:=HX.out.2.2; omega
    ·have g1' : ¬ (x:Int)≤(s:Int):=by omega
     go_wp2
     go_roundg (m - (k+1))
     case rel =>
      go_light
      refine ⟨k+1,HX.out.2.2,rfl,by go_num,?_,HX.out.2.1⟩
      rw [HX.out.1]; exact hown
     case measure=>go_light; have:=HX.out.2.2; omega
  ·obtain rfl:k=m:=by omega
   have hlt' : ¬ (k:Int)<(k:Int):=by omega
   rw [List.take_of_length_le (by omega)] at hown
   have hfl:=List.length_filter_le (inb h K) S
   obtain ⟨t0,t1⟩:=ht.below hb
   have HB:Hid (Below w.heap.size w wr):=bnext hbw hb
   have HTW:Hid (Two wr w.heap.size (h:Int) K):=⟨t0,t1⟩
   obtain ⟨ao7,b7,n7,cap7,rfl,r7,_,_⟩:=own_rd hown
   obtain ⟨hh,hK,HI,_⟩:=HP.out
   have hhh:(h:Int)≤40:=by omega
   have hh0:(0:Int)≤(h:Int):=Int.natCast_nonneg _
   by_cases hz:n7=0
   ·subst hz
    have HF:Hid (tno h K S=[(h,K)]):=tno_here r7.len
    clear HI hK hh HP HR r7 hown hfl hbw hb ht r' hsl hinb hlt hk HT hk5
    go_wp2
    go_ret
    rw [HF.out]
    exact ⟨_,rfl,own_lit wr w.heap.size _ [((h:Int),K)] rfl HB.out.size (by simp),bal HB.out _⟩
   ·have hz' : ¬ (n7:Int)=0:=by omega
    by_cases h0:h=0
    ·subst h0
     have HF:Hid (tno 0 K S=[]):=by show _=_; rw [tno,if_neg (by rw [r7.len]; exact hz)]
     clear HI hK hh HP HR r7 hown hfl hbw hb ht r' hsl hinb hlt hk HT hk5
     go_wp2
     go_ret
     rw [HF.out]
     exact ⟨_,rfl,World.ownsRow_nil _ _ _ _,HB.out⟩
    ·have h0' : ¬ (h:Int)=0:=by omega
     obtain ⟨g,hg⟩ : ∃ g,h=g+1:=⟨h - 1,by omega⟩
     subst hg
     have HF:Hid (tno (g+1) K S=tno g (2 * K) (S.filter (inb (g+1) K))++tno g (2 * K+1) (S.filter (inb (g+1) K))):=by show _=_; rw [tno,if_neg (by rw [r7.len]; exact hz)]
     have hKK:=may_two (h:=g) (k:=K) (by omega) hK
     have hbig:=may_big hK
     have l1:=tno_len g (2 * K) (S.filter (inb (g+1) K))
     have l2:=tno_len g (2 * K+1) (S.filter (inb (g+1) K))
     have hp40:pw g≤pw 40:=pw_le (by omega)
     have e40:pw 40=2^40:=rfl
     have hn7:n7≤1048576:=by have:=r7.len; omega
     have I1:=fun w' (hw:Below wr.heap.size wr w')=>HI g (2 * K) (S.filter (inb (g+1) K)) rfl (by omega) w' ao7 b7 0 n7 cap7 (r7.below hw) hn7
     have I2:=fun w' (hw:Below wr.heap.size wr w')=>HI g (2 * K+1) (S.filter (inb (g+1) K)) rfl hKK w' ao7 b7 0 n7 cap7 (r7.below hw) hn7
     have HZ:Hid ((zl (tno g (2 * K) (S.filter (inb (g+1) K)))).length+(zl (tno g (2 * K+1) (S.filter (inb (g+1) K)))).length≤2199023255552):=by
      show _≤_
      rw [zl_len,zl_len]; omega
     obtain ⟨p,hp⟩ : ∃ p,2 * K=p:=⟨_,rfl⟩
     obtain ⟨q,hq⟩ : ∃ q,p+1=q:=⟨_,rfl⟩
     rw [hp] at I1 I2 HZ HF
     rw [hq] at I2 HZ HF
     have eh:IntKind.i64.wrap (((g+1:Nat):Int) - 1)=(g:Int):=by rw [IntKind.wrap_i64]; omega
     have eg:(((g+1:Nat):Int) - 1)=(g:Int):=by omega
     have eg2:IntKind.i64.wrap (g:Int)=(g:Int):=by rw [IntKind.wrap_i64]; omega
     have ep:IntKind.u64.wrap (2 * (K:Int))=(p:Int):=by rw [IntKind.wrap_u64]; omega
     have eq:IntKind.u64.wrap ((p:Int)+1)=(q:Int):=by rw [IntKind.wrap_u64]; omega
     generalize S.filter (inb (g+1) K)=F at *
     have b0:=Below.refl wr.heap.size wr
     clear HI hK hh HP HR r7 hown hfl hbw hb ht r' hsl hinb hlt hk HT hk5 hp hq l1 l2 hp40 e40 hKK hbig
     go_upto_region 14 with (first
      | (go_at_call 165; with_reducible refine (I1 _ b0).mono ?_; rintro e w2 ⟨v2,rfl,o2,hb2⟩; clear t0 t1; obtain ⟨t0,t1⟩:=HTW.out.below hb2)
      | (go_at_call 165; with_reducible refine (I2 _ hb2).mono ?_; rintro e w3 ⟨v3,rfl,o3,hb3⟩))
     have o23:=(ownB_next o2 hb3).mono (base':=w.heap.size) HB.out.size
     have hb:=bnext (bnext HB.out hb2) hb3
     clear o2 hb2 hb3 I1 I2 t0 t1 HTW HB b0
     go_wp2_with (at_builtin; refine wpList_append_M _ rfl _ _ rfl w.heap.size v2 (zl (tno g p F)) rfl o23 v3 (zl (tno g q F)) rfl (rdc_own o3) HZ.out hb.size ?_)
     intro v' w4 r1 r2
     have R:=ownB_step0 hb hb.size o23 r2
     go_wp2
     go_ret
     rw [HF.out,zl_app]
     exact ⟨_,rfl,r1,R.1⟩
theorem rwithout_any : ∀ (h K:Nat) (S:List Nat),h≤40→K<pw (40 - h)→Wo h K S:=by
 intro h
 induction h with
 | zero=>intro K S hh hK; exact rwithout_step 0 K S hh hK (fun g q M hg=>by omega)
 | succ h ih =>
  intro K S hh hK
  exact rwithout_step (h+1) K S hh hK (fun g q M hg hq=>by
   obtain rfl:g=h:=by omega
   exact ih q M (by omega) hq)
theorem wpList_append_Bg (w:World) {ops:Array Oper} {rest:List Oper} {o:Oper} {a:Act} {Q:Exit→Act→World→Prop}
  (hg:o.guard=none) (s x:Operand) (hop:o.op=Op.call { callee:=Callee.builtin Builtin.append,args:=#[s,x],argTypes:=#[65,65] })
  (B:Nat) (v:Value) (L:List (Int×Nat)) (hs:a.eval s=v) (hown:OwnB w B v L) (u:Value) (M:List (Int×Nat)) (hx:a.eval x=u) (hr:RdC w u M.length (cB M))
  (hlen:L.length+M.length≤4398046511104) (hB:B≤w.heap.size)
  (hK : ∀ v' w',OwnB w' B v' (L++M)→w.grownBy w' v.ownBlock→(v'.ownBlock=v.ownBlock ∨ ∀ g,v'.ownBlock=some g→w.heap.size≤g)→wpList Tryz.prog ops Q rest (a.put o.dst v') w'):wpList Tryz.prog ops Q (o::rest) a w:=by
 obtain ⟨i0,hi,hz0,hz1,hz2⟩:=info_parts Tryz.infoB
 refine wpList_append_ap w hg s x _ hop B 94 i0 (.agg #[.int .i64 0,.int .u64 0]) 2 16 Tryz.underlying65 hi hz0 hz1 hz2 rfl (by decide) v L.length (cB L) hs hown u M.length (cB M) hx hr (cB_len M) (cB_one M) (by unfold maxLen; omega) (by omega) hB ?_
 intro v' w' h
 refine hK v' w' ?_ h.grown h.fresh
 rw [OwnB,cB_app,List.length_append]
 exact h.own
set_option maxHeartbeats 1000000 in
theorem rrest_ok (n:Nat) (w:World) (ao:Option Addr) (b off m cap:Nat) (l:List Nat) (r:Rd w ao b off m l) (hm:m≤1048576) (he:errS n l=0) :
  Calls Tryz.prog 142 #[.int .u64 (n:Int),.slice ao m cap] w fun x w' => ∃ v,x = .returned (.tuple #[v,.int .i64 0])∧OwnB w' w.heap.size v (zl (rst 0 n l))∧Below w.heap.size w w':=by
 obtain ⟨hn,_,_,hch⟩:=errS_ok he
 have ht:decide ((1099511627776:Int)<(n:Int))=false:=decide_eq_false (by omega)
 rw [errS_T (by omega)] at he
 have HC:=rset_any n w ao b off m cap l r (by unfold maxLen; omega)
 rw [he] at HC
 have HM:=fun w'=>rmounts_any n w' hn
 have hrow:=cov_row 0 n (Nat.zero_le _) hn
 rw [cov_zero n hn] at hrow
 have hlen:=rst_len n hn l 0 hch
 rw [rest_ref n l hn hch] at hlen ⊢
 have HQ:Hid ((∀ b∈dnL 41 0 n,b.1≤40∧b.2<pw (40 - b.1))∧((dnL 41 0 n).flatMap (fun b=>tno b.1 b.2 l)).length≤80 * (m+1)∧(dnL 41 0 n).length≤41∧Rd w ao b off m l∧m≤1048576):=⟨row_mem hrow,by rw [r.len] at hlen; exact hlen,dn_len 41 0 n,r,hm⟩
 clear hn hch hrow hlen r hm he
 generalize dnL 41 0 n=M at *
 go_enter Tryz.func142,Tryz.ntmps142
 go_upto_region 8 with (first
  | (go_at_call 164; with_reducible refine HC.mono ?_; rintro x w0 ⟨rfl,hb0⟩)
  | (go_at_call 134; with_reducible refine (HM _).mono ?_; rintro e w1 ⟨v1,rfl,o1,hb1⟩))
 obtain ⟨ao9,g,M9,cap9,rfl,r9,_⟩:=own_rdB o1
 have HR:Hid (RdB w1 ao9 g M9 (zl M)∧M.length=M9∧Below w.heap.size w w1):=⟨r9,by have:=r9.len; rwa [zl_len] at this,bnext hb0 hb1⟩
 clear r9 o1 hb1 hb0 HM HC
 go_wp2
 go_loopg [7,9] M9 (fun gg v i wr => ∃ k:Nat,k≤M9∧gg=M9 - k∧i = .int .i64 (k:Int)∧OwnB wr w1.heap.size v (zl ((M.take k).flatMap (fun b=>tno b.1 b.2 l)))∧Below w1.heap.size w1 wr)
 case atStart =>
  go_light
  exact ⟨0,Nat.zero_le _,rfl,rfl,World.ownsRow_nil _ _ _ _,Below.refl _ _⟩
 case round =>
  obtain ⟨k,hk,rfl,rfl,hown,hb⟩:=hrel
  obtain ⟨s1,s2,s3⟩:=HR.out
  obtain ⟨g1,g2,g3,g4,g5⟩:=HQ.out
  have hk0:(0:Int)≤(k:Int):=Int.natCast_nonneg _
  have hk41:(k:Int)≤41:=by omega
  by_cases hlt:k<M9
  ·have hlt':(k:Int)<(M9:Int):=by omega
   have r':=s1.below hb
   obtain rfl:=r'.addr (by omega)
   have hc:=r'.cell k hlt
   rw [zl_getD] at hc
   have htk:=take_flat (t:=fun b=>tno b.1 b.2 l) M k (by omega)
   have hl1:=take_flat_len (t:=fun b=>tno b.1 b.2 l) M (k+1)
   have hmem:=g1 (M.getD k (0,0)) (by rw [List.getD_eq_getElem?_getD,List.getElem?_eq_getElem (by omega)]; exact List.getElem_mem _)
   obtain ⟨⟨h,q⟩,hx⟩ : ∃ x,M.getD k (0,0)=x:=⟨_,rfl⟩
   rw [hx] at hc hmem htk
   obtain ⟨c1,c2⟩:=hc
   dsimp only at c1 c2 hmem htk
   have HW:=rwithout_any h q l hmem.1 hmem.2 wr ao b off m cap ((g4.below s3).below hb) g5
   rw [htk,List.length_append] at hl1
   generalize (M.take k).flatMap (fun b=>tno b.1 b.2 l)=P at *
   generalize tno h q l=R at *
   have HX:Hid ((M.take (k+1)).flatMap (fun b=>tno b.1 b.2 l)=P++R∧Below w1.heap.size w1 wr∧P.length+R.length≤100000000∧k+1≤M9):=⟨htk,hb,by omega,hlt⟩
   clear htk hl1 hmem hx r' s1 s2 s3 g1 g2 g3 g4 g5 hlt hk hb
   go_wp2_with (first
    | (go_at_call 165; with_reducible refine HW.mono ?_; rintro e w2 ⟨v2,rfl,o2,hb2⟩)
    | (at_builtin; refine wpList_append_Bg _ rfl _ _ rfl w1.heap.size _ (zl P) rfl (ownB_next hown hb2) _ (zl R) rfl (rdc_own o2) ?c1 ?c2 ?_))
   case c1=>have:=HX.out.2.2.1; rw [zl_len,zl_len]; omega
   case c2=>have:=(bnext HX.out.2.1 hb2).size; exact this
   intro v' w3 r1 r2 _
   have hb12:=bnext HX.out.2.1 hb2
   have RR:=ownB_step0 hb12 hb12.size (ownB_next hown hb2) r2
   clear r2 hown o2 hb2 hb12 HW
   go_wp2
   go_roundg (M9 - (k+1))
   case rel =>
    go_light
    refine ⟨k+1,HX.out.2.2.2,rfl,by go_num,?_,RR.1⟩
    rw [HX.out.1,zl_app]; exact r1
   case measure=>go_light; have:=HX.out.2.2.2; omega
  ·obtain rfl:k=M9:=by omega
   have hlt' : ¬ (k:Int)<(k:Int):=by omega
   rw [List.take_of_length_le (by omega)] at hown
   obtain ⟨ao8,m8,c8,rfl⟩:=own_slice hown
   have HF:Hid (OwnB wr w.heap.size (.slice ao8 m8 c8) (zl (M.flatMap (fun b=>tno b.1 b.2 l)))∧Below w.heap.size w wr):=⟨hown.mono s3.size,bnext s3 hb⟩
   clear s1 s2 s3 g1 g2 g3 g4 g5 hlt hk hb hown HR HQ
   go_wp2
   go_ret2
   exact ⟨_,rfl,HF.out⟩
end Go.Proofs.YtipcenbndhnnhaaGreatDoor.Cv
namespace Go.Proofs.YtipcenbndhnnhaaGreatDoor
open Go.RowKit
attribute [local go_sem ↓] Go.wp_at_zero Go.wp_at_succ
theorem strB_cons (x:Int) (l:List Int):strB [x]++strB l=strB (x::l):=by
 apply ByteArray.ext
 rw [ByteArray.data_append]
 apply Array.toList_inj.1
 rw [Array.toList_append,strB_list,strB_list,strB_list]
 rfl
def tlL (n k:Nat):List Int:=(nbL n 8).drop (8 - k)
theorem tlL_succ (n k:Nat) (h:k<8):((n / 256^k % 256:Nat):Int)::tlL n k=tlL n (k+1):=by
 unfold tlL
 have hl:8 - (k+1)<(nbL n 8).length:=by rw [nbL_len]; omega
 rw [List.drop_eq_getElem_cons hl,show 8 - (k+1)+1=8 - k by omega]
 congr 1
 have:(nbL n 8)[8 - (k+1)]=((n / 256^(7 - (8 - (k+1))) % 256:Nat):Int):=by simp [nbL]
 rw [this,show 7 - (8 - (k+1))=k by omega]
theorem wrap_ur (x:Int) (h0:0≤x) (h1:x<18446744073709551616):IntKind.u64.wrap x=x:=by
 simp [IntKind.wrap,IntKind.signed,IntKind.bits]; omega
set_option maxRecDepth 100000 in
theorem refroott_any (w:World) (n:Nat) (hn:n<18446744073709551616) (d:ByteArray) (hs:d.size<2305843009213693952) (r:ByteArray) (hr:rootT n d=r) :
  Calls Tryz.prog 53 #[.int .u64 (n:Int),.string d] w fun e w'=>e = .returned (.string r)∧Below w.heap.size w w':=by
 have hB:=Below.refl w.heap.size w
 go_enter Tryz.func53,Tryz.ntmps53
 go_wp2
 go_loopg [0,5,6] 8 (fun g a s i wr => ∃ (k N:Nat) (z:ByteArray),k≤8∧g=8 - k∧a = .int .u64 (N:Int)∧s = .string z∧i = .int .i64 (k:Int)∧Hid (N=n / 256^k∧z=strB (tlL n k))∧z.size=k∧Below w.heap.size w wr)
 case atStart =>
  go_light
  exact ⟨0,n,⟨#[]⟩,Nat.zero_le _,rfl,rfl,rfl,rfl,⟨by simp,rfl⟩,rfl,hB⟩
 case round =>
  clear hB
  obtain ⟨k,N,z,hk,rfl,rfl,rfl,rfl,HE,hz,hb⟩:=hrel
  by_cases hlt:k<8
  ·have h1:(k:Int)<8:=by omega
   obtain ⟨y,hy⟩ : ∃ y,strB [(N:Int) % 256]=y:=⟨_,rfl⟩
   have cv:=fun W=>conv_one W ((N:Int) % 256)
   have zy:=one_size ((N:Int) % 256)
   rw [hy] at zy
   simp only [hy] at cv
   have HN:Hid ((N:Int) / 256=((n / 256^(k+1):Nat):Int)∧y++z=strB (tlL n (k+1))):=by
    have h:=HE.out
    refine ⟨?_,?_⟩
    ·rw [h.1,Nat.pow_succ,← Nat.div_div_eq_div_mul]; omega
    ·rw [← hy,h.2,strB_cons,← tlL_succ n k hlt,h.1]; congr 2
   have hns : ¬ (9223372036854775807<1+k):=by omega
   have ew:IntKind.u64.wrap ((N:Int) / 256)=(N:Int) / 256:=by
    have h:=HE.out.1
    have:N≤n:=by rw [h]; exact Nat.div_le_self _ _
    exact wrap_ur _ (by omega) (by omega)
   have hsz:(y++z).size=k+1:=by rw [ByteArray.size_append,zy,hz]; omega
   have HZ:=hide hsz
   clear hy HE hsz
   go_wp2
   go_roundg (8 - (k+1))
   case rel =>
    go_light
    exact ⟨k+1,n / 256^(k+1),y++z,by omega,rfl,by rw [← HN.out.1],rfl,by go_num,⟨rfl,HN.out.2⟩,HZ.out,bal hb _⟩
   case measure=>go_light; omega
  ·obtain rfl:k=8:=by omega
   have hzz : ¬ ((8:Int)<8):=by decide
   have HT:=fun W=>reftext_any W 3 z d (by omega) hs r (by
    rw [← hr,HE.out.2,rootT,strB_cons]; rfl)
   rw [show ((8:Nat):Int)=8 from rfl]
   clear HE hlt hk
   go_wp2_with (go_at_call 99; with_reducible refine (HT _).mono ?_; rintro e w1 ⟨rfl,hb1⟩)
   go_ret
   exact ⟨rfl,bnext hb hb1⟩
set_option maxRecDepth 100000 in
theorem refbagged_any (w:World) (ht:Tr w) (k:Int) (ao:Option Addr) (b off len cap:Nat) (ss:List ByteArray) (hr:RdS w ao b off len ss) (hsz : ∀ s∈ss,s.size≤140737488351232) (hmx:len≤8796093022208) (r:ByteArray) (hq:bagL (clk k) ss=r) :
  Calls Tryz.prog 54 #[.int .i64 k,.slice ao len cap] w fun e w'=>e = .returned (.string r)∧Below w.heap.size w w':=by
 by_cases h0:len=0
 ·subst h0
  have:ss=[]:=List.length_eq_zero_iff.1 hr.hl
  subst this
  subst hq
  go_enter Tryz.func54,Tryz.ntmps54
  go_wp2
  go_ret
  exact ⟨rfl,Below.refl _ _⟩
 ·have hlen:0<len:=by omega
  obtain rfl:=hr.ptr hlen
  obtain ⟨m,rfl⟩ : ∃ m,len=m+1:=⟨len - 1,by omega⟩
  have hc:=clk_le k
  have hne : ¬ ((m:Int)+1=0):=by omega
  have cm:=hr.at (k:=m) (by omega)
  have HL:Hid (bagL (clk k) (ss.drop m)=ss.getD m ByteArray.empty):=by
   have:=bagL_last (clk k) ss (by rw [hr.hl]; omega)
   rw [hr.hl] at this; exact this
  have HSZ:Hid (∀ d,d=bagL (clk k) ss→True):=fun _ _=>trivial
  have HM:Hid (∀ j,j<m+1→(ss.getD j ByteArray.empty).size≤140737488351232):=fun j hj=>hsz _ (getD_mem (by rw [hr.hl]; exact hj))
  have HD:Hid (∀ j,(bagL (clk k) (ss.drop j)).size≤140737488351232):=fun j=>bagL_size hc (by decide) _ (fun s hs=>hsz s (List.mem_of_mem_drop hs))
  have HN:Hid (∀ j,j<m→bagL (clk k) (ss.drop j)=dg (clk k) (bagT (ss.getD j ByteArray.empty) (bagL (clk k) (ss.drop (j+1))))):=fun j hj=>bagL_drop _ _ _ (by rw [hr.hl]; omega)
  have HT:Hid (Tr w):=ht
  have HR:Hid (RdS w (some ⟨b,off,none⟩) b off (m+1) ss):=hr
  have HQ:Hid (bagL (clk k) (ss.drop 0)=r):=hq
  obtain ⟨d0,hd0⟩ : ∃ d0,ss.getD m ByteArray.empty=d0:=⟨_,rfl⟩
  rw [hd0] at cm
  have HL2:Hid (bagL (clk k) (ss.drop m)=d0):=by rw [← hd0]; exact HL
  clear hd0 HL ht hr hq hsz HSZ h0 hlen
  go_enter Tryz.func54,Tryz.ntmps54
  go_wp2
  go_loopg [5,6] m (fun g x i wr => ∃ (j:Nat) (d:ByteArray),j=g∧x = .string d∧i = .int .i64 ((j:Int) - 1)∧j≤m∧Hid (bagL (clk k) (ss.drop j)=d)∧Below w.heap.size w wr)
  case atStart =>
   go_light
   exact ⟨m,d0,rfl,rfl,by go_num,Nat.le_refl _,HL2,Below.refl _ _⟩
  case round =>
   obtain ⟨j,d,hg,rfl,rfl,hj,HE,hb⟩:=hrel
   subst hg
   cases j with
   | zero =>
    have hz : ¬ ((0:Int) ≤ -1):=by decide
    rw [show ((0:Nat):Int) - 1 = -1 from rfl]
    have HF:Hid (d=r):=HE.out.symm.trans HQ.out
    clear HE HN HQ HM HD HR HT cm
    obtain rfl:=HF.out
    go_wp2
    go_ret
    exact ⟨rfl,hb⟩
   | succ j =>
    have e1:((j+1:Nat):Int) - 1=(j:Int):=by omega
    have hz:(0:Int)≤(j:Int):=by omega
    have hz2:(j:Int)<(m:Int)+1:=by omega
    have hjm:j<m:=by omega
    have cj:=(HR.out.next hb (Nat.le_refl _)).at (k:=j) (by omega)
    have z1:=HM.out j (by omega)
    have z2:=HD.out (j+1)
    have hn:=HN.out j hjm
    rw [HE.out] at z2 hn
    generalize ss.getD j ByteArray.empty=p at *
    have HG:=fun W=>refbagt_any W p d (by omega) (by omega) _ rfl
    obtain ⟨t,ht⟩ : ∃ t,bagT p d=t:=⟨_,rfl⟩
    have zt:=bagT_size p d
    rw [ht] at zt
    simp only [ht] at HG hn
    obtain ⟨d',hd'⟩ : ∃ d',dg (clk k) t=d':=⟨_,rfl⟩
    have HO:Hid (∀ W,Below w.heap.size w W→Calls Tryz.prog 52 #[.int .i64 k,.string t] W fun e w'=>e = .returned (.string d')∧Below W.heap.size W w'):=fun W hb=>refof_any W (HT.out.next hb) k t (by omega) d' hd'
    have HE2:Hid (bagL (clk k) (ss.drop j)=d'):=hn.trans hd'
    rw [e1]
    clear HE hn hd' ht zt z1 z2 e1 cm HL2
    go_wp2_with (first
     | (go_at_call 100; with_reducible refine (HG _).mono ?_; rintro e w1 ⟨rfl,hb1⟩; replace hb:=bnext hb hb1; clear hb1)
     | (go_at_call 52; with_reducible refine (HO.out _ hb).mono ?_; rintro e w2 ⟨rfl,hb2⟩; replace hb:=bnext hb hb2; clear hb2))
    go_roundg j
    case rel =>
     go_light
     exact ⟨j,d',rfl,rfl,by go_num,by omega,HE2.out,hb⟩
    case measure=>go_light; omega
set_option maxRecDepth 100000 in
theorem refroot_any (w:World) (ht:Tr w) (k:Int) (n:Nat) (hn:n<18446744073709551616) (ao:Option Addr) (b off len cap:Nat) (ss:List ByteArray) (hr:RdS w ao b off len ss) (hsz : ∀ s∈ss,s.size≤140737488351232) (hmx:len≤8796093022208) (r:ByteArray) (hq:dg (clk k) (rootT n (bagL (clk k) ss))=r) :
  Calls Tryz.prog 24 #[.int .i64 k,.int .u64 (n:Int),.slice ao len cap] w fun e w'=>e = .returned (.string r)∧Below w.heap.size w w':=by
 have hz:(bagL (clk k) ss).size≤140737488351232:=bagL_size (clk_le k) (by decide) _ hsz
 obtain ⟨d,hd⟩ : ∃ d,bagL (clk k) ss=d:=⟨_,rfl⟩
 have HBg:=refbagged_any w ht k ao b off len cap ss hr hsz hmx d hd
 rw [hd] at hq hz
 obtain ⟨t,hrt⟩ : ∃ t,rootT n d=t:=⟨_,rfl⟩
 have HRt:=fun W=>refroott_any W n hn d (by omega) t hrt
 have zt:=rootT_size n d
 rw [hrt] at hq zt
 have HO:Hid (∀ W,Below w.heap.size w W→Calls Tryz.prog 52 #[.int .i64 k,.string t] W fun e w'=>e = .returned (.string r)∧Below W.heap.size W w'):=fun W hb=>refof_any W (ht.next hb) k t (by omega) r hq
 have hb:=Below.refl w.heap.size w
 clear hq ht hd hrt zt hz hr hsz hmx
 go_enter Tryz.func24,Tryz.ntmps24
 go_wp2_with (first
  | (go_at_call 54; with_reducible refine HBg.mono ?_; rintro e w1 ⟨rfl,hb1⟩; replace hb:=bnext hb hb1; clear hb1)
  | (go_at_call 53; with_reducible refine (HRt _).mono ?_; rintro e w1 ⟨rfl,hb1⟩; replace hb:=bnext hb hb1; clear hb1)
  | (go_at_call 52; with_reducible refine (HO.out _ hb).mono ?_; rintro e w2 ⟨rfl,hb2⟩; replace hb:=bnext hb hb2; clear hb2))
 go_ret
 exact ⟨rfl,hb⟩
end Go.Proofs.YtipcenbndhnnhaaGreatDoor
