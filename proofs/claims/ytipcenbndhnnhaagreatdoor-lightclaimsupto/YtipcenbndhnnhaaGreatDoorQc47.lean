/- Own work. -/
import Derived.KernelRfl
import Derived.Test.YtipcenbndhnnhaaGreatDoorQc34
import Derived.Test.YtipcenbndhnnhaaGreatDoorQc40
import Derived.Test.YtipcenbndhnnhaaGreatDoorQc46
namespace Go.Proofs.YtipcenbndhnnhaaGreatDoor
open Go.RowKit
attribute [local go_sem ↓] Go.wp_at_zero Go.wp_at_succ
set_option maxRecDepth 100000 in
set_option maxHeartbeats 1000000 in
theorem refroot_bad (w:World) (kd k:Int) (old size:Nat) (sa:Option Addr) (ns sc:Nat) (da:Option Addr) (n2 dc:Nat)
  (HI:Hid (∀ W,Below w.heap.size w W→Calls Tryz.prog 85 #[.agg #[.int .i64 kd,.int .i64 k,.int .u64 (old:Int),.int .u64 (size:Int),.slice sa ns sc,.slice da n2 dc]] W fun e w'=>e = .returned (.bool false)∧Below W.heap.size W w')) (x:ByteArray) :
  Calls Tryz.prog 45 #[.agg #[.int .i64 kd,.int .i64 k,.int .u64 (old:Int),.int .u64 (size:Int),.slice sa ns sc,.slice da n2 dc],.string x] w fun e w'=>e = .returned (.tuple #[noR,.int .i64 150])∧Below w.heap.size w w':=by
 go_enter Tryz.func45,Tryz.ntmps45
 go_upto_region 1 with (fail)
 obtain ⟨W0,hW0⟩ : ∃ W0,(w.alloc (.cells #[.int .i64 kd,.int .i64 k,.int .u64 (old:Int),.int .u64 (size:Int),.slice sa ns sc,.slice da n2 dc] 38)).alloc (.cells #[.int .u64 0,.string ⟨#[]⟩] 32)=W0:=⟨_,rfl⟩
 rw [hW0]
 obtain ⟨hb,h6,hRt,hz⟩:=root_start hW0
 obtain ⟨c0,c1,c2,c3,c4,c5⟩:=h6.cells
 have HR:=hide (And.intro hRt hz)
 clear hW0 h6 hRt hz
 go_wp2_with (go_at_call 85; with_reducible refine (HI.out _ hb).mono ?_; rintro e w1 ⟨rfl,hb1⟩; have hR:=HR.out.1.below hb1 (by rw [HR.out.2]; omega); have k0:=hR.c0; have k1:=hR.c1; have f0:=hR.f0; have f1:=hR.f1)
 obtain ⟨s0,s1,hch⟩:=rt_put hR 0 ⟨#[]⟩
 refine bodyPost_ret (v := .tuple #[noR,.int .i64 150]) (by simp [results,Tryz.results45,go_sem,s0,s1]) rfl ⟨rfl,?_⟩
 exact (bnext hb hb1).trans (hch.below (by rintro b rfl; omega))
set_option maxRecDepth 100000 in
set_option maxHeartbeats 1000000 in
theorem refroot_long (w:World) (kd k:Int) (old size:Nat) (sa:Option Addr) (ns sc:Nat) (da:Option Addr) (n2 dc:Nat)
  (HI:Hid (∀ W,Below w.heap.size w W→Calls Tryz.prog 85 #[.agg #[.int .i64 kd,.int .i64 k,.int .u64 (old:Int),.int .u64 (size:Int),.slice sa ns sc,.slice da n2 dc]] W fun e w'=>e = .returned (.bool true)∧Below W.heap.size W w')) (x:ByteArray) (hx:1048576<x.size) :
  Calls Tryz.prog 45 #[.agg #[.int .i64 kd,.int .i64 k,.int .u64 (old:Int),.int .u64 (size:Int),.slice sa ns sc,.slice da n2 dc],.string x] w fun e w'=>e = .returned (.tuple #[noR,.int .i64 100])∧Below w.heap.size w w':=by
 have hxz:(1048576:Int)<(x.size:Int):=by omega
 clear hx
 go_enter Tryz.func45,Tryz.ntmps45
 go_upto_region 1 with (fail)
 obtain ⟨W0,hW0⟩ : ∃ W0,(w.alloc (.cells #[.int .i64 kd,.int .i64 k,.int .u64 (old:Int),.int .u64 (size:Int),.slice sa ns sc,.slice da n2 dc] 38)).alloc (.cells #[.int .u64 0,.string ⟨#[]⟩] 32)=W0:=⟨_,rfl⟩
 rw [hW0]
 obtain ⟨hb,h6,hRt,hz⟩:=root_start hW0
 obtain ⟨c0,c1,c2,c3,c4,c5⟩:=h6.cells
 have HR:=hide (And.intro hRt hz)
 clear hW0 h6 hRt hz
 go_wp2_with (go_at_call 85; with_reducible refine (HI.out _ hb).mono ?_; rintro e w1 ⟨rfl,hb1⟩; have hR:=HR.out.1.below hb1 (by rw [HR.out.2]; omega); have k0:=hR.c0; have k1:=hR.c1; have f0:=hR.f0; have f1:=hR.f1)
 obtain ⟨s0,s1,hch⟩:=rt_put hR 0 ⟨#[]⟩
 refine bodyPost_ret (v := .tuple #[noR,.int .i64 100]) (by simp [results,Tryz.results45,go_sem,s0,s1]) rfl ⟨rfl,?_⟩
 exact (bnext hb hb1).trans (hch.below (by rintro b rfl; omega))
theorem roots_any (kd k:Int) (old size:Nat) (S:List Nat) (D:List ByteArray) (hD:D.length≤9223372036854775807) (x:ByteArray) : ∃ (n:Nat) (r:ByteArray) (er:Int),
  (∀ W sa sb so sc da db dO dc,Tb W→RdU W sa sb so S.length S→RdS W da db dO D.length D→D.length≤dc→dc≤9223372036854775807→(da=none→dc=0)→Calls Tryz.prog 72 #[.agg #[.int .i64 kd,.int .i64 k,.int .u64 (old:Int),.int .u64 (size:Int),.slice sa S.length sc,.slice da D.length dc],.string x] W fun e w'=>e = .returned (.tuple #[.agg #[.int .u64 (n:Int),.string r],.int .i64 er])∧Below W.heap.size W w') ∧
  (∀ W sa sb so sc da db dO dc,Tr W→RdU W sa sb so S.length S→RdS W da db dO D.length D→Calls Tryz.prog 45 #[.agg #[.int .i64 kd,.int .i64 k,.int .u64 (old:Int),.int .u64 (size:Int),.slice sa S.length sc,.slice da D.length dc],.string x] W fun e w'=>e = .returned (.tuple #[.agg #[.int .u64 (n:Int),.string r],.int .i64 er])∧Below W.heap.size W w'):=by
 by_cases hp:kd=1∧(1≤k∧k≤32)∧size≤2^40∧old=0∧S.length=1∧S.getD 0 0<size
 ·obtain ⟨rfl,hk,hn,rfl,hS,hi⟩:=hp
  obtain ⟨i,hi'⟩ : ∃ i,S.getD 0 0=i:=⟨_,rfl⟩
  rw [hi'] at hi
  obtain ⟨A,H,B,wy⟩:=wy_ex size i hn hi
  have ra : ∀ {W sa sb so},RdU W sa sb so S.length S→sa=some ⟨sb,so,none⟩∧RA W k size sb so i H A B:=fun {W sa sb so} u=>by
   refine ⟨u.ptr (by omega),hk,hn,hi,wy,?_⟩
   have:=u.at (j:=0) (by omega)
   rw [hi'] at this
   exact this
  by_cases hf:fil k (H+A.length+B.length) D
  ·by_cases hx:1048576<x.size
   ·refine ⟨0,⟨#[]⟩,100,fun W sa sb so sc da db dO dc tb u d h1 h2 h3 => ?_,fun W sa sb so sc da db dO dc tr u d => ?_⟩
    ·obtain ⟨rfl,a⟩:=ra u
     rw [hS]
     exact proot_long W k size sb so sc i H A B a da db dO dc D d hD x hf hx
    ·obtain ⟨rfl,a⟩:=ra u
     rw [hS]
     exact refroot_long W 1 k 0 size _ 1 sc da D.length dc (fun W' hb=>well_core W' k size sb so sc i H A B (a.next hb) da db dO dc D (d.next hb (Nat.le_refl _)) hD true (decide_eq_true hf)) x hx
   ·obtain ⟨r,hr⟩ : ∃ r,rtP (clk k) size i A.length H D x=r:=⟨_,rfl⟩
    refine ⟨size,r,0,fun W sa sb so sc da db dO dc tb u d h1 h2 h3 => ?_,fun W sa sb so sc da db dO dc tr u d => ?_⟩
    ·obtain ⟨rfl,a⟩:=ra u
     rw [hS]
     exact proot_okT W k size sb so sc i H A B a da db dO dc D d hD x hf (by omega) tb h1 h2 h3 r hr
    ·obtain ⟨rfl,a⟩:=ra u
     rw [hS]
     exact refroot_ok W tr k size sb so sc i H A B a da db dO dc D d hf x (by omega) r hr
  ·refine ⟨0,⟨#[]⟩,150,fun W sa sb so sc da db dO dc tb u d h1 h2 h3 => ?_,fun W sa sb so sc da db dO dc tr u d => ?_⟩
   ·obtain ⟨rfl,a⟩:=ra u
    rw [hS]
    exact proot_fill W k size sb so sc i H A B a da db dO dc D d hD x hf
   ·obtain ⟨rfl,a⟩:=ra u
    rw [hS]
    exact refroot_bad W 1 k 0 size _ 1 sc da D.length dc (fun W' hb=>well_core W' k size sb so sc i H A B (a.next hb) da db dO dc D (d.next hb (Nat.le_refl _)) hD false (decide_eq_false hf)) x
 ·have hc : ∀ {W sa sb so},RdU W sa sb so S.length S→S.length=1 → ∃ b o,sa=some ⟨b,o,none⟩∧W.cell? ⟨b,o,none⟩=some (.int .u64 ((S.getD 0 0:Nat):Int)):=fun {W sa sb so} u h=>⟨sb,so,u.ptr (by omega),u.at (j:=0) (by omega)⟩
  refine ⟨0,⟨#[]⟩,150,fun W sa sb so sc da db dO dc tb u d h1 h2 h3 => ?_,fun W sa sb so sc da db dO dc tr u d => ?_⟩
  ·exact proot_form W kd k old size sa S.length sc da D.length dc (S.getD 0 0) (hc u) hp x
  ·exact refroot_bad W kd k old size sa S.length sc da D.length dc (fun W' hb=>well_form W' kd k old size sa S.length sc da D.length dc (S.getD 0 0) (hc (u.next hb)) hp) x
end Go.Proofs.YtipcenbndhnnhaaGreatDoor
namespace Go.Proofs.YtipcenbndhnnhaaGreatDoor
open Go.RowKit
theorem vls_first (l:List (Nat×ByteArray)):(vls l).getD 0 ByteArray.empty=(l.getD 0 noC).2:=by
 cases l with
 | nil=>rfl
 | cons c l=>rfl
theorem claims_both (k:Int) (o1:Nat) (c1:ByteArray) (l:List (Nat×ByteArray)) (hl:l.length≤1048576) (hv : ∀ x∈vls l,x.size≤9223372036854775807) (s:ByteArray) (hs:s.size≤8796093021952) : ∃ r:Int,
  (∀ W ca cb co cc,Tb W→RdK W ca cb co l.length l→Calls Tryz.prog 14 #[.int .i64 k,.agg #[.int .u64 (o1:Int),.string c1],.slice ca l.length cc,.string s] W fun e w'=>e = .returned (.int .i64 r)∧Below W.heap.size W w') ∧
  (∀ W ca cb co cc,Tr W→RdK W ca cb co l.length l→Calls Tryz.prog 20 #[.int .i64 k,.agg #[.int .u64 (o1:Int),.string c1],.slice ca l.length cc,.string s] W fun e w'=>e = .returned (.int .i64 r)∧Below W.heap.size W w'):=by
 have hs2:s.size≤281474976710656:=Nat.le_trans hs (by decide)
 by_cases h0:tkE k s=0
 ·obtain ⟨⟨k1,k2⟩,P,hd,hk⟩:=tkE_zero h0
  have hco:=cnt_ok (enc_dec hd).1.1
  have hD:P.D.length≤8796093022208:=by have:=hco.hc; omega
  by_cases hS:P.S=ixs l
  ·have hSl:P.S.length=l.length:=by rw [hS,List.length_map]
   have hVl:(vls l).length=l.length:=List.length_map ..
   by_cases h1:P.kd=1
   ·have hl0:0<l.length:=by have:=(hco.one h1).1; omega
    obtain ⟨n,d,er,g1,g2⟩:=roots_any 1 k P.old P.size P.S P.D (by omega) (l.getD 0 noC).2
    refine ⟨clmD n d er o1 c1,fun W ca cb co cc hT hc => ?_,fun W ca cb co cc hT hc => ?_⟩
    ·refine claims_led W k k1 k2 o1 c1 ca cb co l.length cc l hc (by omega) s hs2 P hd hk ⟨.inl h1,hS⟩ n d er (fun V sa sb sc da db dc ao m c hb hF ho => ?_) _ rfl
     obtain ⟨ao',xb,c',hv',hx,hxc,hxn⟩:=owns_rds ho hv
     injection hv' with e1 e2 e3
     subst e1 e2 e3
     rw [h1]
     refine leads_path V k P.old P.size sa P.S.length sc da P.D.length dc ao xb 0 (vls l).length c (vls l) hx (by omega) n d er fun Z hbZ => ?_
     have hF2:=hF.next hbZ
     rw [vls_first]
     exact g1 Z sa sb 0 sc da db 0 dc (hT.next (bnext hb hbZ)) hF2.p.rs hF2.p.rd hF2.p.cD hF2.mC hF2.nD
    ·exact rclaims_path W k k1 k2 o1 c1 ca cb co l.length cc l hc (by omega) s hs P hd hk h1 hS hl0 n d er (fun V sa sb sc da db dc hb hF=>g2 V sa sb 0 sc da db 0 dc (hT.next hb) hF.rs hF.rd) _ rfl
   ·by_cases h2:P.kd=2
    ·obtain ⟨n,d,er,g1,g2⟩:=rboth 2 k P.old P.size P.S (by omega) P.D (vls l) hD
     refine ⟨clmD n d er o1 c1,fun W ca cb co cc hT hc => ?_,fun W ca cb co cc hT hc => ?_⟩
     ·refine claims_led W k k1 k2 o1 c1 ca cb co l.length cc l hc (by omega) s hs2 P hd hk ⟨.inr h2,hS⟩ n d er (fun V sa sb sc da db dc ao m c hb hF ho => ?_) _ rfl
      obtain ⟨ao',xb,c',hv',hx,hxc,hxn⟩:=owns_rds ho hv
      injection hv' with e1 e2 e3
      subst e1 e2 e3
      refine leads_batch V P.kd k h1 P.old P.size sa P.S.length sc da P.D.length dc ao (vls l).length c n d er fun Z hbZ => ?_
      have hF2:=hF.next hbZ
      rw [h2]
      exact g1 Z sa sb 0 sc da db 0 dc ao xb 0 c (hT.next (bnext hb hbZ)) hF2.p.rs hF2.cS hF2.nS hF2.p.rd hF2.p.cD hF2.nD (hx.next hbZ (Nat.le_refl _)) hxc hxn
     ·refine rclaims_batch W k k1 k2 o1 c1 ca cb co l.length cc l hc (by omega) s hs P hd hk h2 hS n d er (fun V sa sb sc da db dc ao m c hb hF ho => ?_) _ rfl
      obtain ⟨ao',xb,c',hv',hx,hxc,hxn⟩:=owns_rds ho hv
      injection hv' with e1 e2 e3
      subst e1 e2 e3
      exact g2 V sa sb 0 sc da db 0 dc ao xb 0 c (hT.next hb) hF.rs hF.rd hx
    ·have h3:P.kd=3:=by have:=hco.kd1; have:=hco.kd3; omega
     exact ⟨150,fun W ca cb co cc hT hc=>claims_off W k k1 k2 o1 c1 ca cb co l.length cc l hc s hs2 P hd hk (fun h=>h.1.elim h1 h2),fun W ca cb co cc hT hc=>rclaims_kin W k k1 k2 o1 c1 ca l.length cc s hs P hd hk h3⟩
  ·by_cases h3:P.kd=3
   ·exact ⟨150,fun W ca cb co cc hT hc=>claims_off W k k1 k2 o1 c1 ca cb co l.length cc l hc s hs2 P hd hk (fun h=>hS h.2),fun W ca cb co cc hT hc=>rclaims_kin W k k1 k2 o1 c1 ca l.length cc s hs P hd hk h3⟩
   ·exact ⟨150,fun W ca cb co cc hT hc=>claims_off W k k1 k2 o1 c1 ca cb co l.length cc l hc s hs2 P hd hk (fun h=>hS h.2),fun W ca cb co cc hT hc=>rclaims_off W k k1 k2 o1 c1 ca cb co l.length cc l hc s hs P hd hk h3 hS⟩
 ·exact ⟨tkE k s,fun W ca cb co cc _ _=>claims_no W k o1 c1 ca l.length cc s hs2 _ rfl h0,fun W ca cb co cc _ _=>rclaims_no W k o1 c1 ca l.length cc s hs _ rfl h0⟩
def shaF (rs t:List Int):List Int:=forceL (foldS rs IV (t.take 64)) fun st=>forceL (closeS rs st (pad (t.drop 64)) t.length) fun h=>outB h 8
theorem shaF_eq (rs t:List Int) (h1:64≤t.length) (h2:t.length<128):shaF rs t=shaT rs t:=by
 have e:t.length / 64=1:=by omega
 rw [shaF,forceL_eq,forceL_eq,closeS_eq,foldS_eq,shaT,e]
 rfl
theorem ev_la:shaE RS [0,97]=[2,42,105,121,230,218,183,170,90,228,195,229,228,95,126,151,113,18,167,230,53,147,130,13,190,193,236,115,138,36,249,60]:=by kernel_rfl
theorem dg_la:dg 32 ⟨#[0,97]⟩=⟨#[2,42,105,121,230,218,183,170,90,228,195,229,228,95,126,151,113,18,167,230,53,147,130,13,190,193,236,115,138,36,249,60]⟩:=by
 rw [dg,show tB ⟨#[0,97]⟩=[0,97] by kernel_rfl,shaS,← shaE_eq _ _ (by decide),ev_la]; kernel_rfl
theorem ev_lb:shaE RS [0,98]=[87,235,53,97,93,71,243,78,199,20,202,205,245,253,116,96,138,94,142,16,39,36,232,11,36,178,135,192,194,123,106,49]:=by kernel_rfl
theorem dg_lb:dg 32 ⟨#[0,98]⟩=⟨#[87,235,53,97,93,71,243,78,199,20,202,205,245,253,116,96,138,94,142,16,39,36,232,11,36,178,135,192,194,123,106,49]⟩:=by
 rw [dg,show tB ⟨#[0,98]⟩=[0,98] by kernel_rfl,shaS,← shaE_eq _ _ (by decide),ev_lb]; kernel_rfl
theorem ev_lc:shaE RS [0,99]=[89,127,203,49,40,45,52,101,76,32,13,52,24,252,165,112,92,100,142,191,50,110,199,61,141,222,241,24,65,248,118,216]:=by kernel_rfl
theorem dg_lc:dg 32 ⟨#[0,99]⟩=⟨#[89,127,203,49,40,45,52,101,76,32,13,52,24,252,165,112,92,100,142,191,50,110,199,61,141,222,241,24,65,248,118,216]⟩:=by
 rw [dg,show tB ⟨#[0,99]⟩=[0,99] by kernel_rfl,shaS,← shaE_eq _ _ (by decide),ev_lc]; kernel_rfl
theorem ev_nab:shaF RS [1,2,42,105,121,230,218,183,170,90,228,195,229,228,95,126,151,113,18,167,230,53,147,130,13,190,193,236,115,138,36,249,60,87,235,53,97,93,71,243,78,199,20,202,205,245,253,116,96,138,94,142,16,39,36,232,11,36,178,135,192,194,123,106,49]=[177,55,152,95,244,132,251,96,13,185,49,7,199,123,3,101,200,13,120,245,180,41,222,208,253,151,54,29,7,121,153,235]:=by kernel_rfl
theorem dg_nab:dg 32 ⟨#[1,2,42,105,121,230,218,183,170,90,228,195,229,228,95,126,151,113,18,167,230,53,147,130,13,190,193,236,115,138,36,249,60,87,235,53,97,93,71,243,78,199,20,202,205,245,253,116,96,138,94,142,16,39,36,232,11,36,178,135,192,194,123,106,49]⟩=⟨#[177,55,152,95,244,132,251,96,13,185,49,7,199,123,3,101,200,13,120,245,180,41,222,208,253,151,54,29,7,121,153,235]⟩:=by
 rw [dg,show tB ⟨#[1,2,42,105,121,230,218,183,170,90,228,195,229,228,95,126,151,113,18,167,230,53,147,130,13,190,193,236,115,138,36,249,60,87,235,53,97,93,71,243,78,199,20,202,205,245,253,116,96,138,94,142,16,39,36,232,11,36,178,135,192,194,123,106,49]⟩=[1,2,42,105,121,230,218,183,170,90,228,195,229,228,95,126,151,113,18,167,230,53,147,130,13,190,193,236,115,138,36,249,60,87,235,53,97,93,71,243,78,199,20,202,205,245,253,116,96,138,94,142,16,39,36,232,11,36,178,135,192,194,123,106,49] by kernel_rfl,shaS,← shaF_eq _ _ (by decide) (by decide),ev_nab]; kernel_rfl
theorem ev_nac:shaF RS [1,2,42,105,121,230,218,183,170,90,228,195,229,228,95,126,151,113,18,167,230,53,147,130,13,190,193,236,115,138,36,249,60,89,127,203,49,40,45,52,101,76,32,13,52,24,252,165,112,92,100,142,191,50,110,199,61,141,222,241,24,65,248,118,216]=[51,28,43,156,250,55,233,221,201,204,133,243,34,254,220,117,184,156,76,193,156,146,228,150,243,238,141,6,51,95,97,86]:=by kernel_rfl
theorem dg_nac:dg 32 ⟨#[1,2,42,105,121,230,218,183,170,90,228,195,229,228,95,126,151,113,18,167,230,53,147,130,13,190,193,236,115,138,36,249,60,89,127,203,49,40,45,52,101,76,32,13,52,24,252,165,112,92,100,142,191,50,110,199,61,141,222,241,24,65,248,118,216]⟩=⟨#[51,28,43,156,250,55,233,221,201,204,133,243,34,254,220,117,184,156,76,193,156,146,228,150,243,238,141,6,51,95,97,86]⟩:=by
 rw [dg,show tB ⟨#[1,2,42,105,121,230,218,183,170,90,228,195,229,228,95,126,151,113,18,167,230,53,147,130,13,190,193,236,115,138,36,249,60,89,127,203,49,40,45,52,101,76,32,13,52,24,252,165,112,92,100,142,191,50,110,199,61,141,222,241,24,65,248,118,216]⟩=[1,2,42,105,121,230,218,183,170,90,228,195,229,228,95,126,151,113,18,167,230,53,147,130,13,190,193,236,115,138,36,249,60,89,127,203,49,40,45,52,101,76,32,13,52,24,252,165,112,92,100,142,191,50,110,199,61,141,222,241,24,65,248,118,216] by kernel_rfl,shaS,← shaF_eq _ _ (by decide) (by decide),ev_nac]; kernel_rfl
theorem ev_rab:shaE RS [3,0,0,0,0,0,0,0,2,177,55,152,95,244,132,251,96,13,185,49,7,199,123,3,101,200,13,120,245,180,41,222,208,253,151,54,29,7,121,153,235]=[249,25,88,10,250,220,204,98,224,203,118,133,13,192,129,177,122,141,152,139,112,56,45,7,169,26,188,133,14,36,109,104]:=by kernel_rfl
theorem dg_rab:dg 32 ⟨#[3,0,0,0,0,0,0,0,2,177,55,152,95,244,132,251,96,13,185,49,7,199,123,3,101,200,13,120,245,180,41,222,208,253,151,54,29,7,121,153,235]⟩=⟨#[249,25,88,10,250,220,204,98,224,203,118,133,13,192,129,177,122,141,152,139,112,56,45,7,169,26,188,133,14,36,109,104]⟩:=by
 rw [dg,show tB ⟨#[3,0,0,0,0,0,0,0,2,177,55,152,95,244,132,251,96,13,185,49,7,199,123,3,101,200,13,120,245,180,41,222,208,253,151,54,29,7,121,153,235]⟩=[3,0,0,0,0,0,0,0,2,177,55,152,95,244,132,251,96,13,185,49,7,199,123,3,101,200,13,120,245,180,41,222,208,253,151,54,29,7,121,153,235] by kernel_rfl,shaS,← shaE_eq _ _ (by decide),ev_rab]; kernel_rfl
theorem ev_rac:shaE RS [3,0,0,0,0,0,0,0,2,51,28,43,156,250,55,233,221,201,204,133,243,34,254,220,117,184,156,76,193,156,146,228,150,243,238,141,6,51,95,97,86]=[59,182,28,199,33,114,77,72,146,47,208,82,21,183,227,186,38,149,1,88,80,13,33,57,141,100,133,5,108,16,185,44]:=by kernel_rfl
theorem dg_rac:dg 32 ⟨#[3,0,0,0,0,0,0,0,2,51,28,43,156,250,55,233,221,201,204,133,243,34,254,220,117,184,156,76,193,156,146,228,150,243,238,141,6,51,95,97,86]⟩=⟨#[59,182,28,199,33,114,77,72,146,47,208,82,21,183,227,186,38,149,1,88,80,13,33,57,141,100,133,5,108,16,185,44]⟩:=by
 rw [dg,show tB ⟨#[3,0,0,0,0,0,0,0,2,51,28,43,156,250,55,233,221,201,204,133,243,34,254,220,117,184,156,76,193,156,146,228,150,243,238,141,6,51,95,97,86]⟩=[3,0,0,0,0,0,0,0,2,51,28,43,156,250,55,233,221,201,204,133,243,34,254,220,117,184,156,76,193,156,146,228,150,243,238,141,6,51,95,97,86] by kernel_rfl,shaS,← shaE_eq _ _ (by decide),ev_rac]; kernel_rfl
abbrev xa:ByteArray:=⟨#[97]⟩
abbrev xb:ByteArray:=⟨#[98]⟩
abbrev xc:ByteArray:=⟨#[99]⟩
theorem pks_two (c:Nat) (x y:ByteArray):pks c [x,y] 41=[dg c (nodeT (dg c (leafT x)) (dg c (leafT y)))]:=by
 simp [pks,nd]
theorem rt_two (c:Nat) (x y:ByteArray):rtD c [x,y] 2=dg c (rootT 2 (dg c (nodeT (dg c (leafT x)) (dg c (leafT y))))):=by
 rw [rtD,show [x,y].take 2=[x,y] from rfl,pks_two]; rfl
theorem rt_ab:rtD 32 [xa,xb] 2=⟨#[249,25,88,10,250,220,204,98,224,203,118,133,13,192,129,177,122,141,152,139,112,56,45,7,169,26,188,133,14,36,109,104]⟩:=by
 rw [rt_two,show leafT xa=⟨#[0,97]⟩ by kernel_rfl,show leafT xb=⟨#[0,98]⟩ by kernel_rfl,dg_la,dg_lb,show nodeT ⟨#[2,42,105,121,230,218,183,170,90,228,195,229,228,95,126,151,113,18,167,230,53,147,130,13,190,193,236,115,138,36,249,60]⟩ ⟨#[87,235,53,97,93,71,243,78,199,20,202,205,245,253,116,96,138,94,142,16,39,36,232,11,36,178,135,192,194,123,106,49]⟩=⟨#[1,2,42,105,121,230,218,183,170,90,228,195,229,228,95,126,151,113,18,167,230,53,147,130,13,190,193,236,115,138,36,249,60,87,235,53,97,93,71,243,78,199,20,202,205,245,253,116,96,138,94,142,16,39,36,232,11,36,178,135,192,194,123,106,49]⟩ by kernel_rfl,dg_nab,show rootT 2 ⟨#[177,55,152,95,244,132,251,96,13,185,49,7,199,123,3,101,200,13,120,245,180,41,222,208,253,151,54,29,7,121,153,235]⟩=⟨#[3,0,0,0,0,0,0,0,2,177,55,152,95,244,132,251,96,13,185,49,7,199,123,3,101,200,13,120,245,180,41,222,208,253,151,54,29,7,121,153,235]⟩ by kernel_rfl,dg_rab]
theorem rt_ac:rtD 32 [xa,xc] 2=⟨#[59,182,28,199,33,114,77,72,146,47,208,82,21,183,227,186,38,149,1,88,80,13,33,57,141,100,133,5,108,16,185,44]⟩:=by
 rw [rt_two,show leafT xa=⟨#[0,97]⟩ by kernel_rfl,show leafT xc=⟨#[0,99]⟩ by kernel_rfl,dg_la,dg_lc,show nodeT ⟨#[2,42,105,121,230,218,183,170,90,228,195,229,228,95,126,151,113,18,167,230,53,147,130,13,190,193,236,115,138,36,249,60]⟩ ⟨#[89,127,203,49,40,45,52,101,76,32,13,52,24,252,165,112,92,100,142,191,50,110,199,61,141,222,241,24,65,248,118,216]⟩=⟨#[1,2,42,105,121,230,218,183,170,90,228,195,229,228,95,126,151,113,18,167,230,53,147,130,13,190,193,236,115,138,36,249,60,89,127,203,49,40,45,52,101,76,32,13,52,24,252,165,112,92,100,142,191,50,110,199,61,141,222,241,24,65,248,118,216]⟩ by kernel_rfl,dg_nac,show rootT 2 ⟨#[51,28,43,156,250,55,233,221,201,204,133,243,34,254,220,117,184,156,76,193,156,146,228,150,243,238,141,6,51,95,97,86]⟩=⟨#[3,0,0,0,0,0,0,0,2,51,28,43,156,250,55,233,221,201,204,133,243,34,254,220,117,184,156,76,193,156,146,228,150,243,238,141,6,51,95,97,86]⟩ by kernel_rfl,dg_rac]
theorem rt_differ:rtD 32 [xa,xc] 2≠rtD 32 [xa,xb] 2:=by
 rw [rt_ab,rt_ac]
 intro h
 have:=congrArg (fun b:ByteArray=>b.data.toList.head?) h
 revert this
 decide
end Go.Proofs.YtipcenbndhnnhaaGreatDoor
namespace Go.Proofs.YtipcenbndhnnhaaGreatDoor
open Go.RowKit
attribute [local go_sem ↓] Go.wp_at_zero Go.wp_at_succ
theorem taken_next {ss:List ByteArray} {j:Nat} (h:j<ss.length):ss.take (j+1)=ss.take j++[ss.getD j ByteArray.empty]:=by
 rw [List.take_add_one,List.getD_eq_getElem?_getD,List.getElem?_eq_getElem h]; rfl
abbrev vE (k:Int) (vl:Value) (m n:Nat) (vs:Value):Value := .agg #[.int .i64 k,vl,.int .u64 (m:Int),.int .u64 (n:Int),vs]
def Fv (w:World) (p:Nat) (a b c d e:Value):Prop:=w.heap[p]? = some (.cells #[a,b,c,d,e] 26 (0,0))
section
variable {w W:World} {p:Nat} {a b c d e:Value}
theorem Fv.cells (h:Fv w p a b c d e):w.cell? ⟨p,0,none⟩=some a∧w.cell? ⟨p,1,none⟩=some b∧w.cell? ⟨p,2,none⟩=some c∧w.cell? ⟨p,3,none⟩=some d∧w.cell? ⟨p,4,none⟩=some e :=
 ⟨by rw [cell_of_row w p 0 _ _ (0,0) h]; rfl,by rw [cell_of_row w p 1 _ _ (0,0) h]; rfl,by rw [cell_of_row w p 2 _ _ (0,0) h]; rfl,by rw [cell_of_row w p 3 _ _ (0,0) h]; rfl,by rw [cell_of_row w p 4 _ _ (0,0) h]; rfl⟩
theorem Fv.lt (h:Fv w p a b c d e):p<w.heap.size:=(Array.getElem?_eq_some_iff.1 h).1
theorem Fv.next (h:Fv w p a b c d e) (hb:Below w.heap.size w W):Fv W p a b c d e:=(hb.block p h.lt).trans h
end
theorem fv_box (w:World) (a b c d e:Value) : ∃ W,w.alloc (.cells #[a,b,c,d,e] 26)=W∧Fv W w.heap.size a b c d e∧Below w.heap.size w W∧W.heap.size=w.heap.size+1 :=
 ⟨_,rfl,heap_alloc_new w _,bal (Below.refl _ _) _,World.size_alloc ..⟩
set_option maxRecDepth 100000 in
theorem eitems_any (w:World) (k:Int) (la:Option Addr) (ll lc m n:Nat) (hc:ll≤lc) (vs:Value) (q:Nat) (hq:min ll 200=q) :
  Calls Tryz.prog 10 #[vE k (.slice la ll lc) m n vs] w fun e w'=>e = .returned (.slice la q lc)∧Below w.heap.size w w':=by
 obtain ⟨W0,hW0,h5,hb,_⟩:=fv_box w (.int .i64 k) (.slice la ll lc) (.int .u64 (m:Int)) (.int .u64 (n:Int)) vs
 obtain ⟨_,m1,_⟩:=h5.cells
 clear h5
 by_cases h:200<ll
 ·obtain rfl:q=200:=by omega
  have hz:(200:Int)<(ll:Int):=by omega
  have hz2:(200:Int)≤(lc:Int):=by omega
  clear h hq hc
  go_enter Tryz.func10,Tryz.ntmps10
  go_upto_region 1 with (fail)
  try rw [hW0]
  clear hW0
  go_wp2
  go_ret
  exact ⟨rfl,hb⟩
 ·obtain rfl:q=ll:=by omega
  have hz : ¬ (200:Int)<(q:Int):=by omega
  clear h hq hc
  go_enter Tryz.func10,Tryz.ntmps10
  go_upto_region 1 with (fail)
  try rw [hW0]
  clear hW0
  go_wp2
  go_ret
  exact ⟨rfl,hb⟩
set_option maxRecDepth 100000 in
set_option maxHeartbeats 1000000 in
theorem made_any (w:World) (ht:Tb w) (k:Int) (la:Option Addr) (lb lo ll lc:Nat) (L:List ByteArray) (hr:RdS w la lb lo ll L) (hc:ll≤lc) (m n:Nat) (vs:Value) (T:List ByteArray) (hT:L.take 200=T) :
  Calls Tryz.prog 8 #[vE k (.slice la ll lc) m n vs] w fun e w'=>(((1≤k∧k≤32) ∧ ∀ s∈T,s.size≤1048576)∧(∃ f,e = .returned (.tuple #[.pointer (some ⟨f+1,0,none⟩),.bool true])∧Frs w' f k T)∧Below w.heap.size w w')∨(¬ ((1≤k∧k≤32) ∧ ∀ s∈T,s.size≤1048576)∧e = .returned (.tuple #[.pointer none,.bool false])∧Below w.heap.size w w'):=by
 have hll:=hr.hl
 have hTl:T.length=min ll 200:=by rw [← hT,List.length_take]; omega
 have hrT:RdS w la lb lo T.length T:=by
  have:T.length=(L.take T.length).length:=by rw [List.length_take]; omega
  refine ⟨rfl,fun h=>hr.ptr (by omega),fun j v hv=>hr.rng j v ?_,fun s hs=>hr.sz s (by rw [← hT] at hs; exact (List.take_sublist _ _).subset hs)⟩
  rw [← hT,List.getElem?_map,List.getElem?_take] at hv
  split at hv
  ·rw [List.getElem?_map]; exact hv
  ·cases hv
 obtain ⟨W0,hW0,h5,hb,hz0⟩:=fv_box w (.int .i64 k) (.slice la ll lc) (.int .u64 (m:Int)) (.int .u64 (n:Int)) vs
 have HI:=eitems_any W0 k la ll lc m n hc vs T.length hTl.symm
 unfold vE at HI
 have HX:Hid (∀ F,Below W0.heap.size W0 F→Fv F w.heap.size (.int .i64 k) (.slice la ll lc) (.int .u64 (m:Int)) (.int .u64 (n:Int)) vs∧RdS F la lb lo T.length T∧Tb F∧Below w.heap.size w F):=fun F hF=>⟨h5.next hF,hrT.next (bnext hb hF) (Nat.le_refl _),ht.next (bnext hb hF),bnext hb hF⟩
 have hT2:T.length≤200:=by omega
 obtain ⟨z0,z1,z2,z3,z4⟩:=h5.cells
 clear hr hT hll hTl hrT hb h5 ht hc
 go_enter Tryz.func8,Tryz.ntmps8
 go_upto_region 1 with (fail)
 try rw [hW0]
 clear hW0
 go_wp2_with (go_at_call 10; with_reducible refine HI.mono ?_; rintro e w1 ⟨rfl,hb1⟩)
 have HX1:Hid (∀ F,Below w1.heap.size w1 F→Fv F w.heap.size (.int .i64 k) (.slice la ll lc) (.int .u64 (m:Int)) (.int .u64 (n:Int)) vs∧RdS F la lb lo T.length T∧Tb F∧Below w.heap.size w F):=fun F hF=>HX.out F (bnext hb1 hF)
 have HZ:Hid (w.heap.size<w1.heap.size):=by have:=hb1.size; show w.heap.size<w1.heap.size; omega
 clear HI HX z0 z1 z2 z3 z4 hb1 hz0
 go_loopg [5] T.length (fun g i wr => ∃ j:Nat,j≤T.length∧g=T.length - j∧i = .int .i64 (j:Int)∧Hid (∀ t,t<j→(T.getD t ByteArray.empty).size≤1048576)∧w1=wr)
 case atStart =>
  go_light
  exact ⟨0,Nat.zero_le _,rfl,rfl,fun t ht=>absurd ht (Nat.not_lt_zero _),rfl⟩
 case round =>
  obtain ⟨j,hj,rfl,rfl,HA,rfl⟩:=hrel
  obtain ⟨y5,yr,yT,yb⟩:=HX1.out w1 (Below.refl _ _)
  have hz0:(0:Int)≤(j:Int):=Int.natCast_nonneg _
  have hz2:(T.length:Int)≤200:=by omega
  by_cases hlt:j<T.length
  ·have hz:(j:Int)<(T.length:Int):=by omega
   obtain rfl:=yr.ptr (by omega)
   have cj:=yr.at hlt
   obtain ⟨x,hx⟩ : ∃ x,T.getD j ByteArray.empty=x:=⟨_,rfl⟩
   rw [hx] at cj
   by_cases hxs:x.size≤1048576
   ·have hkz : ¬ (1048576:Int)<(x.size:Int):=by omega
    have HN:Hid (∀ t,t<j+1→(T.getD t ByteArray.empty).size≤1048576):=fun t ht=>by
     rcases Nat.lt_or_eq_of_le (Nat.le_of_lt_succ ht) with h | rfl
     ·exact HA.out t h
     ·rw [hx]; exact hxs
    clear hx HA hxs y5 yr yT yb
    go_wp2
    go_roundg (T.length - (j+1))
    case rel =>
     go_light
     exact ⟨j+1,by omega,rfl,by go_num,HN.out,rfl⟩
    case measure=>go_light; omega
   ·have hkz:(1048576:Int)<(x.size:Int):=by omega
    have HF:Hid (¬ ((1≤k∧k≤32) ∧ ∀ s∈T,s.size≤1048576)):=fun h=>hxs (by
     rw [← hx]
     refine h.2 _ ?_
     rw [List.getD_eq_getElem?_getD,List.getElem?_eq_getElem hlt]
     exact List.getElem_mem _)
    have HB:=hide yb
    clear hx HA hxs y5 yr yT yb
    go_wp2
    go_ret2
    exact .inr ⟨HF.out,rfl,HB.out⟩
  ·have hz : ¬ ((j:Int)<(T.length:Int)):=by omega
   have HFit:Hid (∀ s∈T,s.size≤1048576):=fun s hs=>by
    obtain ⟨t,ht,rfl⟩:=List.getElem_of_mem hs
    have:=HA.out t (by omega)
    rw [List.getD_eq_getElem?_getD,List.getElem?_eq_getElem ht] at this
    exact this
   have c0:=y5.cells.1
   have HB:=hide yb
   clear HA y5 yr yT yb
   by_cases hk:1≤k∧k≤32
   ·have HN:=fnew_ok w1 k hk.1 hk.2
    have HK:=hide hk
    clear hk
    go_wp2_with (go_at_call 22; with_reducible refine HN.mono ?_; rintro e w2 ⟨rfl,hF2,hb2⟩)
    have HF2:=hide (And.intro hF2 hb2)
    clear hF2 HN hb2 c0
    go_loopg [8] T.length (fun g i wr => ∃ j:Nat,j≤T.length∧g=T.length - j∧i = .int .i64 (j:Int)∧Hid (Frs wr w1.heap.size k (T.take j))∧Hid (Below w1.heap.size w1 wr))
    case atStart =>
     go_light
     exact ⟨0,Nat.zero_le _,rfl,rfl,HF2.out.1,HF2.out.2⟩
    case round =>
     clear HF2
     obtain ⟨i,hi,rfl,rfl,HA,HB2⟩:=hrel
     obtain ⟨y5,yr,yT,yb⟩:=HX1.out wr HB2.out
     have hi0:(0:Int)≤(i:Int):=Int.natCast_nonneg _
     by_cases hlt2:i<T.length
     ·have hzi:(i:Int)<(T.length:Int):=by omega
      obtain rfl:=yr.ptr (by omega)
      have ci:=yr.at hlt2
      obtain ⟨x,hx⟩ : ∃ x,T.getD i ByteArray.empty=x:=⟨_,rfl⟩
      have htn:=taken_next hlt2
      rw [hx] at ci htn
      have hxs:x.size≤1048576:=HFit.out x (by rw [← hx,List.getD_eq_getElem?_getD,List.getElem?_eq_getElem hlt2]; exact List.getElem_mem _)
      have hL:(T.take i).length<65536:=by rw [List.length_take]; omega
      obtain ⟨t,hT⟩ : ∃ t,tr 64 ((T.take i).length+1)=t:=⟨_,rfl⟩
      have HAp:Hid (Calls Tryz.prog 23 #[.pointer (some ⟨w1.heap.size+1,0,none⟩),.string x] wr fun e w' => ∃ v,e = .returned (.tuple #[v,.int .i64 0])∧Frs w' w1.heap.size k (T.take (i+1))∧Below w1.heap.size w1 w') :=
       (fappend_ok wr yT w1.heap.size k (T.take i) HA.out x hxs hL t hT).mono fun e w' ⟨v,e1,e2,e3,e4⟩=>⟨v,e1,by rw [htn]; exact e2,HB2.out.trans e4.below⟩
      clear hx htn hL hT yT yr y5 yb HB2 HA hxs
      go_wp2_with (go_at_call 23; with_reducible refine HAp.out.mono ?_; rintro e w3 ⟨v,rfl,hF3,hb3⟩)
      go_roundg (T.length - (i+1))
      case rel =>
       go_light
       exact ⟨i+1,by omega,rfl,by go_num,hF3,hb3⟩
      case measure=>go_light; omega
     ·have hzi : ¬ (i:Int)<(T.length:Int):=by omega
      have HY:Hid (Frs wr w1.heap.size k T∧Below w.heap.size w wr):=⟨by
       have:=HA.out
       rw [List.take_of_length_le (by omega)] at this
       exact this,yb⟩
      clear yT yr y5 yb HB2 HA
      go_wp2
      go_ret2
      exact .inl ⟨⟨HK.out,HFit.out⟩,⟨_,rfl,HY.out.1⟩,HY.out.2⟩
   ·have HN:=fnew_no w1 k (by omega)
    have HK:Hid (¬ ((1≤k∧k≤32) ∧ ∀ s∈T,s.size≤1048576)):=fun h=>hk h.1
    clear hk
    go_wp2_with (go_at_call 22; with_reducible refine HN.mono ?_; rintro e w2 ⟨rfl,hb2⟩)
    go_ret2
    exact .inr ⟨HK.out,rfl,bnext HB.out hb2⟩
set_option maxRecDepth 100000 in
set_option maxHeartbeats 1000000 in
theorem kin_no (w:World) (k:Int) (o1:Nat) (c1:ByteArray) (o2:Nat) (c2:ByteArray) (s:ByteArray) (hs:s.size≤281474976710656) (e0:Int) (he:tkE k s=e0) (h0:e0≠0) :
  Calls Tryz.prog 15 #[.int .i64 k,.agg #[.int .u64 (o1:Int),.string c1],.agg #[.int .u64 (o2:Int),.string c2],.string s] w fun e w'=>e = .returned (.int .i64 e0)∧Below w.heap.size w w':=by
 have HT:Hid (∀ W,Calls Tryz.prog 35 #[.int .i64 k,.string s] W fun e w'=>e = .returned (.tuple #[noP,.int .i64 e0])∧Below W.heap.size W w'):=fun W=>taken_no W k s hs e0 he h0
 have hb0:=bal (bal (Below.refl w.heap.size w) (.cells #[.int .u64 (o1:Int),.string c1] 32)) (.cells #[.int .u64 (o2:Int),.string c2] 32)
 have hz:(e0 == 0)=false:=by simpa using h0
 clear he hs
 go_enter Tryz.func15,Tryz.ntmps15
 go_wp2_with (go_at_call 35; with_reducible refine (HT.out _).mono ?_; rintro e w1 ⟨rfl,hb1⟩)
 go_ret
 exact ⟨rfl,bal (bnext hb0 hb1) _⟩
end Go.Proofs.YtipcenbndhnnhaaGreatDoor
