/- Own work. -/
import Derived.BigQuiet
import Derived.OpenShut
import Derived.Test.YtipcenbndhnnhaaGreatDoorQc47
import Derived.Test.YtipcenbndhnnhaaGreatDoorQc48
namespace Go.Proofs.YtipcenbndhnnhaaGreatDoor
open Go.RowKit
attribute [local go_sem ↓] Go.wp_at_zero Go.wp_at_succ
def pvB (k:Int) (L:List ByteArray) (n:Nat) (S:List Nat):PV:=⟨2,k,0,n,S,dgB (clk k) L n S⟩
theorem well_batch {k:Int} (k1:1≤k) (k2:k≤32) (L:List ByteArray) {n:Nat} (hn:n≤2^40) {S:List Nat} (he:Cv.errS n S=0):Well (pvB k L n S):=by
 have hck:(clk k:Int)=k:=by unfold clk; rw [if_neg (by omega),if_neg (by omega)]; omega
 refine ⟨?_,fun d hd => ?_⟩
 ·show cnt 2 k 0 n S=some (dgB (clk k) L n S).length
  rw [dgB_len,cnt,if_pos ⟨k1,k2,hn⟩,if_neg (by decide),if_pos rfl,if_pos ⟨rfl,he⟩]
 ·show (d.size:Int)=k
  rw [dgB_size (clk_le k) L n S d hd]; exact hck
theorem claims_batch (w:World) (ht:Tb w) (k:Int) (k1:1≤k) (k2:k≤32) (o1:Nat) (c1:ByteArray) (ca:Option Addr) (cb co cn cc:Nat) (l:List (Nat×ByteArray)) (hc:RdK w ca cb co cn l) (hcm:cn≤1048576) (s:ByteArray) (hs:s.size≤281474976710656) (P:PV) (hd:dec s.data.toList=some P) (hk:P.k=k) (h2:P.kd=2) (hS:P.S=ixs l) (hX : ∀ x∈vls l,x.size≤1048576)
  (r:Int) (hr:clmD P.size (dg (clk k) (rootT P.size (bagL (clk k) (pB (clk k) (Cv.dnL 41 0 P.size) P.S (vls l) P.D)))) 0 o1 c1=r) :
  Calls Tryz.prog 14 #[.int .i64 k,.agg #[.int .u64 (o1:Int),.string c1],.slice ca cn cc,.string s] w fun e w'=>e = .returned (.int .i64 r)∧Below w.heap.size w w':=by
 have hW:=(enc_dec hd).1
 have hco:=cnt_ok hW.1
 have hD:P.D.length≤8796093022208:=by have:=hco.hc; omega
 have hl:P.S.length=(vls l).length:=by rw [hS,List.length_map,List.length_map]
 have hcl:=hc.hl
 have hok:okB 2 k 0 P.size P.S P.D:=by
  have hc1:=hW.1
  rw [h2,hk,hco.two h2,cnt] at hc1
  have h40:=hco.hsz
  rw [if_pos ⟨k1,k2,by omega⟩,if_neg (by decide),if_pos rfl] at hc1
  by_cases he:Cv.errS P.size P.S=0
  ·rw [if_pos ⟨rfl,he⟩] at hc1
   refine ⟨⟨rfl,⟨k1,k2⟩,rfl⟩,he,?_,fun d hdm=>by rw [hW.2 d hdm,hk]⟩
   rw [Cv.rstS,if_pos he]; exact (Option.some.inj hc1).symm
  ·rw [if_neg (fun h=>he h.2)] at hc1; cases hc1
 refine claims_led w k k1 k2 o1 c1 ca cb co cn cc l hc (by omega) s hs P hd hk ⟨.inr h2,hS⟩ P.size _ 0 (fun W sa sb sc da db dc ao m c hb hF ho => ?_) r hr
 obtain ⟨ao',xb,c',hv,hx,hxc,hxn⟩:=owns_rds ho (fun x hx=>Nat.le_trans (hX x hx) (by decide))
 injection hv with g1 g2 g3
 subst g1 g2 g3
 refine leads_batch W P.kd k (by rw [h2]; decide) P.old P.size sa P.S.length sc da P.D.length dc ao (vls l).length c P.size _ 0 fun V hbV => ?_
 have hF2:=hF.next hbV
 have:=broot_ok V (ht.next (bnext hb hbV)) k P.size sa sb 0 sc P.S (vls l) (by rw [← hl]; exact hF2.p.rs) (by rw [List.length_map]; omega) (by rw [← hl]; exact hF2.cS) hF2.nS da db 0 dc P.D hF2.p.rd hD hF2.p.cD hF2.nD ao xb 0 c (hx.next hbV (Nat.le_refl _)) hxc hxn hok hX _ rfl
 rw [← hl] at this
 rw [h2,hco.two h2,← hl]
 exact this
theorem enc_back {P:PV} (h:Well P) {s:ByteArray} (hs:(⟨(enc P).toArray⟩:ByteArray)=s):dec s.data.toList=some P∧s.size≤70368744177664:=by
 subst hs
 refine ⟨by rw [show (⟨(enc P).toArray⟩:ByteArray).data.toList=enc P by simp]; exact dec_enc h,?_⟩
 show (enc P).toArray.size≤_
 rw [List.size_toArray]; exact enc_len h
theorem tk_none (k:Int) (k1:1≤k) (k2:k≤32):tkE k ⟨#[]⟩=140:=by
 rw [tkE,if_neg (by omega)]; rfl
theorem tk_zero (s:ByteArray):tkE 0 s=70:=by rw [tkE,if_pos (by decide)]
set_option maxRecDepth 100000 in
set_option maxHeartbeats 4000000 in
theorem alive_light (w:World) (ht:Tb w) (hr:Tr w):Calls Tryz.prog 7 #[] w fun e w'=>e = .returned (.bool true)∧Below w.heap.size w w':=by
 have small : ∀ s∈[xa,xb],s.size≤1:=fun s hs=>by
  simp only [List.mem_cons,List.mem_nil_iff,or_false] at hs
  rcases hs with rfl | rfl <;> decide
 obtain ⟨w0,hw0⟩ : ∃ w0,(w.alloc (.cells #[.string xa,.string xb] 9)).alloc (.cells #[.int .i64 32,.slice (some ⟨w.heap.size,0,none⟩) 2 2,.int .u64 0,.int .u64 0,.slice none 0 0] 26)=w0:=⟨_,rfl⟩
 have hb0:Below w.heap.size w w0:=by rw [← hw0]; exact bal (bal (Below.refl _ _) _) _
 have hbox:Fv w0 (w.heap.size+1) (.int .i64 32) (.slice (some ⟨w.heap.size,0,none⟩) 2 2) (.int .u64 0) (.int .u64 0) (.slice none 0 0):=by
  obtain ⟨_,h⟩:=two_boxes w (.cells #[.string xa,.string xb] 9) (.cells #[.int .i64 32,.slice (some ⟨w.heap.size,0,none⟩) 2 2,.int .u64 0,.int .u64 0,.slice none 0 0] 26)
  rw [← hw0]; exact h
 have rd0:RdS w0 (some ⟨w.heap.size,0,none⟩) w.heap.size 0 2 [xa,xb]:=by
  have h0:RdS (w.alloc (.cells #[.string xa,.string xb] 9)) (some ⟨w.heap.size,0,none⟩) w.heap.size 0 2 [xa,xb]:=⟨rfl,fun _=>rfl,range_new w [.string xa,.string xb] 9,fun s hs=>by have:=small s hs; omega⟩
  rw [← hw0]; exact h0.next (bal (Below.refl _ _) _) (Nat.le_refl _)
 have HMd:Hid (Calls Tryz.prog 8 #[.agg #[.int .i64 32,.slice (some ⟨w.heap.size,0,none⟩) 2 2,.int .u64 0,.int .u64 0,.slice none 0 0]] w0 fun e w' => ∃ f,e = .returned (.tuple #[.pointer (some ⟨f+1,0,none⟩),.bool true])∧Frs w' f 32 [xa,xb]∧Below w0.heap.size w0 w') :=
  (made_any w0 (ht.next hb0) 32 _ _ _ 2 2 [xa,xb] rd0 (by decide) 0 0 (.slice none 0 0) [xa,xb] rfl).mono fun e w' h=>by
   rcases h with ⟨_,⟨f,e1,e2⟩,e3⟩ | ⟨h,_⟩
   ·exact ⟨f,e1,e2,e3⟩
   ·exact absurd ⟨⟨by decide,by decide⟩,fun s hs=>by have:=small s hs; omega⟩ h
 have he:Cv.errS 2 [1]=0:=by decide
 obtain ⟨D,hD⟩ : ∃ D,dgB (clk 32) [xa,xb] 2 [1]=D:=⟨_,rfl⟩
 have hDl:D.length=1:=by rw [← hD,dgB_len]; decide
 have hDc:dgB (clk 32) [xa,xc] 2 [1]=D:=by
  generalize clk 32=c32 at hD ⊢
  have e1:Cv.rst 0 2 [1]=[(0,0)]:=by decide
  rw [← hD,dgB,dgB,e1,List.map_cons,List.map_cons,List.map_nil,List.map_nil,nd,nd,List.getD_cons_zero,List.getD_cons_zero]
 obtain ⟨P,hP⟩ : ∃ P,pvB 32 [xa,xb] 2 [1]=P:=⟨_,rfl⟩
 have hPD:P=⟨2,32,0,2,[1],D⟩:=by rw [← hP,pvB,hD]
 have hwell:Well P:=by rw [← hP]; exact well_batch (by decide) (by decide) _ (by decide) he
 obtain ⟨s,hs⟩ : ∃ s,(⟨(enc P).toArray⟩:ByteArray)=s:=⟨_,rfl⟩
 obtain ⟨hdec,hss⟩:=enc_back hwell hs
 have hss2:s.size≤281474976710656:=Nat.le_trans hss (by decide)
 obtain ⟨rr,hrr⟩ : ∃ rr,rtD (clk 32) [xa,xb] 2=rr:=⟨_,rfl⟩
 have hne:rtD (clk 32) [xa,xc] 2≠rr:=by rw [← hrr,show clk 32=32 by decide]; exact rt_differ
 have HPr:Hid (∀ W m,Frs W m 32 [xa,xb]→Calls Tryz.prog 11 #[.pointer (some ⟨m+1,0,none⟩),.int .u64 2,.slice (some ⟨W.heap.size,0,none⟩) 1 1] (W.alloc (.cells #[.int .u64 1] 23)) fun e w' => ∃ bs cs bd cd,e = .returned (.tuple #[.agg #[.int .i64 2,.int .i64 32,.int .u64 0,.int .u64 2,.slice (some ⟨bs,0,none⟩) 1 cs,.slice (some ⟨bd,0,none⟩) 1 cd],.int .i64 0])∧Hid (RdU w' (some ⟨bs,0,none⟩) bs 0 1 [1]∧RdS w' (some ⟨bd,0,none⟩) bd 0 1 D∧1≤cd)∧Below W.heap.size W w'):=fun W m hF=>by
  have hbW:=bal (Below.refl W.heap.size W) (.cells #[.int .u64 ((1:Nat):Int)] 23)
  have hU:RdU (W.alloc (.cells #[.int .u64 ((1:Nat):Int)] 23)) (some ⟨W.heap.size,0,none⟩) W.heap.size 0 1 [1]:=⟨rfl,fun _=>rfl,range_new W [.int .u64 ((1:Nat):Int)] 23⟩
  refine (bprove_rd _ m 32 _ (hF.next hbW (Nat.le_refl _)) (by decide) 2 (by decide) _ _ 0 1 [1] hU he D hD).mono fun e w' ⟨gs,cs,ad,bd,cd,h1,h2,h3,h4,h5,h6,_,_,h8⟩ => ?_
  rw [hDl] at h1 h4 h5
  obtain rfl:=h4.ptr Nat.zero_lt_one
  exact ⟨gs,cs,bd,cd,h1,⟨h2,h4,h5⟩,bnext hbW h8⟩
 have HEn:Hid (∀ W bs cs bd cd,RdU W (some ⟨bs,0,none⟩) bs 0 1 [1]→RdS W (some ⟨bd,0,none⟩) bd 0 1 D→1≤cd→Calls Tryz.prog 13 #[.agg #[.int .i64 2,.int .i64 32,.int .u64 0,.int .u64 2,.slice (some ⟨bs,0,none⟩) 1 cs,.slice (some ⟨bd,0,none⟩) 1 cd]] W fun e w'=>e = .returned (.tuple #[.string s,.int .i64 0])∧Below W.heap.size W w'):=fun W bs cs bd cd h1 h2 h3=>by
  have hp:RdPC W (some ⟨bs,0,none⟩) bs 0 cs (some ⟨bd,0,none⟩) bd 0 cd P:=by
   rw [hPD]
   exact ⟨h1,by rw [hDl]; exact h2,(by show (0:Nat)<18446744073709551616; decide),(by show (2:Nat)<18446744073709551616; decide),(by show 1≤17592186044416; decide),by rw [hDl]; decide,by rw [hDl]; exact h3⟩
  have:=encode_yes _ _ _ _ _ _ _ _ _ _ hp hwell
  rw [hs,hPD] at this
  unfold pvP pv6 at this
  simp only [hDl] at this
  exact this
 have HPl:Hid (∀ W,Tr W→RdS W (some ⟨w.heap.size,0,none⟩) w.heap.size 0 2 [xa,xb]→Calls Tryz.prog 9 #[.int .i64 32,.slice (some ⟨w.heap.size,0,none⟩) 2 2,.int .u64 2] W fun e w'=>e = .returned (.tuple #[.agg #[.int .u64 2,.string rr],.int .i64 0])∧Below W.heap.size W w'):=fun W hT hR=>rroot_ok W hT 32 (by decide) (by decide) _ _ _ 2 2 [xa,xb] hR (fun s hs=>by have:=small s hs; omega) (by decide) (by decide) 2 (by decide) rr (hide hrr)
 have HCl:Hid (∀ (W:World) (x:ByteArray) (r:Int),Tb W→x.size≤1048576→clmD 2 (rtD (clk 32) [xa,x] 2) 0 2 rr=r→dgB (clk 32) [xa,x] 2 [1]=D→Calls Tryz.prog 14 #[.int .i64 32,.agg #[.int .u64 2,.string rr],.slice (some ⟨W.heap.size,0,none⟩) 1 1,.string s] (W.alloc (.cells #[.int .u64 1,.string x] 46)) fun e w'=>e = .returned (.int .i64 r)∧Below W.heap.size W w'):=fun W x r hT hx hr hDx=>by
  have hbW:=bal (Below.refl W.heap.size W) (.cells #[.int .u64 ((1:Nat):Int),.string x] 46)
  refine (claims_batch _ (hT.next hbW) 32 (by decide) (by decide) 2 rr _ _ 0 1 1 [(1,x)] (rdk_one W 1 x (Nat.le_trans hx (by decide))) (by decide) s hss2 P hdec (by rw [hPD]) (by rw [hPD]) (by rw [hPD]; rfl) (fun y hy=>by simp at hy; subst hy; exact hx) r ?_).mono fun e w' h=>⟨h.1,bnext hbW h.2⟩
  rw [hPD]
  have h:=batch_complete (clk 32) [xa,x] 2 [1] (Nat.le_refl _) he
  rw [hDx] at h
  rw [← hr,rtD,← h]
  rfl
 have HC1:Hid (∀ (W:World),Tb W→Calls Tryz.prog 14 #[.int .i64 32,.agg #[.int .u64 2,.string rr],.slice (some ⟨W.heap.size,0,none⟩) 1 1,.string s] (W.alloc (.cells #[.int .u64 1,.string ⟨#[98]⟩] 46)) fun e w'=>e = .returned (.int .i64 0)∧Below W.heap.size W w'):=fun W hT=>HCl.out W xb 0 hT (by decide) (by rw [clmD,if_pos ⟨rfl,rfl,hrr⟩]) hD
 have HC2:Hid (∀ (W:World),Tb W→Calls Tryz.prog 14 #[.int .i64 32,.agg #[.int .u64 2,.string rr],.slice (some ⟨W.heap.size,0,none⟩) 1 1,.string s] (W.alloc (.cells #[.int .u64 1,.string ⟨#[99]⟩] 46)) fun e w'=>e = .returned (.int .i64 150)∧Below W.heap.size W w'):=fun W hT=>HCl.out W xc 150 hT (by decide) (by rw [clmD,if_neg (fun h=>hne h.2.2)]) hDc
 have HC3:Hid (∀ (W:World),Calls Tryz.prog 14 #[.int .i64 0,.agg #[.int .u64 2,.string rr],.slice none 0 0,.string s] W fun e w'=>e = .returned (.int .i64 70)∧Below W.heap.size W w'):=fun W=>claims_no W 0 2 rr none 0 0 s hss2 70 (tk_zero s) (by decide)
 have HC4:Hid (∀ (W:World),Calls Tryz.prog 15 #[.int .i64 32,.agg #[.int .u64 2,.string rr],.agg #[.int .u64 2,.string rr],.string ⟨#[]⟩] W fun e w'=>e = .returned (.int .i64 140)∧Below W.heap.size W w'):=fun W=>kin_no W 32 2 rr 2 rr ⟨#[]⟩ (by decide) 140 (tk_none 32 (by decide) (by decide)) (by decide)
 have HT:Hid (∀ W,Below w0.heap.size w0 W→Tb W∧Tr W∧RdS W (some ⟨w.heap.size,0,none⟩) w.heap.size 0 2 [xa,xb]∧Fv W (w.heap.size+1) (.int .i64 32) (.slice (some ⟨w.heap.size,0,none⟩) 2 2) (.int .u64 0) (.int .u64 0) (.slice none 0 0)∧Below w.heap.size w W):=fun W hb=>⟨ht.next (bnext hb0 hb),hr.next (bnext hb0 hb),rd0.next hb (Nat.le_refl _),hbox.next hb,bnext hb0 hb⟩
 have HB0:=hide (And.intro hw0 hbox.cells)
 clear hw0
 clear ht hr rd0 hD hDl hDc hP hPD hwell hs hdec hss hss2 hrr hne HCl hbox hb0 small he
 go_enter Tryz.func7,Tryz.ntmps7
 go_upto_region 2 with (fail)
 obtain ⟨hw0,b0,b1,b2,b3,b4⟩:=HB0.out
 try rw [hw0]
 clear hw0 HB0
 go_upto_region 5 with (go_at_call 8; with_reducible refine HMd.out.mono ?_; rintro e w1 ⟨m,rfl,hF1,hbw⟩)
 have HFb:Hid (∀ W,Below w1.heap.size w1 W→Tb W∧Tr W∧RdS W (some ⟨w.heap.size,0,none⟩) w.heap.size 0 2 [xa,xb]∧Fv W (w.heap.size+1) (.int .i64 32) (.slice (some ⟨w.heap.size,0,none⟩) 2 2) (.int .u64 0) (.int .u64 0) (.slice none 0 0)∧Below w.heap.size w W):=fun W hb=>HT.out W (bnext hbw hb)
 have HF1:=hide hF1
 clear hF1 hbw HT HMd b0 b1 b2 b3 b4
 go_upto_region 6 with (go_at_call 11; with_reducible refine (HPr.out _ _ HF1.out).mono ?_; rintro e w2 ⟨bs,cs,bd,cd,rfl,HU,hb2⟩)
 obtain ⟨w3,hw3,x6,hb3,_⟩:=box6 w2 (.int .i64 2) (.int .i64 32) (.int .u64 0) (.int .u64 2) (.slice (some ⟨bs,0,none⟩) 1 cs) (.slice (some ⟨bd,0,none⟩) 1 cd)
 try rw [hw3]
 clear hw3
 obtain ⟨m0,m1,m2,m3,m4,m5⟩:=x6.cells
 go_upto_region 7 with (go_at_call 13; with_reducible refine (HEn.out _ _ _ _ _ (HU.out.1.next hb3) (HU.out.2.1.next hb3 (Nat.le_refl _)) HU.out.2.2).mono ?_; rintro e w4 ⟨rfl,hb4⟩)
 have hbA:=bnext (bnext hb2 hb3) hb4
 obtain ⟨y1,y2,y3,y4,y5⟩:=HFb.out w4 hbA
 have z1:=y4.cells.2.1
 have HY:=hide (And.intro y2 y3)
 clear m0 m1 m2 m3 m4 m5 x6 HU HPr HEn y1 y2 y3 y4 y5
 go_upto_region 8 with (go_at_call 9; with_reducible refine (HPl.out _ HY.out.1 HY.out.2).mono ?_; rintro e w5 ⟨rfl,hb5⟩)
 obtain ⟨w6,hw6⟩ : ∃ w6,w5.alloc (.cells #[.int .u64 2,.string rr] 32)=w6:=⟨_,rfl⟩
 have hb6:Below w5.heap.size w5 w6:=by rw [← hw6]; exact bal (Below.refl _ _) _
 have hq6:Rh w6 w5.heap.size 2 rr:=by rw [← hw6]; exact heap_alloc_new w5 _
 try rw [hw6]
 have HE:Hid (∀ W,Below w6.heap.size w6 W→Tb W∧Rh W w5.heap.size 2 rr∧Below w.heap.size w W):=fun W hb=>by
  have:=HFb.out W (bnext (bnext (bnext hbA hb5) hb6) hb)
  exact ⟨this.1,hq6.next hb,this.2.2.2.2⟩
 generalize w5.heap.size=q5 at *
 clear hw6 hb6 hq6 hb5 hbA hb2 hb3 hb4 z1 HY HPl HFb HF1
 obtain ⟨t6,r6,_⟩:=HE.out w6 (Below.refl _ _)
 obtain ⟨g0,g1⟩:=r6.cells
 have HT6:=hide t6
 clear t6 r6
 go_wp2_with (first
  | (go_at_call 15; with_reducible refine (HC4.out _).mono ?_; rintro e w10 ⟨rfl,hb10⟩)
  | (go_at_call 14; with_reducible refine (HC1.out w6 HT6.out).mono ?_; rintro e w7 ⟨rfl,hb7⟩; (obtain ⟨g2,g3⟩:=(HE.out w7 hb7).2.1.cells))
  | (go_at_call 14; with_reducible refine (HC2.out w7 (HE.out w7 hb7).1).mono ?_; rintro e w8 ⟨rfl,hb8⟩; (obtain ⟨g4,g5⟩:=(HE.out w8 (bnext hb7 hb8)).2.1.cells))
  | (go_at_call 14; with_reducible refine (HC3.out w8).mono ?_; rintro e w9 ⟨rfl,hb9⟩; (obtain ⟨g6,g7⟩:=(HE.out w9 (bnext (bnext hb7 hb8) hb9)).2.1.cells)))
 go_ret
 exact ⟨rfl,(HE.out _ (bnext (bnext (bnext hb7 hb8) hb9) hb10)).2.2⟩
abbrev mrk:ByteArray:=⟨#[109,97,114,107]⟩
set_option maxRecDepth 100000 in
set_option maxHeartbeats 1000000 in
theorem lent_light (w:World) (ca:Option Addr) (cb co cc:Nat) (l:List (Nat×ByteArray)) (hc:RdK w ca cb co l.length l) (hn:ca=none→cc=0) (hm:l.length≤1048576) :
  Calls Tryz.prog 19 #[.slice ca l.length cc] w fun e w' => ∃ g cap,e = .returned (.slice (some ⟨g,0,none⟩) l.length cap)∧OwnK w' w.heap.size (.slice (some ⟨g,0,none⟩) (l.length+1) cap) (l++[(0,mrk)])∧l.length+1≤cap∧Below w.heap.size w w':=by
 have HC:=hide (rdc_K hc hn)
 have hm5:(l.length:Int)≤1048576:=by omega
 have HM:=hide hm
 clear hc hn hm
 go_enter Tryz.func19,Tryz.ntmps19
 go_wp2_with (at_builtin; refine wpList_append_K _ rfl _ _ rfl w.heap.size _ [] rfl (ownK_nil w _) _ l rfl HC.out ?c1 ?c2 ?_)
 case c1=>have:=HM.out; simp; omega
 case c2=>exact Nat.le_refl _
 intro v' w1 o1 g1
 obtain ⟨va,vm,vc,rfl⟩:=Cv.own_slice o1
 have hb1:Below w.heap.size w w1:=(Below.refl _ _).grown g1 (Nat.le_refl _) (fun k h=>by cases h)
 have HO:=hide (And.intro o1 hb1)
 clear o1 g1 hb1
 go_wp2_with (at_builtin; refine wpList_append_K _ rfl _ _ rfl w.heap.size _ l rfl (ownK_next HO.out.1 (bal (Below.refl _ _) _)) _ [(0,mrk)] rfl (rdc_K1 w1 0 mrk) ?c3 ?c4 ?_)
 case c3=>have:=HM.out; simp; omega
 case c4=>have:=HO.out.2.size; simp; omega
 intro v2 w2 o2 g2
 obtain ⟨g,cap,rfl,hcap⟩ : ∃ g cap,v2 = .slice (some ⟨g,0,none⟩) (l.length+1) cap∧l.length+1≤cap:=by
  have h0:w2.ownsRow w.heap.size 46 2 v2 (l++[(0,mrk)]).length (cK (l++[(0,mrk)])):=o2
  rw [List.length_append,List.length_singleton] at h0
  rcases h0.2 with ⟨_,h2⟩ | ⟨g,cap,cur,hv,_,_,hc1,_⟩
  ·omega
  ·exact ⟨g,cap,hv,hc1⟩
 have hb2:Below w.heap.size w w2:=(bal HO.out.2 (.cells #[.int .u64 0,.string mrk] 46)).grown g2 (by have:=HO.out.2.size; simp; omega) (fun k hk=>ownK_at HO.out.1 k hk)
 have HF:Hid (OwnK w2 w.heap.size (.slice (some ⟨g,0,none⟩) (l.length+1) cap) (l++[(0,mrk)])∧l.length+1≤cap∧Below w.heap.size w w2):=⟨o2,hcap,hb2⟩
 have hz0:(0:Int)≤(l.length:Int):=Int.natCast_nonneg _
 have hz1:(l.length:Int)≤(cap:Int):=by omega
 clear o2 g2 hb2 HO HC hcap
 go_wp2
 go_ret
 exact ⟨g,cap,rfl,HF.out⟩
theorem getD_left (l:List (Nat×ByteArray)) (x:Nat×ByteArray) {j:Nat} (h:j<l.length):(l++[x]).getD j noC=l.getD j noC:=by
 rw [List.getD_eq_getElem?_getD,List.getD_eq_getElem?_getD,List.getElem?_append_left h]
theorem getD_end (l:List (Nat×ByteArray)) (x:Nat×ByteArray):(l++[x]).getD l.length noC=x:=by
 rw [List.getD_eq_getElem?_getD,List.getElem?_append_right (Nat.le_refl _),Nat.sub_self]; rfl
set_option maxRecDepth 100000 in
set_option maxHeartbeats 1000000 in
theorem whole_light (w:World) (g gc:Nat) (l:List (Nat×ByteArray)) (ha:RdK w (some ⟨g,0,none⟩) g 0 (l.length+1) (l++[(0,mrk)])) (hgc:l.length+1≤gc) (ca:Option Addr) (cb co cc:Nat) (hc:RdK w ca cb co l.length l) (hm:l.length≤1048576) :
  Calls Tryz.prog 21 #[.slice (some ⟨g,0,none⟩) l.length gc,.slice ca l.length cc] w fun e w'=>e = .returned (.bool true)∧Below w.heap.size w w':=by
 have HR:Hid (∀ W,Below w.heap.size w W→RdK W (some ⟨g,0,none⟩) g 0 (l.length+1) (l++[(0,mrk)])∧RdK W ca cb co l.length l):=fun W hb=>⟨ha.next hb,hc.next hb⟩
 have hm5:(l.length:Int)≤1048576:=by omega
 have hg5:(l.length:Int)+1≤(gc:Int):=by omega
 clear ha hc
 go_enter Tryz.func21,Tryz.ntmps21
 go_wp2
 go_loopg [5] l.length (fun m i wr => ∃ k:Nat,k≤l.length∧m=l.length - k∧i = .int .i64 (k:Int)∧Below w.heap.size w wr)
 case atStart =>
  go_light
  exact ⟨0,Nat.zero_le _,rfl,rfl,Below.refl _ _⟩
 case round =>
  obtain ⟨k,hk,rfl,rfl,hb⟩:=hrel
  have hk0:(0:Int)≤(k:Int):=Int.natCast_nonneg _
  obtain ⟨r1,r2⟩:=HR.out wr hb
  have HB:=hide hb
  clear hb
  by_cases hlt:k<l.length
  ·obtain rfl:=r2.ptr (by omega)
   obtain ⟨c1,c2⟩:=r1.at (j:=k) (by omega)
   obtain ⟨c3,c4⟩:=r2.at hlt
   rw [getD_left l _ hlt,Nat.zero_add] at c1
   rw [getD_left l _ hlt,Nat.zero_add] at c2
   have hz:(k:Int)<(l.length:Int):=by omega
   obtain ⟨x,hx⟩ : ∃ x,(l.getD k noC).1=x:=⟨_,rfl⟩
   obtain ⟨y,hy⟩ : ∃ y,(l.getD k noC).2=y:=⟨_,rfl⟩
   rw [hx] at c1 c3
   rw [hy] at c2 c4
   clear hx hy r1 r2
   go_wp2
   go_quiet (fail)
   go_wp2
   go_roundg (l.length - (k+1))
   case rel =>
    go_light
    exact ⟨k+1,by omega,rfl,by go_num,below_drewN HB.out _⟩
   case measure=>go_light; omega
  ·have hz : ¬ (k:Int)<(l.length:Int):=by omega
   obtain ⟨c1,c2⟩:=r1.at (j:=l.length) (by omega)
   rw [getD_end,Nat.zero_add] at c2
   have hz0:(0:Int)≤(l.length:Int):=Int.natCast_nonneg _
   have hz1:(0:Int)≤(l.length:Int)+1:=by omega
   have hz2:(l.length:Int)<(l.length:Int)+1:=by omega
   have hz3:((l.length:Int)+1).toNat=l.length+1:=by omega
   clear r1 r2 c1
   go_wp2
   go_ret
   exact ⟨rfl,HB.out⟩
set_option maxRecDepth 100000 in
set_option maxHeartbeats 2000000 in
theorem claims_walk (w:World) (ht:Tb w) (hr:Tr w) (k:Int) (o1:Nat) (c1:ByteArray) (ca:Option Addr) (cb co cc:Nat) (l:List (Nat×ByteArray)) (hc:RdK w ca cb co l.length l) (hn:ca=none→cc=0) (hm:l.length≤1048576) (s:ByteArray) (hs:s.size≤8796093021952) :
  Calls Tryz.prog 6 #[.int .i64 k,.agg #[.int .u64 (o1:Int),.string c1],.agg #[.slice ca l.length cc,.string s]] w fun e w'=>e = .returned (.bool true)∧Below w.heap.size w w':=by
 have hv : ∀ x∈vls l,x.size≤9223372036854775807:=fun x hx=>by
  obtain ⟨c,h1,rfl⟩:=List.mem_map.1 hx
  exact hc.sz c h1
 obtain ⟨r,hk1,hk2⟩:=claims_both k o1 c1 l hm hv s hs
 obtain ⟨W0,hW0⟩ : ∃ W0,(w.alloc (.cells #[.int .u64 (o1:Int),.string c1] 32)).alloc (.cells #[.slice ca l.length cc,.string s] 54)=W0:=⟨_,rfl⟩
 have hb0:Below w.heap.size w W0:=by rw [← hW0]; exact bal (bal (Below.refl _ _) _) _
 obtain ⟨e1,e2⟩:Rh W0 w.heap.size o1 c1∧W0.heap[w.heap.size+1]? = some (.cells #[.slice ca l.length cc,.string s] 54 (0,0)):=by
  have:=two_boxes w (.cells #[.int .u64 (o1:Int),.string c1] 32) (.cells #[.slice ca l.length cc,.string s] 54)
  rw [← hW0]; exact this
 have HA:=alive_light W0 (ht.next hb0) (hr.next hb0)
 have HX:Hid (∀ F,Below W0.heap.size W0 F→(F.cell? ⟨w.heap.size,0,none⟩=some (.int .u64 (o1:Int))∧F.cell? ⟨w.heap.size,1,none⟩=some (.string c1)∧F.cell? ⟨w.heap.size+1,0,none⟩=some (.slice ca l.length cc)∧F.cell? ⟨w.heap.size+1,1,none⟩=some (.string s))∧Tb F∧Tr F∧RdK F ca cb co l.length l∧Below w.heap.size w F):=fun F hF=>by
  have h2:=(hF.block (w.heap.size+1) (Array.getElem?_eq_some_iff.1 e2).1).trans e2
  obtain ⟨g0,g1⟩:=(e1.next hF).cells
  have hbF:=bnext hb0 hF
  exact ⟨⟨g0,g1,by rw [cell_of_row F _ 0 _ _ (0,0) h2]; rfl,by rw [cell_of_row F _ 1 _ _ (0,0) h2]; rfl⟩,ht.next hbF,hr.next hbF,hc.next hbF,hbF⟩
 have HLt:Hid (∀ W,RdK W ca cb co l.length l→Calls Tryz.prog 19 #[.slice ca l.length cc] W fun e w' => ∃ g cap,e = .returned (.slice (some ⟨g,0,none⟩) l.length cap)∧Hid (OwnK w' W.heap.size (.slice (some ⟨g,0,none⟩) (l.length+1) cap) (l++[(0,mrk)])∧l.length+1≤cap)∧Below W.heap.size W w'):=fun W h=>(lent_light W ca cb co cc l h hn hm).mono fun e w' ⟨g,cap,a1,a2,a3,a4⟩=>⟨g,cap,a1,⟨a2,a3⟩,a4⟩
 have HK2:Hid (∀ W,Tr W→RdK W ca cb co l.length l→Calls Tryz.prog 20 #[.int .i64 k,.agg #[.int .u64 (o1:Int),.string c1],.slice ca l.length cc,.string s] W fun e w'=>e = .returned (.int .i64 r)∧Below W.heap.size W w'):=fun W h1 h2=>hk2 W ca cb co cc h1 h2
 have HK1:Hid (∀ W g cap,Tb W→RdK W (some ⟨g,0,none⟩) g 0 l.length l→Calls Tryz.prog 14 #[.int .i64 k,.agg #[.int .u64 (o1:Int),.string c1],.slice (some ⟨g,0,none⟩) l.length cap,.string s] W fun e w'=>e = .returned (.int .i64 r)∧Below W.heap.size W w'):=fun W g cap h1 h2=>hk1 W _ g 0 cap h1 h2
 have HWh:Hid (∀ W g cap,RdK W (some ⟨g,0,none⟩) g 0 (l.length+1) (l++[(0,mrk)])→l.length+1≤cap→RdK W ca cb co l.length l→Calls Tryz.prog 21 #[.slice (some ⟨g,0,none⟩) l.length cap,.slice ca l.length cc] W fun e w'=>e = .returned (.bool true)∧Below W.heap.size W w'):=fun W g cap h1 h2 h3=>whole_light W g cap l h1 h2 ca cb co cc h3 hm
 have HZ:Hid (∀ c∈l++[(0,mrk)],c.2.size≤9223372036854775807):=fun c h=>by
  rcases List.mem_append.1 h with h | h
  ·exact hc.sz c h
  ·rw [List.mem_singleton.1 h]; decide
 clear ht hr hk1 hk2 hb0 e1 e2 hs hc hn hm hv
 go_enter Tryz.func6,Tryz.ntmps6
 go_upto_region 1 with (fail)
 try rw [hW0]
 clear hW0
 go_upto_region 3 with (go_at_call 7; with_reducible refine HA.mono ?_; rintro e w1 ⟨rfl,hb1⟩)
 obtain ⟨⟨a0,a1,a2,a3⟩,_,_,hc1,_⟩:=HX.out w1 hb1
 clear HA
 go_upto_region 4 with (go_at_call 19; with_reducible refine (HLt.out _ hc1).mono ?_; rintro e w2 ⟨g,cap,rfl,HO,hb2⟩)
 obtain ⟨⟨b0,b1,b2,b3⟩,_,t2,c2,_⟩:=HX.out w2 (bnext hb1 hb2)
 have hgr:RdK w2 (some ⟨g,0,none⟩) g 0 (l.length+1) (l++[(0,mrk)]):=by
  obtain ⟨ao,b,cp,hv,h1,_⟩:=ownK_rd HO.out.1 HZ.out
  rw [List.length_append,List.length_singleton] at hv h1
  injection hv with e1 e2 e3
  subst e1
  have:=h1.ptr (by omega)
  injection this with this
  injection this with this
  subst this
  exact h1
 have hgl:RdK w2 (some ⟨g,0,none⟩) g 0 l.length l:=⟨rfl,fun _=>rfl,fun j v hv=>hgr.rng j v (by rw [cK_app,List.getElem?_append_left (List.getElem?_eq_some_iff.1 hv).1]; exact hv),fun c h=>HZ.out c (List.mem_append_left _ h)⟩
 have HG:Hid (∀ F,Below w2.heap.size w2 F→(F.cell? ⟨w.heap.size,0,none⟩=some (.int .u64 (o1:Int))∧F.cell? ⟨w.heap.size,1,none⟩=some (.string c1)∧F.cell? ⟨w.heap.size+1,0,none⟩=some (.slice ca l.length cc)∧F.cell? ⟨w.heap.size+1,1,none⟩=some (.string s))∧Tb F∧RdK F (some ⟨g,0,none⟩) g 0 l.length l∧RdK F (some ⟨g,0,none⟩) g 0 (l.length+1) (l++[(0,mrk)])∧RdK F ca cb co l.length l∧Below w.heap.size w F):=fun F hF=>by
  obtain ⟨x1,x2,x3,x4,x5⟩:=HX.out F (bnext (bnext hb1 hb2) hF)
  exact ⟨x1,x2,hgl.next hF,hgr.next hF,x4,x5⟩
 have HCap:Hid (l.length+1≤cap):=HO.out.2
 clear hb1 hb2 hc1 a0 a1 a2 a3 hgr hgl HO HLt HX
 go_upto_region 5 with (go_at_call 20; with_reducible refine (HK2.out _ t2 c2).mono ?_; rintro e w3 ⟨rfl,hb3⟩)
 obtain ⟨⟨d0,d1,d2,d3⟩,t3,r3,_⟩:=HG.out w3 hb3
 have H3:=hide (And.intro t3 r3)
 clear b0 b1 b2 b3 t2 c2 HK2 t3 r3
 go_wp2_with (first
  | (go_at_call 14; with_reducible refine (HK1.out w3 g cap H3.out.1 H3.out.2).mono ?_; rintro e w4 ⟨rfl,hb4⟩; (obtain ⟨⟨f0,f1,f2,f3⟩,t4,r4,_⟩:=HG.out w4 (bnext hb3 hb4)))
  | (go_at_call 14; with_reducible refine (HK1.out w4 g cap t4 r4).mono ?_; rintro e w5 ⟨rfl,hb5⟩; (obtain ⟨⟨h0,h1,h2,h3⟩,t5,r5,q5,c5,_⟩:=HG.out w5 (bnext (bnext hb3 hb4) hb5)))
  | (go_at_call 21; with_reducible refine (HWh.out w5 g cap q5 HCap.out c5).mono ?_; rintro e w6 ⟨rfl,hb6⟩))
 go_ret
 exact ⟨rfl,(HG.out w6 (bnext (bnext (bnext hb3 hb4) hb5) hb6)).2.2.2.2.2⟩
end Go.Proofs.YtipcenbndhnnhaaGreatDoor
namespace Go.Proofs.YtipcenbndhnnhaaGreatDoor
open Go.RowKit
theorem u64_nat {a:Int} (wf:(Lit.int .u64 a).wf=true) : ∃ n:Nat,a=(n:Int)∧n<18446744073709551616:=by
 have:=bounds_u64 wf
 exact ⟨a.toNat,by omega,by omega⟩
end Go.Proofs.YtipcenbndhnnhaaGreatDoor
