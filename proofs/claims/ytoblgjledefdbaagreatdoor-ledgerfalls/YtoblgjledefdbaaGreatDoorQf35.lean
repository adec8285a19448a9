/- Own work. -/
import Derived.Lib.AppendZeros
import Derived.Test.YtoblgjledefdbaaGreatDoorQf34
namespace Go.Proofs.YtoblgjledefdbaaGreatDoor
open Go.RowKit
attribute [local go_sem ↓] Go.wp_at_zero Go.wp_at_succ
def tkL (D:St.DV) (S:St.SV):Nat→List ByteArray×Int
 | 0=>([],0)
 | i+1=>if (tkL D S i).2≠0 then tkL D S i else if (St.itmD D S i).2≠0 then ((tkL D S i).1,(St.itmD D S i).2) else
  if stE D S (St.nn i) (mdL S.k (tkL D S i).1 (St.tx (St.itmD D S i).1))≠0 then ((tkL D S i).1,stE D S (St.nn i) (mdL S.k (tkL D S i).1 (St.tx (St.itmD D S i).1))) else ((tkL D S i).1++[St.tx (St.itmD D S i).1],0)
theorem tkL_len {D:St.DV} {S:St.SV} : ∀ i,(tkL D S i).2=0→(tkL D S i).1.length=i
 | 0,_=>rfl
 | i+1,h=>by
  unfold tkL at h ⊢
  by_cases h0:(tkL D S i).2=0
  ·rw [if_neg (fun q=>q h0)] at h ⊢
   have ih:=tkL_len i h0
   by_cases h1:(St.itmD D S i).2=0
   ·rw [if_neg (fun q=>q h1)] at h ⊢
    by_cases h2:stE D S (St.nn i) (mdL S.k (tkL D S i).1 (St.tx (St.itmD D S i).1))=0
    ·rw [if_neg (fun q=>q h2),List.length_append,ih]; rfl
    ·rw [if_pos h2] at h; exact absurd h h2
   ·rw [if_pos h1] at h; exact absurd h h1
  ·rw [if_pos h0] at h; exact absurd h h0
theorem tkL_stay {D:St.DV} {S:St.SV} {i:Nat} (h:(tkL D S i).2≠0) : ∀ j,tkL D S (i+j)=tkL D S i
 | 0=>rfl
 | j+1=>by
  have ih:=tkL_stay h j
  rw [← Nat.add_assoc,tkL,ih,if_pos h]
theorem own_vn {w:World} {B:Nat} {va:Option Addr} {vn vc:Nat} {l:List ByteArray} (h:OwnS w B (.slice va vn vc) l):l.length=vn:=by
 obtain ⟨_,h2⟩:=h
 rcases h2 with ⟨h2,h3⟩ | ⟨g,cap,cur,h2,_⟩
 ·injection h2 with _ h2
  rw [h2]; exact h3
 ·injection h2 with _ h2
  exact h2.symm
theorem wr3 {vn pl i:Nat} (h1:vn≤41) (h2:pl≤200000) (h3:i<65536):IntKind.u64.wrap (vn:Int)=(vn:Int)∧IntKind.u64.wrap ((pl:Int)+(vn:Int))=((pl+vn:Nat):Int)∧IntKind.u64.wrap ((i:Int)+1)=((i+1:Nat):Int) :=
 ⟨by rw [IntKind.wrap_u64]; omega,by rw [IntKind.wrap_u64]; omega,by rw [IntKind.wrap_u64]; omega⟩
section
variable {w W:World} {a q p m:Nat} {T:Nat→Prop} {D:St.DV} {S:St.SV} {B:Nat}
def LdA (w W:World) (a q p m:Nat) (T:Nat→Prop) (D:St.DV) (S:St.SV) (B:Nat) (L:List ByteArray):Prop :=
 ∃ r vr vs,Led W 0 a q p m r vr vs T D S L∧(∀ b,Lef a m r vr vs b→B≤b)∧Below B w W
set_option maxRecDepth 100000 in
set_option maxHeartbeats 4000000 in
theorem takeall_any (w:World) (ht:Tb w) (h:LdA w w a q p m T D S B []) (hB:B≤w.heap.size) (htB:3<B) (hf:S.ends.length≤65536) :
  Calls Tryz.prog 45 #[.pointer (some ⟨a,0,none⟩)] w fun e w'=>e = .returned (.int .i64 (tkL D S S.ends.length).2)∧LdA w w' a q p m T D S B (tkL D S S.ends.length).1:=by
 obtain ⟨n,hn⟩ : ∃ n,S.ends.length=n:=⟨_,rfl⟩
 rw [hn] at hf ⊢
 have hk1:S.k≤32:=by obtain ⟨_,_,_,h1,_⟩:=h; exact h1.k1.2
 have HTb:Hid (∀ W L,LdA w W a q p m T D S B L→Tb W):=fun W L hW=>by
  obtain ⟨_,_,_,_,_,hb⟩:=hW
  exact ⟨fun j u hu=>by
   rw [← ht.rs j u hu]
   have:=hb.block _ htB
   simp only [World.cell?,this]⟩
 have HSz:Hid (Calls Tryz.prog 74 #[.pointer (some ⟨q,0,none⟩)] w fun e w'=>e = .returned (.int .u64 (n:Int))∧w=w'):=by
  obtain ⟨_,_,_,h1,_⟩:=h
  rw [← hn]
  exact (St.fsize_any w h1.sk).mono fun e w' z=>⟨z.1,z.2.symm⟩
 have hc2:w.cell? ⟨a,2,none⟩=some (.pointer (some ⟨q,0,none⟩)):=by
  obtain ⟨_,_,_,h1,_⟩:=h
  exact h1.cells.2.1
 have H0:=hide h
 have HN:=hide hn
 clear h ht hn
 go_enter Tryz.func45,Tryz.ntmps45
 go_wp2_with (go_at_call 74; (with_reducible refine HSz.out.mono ?_); rintro e w1 ⟨rfl,rfl⟩)
 go_loopg [3,14] n (fun g v3 v14 wr => ∃ (i pl:Nat),i≤n∧g=n - i∧v14 = .int .u64 (i:Int)∧v3 = .int .u64 (pl:Int)∧Hid (St.nn i=pl)∧Hid ((tkL D S i).2=0)∧Hid (LdA w wr a q p m T D S B (tkL D S i).1))
 case atStart =>
  go_light
  exact ⟨0,0,Nat.zero_le _,rfl,rfl,rfl,rfl,rfl,H0⟩
 case round =>
  clear HSz hc2
  obtain ⟨i,pl,hi,rfl,rfl,rfl,HPl,HE,HL⟩:=hrel
  by_cases hlt:i<n
  ·have hzi:(i:Int)<(n:Int):=by omega
   obtain ⟨L,hL⟩ : ∃ L,(tkL D S i).1=L:=⟨_,rfl⟩
   have hlen:L.length=i:=by rw [← hL]; exact tkL_len i HE.out
   rw [hL] at HL
   obtain ⟨r,vr,vs,hl,hlb,hb⟩:=HL.out
   have ht:=HTb.out wr L HL.out
   obtain ⟨x,hx⟩ : ∃ x,St.tx (St.itmD D S i).1=x:=⟨_,rfl⟩
   obtain ⟨y,hy⟩ : ∃ y,(St.itmD D S i).2=y:=⟨_,rfl⟩
   have hxs:x.size≤1048576:=by rw [← hx,St.tx_size]; exact itm_sz
   obtain ⟨e1,he1⟩ : ∃ e1,stE D S pl (mdL S.k L x)=e1:=⟨_,rfl⟩
   have hstep:tkL D S (i+1)=if y≠0 then (L,y) else if e1≠0 then (L,e1) else (L++[x],0):=by
    rw [tkL,if_neg (fun q=>q HE.out),hL,hx,hy,HPl.out,he1]
   have hst:=hl.cells.2.1
   have hax:=World.block_lt_of_cell? _ _ hst
   have HC:Hid (∀ W,Below wr.heap.size wr W→W.cell? ⟨a,2,none⟩=some (.pointer (some ⟨q,0,none⟩))):=fun W hW=>(hW.cell (p:=⟨a,2,none⟩) hax).trans hst
   have HI:Hid (Calls Tryz.prog 84 #[.pointer (some ⟨q,0,none⟩),.int .u64 (i:Int)] wr fun e w'=>e = .returned (.tuple #[.string x,.int .i64 y])∧Below wr.heap.size wr w'):=St.item_any wr hl.sk i (by omega) x y hx hy
   have HZ:Hid (∀ W e2,Below wr.heap.size wr W→e2≠0→tkL D S (i+1)=(L,e2)→(tkL D S n).2=e2∧LdA w W a q p m T D S B (tkL D S n).1):=fun W e2 hW h2 h3=>by
    have h4:=tkL_stay (D:=D) (S:=S) (i:=i+1) (by rw [h3]; exact h2) (n - (i+1))
    rw [show i+1+(n - (i+1))=n by omega,h3] at h4
    rw [h4]
    exact ⟨rfl,r,vr,vs,hl.next hW,hlb,hb.trans (hW.mono (Nat.le_trans hB hb.size))⟩
   by_cases h0:y=0
   ·subst h0
    rw [if_neg (fun q=>q rfl)] at hstep
    obtain ⟨s,hs⟩ : ∃ s,sm x=s:=⟨_,rfl⟩
    have HNx:Hid (∀ W,Below wr.heap.size wr W→Calls Tryz.prog 95 #[.pointer (some ⟨a,0,none⟩),.string x] W (NxQ W S.k L x)):=fun W hW=>by
     have h1:=hl.next hW
     exact next_any W (ht.next hW) a m r vr S.k L h1.fr h1.rg h1.clk h1.cells.2.2.1 h1.cells.2.2.2.1 x hxs (by omega)
    have HSt:Hid (∀ W va vn vc,Below wr.heap.size wr W→OwnS W wr.heap.size (.slice va vn vc) (mdL S.k L x)→Calls Tryz.prog 96 #[.pointer (some ⟨a,0,none⟩),.int .u64 (pl:Int),.slice va vn vc] W fun e w'=>e = .returned (.int .i64 e1)∧Below W.heap.size W w'):=fun W va vn vc hW ho=>by
     obtain ⟨ao,b,cap,hv,hr,_,_⟩:=owns_rds ho (fun y hy=>by rw [mdL_sz hk1 L x y hy]; omega)
     injection hv with e1 e2 e3
     subst e1 e2 e3
     exact stand_any W (hl.next hW) pl va b _ vc (mdL S.k L x) hr (by rw [mdL_len]; have:=trl_le' 40 L.length; omega) (by have:=St.nn_le i; rw [← HPl.out]; omega) e1 he1
    have HTk:Hid (∀ W va vn vc r' vr',Below wr.heap.size wr W→Kp.Rg W r' vr' (S.k:Int) (L.length+1) (pkL S.k (L++[x]))→wr.heap.size≤r'→(∀ g,vr'.ownBlock=some g→wr.heap.size≤g)→Calls Tryz.prog 97 #[.pointer (some ⟨a,0,none⟩),.agg #[.string x,.string s,.slice va vn vc,.pointer (some ⟨r',0,none⟩)]] W fun e w'=>e = .returned (.tuple #[])∧LdA w w' a q p m T D S B (L++[x])):=fun W va vn vc r' vr' hW hr hr1 hr2=>by
     have h1:=hl.next hW
     rw [← hs]
     refine (ltake_any W (ht.next hW) h1 (by omega) hxs ⟨hr,fun e=>by have:=hl.sk.lt e; omega,fun b hb=>⟨fun e=>by have:=hl.sk.lt e; have:=hr2 b hb; omega,fun e=>by have:=own_lt hl.own e; have:=hr2 b hb; omega⟩⟩ va vn vc).mono fun e w' z=>⟨z.1,?_⟩
     obtain ⟨vs',z1,z2,z3⟩:=z.2
     have hBr:=hb.size
     have hWs:=hW.size
     refine ⟨r',vr',vs',z1,fun b hb => ?_,(hb.trans (hW.mono (Nat.le_trans hB hb.size))).trans (z2.below (by omega) hlb)⟩
     rcases hb with e | e | e | e | e | e
     ·exact hlb b (.inl e)
     ·exact hlb b (.inr (.inl e))
     ·exact hlb b (.inr (.inr (.inl e)))
     ·omega
     ·have:=hr2 b e; omega
     ·rcases z3 b e with e | e
      ·exact hlb b (.inr (.inr (.inr (.inr (.inr e)))))
      ·omega
    have hnn:=nn_md i (by omega)
    rw [HPl.out] at hnn
    have HPn:Hid (St.nn (i+1)=pl+(mdL S.k L x).length):=by rw [mdL_len,hlen]; exact hnn
    have hpb:pl≤200000:=by have:=St.nn_le i; rw [HPl.out] at this; omega
    have hmb:(mdL S.k L x).length≤41:=by rw [mdL_len]; have:=trl_le' 40 L.length; omega
    have HSS:=hide hs
    have hni:=hide hlt
    have HSp:=hide hstep
    have HPb:=hide (And.intro hpb hmb)
    clear hpb hmb hstep hl hlb hb ht hx hy hxs he1 hL HL hlen hs hnn hax
    go_upto_region 9 with (first
     | (go_at_call 84; (with_reducible refine HI.out.mono ?_); rintro e w1 ⟨rfl,u1⟩)
     | (go_at_call 95; (with_reducible refine (HNx.out _ u1).mono ?_); rintro e w2 ⟨vm,r',vr',rfl,om,hr',lr,lv,u2⟩; obtain ⟨va,vn,vc,rfl⟩:=own_slice3 om; rw [HSS.out]))
    obtain ⟨b0,hb0⟩ : ∃ b,w2.heap.size=b:=⟨_,rfl⟩
    obtain ⟨w3,hw3⟩ : ∃ W,w2.alloc (.cells #[.string x,.string s,.slice va vn vc,.pointer (some ⟨r',0,none⟩)] 175)=W:=⟨_,rfl⟩
    have k3:w3.heap[b0]? = some (.cells #[.string x,.string s,.slice va vn vc,.pointer (some ⟨r',0,none⟩)] 175 (0,0)):=by rw [← hw3,← hb0]; exact heap_alloc_new w2 _
    have u3:Below w2.heap.size w2 w3:=by rw [← hw3]; exact bal (Below.refl _ _) _
    have z3:=(Array.getElem?_eq_some_iff.1 k3).1
    have v3:Below wr.heap.size wr w3:=bnext (bnext u1 u2) u3
    have o3:OwnS w3 wr.heap.size (.slice va vn vc) (mdL S.k L x):=own_mono (own_next om u3 (Nat.le_refl _)) u1.size
    have hvn:(mdL S.k L x).length=vn:=own_vn o3
    rw [hvn] at HPb HPn
    have g3:Kp.Rg w3 r' vr' (S.k:Int) (L.length+1) (pkL S.k (L++[x])):=hr'.next u3 (Nat.le_refl _)
    have HS3:Hid (∀ W,Below w3.heap.size w3 W→Calls Tryz.prog 96 #[.pointer (some ⟨a,0,none⟩),.int .u64 (pl:Int),.slice va vn vc] W fun e w'=>e = .returned (.int .i64 e1)∧Below w3.heap.size w3 w'):=fun W hW=>(HSt.out W va vn vc (bnext v3 hW) (own_mono (own_next o3 hW (Nat.le_refl _)) (Nat.le_refl _))).mono fun e w' z=>⟨z.1,bnext hW z.2⟩
    have HT3:Hid (∀ W,Below w3.heap.size w3 W→Calls Tryz.prog 97 #[.pointer (some ⟨a,0,none⟩),.agg #[.string x,.string s,.slice va vn vc,.pointer (some ⟨r',0,none⟩)]] W fun e w'=>e = .returned (.tuple #[])∧LdA w w' a q p m T D S B (L++[x])):=fun W hW=>HTk.out W va vn vc r' vr' (bnext v3 hW) (g3.next hW (Nat.le_refl _)) (by have:=u1.size; omega) (fun g hg=>by have:=lv g hg; have:=u1.size; omega)
    have HB3:Hid (∀ W,Below w3.heap.size w3 W→W.cell? ⟨b0,0,none⟩=some (.string x)∧W.cell? ⟨b0,1,none⟩=some (.string s)∧W.cell? ⟨b0,2,none⟩=some (.slice va vn vc)∧W.cell? ⟨b0,3,none⟩=some (.pointer (some ⟨r',0,none⟩))):=fun W hW=>by
     have k:=(hW.block _ z3).trans k3
     exact ⟨by rw [cell_of_row W b0 0 _ _ (0,0) k]; rfl,by rw [cell_of_row W b0 1 _ _ (0,0) k]; rfl,by rw [cell_of_row W b0 2 _ _ (0,0) k]; rfl,by rw [cell_of_row W b0 3 _ _ (0,0) k]; rfl⟩
    obtain ⟨y0,y1,y2,y3⟩:=HB3.out w3 (Below.refl _ _)
    have HV3:=hide v3
    rw [hw3,hb0]
    have u0:=Below.refl w3.heap.size w3
    clear k3 u3 z3 v3 o3 hvn g3 om hr' lr lv u1 u2 hb0 hw3 HTk HSt HNx HI HC hst
    have HW3:=hide (wr3 HPb.out.2 HPb.out.1 (show i<65536 by omega))
    by_cases h1:e1=0
    ·subst h1
     obtain ⟨ew1,ew2,ew3⟩:=HW3.out
     have HN1:Hid (tkL D S (i+1)=(L++[x],0)):=by rw [HSp.out,if_neg (fun q=>q rfl)]; rfl
     clear HZ HSp
     go_upto_region 12 with (go_at_call 96; (with_reducible refine (HS3.out _ u0).mono ?_); rintro e w4 ⟨rfl,u4⟩)
     obtain ⟨y0,y1,y2,y3⟩:=HB3.out w4 u4
     have HT4:=hide (HT3.out w4 u4)
     clear HT3 HB3 HS3
     go_wp2_with (go_at_call 97; (with_reducible refine HT4.out.mono ?_); rintro e w5 ⟨rfl,t5⟩)
     go_roundg (n - (i+1))
     case rel =>
      go_light
      clear ew1 ew2 ew3
      exact ⟨i+1,pl+vn,by have:=hni.out; omega,rfl,rfl,rfl,HPn.out,by rw [HN1.out]; rfl,by rw [HN1.out]; exact t5⟩
     case measure=>go_light; clear ew1 ew2 ew3; have:=hni.out; omega
    ·have HZ1:Hid (∀ W,Below w3.heap.size w3 W→(tkL D S n).2=e1∧LdA w W a q p m T D S B (tkL D S n).1):=fun W hW=>HZ.out W e1 (bnext HV3.out hW) h1 (by rw [HSp.out,if_pos h1])
     have h1b:(e1 != (0:Int))=true:=by simpa using h1
     clear HZ HSp HT3 HB3
     go_wp2_with (go_at_call 96; (with_reducible refine (HS3.out _ u0).mono ?_); rintro e w4 ⟨rfl,u4⟩)
     go_ret
     obtain ⟨q1,q2⟩:=HZ1.out _ u4
     exact ⟨by rw [q1]; rfl,q2⟩
   ·rw [if_pos h0] at hstep
    have h0b:(y != (0:Int))=true:=by simpa using h0
    have HZ1:Hid (∀ W,Below wr.heap.size wr W→(tkL D S n).2=y∧LdA w W a q p m T D S B (tkL D S n).1):=fun W hW=>HZ.out W y hW h0 hstep
    clear HZ hl hlb hb ht hx hy hxs he1 hL HL hlen hstep HTb HPl HE hax
    go_wp2_with (go_at_call 84; (with_reducible refine HI.out.mono ?_); rintro e w1 ⟨rfl,u1⟩)
    go_ret
    obtain ⟨z1,z2⟩:=HZ1.out _ u1
    exact ⟨by rw [z1]; rfl,z2⟩
  ·have hzi : ¬ (i:Int)<(n:Int):=by omega
   obtain rfl:i=n:=by omega
   go_wp2
   go_ret
   exact ⟨by rw [HE.out]; rfl,HL.out⟩
end
def loD (D:St.DV) (k:Int):St.DV×Option (St.SV×List ByteArray)×Int :=
 match (St.opnD D k).2.1 with
 | none=>((St.opnD D k).1,none,(St.opnD D k).2.2)
 | some S=>if (tkL (St.opnD D k).1 S S.ends.length).2=0 then ((St.opnD D k).1,some (S,(tkL (St.opnD D k).1 S S.ends.length).1),0) else ((St.opnD D k).1,none,(tkL (St.opnD D k).1 S S.ends.length).2)
def LoQ (w:World) (p:Nat) (S0:Nat→Prop) (x:St.DV×Option (St.SV×List ByteArray)×Int) (e:Ending) (w':World):Prop :=
 match x.2.1 with
 | none=>e = .returned (.tuple #[.pointer none,.int .i64 x.2.2])∧St.Mvd w w' p S0 x.1
 | some y => ∃ a U,e = .returned (.tuple #[.pointer (some ⟨a,0,none⟩),.int .i64 x.2.2])∧Lg w' 0 a p U x.1 y.1 y.2∧(∀ b,U b→S0 b∨w.heap.size≤b)∧w.heap.size≤a∧St.Upo S0 w w'∧y.1.ends.length=y.2.length
theorem opnD_out (D:St.DV) (k:Int):((St.opnD D k).2.1=none∧(St.opnD D k).2.2≠0)∨(∃ S,(St.opnD D k).2.1=some S∧(St.opnD D k).2.2=0∧S.k=k.toNat∧1≤k∧k≤32):=by
 unfold St.opnD
 by_cases h1:1≤k∧k≤32
 ·rw [if_neg (fun q=>q h1)]
  by_cases h2:D.down=true
  ·rw [if_pos h2]; exact .inl ⟨rfl,fun q=>by cases q⟩
  ·rw [if_neg h2]
   cases St.tkAll k.toNat (St.now D St.nmI) (St.now D St.nmN) (St.now D St.nmM) with
   | none=>exact .inl ⟨rfl,fun (q:(190:Int)=0)=>by cases q⟩
   | some st =>
    simp only
    split
    ·exact .inr ⟨_,rfl,rfl,rfl,h1⟩
    ·exact .inl ⟨rfl,by assumption⟩
 ·rw [if_pos h1]; exact .inl ⟨rfl,fun q=>by cases q⟩
section
variable {w W:World} {a q p m:Nat} {S0 T:Nat→Prop} {D:St.DV} {S:St.SV} {B:Nat} {L:List ByteArray}
theorem LdA.lg (h:LdA w W a q p m T D S B L) (hT : ¬ T 3) (htB:3<B) : ∃ U,Lg W 0 a p U D S L∧(∀ x,U x→T x∨B≤x)∧B≤a:=by
 obtain ⟨r,vr,vs,h1,h2,h3⟩:=h
 refine ⟨fun x=>T x∨Lef a m r vr vs x,⟨q,m,r,vr,vs,T,h1,fun _=>Iff.rfl,fun e=>e.elim hT (fun e => ?_)⟩,fun x hx=>hx.imp id (h2 x),h2 a (.inl rfl)⟩
 have:=h2 _ e
 omega
theorem sk_mvd {w1:World} (h:St.Sk W q p T D S) (hT : ∀ y,T y→S0 y∨w.heap.size≤y) (hu:St.Upo S0 w w1) (hb:Below w1.heap.size w1 W):St.Mvd w W p S0 D:=by
 obtain ⟨S1,v,d1,d2,d3,d4,d5⟩:=h
 exact ⟨S1,d1,fun x hx=>hT x ((d5 x).2 (.inl hx)),hu.next hb⟩
theorem pkL_nil (k:Nat):pkL k []=[]:=ol_nil _ 41 0 (by decide)
set_option maxRecDepth 100000 in
set_option maxHeartbeats 4000000 in
theorem lopen_any (w:World) (ht:Tb w) (h:St.Dsk w p S0 D) (hrm:St.Rm 7 D) (hn : ¬ S0 3) (k:Int) :
  Calls Tryz.prog 11 #[.pointer (some ⟨p,0,none⟩),.int .i64 k] w (LoQ w p S0 (loD D k)):=by
 have HO:=hide (St.fopen_any w h hrm k _ rfl)
 rcases opnD_out D k with ⟨o1,o2⟩ | ⟨S,o1,o2,o3,k1,k2⟩
 ·have hz:loD D k=((St.opnD D k).1,none,(St.opnD D k).2.2):=by unfold loD; rw [o1]
  have HO2:Hid (Calls Tryz.prog 42 #[.pointer (some ⟨p,0,none⟩),.int .i64 k] w fun e w'=>e = .returned (.tuple #[.pointer none,.int .i64 (St.opnD D k).2.2])∧St.Mvd w w' p S0 (St.opnD D k).1):=HO.out.mono fun e w' z=>by
   unfold St.OpQ at z
   rw [o1] at z
   exact z
  rw [hz]
  obtain ⟨y,hy⟩ : ∃ y,(St.opnD D k).2.2=y:=⟨_,rfl⟩
  obtain ⟨D',hD⟩ : ∃ y,(St.opnD D k).1=y:=⟨_,rfl⟩
  rw [hy,hD] at HO2 ⊢
  rw [hy] at o2
  have o2b:(y != (0:Int))=true:=by simpa using o2
  clear HO o1 h ht hrm hn hz hy hD
  go_enter Tryz.func11,Tryz.ntmps11
  go_wp2_with (go_at_call 42; (with_reducible refine HO2.out.mono ?_); rintro e w1 ⟨rfl,t1⟩)
  go_ret2
  exact ⟨rfl,t1⟩
 ·obtain ⟨D',hD⟩ : ∃ y,(St.opnD D k).1=y:=⟨_,rfl⟩
  obtain ⟨y,hy⟩ : ∃ y,(tkL D' S S.ends.length).2=y:=⟨_,rfl⟩
  obtain ⟨L',hL'⟩ : ∃ y,(tkL D' S S.ends.length).1=y:=⟨_,rfl⟩
  have hlo:loD D k=if y=0 then (D',some (S,L'),0) else (D',none,y):=by
   unfold loD
   rw [o1]
   simp only
   rw [hD,hy,hL']
  have hkS:(S.k:Int)=k:=by rw [o3]; omega
  have HO2:Hid (Calls Tryz.prog 42 #[.pointer (some ⟨p,0,none⟩),.int .i64 k] w fun e w' => ∃ q T,e = .returned (.tuple #[.pointer (some ⟨q,0,none⟩),.int .i64 0])∧St.Sk w' q p T D' S∧(∀ y,T y→S0 y∨w.heap.size≤y)∧St.Upo S0 w w'):=HO.out.mono fun e w' z=>by
   unfold St.OpQ at z
   rw [o1,o2,hD] at z
   obtain ⟨q,T,z1,z2,z3,z4,z5⟩:=z
   exact ⟨q,T,z1,z2,z3,z5⟩
  have HF:Hid (∀ W:World,Tb W→Calls Tryz.prog 43 #[.int .i64 k] W fun e w' => ∃ m,e = .returned (.tuple #[.pointer (some ⟨m+1,0,none⟩),.int .i64 0])∧Frs w' m k []∧W.heap.size≤m∧Below W.heap.size W w'):=fun W _=>(fnew_ok W k k1 k2).mono fun e w' z=>⟨_,z.1,z.2.1,Nat.le_refl _,z.2.2⟩
  have HP:Hid (∀ W:World,Calls Tryz.prog 44 #[.int .i64 k] W fun e w' => ∃ r vr,e = .returned (.tuple #[.pointer (some ⟨r,0,none⟩),.int .i64 0])∧Kp.Rg w' r vr k 0 []∧W.heap.size≤r∧(∀ g,vr.ownBlock=some g→W.heap.size≤g)∧Below W.heap.size W w'):=fun W=>(Kp.knew_any W k 0 (by unfold Kp.fe; rw [if_neg (by omega),if_neg (by omega),if_neg]; refine fun q=>q.elim (fun q=>q rfl) (fun q=>q fun s hs=>by cases hs))).mono fun e w' z=>by
   obtain ⟨r,vr,z1,z2,z3,z4,z5⟩:=z.ok
   exact ⟨r,vr,z1,z2,z3,z4,z5⟩
  have HT:Hid (∀ (w1 w2 w3:World) q T m r vr,St.Sk w1 q p T D' S→(∀ y,T y→S0 y∨w.heap.size≤y)→St.Upo S0 w w1→Frs w2 m k []→w1.heap.size≤m→Below w1.heap.size w1 w2→Kp.Rg w3 r vr k 0 []→w2.heap.size≤r→(∀ g,vr.ownBlock=some g→w2.heap.size≤g)→Below w2.heap.size w2 w3 →
    Calls Tryz.prog 45 #[.pointer (some ⟨w3.heap.size,0,none⟩)] (w3.alloc (.cells #[.int .i32 0,.int .u32 0,.pointer (some ⟨q,0,none⟩),.pointer (some ⟨m+1,0,none⟩),.pointer (some ⟨r,0,none⟩),.slice none 0 0] 116)) fun e w'=>e = .returned (.int .i64 y)∧LoQ w p S0 (loD D k) (.returned (if y=0 then .tuple #[.pointer (some ⟨w3.heap.size,0,none⟩),.int .i64 0] else .tuple #[.pointer none,.int .i64 y])) w'):=fun w1 w2 w3 q T m r vr h1 h2 h3 h4 h5 h6 h7 h8 h9 h10=>by
   obtain ⟨w4,hw4⟩ : ∃ W,w3.alloc (.cells #[.int .i32 0,.int .u32 0,.pointer (some ⟨q,0,none⟩),.pointer (some ⟨m+1,0,none⟩),.pointer (some ⟨r,0,none⟩),.slice none 0 0] 116)=W:=⟨_,rfl⟩
   have u4:Below w3.heap.size w3 w4:=by rw [← hw4]; exact bal (Below.refl _ _) _
   have k4:w4.heap[w3.heap.size]? = some (rwL 0 (.int .u32 0) (some ⟨q,0,none⟩) (.pointer (some ⟨m+1,0,none⟩)) (.pointer (some ⟨r,0,none⟩)) (.slice none 0 0)):=by rw [← hw4]; exact heap_alloc_new w3 _
   rw [hw4]
   have u13:Below w1.heap.size w1 w3:=bnext h6 h10
   have u14:Below w1.heap.size w1 w4:=bnext u13 u4
   have s1:=h3.size
   have s2:=h6.size
   have s3:=h10.size
   have hr3:=h7.lt
   have htb:=ht.lt
   have t1:Tb w1:=ht.upo h3 hn
   have hTn : ¬ T 3:=fun e=>(h2 _ e).elim hn (fun e=>by omega)
   have hm2:=h4.lt
   have hld:Led w4 0 w3.heap.size q p m r vr (.slice none 0 0) T D' S []:=by
    refine ⟨k4,h1.next u14,?_,?_,⟨rfl,.inl ⟨rfl,rfl⟩⟩,(by intro s hs; cases hs),fun x hx hl => ?_,fun x _ e=>by cases e⟩
    ·rw [hkS]; exact h4.next (bnext h10 u4) (Nat.le_refl _)
    ·rw [hkS,pkL_nil]; exact h7.next u4 (Nat.le_refl _)
    ·have:=h1.lt hx
     rcases hl with e | e | e | e | e | e
     ·omega
     ·omega
     ·omega
     ·omega
     ·have:=h9 x e; omega
     ·cases e
   have hLd:LdA w4 w4 w3.heap.size q p m T D' S w1.heap.size []:=⟨r,vr,.slice none 0 0,hld,(fun b hb=>by
    rcases hb with e | e | e | e | e | e
    ·omega
    ·omega
    ·omega
    ·omega
    ·have:=h9 b e; omega
    ·cases e),Below.refl _ _⟩
   have hen:S.ends.length≤65536:=h1.small.2.2.1
   refine (takeall_any w4 (t1.next u14) hLd u14.size (by omega) hen).mono fun e w' z => ?_
   rw [hy,hL'] at z
   refine ⟨z.1,?_⟩
   have hbw:Below w1.heap.size w1 w':=by
    obtain ⟨_,_,_,_,_,hb⟩:=z.2
    exact u14.trans hb
   rw [hlo]
   by_cases h0:y=0
   ·rw [if_pos h0,if_pos h0]
    obtain ⟨U,y1,y2,y3⟩:=z.2.lg hTn (by omega)
    exact ⟨_,U,rfl,y1,fun b hb=>(y2 b hb).elim (h2 b) (fun e => .inr (by omega)),by omega,h3.next hbw,by rw [← hL']; exact (tkL_len _ (by rw [hy]; exact h0)).symm⟩
   ·rw [if_neg h0,if_neg h0]
    obtain ⟨_,_,_,y1,_⟩:=z.2
    exact ⟨rfl,sk_mvd y1.sk h2 h3 hbw⟩
  have HTb:Hid (∀ W,St.Upo S0 w W→Tb W):=fun W hW=>ht.upo hW hn
  clear HO h ht hrm hn hD hy hL' hlo hkS o1 o2 o3 k1 k2
  go_enter Tryz.func11,Tryz.ntmps11
  go_upto_region 7 with (first
   | (go_at_call 42; (with_reducible refine HO2.out.mono ?_); rintro e w1 ⟨q,T,rfl,h1,h2,h3⟩)
   | (go_at_call 43; (with_reducible refine (HF.out _ (HTb.out _ h3)).mono ?_); rintro e w2 ⟨m,rfl,h4,h5,h6⟩)
   | (go_at_call 44; (with_reducible refine (HP.out _).mono ?_); rintro e w3 ⟨r,vr,rfl,h7,h8,h9,h10⟩))
  have HT1:=hide (HT.out w1 w2 w3 q T m r vr h1 h2 h3 h4 h5 h6 h7 h8 h9 h10)
  obtain ⟨b0,hb0⟩ : ∃ b,w3.heap.size=b:=⟨_,rfl⟩
  rw [hb0] at HT1 ⊢
  clear HT HTb HP HF HO2 h1 h2 h3 h4 h5 h6 h7 h8 h9 h10 hb0
  by_cases h0:y=0
  ·subst h0
   rw [if_pos rfl] at HT1
   go_wp2_with (go_at_call 45; (with_reducible refine HT1.out.mono ?_); rintro e w5 ⟨rfl,t5⟩)
   go_ret2
   exact t5
  ·rw [if_neg h0] at HT1
   have h0b:(y != (0:Int))=true:=by simpa using h0
   go_wp2_with (go_at_call 45; (with_reducible refine HT1.out.mono ?_); rintro e w5 ⟨rfl,t5⟩)
   go_ret2
   exact t5
end
end Go.Proofs.YtoblgjledefdbaaGreatDoor
namespace Go.Proofs.YtoblgjledefdbaaGreatDoor
open Go.RowKit
open Cv (RdC zl)
attribute [local go_sem ↓] Go.wp_at_zero Go.wp_at_succ
theorem fit40 {b:Nat×Nat} {n:Nat} (h:(b.2+1) * 2^b.1≤n) (hn:n≤2^40):Fitb (b.1:Int) b.2∧b.1≤40∧b.2<2^40:=by
 have hp:=Nat.two_pow_pos b.1
 have h1:2^b.1≤(b.2+1) * 2^b.1:=Nat.le_mul_of_pos_left _ (by omega)
 have h2:b.2+1≤(b.2+1) * 2^b.1:=Nat.le_mul_of_pos_right _ hp
 have h3:b.1<2^b.1:=Nat.lt_two_pow_self
 have h4:b.1≤40:=Cv.pw40 (h:=b.1) (by show 2^b.1≤_; omega)
 exact ⟨⟨⟨by omega,by omega⟩,by omega⟩,h4,by omega⟩
end Go.Proofs.YtoblgjledefdbaaGreatDoor
namespace Go.Proofs.YtoblgjledefdbaaGreatDoor.Cv
open Pl
open Go.RowKit
attribute [local go_sem ↓] Go.wp_at_zero Go.wp_at_succ
structure Rd (w:World) (ao:Option Addr) (b off n:Nat) (l:List Nat):Prop where
 len:l.length=n
 addr:0<n→ao=some ⟨b,off,none⟩
 cell : ∀ j,j<n→w.cell? ⟨b,off+j,none⟩=some (.int .u64 (l.getD j 0:Nat))
theorem Rd.below {w w':World} {ao:Option Addr} {b off n:Nat} {l:List Nat} (r:Rd w ao b off n l) (h:Below w.heap.size w w'):Rd w' ao b off n l :=
 ⟨r.len,r.addr,fun j hj=>(h.cell (p:=⟨b,off+j,none⟩) (World.block_lt_of_cell? w _ (r.cell j hj))).trans (r.cell j hj)⟩
theorem Rd.lt {w:World} {ao:Option Addr} {b off n:Nat} {l:List Nat} (r:Rd w ao b off n l) (h:0<n):b<w.heap.size:=World.block_lt_of_cell? w ⟨b,off+0,none⟩ (r.cell 0 h)
theorem Rd.at {w w':World} {ao:Option Addr} {b off n B:Nat} {l:List Nat} (r:Rd w ao b off n l) (h:Below B w w') (hb:0<n→b<B):Rd w' ao b off n l :=
 ⟨r.len,r.addr,fun j hj=>(World.cell?_of_block (h.block b (hb (by omega)))).trans (r.cell j hj)⟩
def Inc (l:List Nat):Prop:=0<l.length ∧ ∀ i,i+1<l.length→l.getD i 0<l.getD (i+1) 0
def incB (l:List Nat):Bool:=decide (0<l.length) && (List.range (l.length - 1)).all (fun i=>decide (l.getD i 0<l.getD (i+1) 0))
theorem incB_iff (l:List Nat):incB l=true↔Inc l:=by
 unfold incB Inc
 rw [Bool.and_eq_true,decide_eq_true_iff,List.all_eq_true]
 constructor
 ·rintro ⟨h1,h2⟩
  exact ⟨h1,fun i hi=>by simpa using h2 i (List.mem_range.2 (by omega))⟩
 ·rintro ⟨h1,h2⟩
  exact ⟨h1,fun i hi=>by have:=List.mem_range.1 hi; simpa using h2 i (by omega)⟩
def Chain:Nat→List Nat→Nat→Prop
 | x,[],n=>x≤n
 | x,i::S,n=>x≤i∧Chain (i+1) S n
theorem chain_le : ∀ {S:List Nat} {x n:Nat},Chain x S n→x≤n:=by
 intro S
 induction S with
 | nil=>intro x n h; exact h
 | cons i S ih=>intro x n h; have:=ih h.2; have:=h.1; omega
theorem chain_of : ∀ (l:List Nat) (x n:Nat),(∀ i,i+1<l.length→l.getD i 0<l.getD (i+1) 0)→(0<l.length→x≤l.getD 0 0)→(0<l.length→l.getD (l.length - 1) 0<n)→x≤n→Chain x l n:=by
 intro l
 induction l with
 | nil=>intro x n _ _ _ h; exact h
 | cons a l ih =>
  intro x n h1 h2 h3 h4
  refine ⟨by simpa using h2 (by simp),ih (a+1) n (fun i hi => ?_) (fun h => ?_) (fun h => ?_) ?_⟩
  ·have:=h1 (i+1) (by simp; omega)
   simpa using this
  ·have:=h1 0 (by simp; omega)
   simp at this ⊢
   omega
  ·have:=h3 (by simp)
   rw [show (a::l).length - 1=(l.length - 1)+1 by simp; omega] at this
   simpa using this
  ·cases l with
   | nil=>have:=h3 (by simp); simp at this; omega
   | cons b l =>
    have h5 : ∀ j,j<(b::l).length→a<(a::b::l).getD (j+1) 0:=fun j=>by
     induction j with
     | zero=>intro _; have:=h1 0 (by simp); simpa using this
     | succ j ihj=>intro hj; have g1:=ihj (by omega); have g2:=h1 (j+1) (by simp at *; omega); omega
    have h6:=h5 l.length (by simp)
    have h7:=h3 (by simp)
    simp only [List.length_cons,Nat.add_sub_cancel] at h7
    omega
def errS (n:Nat) (l:List Nat):Nat:=if 2^40<n then 30 else if incB l=false then 40 else if n≤l.getD (l.length - 1) 0 then 31 else 0
def rstS (n:Nat) (l:List Nat):List (Nat×Nat):=if errS n l=0 then rst 0 n l else []
theorem errS_ok {n:Nat} {l:List Nat} (h:errS n l=0):n≤2^40∧Inc l∧l.getD (l.length - 1) 0<n∧Chain 0 l n:=by
 unfold errS at h
 split at h
 ·cases h
 ·rename_i h1
  split at h
  ·cases h
  ·rename_i h2
   split at h
   ·cases h
   ·rename_i h3
    have hi:Inc l:=(incB_iff l).1 (by cases hb:incB l with
     | true=>rfl
     | false=>exact absurd hb h2)
    exact ⟨by omega,hi,by omega,chain_of l 0 n hi.2 (fun _=>Nat.zero_le _) (fun _=>by omega) (Nat.zero_le _)⟩
theorem rises_any (w:World) (ao:Option Addr) (b off n cap:Nat) (l:List Nat) (r:Rd w ao b off n l) (hn:n≤maxLen) :
  Calls Tryz.prog 320 #[.slice ao n cap] w fun e w'=>e = .returned (.bool (incB l))∧Below w.heap.size w w':=by
 have hn':(n:Int)≤9223372036854775807:=by unfold maxLen at hn; omega
 have HR:Hid (Rd w ao b off n l):=r
 clear hn r
 go_enter Tryz.func320,Tryz.ntmps320
 go_wp2
 go_loopg [3] n (fun g i wr => ∃ k:Nat,(k≤n∨k=1)∧1≤k∧g=n+1 - k∧i = .int .i64 (k:Int)∧(∀ j,j+1<k→l.getD j 0<l.getD (j+1) 0)∧Below w.heap.size w wr)
 case atStart =>
  go_light
  exact ⟨1,.inr rfl,Nat.le_refl _,by omega,rfl,fun j hj=>absurd hj (by omega),Below.refl _ _⟩
 case round =>
  obtain ⟨k,hk,hk1,rfl,rfl,he,hb⟩:=hrel
  have hk0:(0:Int)≤(k:Int):=Int.natCast_nonneg _
  by_cases hlt:k<n
  ·obtain ⟨i,rfl⟩ : ∃ i,k=i+1:=⟨k - 1,by omega⟩
   have r1:=HR.out.below hb
   obtain rfl:=r1.addr (by omega)
   have c1:=r1.cell (i+1) hlt
   have c2:=r1.cell i (by omega)
   have hz:((i+1:Nat):Int)<(n:Int):=by omega
   have ei:(((i+1:Nat):Int) - 1)=(i:Int):=by omega
   have ec:((i+1:Nat):Int)=(i:Int)+1:=by omega
   have hz2:(i:Int)+1<(n:Int):=by omega
   have hz3:(i:Int)<(n:Int):=by omega
   have hi0:(0:Int)≤(i:Int):=Int.natCast_nonneg _
   have hi1:(0:Int)≤(i:Int)+1:=by omega
   have HB:Hid (Below w.heap.size w wr):=hb
   have HE:Hid (∀ j,j+1<i+1→l.getD j 0<l.getD (j+1) 0):=he
   have HI:Hid (¬ l.getD i 0<l.getD (i+1) 0→incB l=false):=fun hno=>by
    cases hB:incB l with
    | false=>rfl
    | true=>exact absurd (((incB_iff l).1 hB).2 i (by have:=HR.out.len; omega)) hno
   obtain ⟨x,hx⟩ : ∃ x,l.getD (i+1) 0=x:=⟨_,rfl⟩
   obtain ⟨y,hy⟩ : ∃ y,l.getD i 0=y:=⟨_,rfl⟩
   rw [hx] at c1
   rw [hy] at c2
   rw [hx,hy] at HI
   have HX:Hid (l.getD (i+1) 0=x∧l.getD i 0=y):=⟨hx,hy⟩
   have hlt2:i+1<n:=hlt
   clear hx hy r1 hb he hk hlt
   by_cases hxy:x≤y
   ·have HN:Hid (incB l=false):=HI.out (by omega)
    go_wp2
    go_quiet (fail)
    go_wp2
    go_ret
    exact ⟨by rw [HN.out]; rfl,below_drewN HB.out _⟩
   ·go_wp2
    go_quiet (fail)
    go_wp2
    go_roundg (n+1 - (i+1+1))
    case rel =>
     go_light
     refine ⟨i+1+1,by omega,by omega,rfl,by go_num,fun j hj => ?_,below_drewN HB.out _⟩
     by_cases hjk:j=i
     ·subst hjk; rw [HX.out.1,HX.out.2]; omega
     ·exact HE.out j (by omega)
    case measure=>go_light; omega
  ·have hz : ¬ (k:Int)<(n:Int):=by omega
   have hz' : ¬ k<n:=by omega
   have HN:Hid (decide ((0:Int)<(n:Int))=incB l):=by
    have hl:=HR.out.len
    cases hB:incB l with
    | true=>have:=((incB_iff l).1 hB).1; exact decide_eq_true (by omega)
    | false =>
     refine decide_eq_false (fun hp => ?_)
     have:incB l=true:=(incB_iff l).2 ⟨by omega,fun i hi=>he i (by omega)⟩
     rw [this] at hB; cases hB
   have HB:Hid (Below w.heap.size w wr):=hb
   clear he hb hk
   go_wp2
   go_ret
   refine ⟨?_,HB.out⟩
   have:=HN.out
   simp at this ⊢
   exact this
theorem check_any (m:Nat) (w:World) (ao:Option Addr) (b off n cap:Nat) (l:List Nat) (r:Rd w ao b off n l) (hn:n≤maxLen) :
  Calls Tryz.prog 228 #[.int .u64 (m:Int),.slice ao n cap] w fun e w'=>e = .returned (.int .i64 (errS m l:Nat))∧Below w.heap.size w w':=by
 have HR:=rises_any w ao b off n cap l r hn
 have hn':(n:Int)≤9223372036854775807:=by unfold maxLen at hn; omega
 by_cases h1:2^40<m
 ·have ht:decide ((1099511627776:Int)<(m:Int))=true:=decide_eq_true (by omega)
  have he:errS m l=30:=by rw [errS,if_pos h1]
  rw [he]
  clear h1 he
  go_enter Tryz.func228,Tryz.ntmps228
  go_wp2
  go_ret
  exact ⟨rfl,Below.refl _ _⟩
 ·have ht:decide ((1099511627776:Int)<(m:Int))=false:=decide_eq_false (by omega)
  cases h2:incB l with
  | false =>
   have he:errS m l=40:=by rw [errS,if_neg h1,if_pos h2]
   rw [he]
   rw [h2] at HR
   clear h1 he
   go_enter Tryz.func228,Tryz.ntmps228
   go_wp2_with (go_at_call 320; with_reducible refine HR.mono ?_; rintro e w1 ⟨rfl,hb⟩)
   go_ret
   exact ⟨rfl,hb⟩
  | true =>
   have h3:=(incB_iff l).1 h2
   have hl:=r.len
   rw [h2] at HR
   obtain ⟨j,rfl⟩ : ∃ j,n=j+1:=⟨n - 1,by have:=h3.1; omega⟩
   obtain rfl:=r.addr (by omega)
   have hc:=r.cell j (by omega)
   have e1:(((j+1:Nat):Int) - 1)=(j:Int):=by omega
   have e2:((j+1:Nat):Int)=(j:Int)+1:=by omega
   have hz1:(j:Int)<(j:Int)+1:=by omega
   have hj0:(0:Int)≤(j:Int):=Int.natCast_nonneg _
   have hlast:l.getD (l.length - 1) 0=l.getD j 0:=by rw [hl]; rfl
   obtain ⟨x,hx⟩ : ∃ x,l.getD j 0=x:=⟨_,rfl⟩
   rw [hx] at hc hlast
   have hcell : ∀ w',Below w.heap.size w w'→w'.cell? ⟨b,off+j,none⟩=some (.int .u64 (x:Int)):=fun w' hb=>(hb.cell (p:=⟨b,off+j,none⟩) (World.block_lt_of_cell? w _ hc)).trans hc
   by_cases h4:m≤x
   ·have he:errS m l=31:=by rw [errS,if_neg h1,if_neg (by rw [h2]; decide),if_pos (by rw [hlast]; exact h4)]
    rw [he]
    have h4':(m:Int)≤(x:Int):=by omega
    clear h1 he h2 h3 hl hx hlast r hn
    go_enter Tryz.func228,Tryz.ntmps228
    go_wp2_with (go_at_call 320; with_reducible refine HR.mono ?_; rintro e w1 ⟨rfl,hb⟩; have c1:=hcell w1 hb)
    go_ret
    exact ⟨rfl,hb⟩
   ·have he:errS m l=0:=by rw [errS,if_neg h1,if_neg (by rw [h2]; decide),if_neg (by rw [hlast]; exact h4)]
    rw [he]
    have h4' : ¬ (m:Int)≤(x:Int):=by omega
    clear h1 he h2 h3 hl hx hlast r hn
    go_enter Tryz.func228,Tryz.ntmps228
    go_wp2_with (go_at_call 320; with_reducible refine HR.mono ?_; rintro e w1 ⟨rfl,hb⟩; have c1:=hcell w1 hb)
    go_ret
    exact ⟨rfl,hb⟩
end Go.Proofs.YtoblgjledefdbaaGreatDoor.Cv
