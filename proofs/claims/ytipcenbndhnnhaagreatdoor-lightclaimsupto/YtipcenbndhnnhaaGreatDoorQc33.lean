/- Own work. -/
import Derived.Test.YtipcenbndhnnhaaGreatDoorQc31
namespace Go.Proofs.YtipcenbndhnnhaaGreatDoor
open Go.RowKit
attribute [local go_sem ↓] Go.wp_at_zero Go.wp_at_succ
def encS (P:PV):ByteArray:=if Well P then ⟨(enc P).toArray⟩ else ⟨#[]⟩
def encE (P:PV):Int:=if Well P then 0 else 150
theorem rencode_both (w:World) (sa:Option Addr) (sb so sc:Nat) (da:Option Addr) (db dO dc:Nat) (P:PV) (hp:RdPC w sa sb so sc da db dO dc P) :
  Calls Tryz.prog 80 #[pvP P sa sc da dc] w fun e w'=>e = .returned (.tuple #[.string (encS P),.int .i64 (encE P)])∧Below w.heap.size w w':=by
 by_cases h:Well P
 ·rw [encS,encE,if_pos h,if_pos h]; exact rencode_yes w sa sb so sc da db dO dc P hp h
 ·rw [encS,encE,if_neg h,if_neg h]; exact rencode_no w sa sb so sc da db dO dc P hp h
theorem toList_loopC (bs:ByteArray) : ∀ (n i:Nat) (r:List UInt8),bs.size - i=n→ByteArray.toList.loop bs i r=r.reverse++bs.data.toList.drop i:=by
 intro n
 induction n with
 | zero =>
  intro i r h
  rw [ByteArray.toList.loop,if_neg (by omega)]
  rw [List.drop_eq_nil_of_le (by simp; exact (by omega:bs.size≤i)),List.append_nil]
 | succ n ih =>
  intro i r h
  have hi:i<bs.size:=by omega
  rw [ByteArray.toList.loop,if_pos hi,ih (i+1) _ (by omega)]
  have hl:i<bs.data.toList.length:=by simp; exact hi
  rw [List.drop_eq_getElem_cons hl,List.reverse_cons,List.append_assoc]
  have:bs.get! i=bs.data.toList[i]:=by
   show bs.data[i]! = _
   have hi2:i<bs.data.size:=hi
   rw [getElem!_pos bs.data i hi2]
   simp
  rw [this]; rfl
theorem toList_eqC (bs:ByteArray):bs.toList=bs.data.toList:=by
 rw [ByteArray.toList,toList_loopC bs bs.size 0 [] rfl]; rfl
theorem beq_neC {x y:ByteArray} (h:x≠y):(x.toList == y.toList)=false:=by
 rw [toList_eqC,toList_eqC]
 simp only [beq_eq_false_iff_ne,ne_eq]
 intro e
 exact h (ByteArray.ext (Array.toList_inj.1 e))
theorem rdq_one {w:World} {s:ByteArray} {e:Ending} {w':World} (h:RdQ w s e w') : ∃ (kd k old size:Int) (sa:Option Addr) (sl sc:Nat) (da:Option Addr) (dl dc:Nat) (b:Bool),e = .returned (.tuple #[.agg #[.int .i64 kd,.int .i64 k,.int .u64 old,.int .u64 size,.slice sa sl sc,.slice da dl dc],.bool b])∧Below w.heap.size w w' ∧
  ((b=false∧dec s.data.toList=none)∨(b=true ∧ ∃ Q sb db,kd=Q.kd∧k=Q.k∧old=(Q.old:Int)∧size=(Q.size:Int)∧sl=Q.S.length∧dl=Q.D.length∧RdPC w' sa sb 0 sc da db 0 dc Q∧(Cv.Own w' w.heap.size (.slice sa Q.S.length sc) Q.S∧OwnS w' w.heap.size (.slice da Q.D.length dc) Q.D)∧(∀ P,dec s.data.toList=some P→Q=P))):=by
 rcases h with ⟨kd,k,old,size,sa,sl,sc,da,dl,dc,rfl,h1,h2⟩ | ⟨Q,sa,sb,sc,da,db,dc,rfl,h1,ho,h2,h3⟩
 ·exact ⟨kd,k,old,size,sa,sl,sc,da,dl,dc,false,rfl,h2,.inl ⟨rfl,h1⟩⟩
 ·exact ⟨Q.kd,Q.k,Q.old,Q.size,sa,_,sc,da,_,dc,true,rfl,h3,.inr ⟨rfl,Q,sb,db,rfl,rfl,rfl,rfl,rfl,rfl,h1,ho,h2⟩⟩
def DeQ (w:World) (s:ByteArray) (e:Ending) (w':World):Prop :=
 (dec s.data.toList=none∧e = .returned (.tuple #[.agg #[.int .i64 0,.int .i64 0,.int .u64 0,.int .u64 0,.slice none 0 0,.slice none 0 0],.int .i64 140])∧Below w.heap.size w w') ∨
 (∃ P sa sb sc da db dc,dec s.data.toList=some P∧e = .returned (.tuple #[pvP P sa sc da dc,.int .i64 0])∧RdPC w' sa sb 0 sc da db 0 dc P∧Below w.heap.size w w')
set_option maxRecDepth 100000 in
set_option maxHeartbeats 4000000 in
theorem rdecode_of (s:ByteArray) (hr : ∀ w,Calls Tryz.prog 79 #[.string s] w (RdQ w s)) (w:World):Calls Tryz.prog 42 #[.string s] w (DeQ w s):=by
 have HR:Hid (∀ F,Calls Tryz.prog 79 #[.string s] F fun e w' => ∃ (kd k old size:Int) (sa:Option Addr) (sl sc:Nat) (da:Option Addr) (dl dc:Nat) (b:Bool),e = .returned (.tuple #[.agg #[.int .i64 kd,.int .i64 k,.int .u64 old,.int .u64 size,.slice sa sl sc,.slice da dl dc],.bool b])∧Below F.heap.size F w'∧Hid ((b=false∧dec s.data.toList=none)∨(b=true ∧ ∃ Q sb db,kd=Q.kd∧k=Q.k∧old=(Q.old:Int)∧size=(Q.size:Int)∧sl=Q.S.length∧dl=Q.D.length∧RdPC w' sa sb 0 sc da db 0 dc Q∧(Cv.Own w' F.heap.size (.slice sa Q.S.length sc) Q.S∧OwnS w' F.heap.size (.slice da Q.D.length dc) Q.D)∧(∀ P,dec s.data.toList=some P→Q=P)))):=fun F=>(hr F).mono fun _ _ h=>rdq_one h
 obtain ⟨W0,hW0,h6,hb0,_⟩:=box6 w (.int .i64 0) (.int .i64 0) (.int .u64 0) (.int .u64 0) (.slice none 0 0) (.slice none 0 0)
 have HX:Hid (∀ F,Below W0.heap.size W0 F→Six F w.heap.size (.int .i64 0) (.int .i64 0) (.int .u64 0) (.int .u64 0) (.slice none 0 0) (.slice none 0 0)∧Below w.heap.size w F):=fun F hF=>⟨h6.next hF,bnext hb0 hF⟩
 have HW:Hid (w.heap.size<W0.heap.size):=h6.lt
 clear hr h6 hb0
 go_enter Tryz.func42,Tryz.ntmps42
 go_upto_region 1 with (fail)
 try rw [hW0]
 clear hW0
 go_upto_region 2 with (go_at_call 79; with_reducible refine (HR.out _).mono ?_; rintro x w1 ⟨kd,k,old,size,sa,sl,sc,da,dl,dc,b,rfl,hb1,HQ⟩)
 obtain ⟨F,hF,h7,hb2,_⟩:=box6 w1 (.int .i64 kd) (.int .i64 k) (.int .u64 old) (.int .u64 size) (.slice sa sl sc) (.slice da dl dc)
 try rw [hF]
 clear hF HR
 have hbF:=bnext hb1 hb2
 obtain ⟨x6,xb⟩:=HX.out _ hbF
 obtain ⟨c0,c1,c2,c3,c4,c5⟩:=x6.cells
 have fz:=x6.fz
 rcases HQ.out with ⟨rfl,hn⟩ | ⟨rfl,Q,sb,db,rfl,rfl,rfl,rfl,rfl,rfl,rq,⟨ow1,ow2⟩,hq⟩
 ·have hp:=x6.put (.int .i64 0) (.int .i64 0) (.int .u64 0) (.int .u64 0) (.slice none 0 0) (.slice none 0 0)
  have hc:=put6_ch F w.heap.size (.int .i64 0) (.int .i64 0) (.int .u64 0) (.int .u64 0) (.slice none 0 0) (.slice none 0 0)
  unfold put6 at hp hc
  have HN:=hideC hn
  have HB:Hid (Below w.heap.size w F):=xb
  clear HQ hn x6 xb hb1 hb2 hbF h7
  go_wp2
  obtain ⟨s0,s1,s2,s3,s4,s5⟩:=hp.cells
  refine bodyPost_ret (v := .tuple #[.agg #[.int .i64 0,.int .i64 0,.int .u64 0,.int .u64 0,.slice none 0 0,.slice none 0 0],.int .i64 140]) (by simp [results,Tryz.results42,go_sem,s0,s1,s2,s3,s4,s5]) rfl ?_
  exact .inl ⟨HN.out,rfl,HB.out.trans (hc.below (by rintro b rfl; omega))⟩
 ·have HE:=rencode_both F sa sb 0 sc da db 0 dc Q (rq.next hb2)
  simp only [pvP,pv6] at HE
  obtain ⟨m0,m1,m2,m3,m4,m5⟩:=h7.cells
  have HY:Hid (∀ G,Below F.heap.size F G→RdPC G sa sb 0 sc da db 0 dc Q∧Six G w1.heap.size (.int .i64 Q.kd) (.int .i64 Q.k) (.int .u64 (Q.old:Int)) (.int .u64 (Q.size:Int)) (.slice sa Q.S.length sc) (.slice da Q.D.length dc)∧Below W0.heap.size W0 G∧Cv.Own G W0.heap.size (.slice sa Q.S.length sc) Q.S∧OwnS G W0.heap.size (.slice da Q.D.length dc) Q.D):=fun G hG=>⟨(rq.next hb2).next hG,h7.next hG,bnext hbF hG,Cv.ownB_next (Cv.ownB_next ow1 hb2) hG,own_next (own_next ow2 hb2 (Nat.le_refl _)) hG (Nat.le_refl _)⟩
  have HD:=hideC hq
  clear HQ hq rq ow1 ow2 h7 x6 xb hb1 hb2 hbF c0 c1 c2 c3 c4 c5 fz
  go_upto_region 5 with (go_at_call 80; with_reducible refine HE.mono ?_; rintro x w3 ⟨rfl,hb3⟩)
  obtain ⟨y1,y2,y3,y4,y5⟩:=HY.out _ hb3
  obtain ⟨x6,xb⟩:=HX.out _ y3
  obtain ⟨c0,c1,c2,c3,c4,c5⟩:=x6.cells
  have fz:=x6.fz
  have HB:Hid (Below w.heap.size w w3):=xb
  clear m0 m1 m2 m3 m4 m5 HE xb
  by_cases hgd:Well Q∧encS Q=s
  ·obtain ⟨hw,hes⟩:=hgd
   have hE0:encE Q=0:=by rw [encE,if_pos hw]
   have hds:dec s.data.toList=some Q:=by
    have h1:=dec_enc hw
    rw [encS,if_pos hw] at hes
    rw [← hes,ba_list]; exact h1
   obtain ⟨m0,m1,m2,m3,m4,m5⟩:=y2.cells
   have hp:=x6.put (.int .i64 Q.kd) (.int .i64 Q.k) (.int .u64 (Q.old:Int)) (.int .u64 (Q.size:Int)) (.slice sa Q.S.length sc) (.slice da Q.D.length dc)
   have hc:=put6_ch w3 w.heap.size (.int .i64 Q.kd) (.int .i64 Q.k) (.int .u64 (Q.old:Int)) (.int .u64 (Q.size:Int)) (.slice sa Q.S.length sc) (.slice da Q.D.length dc)
   have hr2 : ∃ sb' db',RdPC (put6 w3 w.heap.size (.int .i64 Q.kd) (.int .i64 Q.k) (.int .u64 (Q.old:Int)) (.int .u64 (Q.size:Int)) (.slice sa Q.S.length sc) (.slice da Q.D.length dc)) sa sb' 0 sc da db' 0 dc Q:=by
    have z1:Cv.Own (put6 w3 w.heap.size (.int .i64 Q.kd) (.int .i64 Q.k) (.int .u64 (Q.old:Int)) (.int .u64 (Q.size:Int)) (.slice sa Q.S.length sc) (.slice da Q.D.length dc)) W0.heap.size (.slice sa Q.S.length sc) Q.S:=keep_row y4 fun g _ hB=>hc.block g (by have:=HW.out; show ¬ _=_; omega)
    have z2:OwnS (put6 w3 w.heap.size (.int .i64 Q.kd) (.int .i64 Q.k) (.int .u64 (Q.old:Int)) (.int .u64 (Q.size:Int)) (.slice sa Q.S.length sc) (.slice da Q.D.length dc)) W0.heap.size (.slice da Q.D.length dc) Q.D:=keep_row y5 fun g _ hB=>hc.block g (by have:=HW.out; show ¬ _=_; omega)
    obtain ⟨ao,b',c',hv1,u1,_⟩:=own_read z1
    obtain ⟨bo,d',f',hv2,u2,u3,_⟩:=owns_rds z2 y1.rd.sz
    injection hv1 with g1 g2 g3
    injection hv2 with g4 g5 g6
    subst g1 g4
    exact ⟨b',d',u1,u2,y1.old64,y1.sz64,y1.mS,y1.mD,y1.cD⟩
   obtain ⟨sb',db',hr2⟩:=hr2
   unfold put6 at hp hc hr2
   have HN:=hideC hds
   have HR2:=hideC hr2
   rw [hes,hE0]
   clear hw hes hE0 hds x6 y1 y2 y3 y4 y5 hb3 hr2 HY HD
   go_wp2
   obtain ⟨s0,s1,s2,s3,s4,s5⟩:=hp.cells
   refine bodyPost_ret (v := .tuple #[.agg #[.int .i64 Q.kd,.int .i64 Q.k,.int .u64 (Q.old:Int),.int .u64 (Q.size:Int),.slice sa Q.S.length sc,.slice da Q.D.length dc],.int .i64 0]) (by simp [results,Tryz.results42,go_sem,s0,s1,s2,s3,s4,s5]) rfl ?_
   exact .inr ⟨Q,sa,sb',sc,da,db',dc,HN.out,rfl,HR2.out,HB.out.trans (hc.below (by rintro b rfl; omega))⟩
  ·have hn:dec s.data.toList=none:=by
    rcases hdd:dec s.data.toList with _ | P
    ·rfl
    ·obtain rfl:=HD.out P hdd
     obtain ⟨g1,g2,_⟩:=enc_dec hdd
     exact absurd ⟨g1,by rw [encS,if_pos g1,g2,ba_back]⟩ hgd
   have hp:=x6.put (.int .i64 0) (.int .i64 0) (.int .u64 0) (.int .u64 0) (.slice none 0 0) (.slice none 0 0)
   have hc:=put6_ch w3 w.heap.size (.int .i64 0) (.int .i64 0) (.int .u64 0) (.int .u64 0) (.slice none 0 0) (.slice none 0 0)
   unfold put6 at hp hc
   have HN:=hideC hn
   have hcase:encE Q=150∨(encE Q=0∧encS Q≠s):=by
    by_cases hw:Well Q
    ·exact .inr ⟨by rw [encE,if_pos hw],fun h=>hgd ⟨hw,h⟩⟩
    ·exact .inl (by rw [encE,if_neg hw])
   clear hn x6 y1 y2 y3 y4 y5 hb3 HY HD hgd
   rcases hcase with hE | ⟨hE,hne⟩
   ·rw [hE]
    clear hE
    generalize encS Q=sq
    go_wp2
    obtain ⟨s0,s1,s2,s3,s4,s5⟩:=hp.cells
    refine bodyPost_ret (v := .tuple #[.agg #[.int .i64 0,.int .i64 0,.int .u64 0,.int .u64 0,.slice none 0 0,.slice none 0 0],.int .i64 140]) (by simp [results,Tryz.results42,go_sem,s0,s1,s2,s3,s4,s5]) rfl ?_
    exact .inl ⟨HN.out,rfl,HB.out.trans (hc.below (by rintro b rfl; omega))⟩
   ·rw [hE]
    clear hE
    generalize encS Q=sq at hne ⊢
    have hbs:(sq.toList == s.toList)=false:=beq_neC hne
    clear hne
    go_wp2
    obtain ⟨s0,s1,s2,s3,s4,s5⟩:=hp.cells
    refine bodyPost_ret (v := .tuple #[.agg #[.int .i64 0,.int .i64 0,.int .u64 0,.int .u64 0,.slice none 0 0,.slice none 0 0],.int .i64 140]) (by simp [results,Tryz.results42,go_sem,s0,s1,s2,s3,s4,s5]) rfl ?_
    exact .inl ⟨HN.out,rfl,HB.out.trans (hc.below (by rintro b rfl; omega))⟩
theorem rdecode_none (s:ByteArray) (hr : ∀ w,Calls Tryz.prog 79 #[.string s] w (RdQ w s)) (hd:dec s.data.toList=none) (w:World):Calls Tryz.prog 42 #[.string s] w fun e w'=>e = .returned (.tuple #[.agg #[.int .i64 0,.int .i64 0,.int .u64 0,.int .u64 0,.slice none 0 0,.slice none 0 0],.int .i64 140])∧Below w.heap.size w w':=by
 refine (rdecode_of s hr w).mono ?_
 rintro e w' (⟨_,h2,h3⟩ | ⟨P,_,_,_,_,_,_,h1,_⟩)
 ·exact ⟨h2,h3⟩
 ·rw [hd] at h1; cases h1
theorem rdecode_some (s:ByteArray) (hr : ∀ w,Calls Tryz.prog 79 #[.string s] w (RdQ w s)) (P:PV) (hd:dec s.data.toList=some P) (w:World):Calls Tryz.prog 42 #[.string s] w fun e w' => ∃ sa sb sc da db dc,e = .returned (.tuple #[.agg #[.int .i64 P.kd,.int .i64 P.k,.int .u64 (P.old:Int),.int .u64 (P.size:Int),.slice sa P.S.length sc,.slice da P.D.length dc],.int .i64 0])∧RdPC w' sa sb 0 sc da db 0 dc P∧Below w.heap.size w w':=by
 refine (rdecode_of s hr w).mono ?_
 rintro e w' (⟨h1,_⟩ | ⟨Q,sa,sb,sc,da,db,dc,h1,h2,h3,h4⟩)
 ·rw [hd] at h1; cases h1
 ·rw [hd] at h1; cases h1
  exact ⟨sa,sb,sc,da,db,dc,h2,h3,h4⟩
end Go.Proofs.YtipcenbndhnnhaaGreatDoor
