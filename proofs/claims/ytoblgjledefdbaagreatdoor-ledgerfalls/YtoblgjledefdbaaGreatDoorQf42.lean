/- Own work. -/
import Derived.Test.YtoblgjledefdbaaGreatDoorQf41
namespace Go.Proofs.YtoblgjledefdbaaGreatDoor
open Go.RowKit
attribute [local go_sem ↓] Go.wp_at_zero Go.wp_at_succ
theorem rds_two2 (w:World) (s t:ByteArray) (hs:s.size≤9223372036854775807) (ht:t.size≤9223372036854775807):RdS (w.alloc (.cells #[.string s,.string t] 9)) (some ⟨w.heap.size,0,none⟩) w.heap.size 0 2 [s,t] :=
 ⟨rfl,fun _=>rfl,range_new w [.string s,.string t] 9,fun x hx=>by
  simp only [List.mem_cons,List.not_mem_nil,or_false] at hx
  rcases hx with rfl | rfl
  ·exact hs
  ·exact ht⟩
theorem rdu_one2 (w:World) (n:Nat):RdU (w.alloc (.cells #[.int .u64 (n:Int)] 48)) (some ⟨w.heap.size,0,none⟩) w.heap.size 0 1 [n] :=
 ⟨rfl,fun _=>rfl,range_new w [.int .u64 (n:Int)] 48⟩
theorem bytes_ne (a:UInt8) (l:List UInt8):(⟨(a::l).toArray⟩:ByteArray).toList.isEmpty=false:=by
 rw [bytes_eq]; rfl
set_option maxRecDepth 100000 in
set_option maxHeartbeats 4000000 in
theorem lalive_any (w:World) (ht:Tb w):Calls Tryz.prog 9 #[] w fun e w'=>e = .returned (.bool true)∧Below w.heap.size w w':=by
 obtain ⟨D1,o1,o2,o3,o4⟩:=lo_new (k:=8) (R:=10000) (by decide) (by decide)
 obtain ⟨ca,hca⟩ : ∃ ca:ByteArray,ca=⟨#[97]⟩:=⟨_,rfl⟩
 obtain ⟨cb,hcb⟩ : ∃ cb:ByteArray,cb=⟨#[98]⟩:=⟨_,rfl⟩
 have za:ca.size=1:=by rw [hca]; rfl
 have zb:cb.size=1:=by rw [hcb]; rfl
 have hfit:Fit 8 10000 1 ([]++[ca,cb]):=⟨by decide,by decide,by decide,(show (2:Nat)≤65536 by decide),fun s hs=>by
  simp only [List.nil_append,List.mem_cons,List.not_mem_nil,or_false] at hs
  rcases hs with rfl | rfl <;> omega,(show (1+152) * 2≤10000 by decide),by decide⟩
 obtain ⟨D2,a1,a2,a3,a4,a5⟩:=ap_qt [ca,cb] [] D1 hfit o2 o3 (by simp only [List.length_cons,List.length_nil]; omega)
 simp only [List.nil_append] at a1 a3 hfit
 have hs0:(St.sA 8 (itL 8 [])).ends.length=([]:List ByteArray).length:=rfl
 have hs2:=sA_len hfit
 have hg:gtD D2 (St.sA 8 (itL 8 [ca,cb])) [ca,cb] 1=(cb,0):=(hfit.has a2.down a3).get rfl rfl
 have HN:Hid (Calls Tryz.prog 10 #[.int .i64 10000] w fun e w' => ∃ p,e = .returned (.pointer (some ⟨p,0,none⟩))∧Dw w w' p (St.newD 10000)):=new_dw w 10000 (by decide)
 have HO:Hid (∀ W p,Dw w W p (St.newD 10000)→Calls Tryz.prog 11 #[.pointer (some ⟨p,0,none⟩),.int .i64 8] W fun e w' => ∃ a,e = .returned (.tuple #[.pointer (some ⟨a,0,none⟩),.int .i64 0])∧Nl w w' a p D1 (St.sA 8 (itL 8 [])) []):=fun W p h=>(h.open ht (rm_new 8 (by decide)) 8 o1).mono fun e w' z=>by
  obtain ⟨a,z1,z2,_⟩:=z
  exact ⟨a,z1,z2⟩
 have HA:Hid (∀ W a p,Nl w W a p D1 (St.sA 8 (itL 8 [])) []→Calls Tryz.prog 14 #[.pointer (some ⟨a,0,none⟩),.slice (some ⟨W.heap.size,0,none⟩) 2 2] (W.alloc (.cells #[.string ⟨#[97]⟩,.string ⟨#[98]⟩] 9)) fun e w'=>e = .returned (.tuple #[.int .i64 2,.int .i64 0])∧Nl w w' a p D2 (St.sA 8 (itL 8 [ca,cb])) [ca,cb]):=fun W a p h=>by
  rw [← hca,← hcb]
  exact h.append ht hs0 (bal (Below.refl _ _) _) _ W.heap.size 2 2 [ca,cb] (rds_two2 W ca cb (by omega) (by omega)) (by decide) (fun _ => .inr (Nat.le_refl _)) a5 2 0 a1
 have HG:Hid (∀ W a p,Nl w W a p D2 (St.sA 8 (itL 8 [ca,cb])) [ca,cb]→Calls Tryz.prog 39 #[.pointer (some ⟨a,0,none⟩),.int .u64 1] W fun e w'=>e = .returned (.tuple #[.string ⟨#[98]⟩,.int .i64 0])∧Nl w w' a p D2 (St.sA 8 (itL 8 [ca,cb])) [ca,cb]):=fun W a p h=>(h.get ht hs2 1 (by decide) cb 0 hg).mono fun e w' z=>⟨by rw [← hcb]; exact z.1,h.next z.2⟩
 have HB:Hid (∀ W a p,Nl w W a p D2 (St.sA 8 (itL 8 [ca,cb])) [ca,cb]→Calls Tryz.prog 38 #[.pointer (some ⟨a,0,none⟩),.int .u64 2,.slice (some ⟨W.heap.size,0,none⟩) 1 1] (W.alloc (.cells #[.int .u64 0] 48)) fun e w' => ∃ t:ByteArray,e = .returned (.tuple #[.string t,.int .i64 0])∧t.toList.isEmpty=false∧Below w.heap.size w w'):=fun W a p h =>
  (h.batch ht (show (2:Nat)≤5000 by decide) 2 (Nat.le_refl 2) (bal (Below.refl _ _) _) _ W.heap.size 0 1 1 [0] (rdu_one2 W 0) (fun _ => .inr (Nat.le_refl _)) (by decide)).mono fun e w' z=>⟨_,z.1,bytes_ne _ _,bnext h.below (bnext (bal (Below.refl _ _) _) z.2)⟩
 have HZ:Hid (∀ W,Below w.heap.size w W→Calls Tryz.prog 33 #[.pointer none] W fun e w'=>e = .returned (.tuple #[.int .u64 0,.int .i64 200])∧Below w.heap.size w w'):=fun W hW=>(lsize_nil W).mono fun e w' z=>⟨z.1,bnext hW z.2⟩
 clear o1 o2 o3 o4 za zb hfit a1 a2 a3 a4 a5 hs0 hs2 hg hca hcb ht
 go_enter Tryz.func9,Tryz.ntmps9
 go_upto_region 9 with (first
  | (go_at_call 10; (with_reducible refine HN.out.mono ?_); rintro e w1 ⟨p,rfl,t1⟩)
  | (go_at_call 11; (with_reducible refine (HO.out _ _ t1).mono ?_); rintro e w2 ⟨a,rfl,t2⟩)
  | (go_at_call 14; (with_reducible refine (HA.out _ _ _ t2).mono ?_); rintro e w3 ⟨rfl,t3⟩)
  | (go_at_call 39; (with_reducible refine (HG.out _ _ _ t3).mono ?_); rintro e w4 ⟨rfl,t4⟩)
  | (go_at_call 38; (with_reducible refine (HB.out _ _ _ t4).mono ?_); rintro e w5 ⟨t,rfl,ht5,t5⟩)
  | (go_at_call 33; (with_reducible refine (HZ.out _ t5).mono ?_); rintro e w6 ⟨rfl,t6⟩))
 clear HN HO HA HG HB HZ t1 t2 t3 t4 t5
 go_wp2
 go_ret
 exact ⟨rfl,t6⟩
end Go.Proofs.YtoblgjledefdbaaGreatDoor
namespace Go.Proofs.YtoblgjledefdbaaGreatDoor
open Go.RowKit
section
variable {w W W1:World} {a p:Nat} {D D':St.DV} {S S':St.SV} {L L' K:List ByteArray} {v:Value}
def Jn (w W:World) (a p:Nat) (D:St.DV) (S:St.SV) (L:List ByteArray) (v:Value) (K:List ByteArray):Prop :=
 ∃ U,Lg W 0 a p U D S L∧(∀ b,U b→w.heap.size≤b)∧Below w.heap.size w W∧OwnS W w.heap.size v K ∧ ∀ g,v.ownBlock=some g → ¬ U g
theorem Jn.nl (h:Jn w W a p D S L v K):Nl w W a p D S L:=by obtain ⟨U,h1,h2,h3,_⟩:=h; exact ⟨U,h1,h2,h3⟩
theorem Nl.jn (h:Nl w W a p D S L):Jn w W a p D S L (.slice none 0 0) []:=by obtain ⟨U,h1,h2,h3⟩:=h; exact ⟨U,h1,h2,h3,owns_nil _ _,fun g hg=>by cases hg⟩
theorem Jn.own (h:Jn w W a p D S L v K):OwnS W w.heap.size v K:=by obtain ⟨U,_,_,_,h4,_⟩:=h; exact h4
theorem Jn.next (h:Jn w W a p D S L v K) (hb:Below W.heap.size W W1):Jn w W1 a p D S L v K:=by
 obtain ⟨U,h1,h2,h3,h4,h5⟩:=h
 exact ⟨U,h1.next hb,h2,bnext h3 hb,own_next h4 hb (Nat.le_refl _),h5⟩
theorem Jn.append (h:Jn w W a p D S L v K) (ht:Tb w) (he:S.ends.length=L.length) (hb:Below W.heap.size W W1) (ao:Option Addr) (b len cap:Nat) (xs:List ByteArray) (hr:RdS W1 ao b 0 len xs) (hlen:len≤1000000) (n3:0<len→b<w.heap.size∨W.heap.size≤b) (hR:RmA D S L xs) (n:Nat) (e0:Int) (hA:apD D S L xs=(D',S',L',n,e0)) :
  Calls Tryz.prog 14 #[.pointer (some ⟨a,0,none⟩),.slice ao len cap] W1 fun e w'=>e = .returned (.tuple #[.int .i64 (n:Int),.int .i64 e0])∧Jn w w' a p D' S' L' v K:=by
 obtain ⟨U,y1,y2,y3,y4,y5⟩:=h
 have hb3:=bnext y3 hb
 refine (lappend_any W1 (ht.next hb3) (y1.next hb) he ao b len cap xs hr (by omega) (fun h0 hu => ?_) hR n e0 hA).mono fun e w' z=>⟨z.1,?_⟩
 ·have:=y1.lt hu
  have:=y2 b hu
  rcases n3 h0 with e | e <;> omega
 ·obtain ⟨U',z1,z2,z3⟩:=z.2
  have y6:=own_next y4 hb (Nat.le_refl _)
  refine ⟨U',z1,fun c hc=>(z2 c hc).elim (y2 c) (fun e=>Nat.le_trans hb3.size e),hb3.trans (z3.below hb3.size y2),St.row_keep y6 fun g hg=>z3.block g (own_lt y6 hg) (y5 g hg),fun g hg hu => ?_⟩
  rcases z2 g hu with e | e
  ·exact y5 g hg e
  ·have:=own_lt y6 hg; omega
theorem Jn.app (h:Jn w W a p D S L v K) (hb:Below W.heap.size W W1) (ty:Nat) (ad:Addr) (mc:Nat) (x:ByteArray) (hr : ∀ j u,[Value.string x][j]? = some u→W1.cell? (ad.add j)=some u) (hlen:K.length+1≤1048576) :
  ∃ v' w',(Builtin.append_ #[22,22] ty #[v,.slice (some ad) 1 mc]).run Tryz.prog W1 = .ok v' w'∧Jn w w' a p D S L v' (K++[x]):=by
 obtain ⟨U,y1,y2,y3,y4,y5⟩:=h.next hb
 obtain ⟨v',w5,hap,o5,g5⟩:=run_app_L W1 ty w.heap.size v K y4 ad mc x hr hlen y3.size
 refine ⟨v',w5,hap,?_⟩
 have t5:St.Upo (fun b=>v.ownBlock=some b) W1 w5:=by
  rcases g5 with ⟨g,n,c,e1,e2,g3⟩ | ⟨g3,_⟩
  ·rw [e1]; exact St.Upo.grown g3 (fun b hb=>by cases hb; rfl)
  ·exact St.Upo.grown g3 (fun b hb=>by cases hb)
 have hv5 : ∀ b,v'.ownBlock=some b→v.ownBlock=some b∨W1.heap.size≤b:=fun b hb=>by
  rcases g5 with ⟨g',n,c,e1,e2,g3⟩ | ⟨_,g3⟩
  ·rw [e1]; rw [e2] at hb; exact .inl hb
  ·exact .inr (g3 b hb)
 refine ⟨U,y1.same fun x hx=>t5.block x (y1.lt hx) fun e=>y5 x e hx,y2,y3.trans (t5.below y3.size fun b hb=>(World.ownsRow.lt y4 b hb).1),o5,fun g hg hu => ?_⟩
 rcases hv5 g hg with e | e
 ·exact y5 g e hu
 ·have:=y1.lt hu; omega
end
section
variable {k c R:Nat} {L:List ByteArray} {x:ByteArray} {D D':St.DV}
end
end Go.Proofs.YtoblgjledefdbaaGreatDoor
namespace Go.Proofs.YtoblgjledefdbaaGreatDoor
open Go.RowKit
attribute [local go_sem ↓] Go.wp_at_zero Go.wp_at_succ
section
variable {w W W1:World} {a p:Nat} {U:Nat→Prop} {D D':St.DV} {S S':St.SV} {L L' K:List ByteArray} {v:Value}
set_option maxRecDepth 100000 in
theorem lhas_no (w:World) (h:Lg w 0 a p U D S L) (n len:Nat) (he:S.ends.length=n) (hz:len≤1000000) (hne:n≠len) (ao:Option Addr) (cap:Nat) :
  Calls Tryz.prog 19 #[.pointer (some ⟨a,0,none⟩),.slice ao len cap] w fun e w'=>e = .returned (.bool false)∧Below w.heap.size w w':=by
 have HS:Hid (Calls Tryz.prog 33 #[.pointer (some ⟨a,0,none⟩)] w fun e w'=>e = .returned (.tuple #[.int .u64 (n:Int),.int .i64 0])∧Below w.heap.size w w'):=lsize_any w h n he
 have ew0:IntKind.u64.wrap (len:Int)=(len:Int):=by rw [IntKind.wrap_u64]; omega
 have hq : ¬ (n:Int)=(len:Int):=by omega
 clear h he
 go_enter Tryz.func19,Tryz.ntmps19
 go_wp2_with (go_at_call 33; (with_reducible refine HS.out.mono ?_); rintro e w1 ⟨rfl,u1⟩)
 go_ret
 exact ⟨rfl,u1⟩
end
end Go.Proofs.YtoblgjledefdbaaGreatDoor
namespace Go.Proofs.YtoblgjledefdbaaGreatDoor
open Go.RowKit
def Jd (w W:World) (p:Nat) (D:St.DV) (v:Value) (K:List ByteArray):Prop :=
 ∃ Sd,St.Dsk W p Sd D∧(∀ b,Sd b→w.heap.size≤b)∧Below w.heap.size w W∧OwnS W w.heap.size v K ∧ ∀ g,v.ownBlock=some g → ¬ Sd g
section
variable {w W W1:World} {a p:Nat} {D D':St.DV} {S S':St.SV} {L L' K:List ByteArray} {v:Value}
theorem Jd.dw (h:Jd w W p D v K):Dw w W p D:=by obtain ⟨U,h1,h2,h3,_⟩:=h; exact ⟨U,h1,h2,h3⟩
theorem Jd.own (h:Jd w W p D v K):OwnS W w.heap.size v K:=by obtain ⟨U,_,_,_,h4,_⟩:=h; exact h4
theorem Jd.below (h:Jd w W p D v K):Below w.heap.size w W:=h.dw.below
theorem Jn.jd (h:Jn w W a p D S L v K):Jd w W p D v K:=by
 obtain ⟨U,⟨q,m,r,vr,vs,T,h1,hU,_⟩,h2,h3,h4,h5⟩:=h
 obtain ⟨Sd,u,d1,d2,d3,d4,d5⟩:=h1.sk
 exact ⟨Sd,d1,fun b hb=>h2 b ((hU b).2 (.inl ((d5 b).2 (.inl hb)))),h3,h4,fun g hg hs=>h5 g hg ((hU g).2 (.inl ((d5 g).2 (.inl hs))))⟩
theorem Jd.lay (h:Jd w W p D v K) (k1 k2:Int) (hk:k1≤9223372036854775807) (ao:Option Addr) (b o c:Nat) (ks:List Bool) (hr:St.RdL W ao b o ks) (hkl:ks.length≤140737488355328) (hne:0<ks.length→b<w.heap.size) :
  Calls Tryz.prog 12 #[.pointer (some ⟨p,0,none⟩),.agg #[.int .i64 k1,.int .i64 k2,.slice ao ks.length c]] W fun e w'=>e = .returned (.tuple #[])∧Jd w w' p (St.layD D k1 k2 ks) v K:=by
 obtain ⟨Sd,h1,h2,h3,h4,h5⟩:=h
 refine (h1.lay k1 k2 hk ao b o c ks hr hkl (fun h0 hs=>by have:=h2 b hs; have:=hne h0; omega)).mono fun e w' z=>⟨z.1,?_⟩
 obtain ⟨S1,z1,z2,z3⟩:=z.2
 refine ⟨S1,z1,fun b hb=>(z2 b hb).elim (h2 b) (fun e=>Nat.le_trans h3.size e),h3.trans (z3.below h3.size h2),St.row_keep h4 fun g hg=>z3.block g (own_lt h4 hg) (h5 g hg),fun g hg e => ?_⟩
 rcases z2 g e with e | e
 ·exact h5 g hg e
 ·have:=own_lt h4 hg; omega
theorem Jd.open (ht:Tb w) (h:Jd w W p D v K) (hrm:St.Rm 7 D) (k:Int) (hl:loD D k=(D',some (S',L'),0)) :
  Calls Tryz.prog 11 #[.pointer (some ⟨p,0,none⟩),.int .i64 k] W fun e w' => ∃ a,e = .returned (.tuple #[.pointer (some ⟨a,0,none⟩),.int .i64 0])∧Jn w w' a p D' S' L' v K∧S'.ends.length=L'.length:=by
 obtain ⟨Sd,h1,h2,h3,h4,h5⟩:=h
 refine (lopen_any W (ht.next h3) h1 hrm (fun e=>by have:=ht.lt; have:=h2 _ e; omega) k).mono fun e w' z => ?_
 rw [hl] at z
 obtain ⟨a,U,z1,z2,z3,z4,z5,z6⟩:=z
 refine ⟨a,z1,⟨U,z2,fun b hb=>(z3 b hb).elim (h2 b) (fun e=>Nat.le_trans h3.size e),h3.trans (z5.below h3.size h2),St.row_keep h4 fun g hg=>z5.block g (own_lt h4 hg) (h5 g hg),fun g hg e => ?_⟩,z6⟩
 rcases z3 g e with e | e
 ·exact h5 g hg e
 ·have:=own_lt h4 hg; omega
theorem Jd.down (h:Jd w W p D v K) (b:Bool) (hb:D.down=b):Calls Tryz.prog 15 #[.pointer (some ⟨p,0,none⟩)] W fun e w'=>e = .returned (.bool b)∧w'=W:=by
 obtain ⟨S1,h1,_⟩:=h
 rw [← hb]; exact h1.down
end
end Go.Proofs.YtoblgjledefdbaaGreatDoor
namespace Go.Proofs.YtoblgjledefdbaaGreatDoor
def itX (K:List ByteArray) (x:ByteArray) (u:Bool):Option St.It:=if u then some (x.data.toList,mdL 8 K x) else none
structure Fs (K:List ByteArray) (x:ByteArray) (u:Bool) (n:Nat) (D:St.DV):Prop where
 len:K.length≤40
 sz : ∀ s∈K,s.size≤5000
 sx:x.size≤5000
 ord:St.Ord D.L
 gd:St.Gd 8 (itL 8 K) (itX K x u) D.L
 fr:D.free≤4194304
 acts:D.acts≤n
 st:St.Qf 4194304 D∨D.down=true
section
variable {K:List ByteArray} {x:ByteArray} {u:Bool} {n:Nat} {D D':St.DV}
theorem lf_fit {K:List ByteArray} (h1:K.length≤50) (h2 : ∀ s∈K,s.size≤5000):Fit 8 4194304 5000 K :=
 ⟨by decide,by decide,by decide,by omega,h2,by omega,by decide⟩
theorem lf_smk {K:List ByteArray} (h1:K.length≤50) (h2 : ∀ s∈K,s.size≤5000):St.Smk 8 (itL 8 K):=by
 have hf:=lf_fit h1 h2
 exact ⟨itL_ok hf.k1 hf.k2 hf.few hf.szs,Nat.le_trans (itL_fits hf.k1 hf.k2 hf.c1 hf.few hf.sz) (by omega)⟩
theorem lf_snoc (h2 : ∀ s∈K,s.size≤5000) (hx:x.size≤5000) : ∀ s∈K++[x],s.size≤5000:=fun s hs=>by
 rcases List.mem_append.1 hs with e | e
 ·exact h2 s e
 ·rw [List.mem_singleton] at e; subst e; exact hx
theorem Fs.smx (h:Fs K x u n D):St.SmX 8 (itL 8 K) (itX K x u):=by
 refine ⟨lf_smk (by have:=h.len; omega) h.sz,fun y hy => ?_⟩
 unfold itX at hy
 split at hy
 ·cases hy
  rw [← itL_snoc]
  exact lf_smk (by rw [List.length_append]; have:=h.len; simp; omega) (lf_snoc h.sz h.sx)
 ·cases hy
theorem Fs.rm (h:Fs K x u n D) (hn:n≤1000000):St.Rm 7 D:=St.rm_of (by have:=h.acts; omega) h.ord h.gd.pre.2.2 h.fr (by decide)
def Fn (K:List ByteArray) (x:ByteArray) (u:Bool) (K2:List ByteArray):Prop:=K2=K∨(u=true∧K2=K++[x])
theorem ge_fn {B:List St.It} (h:St.Ge (itL 8 K) (itX K x u) B) : ∃ K2,Fn K x u K2∧B=itL 8 K2:=by
 rcases h with rfl | ⟨y,hy,rfl⟩
 ·exact ⟨K,.inl rfl,rfl⟩
 ·unfold itX at hy
  split at hy
  ·cases hy
   exact ⟨K++[x],.inr ⟨by assumption,rfl⟩,by rw [itL_snoc]⟩
  ·cases hy
theorem Fn.ok {K2:List ByteArray} (h:Fn K x u K2) (h1:K.length≤40) (h2 : ∀ s∈K,s.size≤5000) (hx:x.size≤5000):K2.length≤41∧K2.length≤K.length+1 ∧ ∀ s∈K2,s.size≤5000:=by
 rcases h with rfl | ⟨_,rfl⟩
 ·exact ⟨by omega,by omega,h2⟩
 ·exact ⟨by rw [List.length_append]; simp; omega,by rw [List.length_append]; simp,lf_snoc h2 hx⟩
theorem Fs.fall (h:Fs K x u n D) (ks:List Bool):St.Fz 4194304 (St.aft ks D.L 0)∧Fs K x u 0 (St.openD 4194304 (St.aft ks D.L 0)):=by
 have hS:=St.aft_sor ks D.L 0 h.ord.1
 obtain ⟨B,hB,hw⟩:=h.gd.fallen h.smx ks h.ord
 have hz:=St.fz_of (R:=4194304) (hB.smk h.smx) hS hw (by decide) (by decide)
 refine ⟨hz,h.len,h.sz,h.sx,St.sor_ord hS,?_,by have:=hz.qf.tot; omega,Nat.le_refl _,.inl hz.qf⟩
 rcases hB with rfl | ⟨y,hy,rfl⟩
 ·exact .inl hw
 ·exact .inr ⟨y,hy,.inl hw⟩
theorem Fs.lay (h:Fs K x u n D) (hq:St.Qf 4194304 D) (a k:Int) (ks:List Bool):Fs K x u n (St.layD D a k ks)∧St.Qf 4194304 (St.layD D a k ks):=by
 have e:(St.layD D a k ks).L=D.L∧(St.layD D a k ks).free=D.free∧(St.layD D a k ks).acts=D.acts∧(St.layD D a k ks).down=D.down:=by
  unfold St.layD
  split
  ·exact ⟨rfl,rfl,rfl,rfl⟩
  ·split <;> exact ⟨rfl,rfl,rfl,rfl⟩
 obtain ⟨e1,e2,e3,e4⟩:=e
 have hq2:St.Qf 4194304 (St.layD D a k ks):=⟨by rw [e4]; exact hq.down,by rw [e1]; exact hq.ord,by rw [e1,e2]; exact hq.tot⟩
 exact ⟨⟨h.len,h.sz,h.sx,hq2.ord,by rw [e1]; exact h.gd,by rw [e2]; exact h.fr,by rw [e3]; exact h.acts,.inl hq2⟩,hq2⟩
theorem Fs.opn (h:Fs K x u n D) (hq:St.Qf 4194304 D) : ∃ D',((∃ K2,Fn K x u K2∧loD D 8=(D',some (St.sA 8 (itL 8 K2),K2),0)∧St.Qf 4194304 D'∧St.Ext 8 (itL 8 K2) D'.L)∨(D.fk≠0 ∧ ∃ e,loD D 8=(D',none,e)))∧Fs K x u (n+6) D'∧(D.fk=0→D'.fk=0):=by
 obtain ⟨D',o,e,h1,h2⟩:=St.open_f h.smx hq h.gd
 have ha:=h2.acts
 have hn:=h.acts
 refine ⟨D',?_⟩
 rcases h2.out with ⟨B,hB,g1,g2,g3,g4⟩ | ⟨g1,g2,g3,g4,g5,g6,g7⟩
 ·have hsm:=hB.smk h.smx
  have hgd:St.Gd 8 (itL 8 K) (itX K x u) D'.L:=by
   rcases hB with rfl | ⟨y,hy,rfl⟩
   ·exact .inl (hsm.wk g4)
   ·exact .inr ⟨y,hy,.inl (hsm.wk g4)⟩
  obtain ⟨K2,hK,rfl⟩:=ge_fn hB
  obtain ⟨k1,_,k2⟩:=hK.ok h.len h.sz h.sx
  subst g1 g2
  exact ⟨.inl ⟨K2,hK,lo_of ((lf_fit (by omega) k2).has g3.down g4) h1,g3,g4⟩,⟨h.len,h.sz,h.sx,g3.ord,hgd,by have:=g3.tot; omega,by omega,.inl g3⟩,h2.fk⟩
 ·subst g1
  refine ⟨.inr ⟨g3,e,?_⟩,⟨h.len,h.sz,h.sx,g5,g6,g4,by omega,g7⟩,h2.fk⟩
  have h1':St.opnD D 8=(D',none,e):=h1
  unfold loD
  rw [h1']
theorem fs_add (h1:K.length≤39) (h2 : ∀ s∈K,s.size≤5000) (hx:x.size≤5000) (hq:St.Qf 4194304 D) (he:St.Ext 8 (itL 8 K) D.L) (ha:D.acts≤n) (hn:n≤1000000) :
  ∃ D',RmA D (St.sA 8 (itL 8 K)) K [x]∧((apD D (St.sA 8 (itL 8 K)) K [x]=(D',St.sA 8 (itL 8 (K++[x])),K++[x],1,0)∧St.Qf 4194304 D'∧St.Ext 8 (itL 8 (K++[x])) D'.L∧D'.acts≤n+6)∨(∃ e,e≠0∧apD D (St.sA 8 (itL 8 K)) K [x]=(D',{ St.sA 8 (itL 8 K) with lame:=true },K,0,e)∧Fs K x true (n+6) D')):=by
 have hl:(K++[x]).length=K.length+1:=by simp
 have hf:=lf_fit (K:=K++[x]) (by omega) (lf_snoc h2 hx)
 have hs:=lf_smk (K:=K++[x]) (by omega) (lf_snoc h2 hx)
 rw [itL_snoc] at hs
 obtain ⟨D',S',e,y1,y2⟩:=St.add_f hs hq he (by decide) (by decide)
 have hA:=a_of (L:=K) (hf.szs x (by simp)) (by rw [sA_len hf.init]; omega) rfl y1
 have hacts:=y2.acts
 have hrm:St.Rm 7 D:=St.rm_of (R:=4194304) (by omega) hq.ord he.oth (by have:=hq.tot; omega) (by decide)
 refine ⟨D',by rw [RmA,hA]; exact ⟨hrm,fun _=>trivial⟩,?_⟩
 rcases y2.out with ⟨rfl,rfl,o3,o4⟩ | ⟨o1,_,rfl,o4,o5,o6,o7⟩
 ·refine .inl ⟨?_,o3,by rw [itL_snoc]; exact o4,by omega⟩
  rw [apD,hA]
  simp only [if_true,apD]
  rw [itL_snoc]
 ·rw [if_neg o1] at hA
  refine .inr ⟨e,o1,?_,by omega,h2,hx,o5,by unfold itX; rw [if_pos rfl]; exact o6,o4,by omega,o7⟩
  rw [apD,hA]; simp only [if_neg o1]
end
end Go.Proofs.YtoblgjledefdbaaGreatDoor
namespace Go.Proofs.YtoblgjledefdbaaGreatDoor
open Go.RowKit
attribute [local go_sem ↓] Go.wp_at_zero Go.wp_at_succ
section
variable {w W W1:World} {a p:Nat} {D D':St.DV} {S S':St.SV} {L L' K K2:List ByteArray} {v v2:Value}
theorem Jn.swap (h:Jn w W a p D S L v K) (hb:Below W.heap.size W W1) (ho:OwnS W1 W.heap.size v2 K2):Jn w W1 a p D S L v2 K2:=by
 obtain ⟨U,h1,h2,h3,h4,h5⟩:=h
 refine ⟨U,h1.next hb,h2,bnext h3 hb,own_mono ho h3.size,fun g hg hu => ?_⟩
 have:=h1.lt hu
 have:=(World.ownsRow.lt ho g hg).1
 omega
theorem Jn.rds (h:Jn w W a p D S L v K) (hs : ∀ s∈K,s.size≤5000) : ∃ ao b cap,v = .slice ao K.length cap∧RdS W ao b 0 K.length K∧K.length≤cap∧(ao=none→cap=0) :=
 owns_rds h.own (fun s hx=>by have:=hs s hx; omega)
def StQ (w:World) (p:Nat) (K:List ByteArray) (x:ByteArray) (u:Bool) (n:Nat) (e:Ending) (w':World):Prop :=
 ∃ K2 v D',e = .returned (.tuple #[v,.bool true])∧Jd w w' p D' v K2∧Fn K x u K2∧St.Qt 4194304 D'∧St.Ext 8 (itL 8 K2) D'.L∧D'.acts≤n+6
set_option maxRecDepth 100000 in
set_option maxHeartbeats 4000000 in
theorem lsettled_any (w W:World) (ht:Tb w) (n:Nat) (hn:n≤100000) (x:ByteArray) (u:Bool) (va:Option Addr) (vn vc:Nat) (h:Jd w W p D (.slice va vn vc) K) (hF:Fs K x u n D) (hq:St.Qf 4194304 D) :
  Calls Tryz.prog 18 #[.pointer (some ⟨p,0,none⟩),.int .i64 8,.slice va vn vc,.string x,.bool u] W (StQ w p K x u n):=by
 obtain ⟨g1,g2⟩:=hF.lay hq 0 0 []
 have g3:(St.layD D 0 0 []).fk=0:=by
  unfold St.layD
  rw [if_neg (by rw [hq.down]; exact Bool.false_ne_true),if_neg (by omega)]
 obtain ⟨D1,y1,y2,y3⟩:=g1.opn g2
 have hvn:=own_vn h.own
 have hl:=hF.len
 have hsK:=hF.sz
 have hxs:=hF.sx
 rcases y1 with ⟨K2,hK2,o1,o2,o3⟩ | ⟨o1,_⟩
 ·obtain ⟨k1,k2,k3⟩:=hK2.ok hl hsK hxs
  have hf2:=lf_fit (by omega) k3
  have hs2:=sA_len hf2
  have hqt:St.Qt 4194304 D1:=o2.qt (y3 g3)
  have hex:=o3
  have hac:=y2.acts
  have HL:Hid (Calls Tryz.prog 12 #[.pointer (some ⟨p,0,none⟩),.agg #[.int .i64 0,.int .i64 0,.slice none 0 0]] W fun e w'=>e = .returned (.tuple #[])∧Jd w w' p (St.layD D 0 0 []) (.slice va vn vc) K) :=
   h.lay 0 0 (by omega) none 0 0 0 [] (St.rdl_nil _ _ _ _) (by decide) (fun h0=>absurd h0 (by decide))
  have HO:Hid (∀ W,Jd w W p (St.layD D 0 0 []) (.slice va vn vc) K→Calls Tryz.prog 11 #[.pointer (some ⟨p,0,none⟩),.int .i64 8] W fun e w' => ∃ a,e = .returned (.tuple #[.pointer (some ⟨a,0,none⟩),.int .i64 0])∧Jn w w' a p D1 (St.sA 8 (itL 8 K2)) K2 (.slice va vn vc) K):=fun W hW=>(hW.open ht (g1.rm (by omega)) 8 o1).mono fun e w' z=>by
   obtain ⟨a,z1,z2,_⟩:=z
   exact ⟨a,z1,z2⟩
  have HY:Hid (∀ W a ao m c,Jn w W a p D1 (St.sA 8 (itL 8 K2)) K2 (.slice ao m c) K2→Calls Tryz.prog 19 #[.pointer (some ⟨a,0,none⟩),.slice ao m c] W fun e w'=>e = .returned (.bool true)∧Jn w w' a p D1 (St.sA 8 (itL 8 K2)) K2 (.slice ao m c) K2):=fun W a ao m c hJ=>by
   obtain ⟨ao',b,c',q1,q2,q3,_⟩:=hJ.rds k3
   injection q1 with e1 e2 e3
   subst e1 e2 e3
   exact (hJ.nl.has ht hs2 (fun i x hx=>(hf2.has o2.down hex).get rfl hx) ao b _ c q2 (by omega)).mono fun e w' z=>⟨z.1,hJ.next z.2⟩
  have HQ:Hid (∀ W a v,Jn w W a p D1 (St.sA 8 (itL 8 K2)) K2 v K2→StQ w p K x u n (.returned (.tuple #[v,.bool true])) W):=fun W a v hJ=>⟨K2,v,D1,rfl,hJ.jd,hK2,hqt,hex,hac⟩
  rcases hK2 with rfl | ⟨rfl,rfl⟩
  ·clear h hF hq g1 g2 g3 y2 y3 hvn hl hsK hxs k1 k2 k3 hf2 hs2 hqt hex hac o1 o2 o3
   cases u
   ·go_enter Tryz.func18,Tryz.ntmps18
    go_wp2_with (first
     | (go_at_call 12; (with_reducible refine HL.out.mono ?_); rintro e w1 ⟨rfl,t1⟩)
     | (go_at_call 11; (with_reducible refine (HO.out _ t1).mono ?_); rintro e w2 ⟨a,rfl,t2⟩)
     | (go_at_call 19; (with_reducible refine (HY.out _ _ _ _ _ t2).mono ?_); rintro e w3 ⟨rfl,t3⟩))
    go_ret2
    exact HQ.out _ _ _ t3
   ·go_enter Tryz.func18,Tryz.ntmps18
    go_wp2_with (first
     | (go_at_call 12; (with_reducible refine HL.out.mono ?_); rintro e w1 ⟨rfl,t1⟩)
     | (go_at_call 11; (with_reducible refine (HO.out _ t1).mono ?_); rintro e w2 ⟨a,rfl,t2⟩)
     | (go_at_call 19; (with_reducible refine (HY.out _ _ _ _ _ t2).mono ?_); rintro e w3 ⟨rfl,t3⟩)
     | (go_at_call 19; (with_reducible refine (HY.out _ _ _ _ _ t3).mono ?_); rintro e w4 ⟨rfl,t4⟩))
    go_ret2
    exact HQ.out _ _ _ t4
  ·have HNo:Hid (∀ W a,Jn w W a p D1 (St.sA 8 (itL 8 (K++[x]))) (K++[x]) (.slice va vn vc) K→Calls Tryz.prog 19 #[.pointer (some ⟨a,0,none⟩),.slice va vn vc] W fun e w'=>e = .returned (.bool false)∧Jn w w' a p D1 (St.sA 8 (itL 8 (K++[x]))) (K++[x]) (.slice va vn vc) K):=fun W a hJ=>by
    have hJ2:=hJ
    obtain ⟨U,j1,_⟩:=hJ
    exact (lhas_no W j1 _ vn rfl (by omega) (by rw [hs2,List.length_append]; simp; omega) va vc).mono fun e w' z=>⟨z.1,hJ2.next z.2⟩
   have HRd:Hid (∀ W a,Jn w W a p D1 (St.sA 8 (itL 8 (K++[x]))) (K++[x]) (.slice va vn vc) K → ∃ b,RdS W va b 0 K.length K∧(va=none→vc=0)):=fun W a hJ=>by
    obtain ⟨ao',b,c',q1,q2,q3,q4⟩:=hJ.rds hsK
    injection q1 with e1 e2 e3
    subst e1 e3
    exact ⟨b,q2,q4⟩
   subst hvn
   clear h hF hq g1 g2 g3 y2 y3 hsK k1 k2 k3 hf2 hs2 hqt hex hac o1 o2 o3
   go_enter Tryz.func18,Tryz.ntmps18
   go_upto_region 6 with (first
    | (go_at_call 12; (with_reducible refine HL.out.mono ?_); rintro e w1 ⟨rfl,t1⟩)
    | (go_at_call 11; (with_reducible refine (HO.out _ t1).mono ?_); rintro e w2 ⟨a,rfl,t2⟩)
    | (go_at_call 19; (with_reducible refine (HNo.out _ _ t2).mono ?_); rintro e w3 ⟨rfl,t3⟩))
   obtain ⟨b,r3,r4⟩:=HRd.out _ _ t3
   have T3:=hide t3
   clear t3 t1 t2 HL HO HNo HRd
   go_wp2_with (at_builtin; refine wpList_append_S _ rfl _ _ rfl w3.heap.size _ [] rfl (owns_nil _ _) va b 0 vc K rfl r3 r4 (by simp; omega) (Nat.le_refl _) ?_)
   intro v4 w4 h4 u4
   have hs4:=u4.size
   have q1:K.length+[x].length≤8796093022208:=by simp; omega
   have q2:x.size≤9223372036854775807:=by omega
   have q3:w3.heap.size≤(w4.alloc (.cells #[.string x] 9)).heap.size:=by simp; omega
   go_wp2_with (at_builtin; refine wpList_append_S _ rfl _ _ rfl w3.heap.size _ K rfl (own_al h4 _) (some ⟨w4.heap.size,0,none⟩) w4.heap.size 0 1 [x] rfl (rds_one w4 x q2) (fun h=>by cases h) q1 q3 ?_)
   intro v5 w5 h5 u5
   have t5:=T3.out.swap ((bal u4 _).trans u5) h5
   obtain ⟨ao,m,c,rfl⟩:=own_slice3 h5
   clear h4 u4 h5 u5 T3 r3 r4 hs4
   go_wp2_with (go_at_call 19; (with_reducible refine (HY.out _ _ _ _ _ t5).mono ?_); rintro e w6 ⟨rfl,t6⟩)
   go_ret2
   exact HQ.out _ _ _ t6
 ·exact absurd g3 o1
end
end Go.Proofs.YtoblgjledefdbaaGreatDoor
namespace Go.Proofs.YtoblgjledefdbaaGreatDoor
open Go.RowKit
def Jx (w W:World) (a p:Nat) (D:St.DV) (S:St.SV) (L:List ByteArray) (v:Value) (K:List ByteArray) (g:Nat) (o:Obj):Prop :=
 ∃ U,Lg W 0 a p U D S L∧(∀ b,U b→w.heap.size≤b)∧Below w.heap.size w W∧OwnS W w.heap.size v K∧(∀ h,v.ownBlock=some h → ¬ U h∧h≠g)∧W.heap[g]? = some o ∧ ¬ U g
def Jdx (w W:World) (p:Nat) (D:St.DV) (v:Value) (K:List ByteArray) (g:Nat) (o:Obj):Prop :=
 ∃ Sd,St.Dsk W p Sd D∧(∀ b,Sd b→w.heap.size≤b)∧Below w.heap.size w W∧OwnS W w.heap.size v K∧(∀ h,v.ownBlock=some h → ¬ Sd h)∧W.heap[g]? = some o ∧ ¬ Sd g
theorem heap_lt {W:World} {g:Nat} {o:Obj} (h:W.heap[g]? = some o):g<W.heap.size:=(Array.getElem?_eq_some_iff.1 h).1
section
variable {w W W1:World} {a p g:Nat} {o:Obj} {D D':St.DV} {S S':St.SV} {L L' K:List ByteArray} {v:Value}
theorem Lg.dsk {gg:Int} {U:Nat→Prop} (h:Lg W gg a p U D S L) : ∃ Sd,St.Dsk W p Sd D ∧ ∀ b,Sd b→U b:=by
 obtain ⟨q,m,r,vr,vs,T,h1,hU,_⟩:=h
 obtain ⟨Sd,u,d1,d2,d3,d4,d5⟩:=h1.sk
 exact ⟨Sd,d1,fun b hb=>(hU b).2 (.inl ((d5 b).2 (.inl hb)))⟩
theorem Jx.jn (h:Jx w W a p D S L v K g o):Jn w W a p D S L v K:=by
 obtain ⟨U,h1,h2,h3,h4,h5,h6⟩:=h
 exact ⟨U,h1,h2,h3,h4,fun x hx=>(h5 x hx).1⟩
theorem Jx.own (h:Jx w W a p D S L v K g o):OwnS W w.heap.size v K:=h.jn.own
theorem Jx.below (h:Jx w W a p D S L v K g o):Below w.heap.size w W:=h.jn.nl.below
theorem Jx.box (h:Jx w W a p D S L v K g o):W.heap[g]? = some o:=by
 obtain ⟨U,_,_,_,_,_,h6,_⟩:=h
 exact h6
theorem Jn.jx (h:Jn w W a p D S L v K) (hb:Below W.heap.size W W1) (hg:W.heap.size≤g) (ho:W1.heap[g]? = some o):Jx w W1 a p D S L v K g o:=by
 obtain ⟨U,h1,h2,h3,h4,h5⟩:=h
 exact ⟨U,h1.next hb,h2,bnext h3 hb,own_next h4 hb (Nat.le_refl _),fun x hx=>⟨h5 x hx,by have:=own_lt h4 hx; omega⟩,ho,fun hu=>by have:=h1.lt hu; omega⟩
theorem Jx.next (h:Jx w W a p D S L v K g o) (hb:Below W.heap.size W W1):Jx w W1 a p D S L v K g o:=by
 obtain ⟨U,h1,h2,h3,h4,h5,h6,h7⟩:=h
 exact ⟨U,h1.next hb,h2,bnext h3 hb,own_next h4 hb (Nat.le_refl _),h5,(hb.block g (heap_lt h6)).trans h6,h7⟩
theorem Jx.jdx (h:Jx w W a p D S L v K g o):Jdx w W p D v K g o:=by
 obtain ⟨U,h1,h2,h3,h4,h5,h6,h7⟩:=h
 obtain ⟨Sd,d1,hs⟩:=h1.dsk
 exact ⟨Sd,d1,fun b hb=>h2 b (hs b hb),h3,h4,fun x hx e=>(h5 x hx).1 (hs x e),h6,fun e=>h7 (hs g e)⟩
theorem Jx.lay2 (h:Jx w W a p D S L v K g o) (ht:Tb w) (k1 k2:Int) (hk:k1≤9223372036854775807) (ao:Option Addr) (b off c:Nat) (ks:List Bool) (hr:St.RdL W ao b off ks) (hkl:ks.length≤140737488355328) (hne:0<ks.length→b<w.heap.size) :
  Calls Tryz.prog 12 #[.pointer (some ⟨p,0,none⟩),.agg #[.int .i64 k1,.int .i64 k2,.slice ao ks.length c]] W fun e w'=>e = .returned (.tuple #[])∧Jx w w' a p (St.layD D k1 k2 ks) S L v K g o:=by
 have hT:=(ht.next h.below).lt
 obtain ⟨U,⟨q,m,r,vr,vs,T,h1,hU,hn⟩,h2,h3,h4,h5,h6,h7⟩:=h
 obtain ⟨S0,u,d1,d2,d3,d4,d5⟩:=h1.sk
 refine (d1.lay k1 k2 hk ao b off c ks hr hkl (fun h0 hs=>by have:=h2 b ((hU b).2 (.inl ((d5 b).2 (.inl hs)))); have:=hne h0; omega)).mono fun e w' z=>⟨z.1,?_⟩
 obtain ⟨T',t1,t2,t3⟩:=h1.add (St.sk_mvd d2 d3 d4 d5 z.2) rfl
 have hgl:=heap_lt h6
 have hnw : ∀ x,x<W.heap.size → ¬ U x → ¬ (T' x∨Lef a m r vr vs x):=fun x hl hx e=>by
  rcases e with e | e
  ·rcases t2 _ e with e | e
   ·exact hx ((hU _).2 (.inl e))
   ·omega
  ·exact hx ((hU _).2 (.inr e))
 refine ⟨fun y=>T' y∨Lef a m r vr vs y,⟨q,m,r,vr,vs,T',t1,fun _=>Iff.rfl,hnw _ hT hn⟩,fun y hy => ?_,h3.trans (t3.below h3.size fun b hb=>h2 b ((hU b).2 (.inl hb))),St.row_keep h4 fun x hx=>t3.block x (own_lt h4 hx) fun e=>(h5 x hx).1 ((hU x).2 (.inl e)),fun x hx=>⟨hnw x (own_lt h4 hx) (h5 x hx).1,(h5 x hx).2⟩,(t3.block g hgl fun e=>h7 ((hU g).2 (.inl e))).trans h6,hnw g hgl h7⟩
 rcases hy with e | e
 ·exact (t2 y e).elim (fun e=>h2 y ((hU y).2 (.inl e))) (fun e=>Nat.le_trans h3.size e)
 ·exact h2 y ((hU y).2 (.inr e))
theorem Jx.append (h:Jx w W a p D S L v K g o) (ht:Tb w) (he:S.ends.length=L.length) (hb:Below W.heap.size W W1) (ao:Option Addr) (b len cap:Nat) (xs:List ByteArray) (hr:RdS W1 ao b 0 len xs) (hlen:len≤1000000) (n3:0<len→b<w.heap.size∨W.heap.size≤b) (hR:RmA D S L xs) (n:Nat) (e0:Int) (hA:apD D S L xs=(D',S',L',n,e0)) :
  Calls Tryz.prog 14 #[.pointer (some ⟨a,0,none⟩),.slice ao len cap] W1 fun e w'=>e = .returned (.tuple #[.int .i64 (n:Int),.int .i64 e0])∧Jx w w' a p D' S' L' v K g o:=by
 obtain ⟨U,y1,y2,y3,y4,y5,y6,y7⟩:=h
 have hb3:=bnext y3 hb
 have hgl:=heap_lt y6
 refine (lappend_any W1 (ht.next hb3) (y1.next hb) he ao b len cap xs hr (by omega) (fun h0 hu => ?_) hR n e0 hA).mono fun e w' z=>⟨z.1,?_⟩
 ·have:=y1.lt hu
  have:=y2 b hu
  rcases n3 h0 with e | e <;> omega
 ·obtain ⟨U',z1,z2,z3⟩:=z.2
  have y8:=own_next y4 hb (Nat.le_refl _)
  have hs:=hb.size
  have hnw : ∀ x,x<W1.heap.size → ¬ U x → ¬ U' x:=fun x hl hx e=>by
   rcases z2 x e with e | e
   ·exact hx e
   ·omega
  exact ⟨U',z1,fun c hc=>(z2 c hc).elim (y2 c) (fun e=>Nat.le_trans hb3.size e),hb3.trans (z3.below hb3.size y2),St.row_keep y8 fun x hx=>z3.block x (own_lt y8 hx) (y5 x hx).1,fun x hx=>⟨hnw x (own_lt y8 hx) (y5 x hx).1,(y5 x hx).2⟩,(z3.block g (by omega) y7).trans ((hb.block g hgl).trans y6),hnw g (by omega) y7⟩
theorem Jx.app (h:Jx w W a p D S L v K g o) (hb:Below W.heap.size W W1) (ty:Nat) (ad:Addr) (mc:Nat) (x:ByteArray) (hr : ∀ j u,[Value.string x][j]? = some u→W1.cell? (ad.add j)=some u) (hlen:K.length+1≤1048576) :
  ∃ v' w',(Builtin.append_ #[22,22] ty #[v,.slice (some ad) 1 mc]).run Tryz.prog W1 = .ok v' w'∧Jx w w' a p D S L v' (K++[x]) g o:=by
 obtain ⟨U,y1,y2,y3,y4,y5,y6,y7⟩:=h.next hb
 have hgl:=heap_lt y6
 obtain ⟨v',w5,hap,o5,g5⟩:=run_app_L W1 ty w.heap.size v K y4 ad mc x hr hlen y3.size
 refine ⟨v',w5,hap,?_⟩
 have t5:St.Upo (fun b=>v.ownBlock=some b) W1 w5:=by
  rcases g5 with ⟨g,n,c,e1,e2,g3⟩ | ⟨g3,_⟩
  ·rw [e1]; exact St.Upo.grown g3 (fun b hb=>by cases hb; rfl)
  ·exact St.Upo.grown g3 (fun b hb=>by cases hb)
 have hv5 : ∀ b,v'.ownBlock=some b→v.ownBlock=some b∨W1.heap.size≤b:=fun b hb=>by
  rcases g5 with ⟨g',n,c,e1,e2,g3⟩ | ⟨_,g3⟩
  ·rw [e1]; rw [e2] at hb; exact .inl hb
  ·exact .inr (g3 b hb)
 refine ⟨U,y1.same fun x hx=>t5.block x (y1.lt hx) fun e=>(y5 x e).1 hx,y2,y3.trans (t5.below y3.size fun b hb=>(World.ownsRow.lt y4 b hb).1),o5,fun x hx => ?_,(t5.block g hgl fun e=>(y5 g e).2 rfl).trans y6,y7⟩
 rcases hv5 x hx with e | e
 ·exact y5 x e
 ·exact ⟨fun hu=>by have:=y1.lt hu; omega,by omega⟩
theorem Jdx.jd (h:Jdx w W p D v K g o):Jd w W p D v K:=by
 obtain ⟨Sd,h1,h2,h3,h4,h5,_⟩:=h
 exact ⟨Sd,h1,h2,h3,h4,h5⟩
theorem Jdx.below (h:Jdx w W p D v K g o):Below w.heap.size w W:=h.jd.below
theorem Jdx.box (h:Jdx w W p D v K g o):W.heap[g]? = some o:=by
 obtain ⟨Sd,_,_,_,_,_,h6,_⟩:=h
 exact h6
theorem Jdx.next (h:Jdx w W p D v K g o) (hb:Below W.heap.size W W1):Jdx w W1 p D v K g o:=by
 obtain ⟨U,h1,h2,h3,h4,h5,h6,h7⟩:=h
 exact ⟨U,h1.next hb,h2,bnext h3 hb,own_next h4 hb (Nat.le_refl _),h5,(hb.block g (heap_lt h6)).trans h6,h7⟩
theorem Jdx.lay (h:Jdx w W p D v K g o) (k1 k2:Int) (hk:k1≤9223372036854775807) (ao:Option Addr) (b off c:Nat) (ks:List Bool) (hr:St.RdL W ao b off ks) (hkl:ks.length≤140737488355328) (hne:0<ks.length→b<w.heap.size) :
  Calls Tryz.prog 12 #[.pointer (some ⟨p,0,none⟩),.agg #[.int .i64 k1,.int .i64 k2,.slice ao ks.length c]] W fun e w'=>e = .returned (.tuple #[])∧Jdx w w' p (St.layD D k1 k2 ks) v K g o:=by
 obtain ⟨Sd,h1,h2,h3,h4,h5,h6,h7⟩:=h
 have hgl:=heap_lt h6
 refine (h1.lay k1 k2 hk ao b off c ks hr hkl (fun h0 hs=>by have:=h2 b hs; have:=hne h0; omega)).mono fun e w' z=>⟨z.1,?_⟩
 obtain ⟨S1,z1,z2,z3⟩:=z.2
 have hnw : ∀ x,x<W.heap.size → ¬ Sd x → ¬ S1 x:=fun x hl hx e=>by
  rcases z2 x e with e | e
  ·exact hx e
  ·omega
 exact ⟨S1,z1,fun b hb=>(z2 b hb).elim (h2 b) (fun e=>Nat.le_trans h3.size e),h3.trans (z3.below h3.size h2),St.row_keep h4 fun x hx=>z3.block x (own_lt h4 hx) (h5 x hx),fun x hx=>hnw x (own_lt h4 hx) (h5 x hx),(z3.block g hgl h7).trans h6,hnw g hgl h7⟩
theorem Jdx.open (ht:Tb w) (h:Jdx w W p D v K g o) (hrm:St.Rm 7 D) (k:Int) {r:Option (St.SV×List ByteArray)} {e0:Int} (hl:loD D k=(D',r,e0)) :
  Calls Tryz.prog 11 #[.pointer (some ⟨p,0,none⟩),.int .i64 k] W fun e w' => ∃ x,e = .returned x∧Jdx w w' p D' v K g o:=by
 obtain ⟨Sd,h1,h2,h3,h4,h5,h6,h7⟩:=h
 have hgl:=heap_lt h6
 refine (lopen_any W (ht.next h3) h1 hrm (fun e=>by have:=ht.lt; have:=h2 _ e; omega) k).mono fun e w' z => ?_
 rw [hl] at z
 cases r with
 | none =>
  obtain ⟨z1,S1,y1,z2,z3⟩:=z
  have hnw : ∀ x,x<W.heap.size → ¬ Sd x → ¬ S1 x:=fun x hl hx e=>by
   rcases z2 x e with e | e
   ·exact hx e
   ·omega
  exact ⟨_,z1,S1,y1,fun b hb=>(z2 b hb).elim (h2 b) (fun e=>Nat.le_trans h3.size e),h3.trans (z3.below h3.size h2),St.row_keep h4 fun x hx=>z3.block x (own_lt h4 hx) (h5 x hx),fun x hx=>hnw x (own_lt h4 hx) (h5 x hx),(z3.block g hgl h7).trans h6,hnw g hgl h7⟩
 | some r =>
  obtain ⟨S',L'⟩:=r
  obtain ⟨a,U,z1,z2,z3,z4,z5,z6⟩:=z
  have hnw : ∀ x,x<W.heap.size → ¬ Sd x → ¬ U x:=fun x hl hx e=>by
   rcases z3 x e with e | e
   ·exact hx e
   ·omega
  obtain ⟨S1,d1,hs⟩:=z2.dsk
  exact ⟨_,z1,S1,d1,fun b hb=>(z3 b (hs b hb)).elim (h2 b) (fun e=>Nat.le_trans h3.size e),h3.trans (z5.below h3.size h2),St.row_keep h4 fun x hx=>z5.block x (own_lt h4 hx) (h5 x hx),fun x hx e=>hnw x (own_lt h4 hx) (h5 x hx) (hs x e),(z5.block g hgl h7).trans h6,fun e=>hnw g hgl h7 (hs g e)⟩
theorem Jdx.after (h:Jdx w W p D v K g o) (ao:Option Addr) (b off c:Nat) (ks:List Bool) (hk:St.RdL W ao b off ks) (hkl:ks.length≤9223372036854775807) (l:List (List UInt8×List UInt8)) (he:St.aft ks D.L 0=l) :
  Calls Tryz.prog 17 #[.pointer (some ⟨p,0,none⟩),.slice ao ks.length c] W fun e w' => ∃ ao b c,e = .returned (.slice ao l.length c)∧St.RdF w' ao b 0 l∧Jdx w w' p D v K g o:=by
 have h0:=h
 obtain ⟨S1,h1,_⟩:=h
 rw [← he]
 refine (h1.after ao b off c ks hk hkl).mono fun e w' z => ?_
 obtain ⟨u,q1,q2,q3⟩:=z
 obtain ⟨ao,b,c,rfl,q4,_,q5⟩:=St.ownF_rd q2
 exact ⟨ao,b,c,q1,q4,h0.next q3⟩
theorem Jdx.reopen (h:Jdx w W p D v K g o) (R:Nat) (hR:R≤9223372036854775807) (fa:Option Addr) (fb fc:Nat) (F:List (List UInt8×List UInt8)) (hf:St.RdF W fa fb 0 F) (hz:St.Fz R F) :
  Calls Tryz.prog 16 #[.int .i64 (R:Int),.slice fa F.length fc] W fun e w' => ∃ p,e = .returned (.tuple #[.pointer (some ⟨p,0,none⟩),.int .i64 0])∧Jdx w w' p (St.openD R F) v K g o:=by
 obtain ⟨S0,h1,h2,h3,h4,h5,h6,h7⟩:=h
 have hgl:=heap_lt h6
 refine (St.open_yes W R hR fa fb 0 fc F hf hz.nm (by have:=hz.len; omega) hz.can hz.byt).mono fun e w' z => ?_
 obtain ⟨p,S1,z1,z2,z3,z4⟩:=z
 exact ⟨p,z1,S1,z2,fun b hb=>Nat.le_trans h3.size (z3 b hb),bnext h3 z4,own_next h4 z4 (Nat.le_refl _),fun x hx e=>by have:=z3 x e; have:=own_lt h4 hx; omega,(z4.block g hgl).trans h6,fun e=>by have:=z3 g e; omega⟩
end
end Go.Proofs.YtoblgjledefdbaaGreatDoor
