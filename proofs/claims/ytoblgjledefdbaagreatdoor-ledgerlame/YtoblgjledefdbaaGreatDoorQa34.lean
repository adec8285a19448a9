/- Own work. -/
import Derived.Test.YtoblgjledefdbaaGreatDoorQa33
namespace Go.Proofs.YtoblgjledefdbaaGreatDoor
open Go.RowKit
def Lg (w:World) (g:Int) (a p:Nat) (U:Nat→Prop) (D:St.DV) (S:St.SV) (L:List ByteArray):Prop :=
 ∃ q m r vr vs T,Led w g a q p m r vr vs T D S L∧(∀ x,U x↔T x∨Lef a m r vr vs x) ∧ ¬ U 3
def LgM (w w':World) (g:Int) (a p:Nat) (U:Nat→Prop) (D':St.DV) (S':St.SV) (L':List ByteArray):Prop :=
 ∃ U',Lg w' g a p U' D' S' L'∧(∀ x,U' x→U x∨w.heap.size≤x)∧St.Upo U w w'
theorem Tb.lt {w:World} (ht:Tb w):3<w.heap.size:=range_lt ht.rs (cW_ne (by rw [RS_len]; decide))
theorem Tb.upo {w W:World} {U:Nat→Prop} (ht:Tb w) (h:St.Upo U w W) (hn : ¬ U 3):Tb W:=by
 refine ⟨fun j u hu => ?_⟩
 rw [← ht.rs j u hu]
 have:=h.block _ ht.lt hn
 simp only [World.cell?,this]
section
variable {w w1 W:World} {g:Int} {a q p m r:Nat} {vr vs:Value} {T U:Nat→Prop} {D D' D2:St.DV} {S S' S2:St.SV} {L L' L2:List ByteArray}
theorem Lg.lt (h:Lg w g a p U D S L) {x:Nat} (hx:U x):x<w.heap.size:=by
 obtain ⟨q,m,r,vr,vs,T,h1,h2,_⟩:=h
 exact ((h2 x).1 hx).elim h1.sk.lt h1.lt
theorem Lg.own (h:Lg w g a p U D S L):U a:=by
 obtain ⟨q,m,r,vr,vs,T,h1,h2,_⟩:=h
 exact (h2 a).2 (.inr (.inl rfl))
theorem Lg.same (h:Lg w g a p U D S L) (hb : ∀ x,U x→W.heap[x]? = w.heap[x]?):Lg W g a p U D S L:=by
 obtain ⟨q,m,r,vr,vs,T,h1,h2,h3⟩:=h
 exact ⟨q,m,r,vr,vs,T,h1.same (fun x hx=>hb x ((h2 x).2 (.inl hx))) (fun x hx=>hb x ((h2 x).2 (.inr hx))),h2,h3⟩
theorem Lg.next (h:Lg w g a p U D S L) (hb:Below w.heap.size w W):Lg W g a p U D S L:=h.same fun x hx=>hb.block x (h.lt hx)
theorem Lg.lkd (h:Lg w 0 a p U D S L) (hL:Lkd a w W):Lg W 1 a p U D S L:=by
 obtain ⟨q,m,r,vr,vs,T,h1,h2,h3⟩:=h
 exact ⟨q,m,r,vr,vs,T,h1.lkd hL,h2,h3⟩
theorem Lg.set (h:Lg w g a p U D S L) (g':Int):Lg (w.setCell ⟨a,0,none⟩ (.int .i32 g')) g' a p U D S L:=by
 obtain ⟨q,m,r,vr,vs,T,h1,h2,h3⟩:=h
 exact ⟨q,m,r,vr,vs,T,h1.set g',h2,h3⟩
theorem Lg.sk (h:Lg w g a p U D S L) : ∃ q T,w.cell? ⟨a,2,none⟩=some (.pointer (some ⟨q,0,none⟩))∧St.Sk w q p T D S:=by
 obtain ⟨q,m,r,vr,vs,T,h1,h2,h3⟩:=h
 exact ⟨q,T,h1.cells.2.1,h1.sk⟩
theorem Lg.row (h:Lg w g a p U D S L) : ∃ q m r vs,w.heap[a]? = some (rwL g (.int .u32 0) (some ⟨q,0,none⟩) (.pointer (some ⟨m+1,0,none⟩)) (.pointer (some ⟨r,0,none⟩)) vs)∧Frs w m (S.k:Int) L∧OwnS w 0 vs (smL L):=by
 obtain ⟨q,m,r,vr,vs,T,h1,h2,h3⟩:=h
 exact ⟨q,m,r,vs,h1.blk,h1.fr,h1.own⟩
theorem LgM.of (h:Lg w g a p U D S L) (hb:Below w.heap.size w W):LgM w W g a p U D S L:=⟨U,h.next hb,fun _ hx => .inl hx,St.Upo.of hb⟩
theorem Led.add (h:Led w g a q p m r vr vs T D S L) (hm:St.SkM w W q p T D' S') (hk:S'.k=S.k) : ∃ T',Led W g a q p m r vr vs T' D' S' L∧(∀ x,T' x→T x∨w.heap.size≤x)∧St.Upo T w W:=by
 obtain ⟨T',h1,h2,h3⟩:=hm
 have hk' : ∀ x,Lef a m r vr vs x→W.heap[x]? = w.heap[x]? := fun x hx=>h3.block x (h.lt hx) (fun e=>h.ap x e hx)
 refine ⟨T',⟨(hk' a (.inl rfl)).trans h.blk,h1,?_,?_,St.row_keep h.own fun x hx=>hk' x (.inr (.inr (.inr (.inr (.inr hx))))),h.sz,fun x hx hl => ?_,h.av⟩,h2,h3⟩
 ·rw [hk]; exact h.fr.same (hk' m (.inr (.inl rfl))) (hk' _ (.inr (.inr (.inl rfl))))
 ·rw [hk]; exact ⟨(hk' r (.inr (.inr (.inr (.inl rfl))))).trans h.rg.blk,St.row_keep h.rg.own fun x hx=>hk' x (.inr (.inr (.inr (.inr (.inl hx))))),h.rg.k1,h.rg.k2,h.rg.hn,h.rg.hl,h.rg.hs⟩
 ·rcases h2 x hx with e | e
  ·exact h.ap x e hl
  ·have:=h.lt hl; omega
end
theorem addD_k (D:St.DV) (S:St.SV) (x:List UInt8) (ds:List ByteArray):(St.addD D S x ds).2.1.k=S.k:=by
 unfold St.addD
 split
 ·rfl
 ·split <;> rfl
theorem addD_ends (D:St.DV) (S:St.SV) (x:List UInt8) (ds:List ByteArray):((St.addD D S x ds).2.2=0∧(St.addD D S x ds).2.1.ends.length=S.ends.length+1)∨((St.addD D S x ds).2.2≠0∧(St.addD D S x ds).2.1.ends=S.ends):=by
 unfold St.addD
 split
 ·exact .inr ⟨by assumption,rfl⟩
 ·split
  ·exact .inl ⟨rfl,by simp⟩
  ·exact .inr ⟨by assumption,rfl⟩
def aD (D:St.DV) (S:St.SV) (L:List ByteArray) (x:ByteArray):St.DV×St.SV×List ByteArray×Int :=
 if 1048576<x.size then (D,S,L,100) else if 65536≤S.ends.length then (D,S,L,101) else
 ((St.addD D S x.data.toList (mdL S.k L x)).1,(St.addD D S x.data.toList (mdL S.k L x)).2.1,if (St.addD D S x.data.toList (mdL S.k L x)).2.2=0 then L++[x] else L,(St.addD D S x.data.toList (mdL S.k L x)).2.2)
end Go.Proofs.YtoblgjledefdbaaGreatDoor
namespace Go.Proofs.YtoblgjledefdbaaGreatDoor
open Go.RowKit
attribute [local go_sem ↓] Go.wp_at_zero Go.wp_at_succ
theorem rds_st {w:World} {ao:Option Addr} {b off len:Nat} {ss:List ByteArray} (h:RdS w ao b off len ss):St.Rc.RdS w ao b off len ss:=⟨h.hl,h.ptr,h.rng,h.sz⟩
theorem trl_le' (f n:Nat):Pl.trl f n≤f:=by
 induction f generalizing n with
 | zero=>exact Nat.le_refl _
 | succ f ih =>
  have:=ih (n / 2)
  simp only [Pl.trl]
  split <;> omega
section
variable {p:Nat} {U:Nat→Prop} {D D':St.DV} {S S':St.SV} {L L':List ByteArray}
set_option maxRecDepth 100000 in
set_option maxHeartbeats 4000000 in
theorem add_any (w:World) (ht:Tb w) (a:Nat) (h:Lg w 1 a p U D S L) (he:S.ends.length=L.length) (hrm:St.Rm 7 D) (x:ByteArray) (hx:x.size≤9223372036854775807) (e0:Int) (hA:aD D S L x=(D',S',L',e0)) :
  Calls Tryz.prog 49 #[.pointer (some ⟨a,0,none⟩),.string x] w fun e w'=>e = .returned (.int .i64 e0)∧LgM w w' 1 a p U D' S' L':=by
 obtain ⟨q,m,r,vr,vs,T,hl,hU,hn⟩:=h
 have hLg:Lg w 1 a p U D S L:=⟨q,m,r,vr,vs,T,hl,hU,hn⟩
 have hst:=hl.cells.2.1
 have hax:=World.block_lt_of_cell? _ _ hst
 unfold aD at hA
 by_cases h1:1048576<x.size
 ·rw [if_pos h1] at hA
  obtain ⟨rfl,rfl,rfl,rfl⟩:D=D'∧S=S'∧L=L'∧100=e0:=by injection hA with e1 e2; injection e2 with e2 e3; injection e3 with e3 e4; exact ⟨e1,e2,e3,e4⟩
  have hd:decide ((1048576:Int)<(x.size:Int))=true:=decide_eq_true (by omega)
  have HZ:=hide hLg
  clear hA ht hrm hl hU hn hLg h1 he
  go_enter Tryz.func49,Tryz.ntmps49
  go_wp2
  go_ret
  exact ⟨rfl,LgM.of HZ.out (Below.refl _ _)⟩
 rw [if_neg h1] at hA
 have hd1:decide ((1048576:Int)<(x.size:Int))=false:=decide_eq_false (by omega)
 have HSz:Hid (Calls Tryz.prog 74 #[.pointer (some ⟨q,0,none⟩)] w fun e w'=>e = .returned (.int .u64 (S.ends.length:Int))∧w=w'):=(St.fsize_any w hl.sk).mono fun e w' z=>⟨z.1,z.2.symm⟩
 by_cases h2:65536≤S.ends.length
 ·rw [if_pos h2] at hA
  obtain ⟨rfl,rfl,rfl,rfl⟩:D=D'∧S=S'∧L=L'∧101=e0:=by injection hA with e1 e2; injection e2 with e2 e3; injection e3 with e3 e4; exact ⟨e1,e2,e3,e4⟩
  have hd:decide ((65536:Int)≤(S.ends.length:Int))=true:=decide_eq_true (by omega)
  have HZ:=hide hLg
  clear hA ht hrm hl hU hn hLg h1 h2 he
  go_enter Tryz.func49,Tryz.ntmps49
  go_wp2_with (go_at_call 74; (with_reducible refine HSz.out.mono ?_); rintro e w1 ⟨rfl,rfl⟩)
  go_ret
  exact ⟨rfl,LgM.of HZ.out (Below.refl _ _)⟩
 rw [if_neg h2] at hA
 have hd2:decide ((65536:Int)≤(S.ends.length:Int))=false:=decide_eq_false (by omega)
 have k2:=hl.k1
 have hcl:=hl.clk
 obtain ⟨DA,hDA⟩ : ∃ y,St.addD D S x.data.toList (mdL S.k L x)=y:=⟨_,rfl⟩
 rw [hDA] at hA
 have hk':=addD_k D S x.data.toList (mdL S.k L x)
 have he':=addD_ends D S x.data.toList (mdL S.k L x)
 rw [hDA] at hk' he'
 obtain ⟨D1,S1,e1⟩:=DA
 obtain ⟨rfl,rfl,hL',rfl⟩:D1=D'∧S1=S'∧(if e1=0 then L++[x] else L)=L'∧e1=e0:=by injection hA with e1 e2; injection e2 with e2 e3; injection e3 with e3 e4; exact ⟨e1,e2,e3,e4⟩
 simp only at hk' he'
 obtain ⟨s,hs⟩ : ∃ s,sm x=s:=⟨_,rfl⟩
 have HNx:Hid (Calls Tryz.prog 95 #[.pointer (some ⟨a,0,none⟩),.string x] w (NxQ w S.k L x)):=next_any w ht a m r vr S.k L hl.fr hl.rg hcl hl.cells.2.2.1 hl.cells.2.2.2.1 x (by omega) (by omega)
 have hml:(mdL S.k L x).length≤1000:=by rw [mdL_len]; have:=trl_le' 40 L.length; omega
 have HAd:Hid (∀ W va vn vc,Below w.heap.size w W→OwnS W w.heap.size (.slice va vn vc) (mdL S.k L x)→Calls Tryz.prog 100 #[.pointer (some ⟨q,0,none⟩),.string x,.slice va vn vc] W fun e w'=>e = .returned (.int .i64 e1)∧St.SkM W w' q p T D1 S1):=fun W va vn vc hW ho=>by
  obtain ⟨ao,b,cap,hv,hr,_,_⟩:=owns_rds ho (fun y hy=>by rw [mdL_sz k2.2 L x y hy]; omega)
  injection hv with e1 e2 e3
  subst e1 e2 e3
  exact St.add_any W (hl.sk.next hW) hrm x hx va b 0 _ vc (mdL S.k L x) (rds_st hr) (by omega) D1 S1 e1 hDA
 have HC:Hid (∀ W,Below w.heap.size w W→W.cell? ⟨a,2,none⟩=some (.pointer (some ⟨q,0,none⟩))):=fun W hW=>(hW.cell (p:=⟨a,2,none⟩) hax).trans hst
 have HU:=hide hU
 have HNt:=hide hn
 have HLd:=hide hl
 have HLe:=hide hL'
 have HK':=hide hk'
 have HE':=hide he'
 have HEL:=hide he
 have HSS:=hide hs
 have HXX:=hide (And.intro h1 h2)
 have HTB:=hide ht
 clear hU hn hl hL' hk' he' he hs hx h1 h2 ht hA hDA hml hcl k2 hrm hLg hax
 go_enter Tryz.func49,Tryz.ntmps49
 go_upto_region 6 with (first
  | (go_at_call 74; (with_reducible refine HSz.out.mono ?_); rintro e w1 ⟨rfl,rfl⟩)
  | (go_at_call 95; (with_reducible refine HNx.out.mono ?_); rintro e w1 ⟨vm,r',vr',rfl,om,hr',lr,lv,u1⟩; obtain ⟨va,vn,vc,rfl⟩:=own_slice3 om; rw [HSS.out]))
 obtain ⟨b0,hb0⟩ : ∃ b,w1.heap.size=b:=⟨_,rfl⟩
 obtain ⟨w2,hw2⟩ : ∃ W,w1.alloc (.cells #[.string x,.string s,.slice va vn vc,.pointer (some ⟨r',0,none⟩)] 175)=W:=⟨_,rfl⟩
 have k2:w2.heap[b0]? = some (.cells #[.string x,.string s,.slice va vn vc,.pointer (some ⟨r',0,none⟩)] 175 (0,0)):=by rw [← hw2,← hb0]; exact heap_alloc_new w1 _
 have u2:Below w1.heap.size w1 w2:=by rw [← hw2]; exact bal (Below.refl _ _) _
 have z2:=(Array.getElem?_eq_some_iff.1 k2).1
 have v2:Below w.heap.size w w2:=bnext u1 u2
 have o2:OwnS w2 w.heap.size (.slice va vn vc) (mdL S.k L x):=own_next om u2 (Nat.le_refl _)
 have HB0:=hide hb0
 have g2:Kp.Rg w2 r' vr' (S.k:Int) (L.length+1) (pkL S.k (L++[x])):=hr'.next u2 (Nat.le_refl _)
 have HW2:=hide hw2
 have HC2:Hid (∀ W,Below w2.heap.size w2 W→W.cell? ⟨a,2,none⟩=some (.pointer (some ⟨q,0,none⟩))∧W.cell? ⟨b0,2,none⟩=some (.slice va vn vc)):=fun W hW=>⟨HC.out W (bnext v2 hW),by rw [cell_of_row W b0 2 _ _ (0,0) ((hW.block _ z2).trans k2)]; rfl⟩
 have HA2:Hid (∀ W,Below w2.heap.size w2 W→Calls Tryz.prog 100 #[.pointer (some ⟨q,0,none⟩),.string x,.slice va vn vc] W fun e w'=>e = .returned (.int .i64 e1)∧St.SkM w2 w' q p T D1 S1):=fun W hW=>(HAd.out W va vn vc (bnext v2 hW) (own_mono (own_next o2 hW (Nat.le_refl _)) (Nat.le_refl _))).mono fun e w' z=>⟨z.1,St.SkM.first hW z.2⟩
 have HK2:Hid (∀ W,St.SkM w2 W q p T D1 S1→W.cell? ⟨a,2,none⟩=some (.pointer (some ⟨q,0,none⟩))∧W.heap[b0]? = some (.cells #[.string x,.string s,.slice va vn vc,.pointer (some ⟨r',0,none⟩)] 175 (0,0))):=fun W hW=>by
  obtain ⟨T',t1,t2,t3⟩:=hW
  have hT : ∀ b,T b→b<w.heap.size:=fun b hb=>HLd.out.sk.lt hb
  exact ⟨(World.cell?_of_block (a:=⟨a,2,none⟩) (t3.block a (by have:=v2.size; have:=HLd.out.lt (x:=a) (.inl rfl); omega) (fun e=>HLd.out.ap a e (.inl rfl)))).trans (HC.out w2 v2),(t3.block _ z2 (fun e=>by have:=hT _ e; have:=u1.size; omega)).trans k2⟩
 have HK3:Hid (∀ W,St.SkM w2 W q p T D1 S1→W.cell? ⟨a,2,none⟩=some (.pointer (some ⟨q,0,none⟩))∧W.cell? ⟨b0,2,none⟩=some (.slice va vn vc)):=fun W hW=>⟨(HK2.out W hW).1,by rw [cell_of_row W b0 2 _ _ (0,0) (HK2.out W hW).2]; rfl⟩
 have HEr:Hid (∀ W,¬ e1=0→St.SkM w2 W q p T D1 S1→LgM w W 1 a p U D1 S1 L'):=fun W h0 hW=>by
  obtain ⟨T',t1,t2,t3⟩:=(HLd.out.next v2).add hW HK'.out
  have hLe:=HLe.out
  rw [if_neg h0] at hLe
  subst hLe
  refine ⟨fun y=>T' y∨Lef a m r vr vs y,⟨q,m,r,vr,vs,T',t1,fun _=>Iff.rfl,fun e => ?_⟩,fun y hy => ?_,(St.Upo.of v2).trans t3 fun y _ ht=>(HU.out y).2 (.inl ht)⟩
  ·rcases e with e | e
   ·rcases t2 _ e with e | e
    ·exact HNt.out ((HU.out _).2 (.inl e))
    ·have:=HTB.out.lt; have:=v2.size; omega
   ·exact HNt.out ((HU.out _).2 (.inr e))
  ·rcases hy with e | e
   ·exact (t2 y e).imp (fun e=>(HU.out y).2 (.inl e)) (fun e=>Nat.le_trans v2.size e)
   ·exact .inl ((HU.out y).2 (.inr e))
 have HOk:Hid (∀ W,e1=0→St.SkM w2 W q p T D1 S1→Calls Tryz.prog 97 #[.pointer (some ⟨a,0,none⟩),.agg #[.string x,.string s,.slice va vn vc,.pointer (some ⟨r',0,none⟩)]] W fun e w'=>e = .returned (.tuple #[])∧LgM w w' 1 a p U D1 S1 L'):=fun W h0 hW=>by
  obtain ⟨T',t1,t2,t3⟩:=(HLd.out.next v2).add hW HK'.out
  have hLe:=HLe.out
  rw [if_pos h0] at hLe
  have hT' : ∀ y,T' y→y<w.heap.size∨w2.heap.size≤y:=fun y hy=>(t2 y hy).imp (fun e=>HLd.out.sk.lt e) id
  have nw:Nw W T' vs S1 L x r' vr':=by
   refine ⟨?_,fun e => ?_,fun b hb=>⟨fun e => ?_,fun e => ?_⟩⟩
   ·rw [HK'.out]
    exact ⟨(t3.block _ g2.lt (fun e=>by have:=HLd.out.sk.lt e; omega)).trans g2.blk,St.row_keep g2.own fun b hb=>t3.block b (own_lt g2.own hb) (fun e=>by have:=HLd.out.sk.lt e; have:=lv b hb; omega),g2.k1,g2.k2,g2.hn,g2.hl,g2.hs⟩
   ·have:=g2.lt; rcases hT' _ e with e | e <;> omega
   ·have:=own_lt g2.own hb; have:=lv b hb; rcases hT' _ e with e | e <;> omega
   ·have:=lv b hb; have:=own_lt HLd.out.own e; omega
  have htW:Tb W:=(HTB.out.next v2).upo t3 fun e=>HNt.out ((HU.out _).2 (.inl e))
  have htk:=ltake_any W htW t1 (by have:=HXX.out.2; have:=HEL.out; omega) (by have:=HXX.out.1; omega) nw va vn vc
  rw [HSS.out] at htk
  refine htk.mono fun e w' z=>⟨z.1,?_⟩
  obtain ⟨vs',y1,y2,y3⟩:=z.2
  rw [hLe] at y1
  refine ⟨fun y=>T' y∨Lef a m r' vr' vs' y,⟨q,m,r',vr',vs',T',y1,fun _=>Iff.rfl,fun e => ?_⟩,fun y hy => ?_,((St.Upo.of v2).trans t3 fun y _ ht=>(HU.out y).2 (.inl ht)).trans y2 fun y _ ht=>(HU.out y).2 (.inr ht)⟩
  ·have htb:=HTB.out.lt
   have h3:=t3.size
   have hs2:=v2.size
   rcases e with e | e | e | e | e | e | e
   ·rcases t2 _ e with e | e
    ·exact HNt.out ((HU.out _).2 (.inl e))
    ·omega
   ·exact HNt.out ((HU.out _).2 (.inr (.inl e)))
   ·exact HNt.out ((HU.out _).2 (.inr (.inr (.inl e))))
   ·exact HNt.out ((HU.out _).2 (.inr (.inr (.inr (.inl e)))))
   ·omega
   ·have:=lv _ e; omega
   ·rcases y3 _ e with e | e
    ·exact HNt.out ((HU.out _).2 (.inr (.inr (.inr (.inr (.inr (.inr e)))))))
    ·omega
  ·have h3:=t3.size
   have hs2:=v2.size
   rcases hy with e | e | e | e | e | e | e
   ·exact (t2 y e).imp (fun e=>(HU.out y).2 (.inl e)) (fun e=>by omega)
   ·exact .inl ((HU.out y).2 (.inr (.inl e)))
   ·exact .inl ((HU.out y).2 (.inr (.inr (.inl e))))
   ·exact .inl ((HU.out y).2 (.inr (.inr (.inr (.inl e)))))
   ·exact .inr (by omega)
   ·exact .inr (lv y e)
   ·exact (y3 y e).imp (fun e=>(HU.out y).2 (.inr (.inr (.inr (.inr (.inr (.inr e))))))) (fun e=>by omega)
 obtain ⟨d1,d2⟩:=HC2.out w2 (Below.refl _ _)
 have u:Below w2.heap.size w2 w2.drew:=(Below.refl _ _).drew
 rw [HW2.out,HB0.out]
 clear k2 z2 v2 u2 u1 o2 om g2 hr' lr lv HAd hb0 hw2 HLd HU HNt HLe HK' HE' HEL HSS HXX HTB hst HSz HNx HC
 go_region_held3 (fun Z=>Z.cell? ⟨a,2,none⟩=some (.pointer (some ⟨q,0,none⟩))∧Z.cell? ⟨b0,2,none⟩=some (.slice va vn vc)) (first | assumption | (with_reducible exact HK3.out _ t3) | (with_reducible exact HC2.out _ u)) (first
  | (go_at_call 100; (with_reducible refine (HA2.out _ u).mono ?_); rintro e w3 ⟨rfl,t3⟩))
 all_goals
  by_cases h0:e1=0
  ·have HT:=hide (HOk.out w3 h0 t3)
   have k3:=(HK2.out w3 t3).2
   have y0:w3.cell? ⟨b0,0,none⟩=some (.string x):=by rw [cell_of_row w3 b0 0 _ _ (0,0) k3]; rfl
   have y1:w3.cell? ⟨b0,1,none⟩=some (.string s):=by rw [cell_of_row w3 b0 1 _ _ (0,0) k3]; rfl
   have y2:w3.cell? ⟨b0,2,none⟩=some (.slice va vn vc):=by rw [cell_of_row w3 b0 2 _ _ (0,0) k3]; rfl
   have y3:w3.cell? ⟨b0,3,none⟩=some (.pointer (some ⟨r',0,none⟩)):=by rw [cell_of_row w3 b0 3 _ _ (0,0) k3]; rfl
   clear HOk HEr HK2 HK3 HC2 HA2 t3 k3 d1 d2
   subst h0
   go_wp2_with (go_at_call 97; (with_reducible refine HT.out.mono ?_); rintro e w4 ⟨rfl,t4⟩)
   go_ret
   exact ⟨rfl,t4⟩
  ·have HT:=hide (HEr.out w3 h0 t3)
   have h0b:(e1 == 0)=false:=by simpa using h0
   clear HOk HEr HK2 HK3 HC2 HA2 t3 d1 d2
   go_wp2
   go_ret
   exact ⟨rfl,HT.out⟩
end
def apD:St.DV→St.SV→List ByteArray→List ByteArray→St.DV×St.SV×List ByteArray×Nat×Int
 | D,S,L,[]=>(D,S,L,0,0)
 | D,S,L,x::xs=>if (aD D S L x).2.2.2=0 then
   ((apD (aD D S L x).1 (aD D S L x).2.1 (aD D S L x).2.2.1 xs).1,(apD (aD D S L x).1 (aD D S L x).2.1 (aD D S L x).2.2.1 xs).2.1,(apD (aD D S L x).1 (aD D S L x).2.1 (aD D S L x).2.2.1 xs).2.2.1,(apD (aD D S L x).1 (aD D S L x).2.1 (aD D S L x).2.2.1 xs).2.2.2.1+1,(apD (aD D S L x).1 (aD D S L x).2.1 (aD D S L x).2.2.1 xs).2.2.2.2)
  else ((aD D S L x).1,(aD D S L x).2.1,(aD D S L x).2.2.1,0,(aD D S L x).2.2.2)
def RmA:St.DV→St.SV→List ByteArray→List ByteArray→Prop
 | _,_,_,[]=>True
 | D,S,L,x::xs=>St.Rm 7 D∧((aD D S L x).2.2.2=0→RmA (aD D S L x).1 (aD D S L x).2.1 (aD D S L x).2.2.1 xs)
theorem aD_ends (D:St.DV) (S:St.SV) (L:List ByteArray) (x:ByteArray) (he:S.ends.length=L.length):(aD D S L x).2.1.ends.length=(aD D S L x).2.2.1.length∧(aD D S L x).2.1.k=S.k:=by
 unfold aD
 split
 ·exact ⟨he,rfl⟩
 ·split
  ·exact ⟨he,rfl⟩
  ·refine ⟨?_,addD_k ..⟩
   rcases addD_ends D S x.data.toList (mdL S.k L x) with ⟨e1,e2⟩ | ⟨e1,e2⟩
   ·simp only [e1,if_true,e2,List.length_append,List.length_cons,List.length_nil,he]
   ·simp only [if_neg e1,e2,he]
section
variable {w W:World} {a p:Nat} {U:Nat→Prop} {D D' D0:St.DV} {S S' S0:St.SV} {L L' L0:List ByteArray} {g:Int}
theorem LgM.cell {b i:Nat} {v:Value} (h:LgM w W g a p U D S L) (hc:w.cell? ⟨b,i,none⟩=some v) (hb : ¬ U b):W.cell? ⟨b,i,none⟩=some v:=by
 obtain ⟨U',h1,h2,h3⟩:=h
 exact (World.cell?_of_block (a:=⟨b,i,none⟩) (h3.block b (World.block_lt_of_cell? _ _ hc) hb)).trans hc
theorem LgM.rds {ao:Option Addr} {b off len:Nat} {xs:List ByteArray} (h:LgM w W g a p U D S L) (hr:RdS w ao b off len xs) (hb:0<len → ¬ U b):RdS W ao b off len xs :=
 ⟨hr.hl,hr.ptr,fun j v hv=>h.cell (hr.rng j v hv) (hb (by have:=(List.getElem?_eq_some_iff.1 hv).1; rw [List.length_map] at this; have:=hr.hl; omega)),hr.sz⟩
theorem LgM.tb (h:LgM w W g a p U D S L) (h0:Lg w g a p U D0 S0 L0) (ht:Tb w):Tb W:=by
 obtain ⟨U',h1,h2,h3⟩:=h
 obtain ⟨_,_,_,_,_,_,_,_,hn⟩:=h0
 exact ht.upo h3 hn
set_option maxRecDepth 100000 in
set_option maxHeartbeats 2000000 in
theorem appendC_any (w:World) (ht:Tb w) (h:Lg w 1 a p U D S L) (he:S.ends.length=L.length) (bi bl:Nat) (ao:Option Addr) (b len cap:Nat) (xs:List ByteArray) (hr:RdS w ao b 0 len xs) (hlen:len≤9223372036854775806)
  (ci:w.cell? ⟨bi,0,none⟩=some (.slice ao len cap)) (cl:w.cell? ⟨bl,0,none⟩=some (.pointer (some ⟨a,0,none⟩))) (n1 : ¬ U bi) (n2 : ¬ U bl) (n3:0<len → ¬ U b) (hR:RmA D S L xs) (n:Nat) (e0:Int) (hA:apD D S L xs=(D',S',L',n,e0)) :
  Calls Tryz.prog 48 #[.pointer (some ⟨bi,0,none⟩),.pointer (some ⟨bl,0,none⟩)] w fun e w'=>e = .returned (.tuple #[.int .i64 (n:Int),.int .i64 e0])∧LgM w w' 1 a p U D' S' L':=by
 have hll:=hr.hl
 have HC:Hid (∀ W Di Si Li,LgM w W 1 a p U Di Si Li→W.cell? ⟨bi,0,none⟩=some (.slice ao len cap)∧W.cell? ⟨bl,0,none⟩=some (.pointer (some ⟨a,0,none⟩))∧RdS W ao b 0 len xs):=fun W Di Si Li hW=>⟨hW.cell ci n1,hW.cell cl n2,hW.rds hr n3⟩
 have HA:Hid (∀ W Di Si Li x Dj Sj Lj ej,LgM w W 1 a p U Di Si Li→Si.ends.length=Li.length→St.Rm 7 Di→x.size≤9223372036854775807→aD Di Si Li x=(Dj,Sj,Lj,ej)→Calls Tryz.prog 49 #[.pointer (some ⟨a,0,none⟩),.string x] W fun e w'=>e = .returned (.int .i64 ej)∧LgM w w' 1 a p U Dj Sj Lj):=fun W Di Si Li x Dj Sj Lj ej hW g1 g2 g3 g4=>by
  obtain ⟨U1,y1,y2,y3⟩:=hW
  exact (add_any W (LgM.tb ⟨U1,y1,y2,y3⟩ h ht) a y1 g1 g2 x g3 ej g4).mono fun e w' z=>by
   obtain ⟨U2,z1,z2,z3⟩:=z.2
   exact ⟨z.1,U2,z1,fun y hy=>(z2 y hy).elim (y2 y) (fun e => .inr (Nat.le_trans y3.size e)),y3.trans z3 fun y _ ht=>(y2 y ht).elim id (fun e=>by omega)⟩
 have HM:=hide (LgM.of h (Below.refl _ _))
 have HQ:=hide (And.intro he (And.intro hR hA))
 have hptr:=hr.ptr
 clear h he hR hA hr n1 n2 n3
 go_enter Tryz.func48,Tryz.ntmps48
 go_wp2
 go_loopg [9] len (fun g x wr => ∃ (j m:Nat) (Di:St.DV) (Si:St.SV) (Li:List ByteArray),j≤len∧g=len - j∧x = .int .i64 (j:Int)∧Hid (LgM w wr 1 a p U Di Si Li)∧Hid (Si.ends.length=Li.length∧RmA Di Si Li (xs.drop j)∧apD Di Si Li (xs.drop j)=(D',S',L',m,e0)∧j+m=n))
 case atStart =>
  go_light
  exact ⟨0,n,D,S,L,Nat.zero_le _,rfl,rfl,HM,HQ.out.1,HQ.out.2.1,HQ.out.2.2,Nat.zero_add _⟩
 case round =>
  clear HM HQ ci cl
  obtain ⟨j,m,Di,Si,Li,hj,rfl,rfl,HM,HQ⟩:=hrel
  obtain ⟨ci,cl,hr⟩:=HC.out wr Di Si Li HM.out
  by_cases hlt:j<len
  ·have hzj:(j:Int)<(len:Int):=by omega
   obtain rfl:=hptr (by omega)
   obtain ⟨x,hx⟩ : ∃ x,xs.getD j ByteArray.empty=x:=⟨_,rfl⟩
   have c0:=hr.at hlt
   rw [hx,Nat.zero_add] at c0
   obtain ⟨q1,q2,q3,q4⟩:=HQ.out
   have hd:xs.drop j=x::xs.drop (j+1):=by
    rw [List.drop_eq_getElem_cons (by omega),← hx,List.getD_eq_getElem?_getD,List.getElem?_eq_getElem (by omega)]; rfl
   rw [hd] at q2 q3
   have hxs:x.size≤9223372036854775807:=hr.sz x (by rw [← hx,List.getD_eq_getElem?_getD,List.getElem?_eq_getElem (by omega)]; exact List.getElem_mem _)
   obtain ⟨Dj,Sj,Lj,ej,hj4⟩ : ∃ Dj Sj Lj ej,aD Di Si Li x=(Dj,Sj,Lj,ej):=⟨_,_,_,_,rfl⟩
   have ha:=aD_ends Di Si Li x q1
   rw [hj4] at ha
   have HAd:=hide (HA.out wr Di Si Li x Dj Sj Lj ej HM.out q1 q2.1 hxs hj4)
   unfold RmA at q2
   unfold apD at q3
   rw [hj4] at q2 q3
   have ew3:IntKind.i64.wrap ((j:Int)+1)=((j+1:Nat):Int):=by rw [IntKind.wrap_i64]; omega
   by_cases h0:ej=0
   ·subst h0
    simp only [if_true] at q3
    obtain ⟨m',hm'⟩ : ∃ m',m=m'+1:=by
     injection q3 with _ q3; injection q3 with _ q3; injection q3 with _ q3; injection q3 with q3 _
     exact ⟨_,q3.symm⟩
    subst hm'
    have HN:Hid (Sj.ends.length=Lj.length∧RmA Dj Sj Lj (xs.drop (j+1))∧apD Dj Sj Lj (xs.drop (j+1))=(D',S',L',m',e0)∧(j+1)+m'=n):=by
     refine ⟨ha.1,q2.2 rfl,?_,by omega⟩
     generalize apD Dj Sj Lj (xs.drop (j+1))=y at q3
     obtain ⟨y1,y2,y3,y4,y5⟩:=y
     injection q3 with e1 q3; injection q3 with e2 q3; injection q3 with e3 q3; injection q3 with e4 q3
     simp only at e1 e2 e3 e4 q3
     rw [e1,e2,e3,q3,show y4=m' by omega]
    clear q1 q2 q3 q4 hd hx hxs hj4 ha HQ HM HA hr hll
    go_wp2_with (go_at_call 49; (with_reducible refine HAd.out.mono ?_); rintro e w2 ⟨rfl,t2⟩)
    go_roundg (len - (j+1))
    case rel =>
     go_light
     exact ⟨j+1,m',Dj,Sj,Lj,by omega,rfl,rfl,t2,HN⟩
    case measure=>go_light; omega
   ·simp only [if_neg h0] at q3
    obtain ⟨rfl,rfl,rfl,rfl,rfl⟩:Dj=D'∧Sj=S'∧Lj=L'∧0=m∧ej=e0:=by injection q3 with e1 q3; injection q3 with e2 q3; injection q3 with e3 q3; injection q3 with e4 q3; exact ⟨e1,e2,e3,e4,q3⟩
    have h0b:(ej == 0)=false:=by simpa using h0
    obtain rfl:j=n:=by omega
    clear q1 q2 q3 q4 hd hx hxs hj4 ha HQ HM HA hr hll HC
    go_wp2_with (go_at_call 49; (with_reducible refine HAd.out.mono ?_); rintro e w2 ⟨rfl,t2⟩)
    go_ret2
    exact ⟨rfl,t2⟩
  ·have hzj : ¬ (j:Int)<(len:Int):=by omega
   obtain rfl:j=len:=by omega
   obtain ⟨q1,q2,q3,q4⟩:=HQ.out
   rw [← hll,List.drop_length] at q3
   obtain ⟨rfl,rfl,rfl,rfl,rfl⟩:Di=D'∧Si=S'∧Li=L'∧0=m∧0=e0:=by injection q3 with e1 q3; injection q3 with e2 q3; injection q3 with e3 q3; injection q3 with e4 q3; exact ⟨e1,e2,e3,e4,q3⟩
   obtain rfl:j=n:=by omega
   clear q1 q2 q3 q4 HQ HA hr hll HC
   go_wp2
   go_ret2
   exact ⟨rfl,HM.out⟩
end
section
variable {w W W1:World} {a p:Nat} {U:Nat→Prop} {D D':St.DV} {S S':St.SV} {L L':List ByteArray} {g:Int}
theorem LgM.whole (h:Lg w 0 a p U D S L) (hb:Below w.heap.size w W) (hm:LgM (W.setCell ⟨a,0,none⟩ (.int .i32 1)) W1 1 a p U D' S' L'):LgM w (W1.setCell ⟨a,0,none⟩ (.int .i32 0)) 0 a p U D' S' L':=by
 obtain ⟨U',h1,h2,h3⟩:=hm
 have q1:St.Upo U w (W.setCell ⟨a,0,none⟩ (.int .i32 1)):=(St.Upo.of hb).set a 0 _ (.inl h.own)
 have hz:(W.setCell ⟨a,0,none⟩ (.int .i32 1)).heap.size=W.heap.size:=by simp
 refine ⟨U',h1.set 0,fun x hx=>(h2 x hx).imp id (fun e => ?_),(q1.trans h3 fun _ _ e=>e).set a 0 _ (.inl h.own)⟩
 have:=hb.size
 omega
theorem Lg.inn (h:Lg w 1 a p U D S L):w.cell? ⟨a,0,none⟩=some (.int .i32 1)∧w.frozen? ⟨a,0,none⟩=false:=by
 obtain ⟨q,m,r,vs,h1,_⟩:=h.row
 obtain ⟨c,_,_,_,_,f⟩:=rwL_at h1
 exact ⟨c,f 0⟩
theorem LgM.inn (h:LgM w W 1 a p U D S L):W.cell? ⟨a,0,none⟩=some (.int .i32 1)∧W.frozen? ⟨a,0,none⟩=false:=by
 obtain ⟨U',h1,_⟩:=h
 exact h1.inn
set_option maxRecDepth 100000 in
set_option maxHeartbeats 2000000 in
theorem lappend_any (w:World) (ht:Tb w) (h:Lg w 0 a p U D S L) (he:S.ends.length=L.length) (ao:Option Addr) (b len cap:Nat) (xs:List ByteArray) (hr:RdS w ao b 0 len xs) (hlen:len≤9223372036854775806) (n3:0<len → ¬ U b) (hR:RmA D S L xs) (n:Nat) (e0:Int) (hA:apD D S L xs=(D',S',L',n,e0)) :
  Calls Tryz.prog 14 #[.pointer (some ⟨a,0,none⟩),.slice ao len cap] w fun e w'=>e = .returned (.tuple #[.int .i64 (n:Int),.int .i64 e0])∧LgM w w' 0 a p U D' S' L':=by
 obtain ⟨w1,hw1⟩ : ∃ W,(w.alloc (.cells #[.pointer (some ⟨a,0,none⟩)] 27)).alloc (.cells #[.slice ao len cap] 22)=W:=⟨_,rfl⟩
 have u1:Below w.heap.size w w1:=by rw [← hw1]; exact bal (bal (Below.refl _ _) _) _
 have k0:w1.heap[w.heap.size]? = some (.cells #[.pointer (some ⟨a,0,none⟩)] 27 (0,0)):=by rw [← hw1]; exact St.new0 _ _ _
 have k1:w1.heap[w.heap.size+1]? = some (.cells #[.slice ao len cap] 22 (0,0)):=by rw [← hw1]; exact St.new2 _ _ _
 have h1:=h.next u1
 obtain ⟨q,m,r,vs,hrow,_⟩:=h1.row
 obtain ⟨c0,c2,_,_,_,cf⟩:=rwL_at hrow
 have hax:=h.lt h.own
 have hset : ∀ b,b≠a→(w1.setCell ⟨a,0,none⟩ (.int .i32 1)).heap[b]? = w1.heap[b]? := fun b hb=>Below.heap_setCell _ _ _ _ hb
 have hnU : ∀ b,w.heap.size≤b → ¬ U b:=fun b hb hu=>by have:=h.lt hu; omega
 have HW:Hid (Calls Tryz.prog 47 #[.pointer (some ⟨a,0,none⟩),.func (.func 48) #[] #[.pointer (some ⟨w.heap.size+1,0,none⟩),.pointer (some ⟨w.heap.size,0,none⟩)]] w1 fun e w'=>e = .returned (.tuple #[.int .i64 (n:Int),.int .i64 e0])∧LgM w w' 0 a p U D' S' L'):=by
  refine (wholeI_any w1 a q _ _ (.inl rfl) c0 (cf 0) c2 (fun x y W=>x = .int .i64 (n:Int)∧y = .int .i64 e0∧LgM (w1.setCell ⟨a,0,none⟩ (.int .i32 1)) W 1 a p U D' S' L') ?_).mono fun e w' z => ?_
  ·have t1:Tb (w1.setCell ⟨a,0,none⟩ (.int .i32 1)):=(ht.next u1).upo (U:=U) ((St.Upo.refl U w1).set a 0 _ (.inl h.own)) (by obtain ⟨_,_,_,_,_,_,_,_,hn⟩:=h; exact hn)
   have hx:=hr.hl
   refine (appendC_any (w1.setCell ⟨a,0,none⟩ (.int .i32 1)) t1 (h1.set 1) he (w.heap.size+1) w.heap.size ao b len cap xs ⟨hr.hl,hr.ptr,fun j v hv => ?_,hr.sz⟩ hlen ?_ ?_ (hnU _ (by omega)) (hnU _ (by omega)) n3 hR n e0 hA).mono fun e w' z => ?_
   ·have hc:=hr.rng j v hv
    have hlt:=World.block_lt_of_cell? _ _ hc
    have hbU : ¬ U b:=n3 (by have:=(List.getElem?_eq_some_iff.1 hv).1; rw [List.length_map] at this; omega)
    have hba:b≠a:=fun e=>hbU (e ▸ h.own)
    exact (World.cell?_of_block (a:=⟨b,0+j,none⟩) ((hset b hba).trans (u1.block b hlt))).trans hc
   ·rw [cell_of_row _ (w.heap.size+1) 0 _ _ (0,0) ((hset _ (by omega)).trans k1)]; rfl
   ·rw [cell_of_row _ w.heap.size 0 _ _ (0,0) ((hset _ (by omega)).trans k0)]; rfl
   ·exact ⟨_,_,z.1,z.2.inn.1,z.2.inn.2,rfl,rfl,z.2⟩
  ·obtain ⟨x,y,w2,rfl,⟨rfl,rfl,z2⟩,rfl⟩:=z
   exact ⟨rfl,LgM.whole h u1 z2⟩
 have b0:w1.cell? ⟨w.heap.size,0,none⟩=some (.pointer (some ⟨a,0,none⟩)):=by rw [cell_of_row _ _ 0 _ _ (0,0) k0]; rfl
 clear ht h he hr hR hA h1 k1 hrow c0 c2 cf hset hnU n3 u1 k0
 have HW1:=hide hw1
 clear hw1
 go_enter Tryz.func14,Tryz.ntmps14
 go_upto_region 1 with (fail)
 rw [HW1.out]
 go_wp2_with (go_at_call 47; (with_reducible refine HW.out.mono ?_); rintro e w2 ⟨rfl,t2⟩)
 go_ret2
 exact ⟨rfl,t2⟩
end
end Go.Proofs.YtoblgjledefdbaaGreatDoor
