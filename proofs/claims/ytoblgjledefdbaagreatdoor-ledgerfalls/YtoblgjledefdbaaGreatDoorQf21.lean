/- Own work. -/
import Derived.BigQuiet
import Derived.Lib.BufferMore
import Derived.Test.YtoblgjledefdbaaGreatDoorQf20
namespace Go.Proofs.YtoblgjledefdbaaGreatDoor.St
open Go.RowKit
open Rc
attribute [local go_sem ↓] Go.wp_at_zero Go.wp_at_succ
section
variable {q p:Nat} {T:Nat→Prop} {D:DV} {S:SV}
theorem nn_mono (n:Nat) (h:n≤65536):nn n≤nn (n+1)∧nn (n+1)≤131074∧nn (n+1)≤nn n+41:=by
 have hb:=nn_le (n+1)
 unfold nn at hb ⊢
 obtain ⟨t,h40,h1,h2⟩ : ∃ t,t≤40∧n % Pl.pw t=Pl.pw t - 1 ∧ ¬ n / Pl.pw t % 2=1:=by
  suffices hh : ∀ f t,t+f=40→n % Pl.pw t=Pl.pw t - 1 → ∃ t,t≤40∧n % Pl.pw t=Pl.pw t - 1 ∧ ¬ n / Pl.pw t % 2=1 from hh 40 0 rfl (by rw [Pl.pw_zero]; omega)
  intro f
  induction f with
  | zero=>intro t ht h0; exact ⟨t,by omega,h0,by rw [Nat.div_eq_of_lt (Nat.lt_of_lt_of_le (show n<2^20 by omega) (Pl.pw_le (a:=20) (by omega)))]; decide⟩
  | succ f ih =>
   intro t ht h0
   by_cases ho:n / Pl.pw t % 2=1
   ·exact ih (t+1) (by omega) (Pl.ones_end_succ t n h0 ho)
   ·exact ⟨t,by omega,h0,ho⟩
 rw [Pl.new_N t n h1 h2 (by omega)] at hb ⊢
 omega
theorem nxt_iff (S:SV) (ds:List ByteArray):nxt S ds=true↔ds.length=nn (S.ends.length+1) - nn S.ends.length ∧ ∀ d∈ds,d.size=S.k:=by
 simp [nxt]
set_option maxRecDepth 100000 in
theorem arenext_any (w:World) (h:Sk w q p T D S) (hfew:S.ends.length<65536) (ao:Option Addr) (b off len cap:Nat) (ds:List ByteArray) (hr:Rc.RdS w ao b off len ds) (hmx:len≤9223372036854775807) (r:Bool) (hR:nxt S ds=r) :
  Calls Tryz.prog 262 #[.pointer (some ⟨q,0,none⟩),.slice ao len cap] w fun e w'=>e = .returned (.bool r)∧w'=w:=by
 obtain ⟨ea,ec,⟨c0,c1,c2,c3,c4⟩,_⟩:=h.cells
 obtain ⟨hk1,hk2,hf,_⟩:=h.small
 have hm:=nn_mono S.ends.length hf
 have HN:Hid (Calls Tryz.prog 245 #[.int .i64 (S.ends.length:Int)] w fun e w'=>e = .returned (.int .u64 (nn S.ends.length:Int))∧w'=w):=nodesof_any w S.ends.length (by omega)
 have HN1:Hid (Calls Tryz.prog 245 #[.int .i64 ((S.ends.length:Int)+1)] w fun e w'=>e = .returned (.int .u64 (nn (S.ends.length+1):Int))∧w'=w):=by
  have:=nodesof_any w (S.ends.length+1) (by omega)
  rw [Int.natCast_add] at this
  exact this
 have hx:nxt S ds=true↔len=nn (S.ends.length+1) - nn S.ends.length ∧ ∀ d∈ds,d.size=S.k:=by rw [nxt_iff,hr.hl]
 clear h
 generalize nxt S ds=x0 at *
 subst hR
 generalize nn (S.ends.length+1)=m1 at *
 generalize nn S.ends.length=m0 at *
 generalize S.k=k at *
 generalize S.ends.length=n at *
 have e1:IntKind.i64.wrap ((n:Int)+1)=(n:Int)+1:=by rw [IntKind.wrap_i64]; omega
 have e2:IntKind.u64.wrap (len:Int)=(len:Int):=wrap_u _ (by omega) (by omega)
 have e3:IntKind.u64.wrap ((m1:Int) - (m0:Int))=((m1 - m0:Nat):Int):=by rw [wrap_u _ (by omega) (by omega)]; omega
 by_cases hl:len=m1 - m0
 ·have hd:(((len:Int)) != ((m1 - m0:Nat):Int))=false:=by simp [hl]
  have hd2:((len:Int))=((m1 - m0:Nat):Int):=by omega
  generalize m1 - m0=m at *
  subst hl
  go_enter Tryz.func262,Tryz.ntmps262
  go_wp2_with (go_at_call 245; first | ((with_reducible refine HN.out.mono ?_); rintro e w1 ⟨rfl,rfl⟩) | ((with_reducible refine HN1.out.mono ?_); rintro e w1 ⟨rfl,rfl⟩))
  go_loopg [25] len (fun g x wr => ∃ j:Nat,j≤len∧g=len - j∧x = .int .i64 (j:Int)∧Hid (∀ d∈ds.take j,d.size=k)∧wr=w1)
  case atStart =>
   go_light
   exact ⟨0,Nat.zero_le _,rfl,rfl,fun d hd=>by simp at hd,rfl⟩
  case round =>
   obtain ⟨j,hj,rfl,rfl,HA,rfl⟩:=hrel
   by_cases hlt:j<len
   ·have hz:(j:Int)<(len:Int):=by omega
    obtain rfl:=hr.ptr (by omega)
    have ck:=hr.at hlt
    have hw:IntKind.i64.wrap ((j:Int)+1)=(j:Int)+1:=by rw [IntKind.wrap_i64]; omega
    obtain ⟨d,hd0⟩ : ∃ d,ds.getD j ByteArray.empty=d:=⟨_,rfl⟩
    have hds:j<ds.length:=by rw [hr.hl]; exact hlt
    have hdm:d∈ds:=by rw [← hd0,List.getD_eq_getElem?_getD,List.getElem?_eq_getElem hds]; exact List.getElem_mem _
    have htk:ds.take (j+1)=ds.take j++[d]:=by rw [← hd0,List.take_succ_eq_append_getElem hds,List.getD_eq_getElem?_getD,List.getElem?_eq_getElem hds]; rfl
    rw [hd0] at ck
    by_cases he:d.size=k
    ·have hd3:((d.size:Int) != (k:Int))=false:=by simp [he]
     have hd4:(d.size:Int)=(k:Int):=by omega
     have HA2:Hid (∀ d∈ds.take (j+1),d.size=k):=fun y hy=>by
      rw [htk] at hy
      rcases List.mem_append.1 hy with h | h
      ·exact HA.out y h
      ·rw [List.mem_singleton.1 h]; exact he
     clear hr hx HA htk
     go_wp2
     go_roundg (len - (j+1))
     case rel =>
      go_light
      exact ⟨j+1,by omega,rfl,by go_num,HA2,rfl⟩
     case measure=>go_light; omega
    ·have hd3:((d.size:Int) != (k:Int))=true:=by simp; omega
     have hd4 : ¬ (d.size:Int)=(k:Int):=by omega
     have hxf:x0=false:=by
      cases x0 with
      | false=>rfl
      | true=>exact absurd ((hx.1 rfl).2 d hdm) he
     subst hxf
     clear hr hx HA htk
     go_wp2
     go_ret
     first | exact ⟨rfl,rfl⟩ | exact ⟨trivial,rfl⟩
   ·have hz : ¬ (j:Int)<(len:Int):=by omega
    have hxt:x0=true:=hx.2 ⟨by trivial,fun d hd=>HA.out d (by rw [List.take_of_length_le (by rw [hr.hl]; omega)]; exact hd)⟩
    subst hxt
    clear hr hx HA
    go_wp2
    go_ret
    exact ⟨rfl,rfl⟩
 ·have hd:(((len:Int)) != ((m1 - m0:Nat):Int))=true:=by simp; omega
  have hd2 : ¬ ((len:Int))=((m1 - m0:Nat):Int):=by omega
  have hxf:x0=false:=by
   cases x0 with
   | false=>rfl
   | true=>exact absurd (hx.1 rfl).1 hl
  subst hxf
  generalize m1 - m0=m at *
  clear hx
  go_enter Tryz.func262,Tryz.ntmps262
  go_wp2_with (go_at_call 245; first | ((with_reducible refine HN.out.mono ?_); rintro e w1 ⟨rfl,rfl⟩) | ((with_reducible refine HN1.out.mono ?_); rintro e w1 ⟨rfl,rfl⟩))
  go_ret
  exact ⟨rfl,rfl⟩
def refE (S:SV) (item:List UInt8) (ds:List ByteArray):Int :=
 if S.lame then 191 else if 1048576<item.length then 100 else if 65536≤S.ends.length then 101 else if nxt S ds=false then 192 else 0
set_option maxRecDepth 100000 in
theorem refuses_any (w:World) (h:Sk w q p T D S) (s:ByteArray) (hs:s.size≤9223372036854775807) (ao:Option Addr) (b off len cap:Nat) (ds:List ByteArray) (hr:Rc.RdS w ao b off len ds) (hmx:len≤9223372036854775807) (r:Int) (hR:refE S s.data.toList ds=r) :
  Calls Tryz.prog 166 #[.pointer (some ⟨q,0,none⟩),.string s,.slice ao len cap] w fun e w'=>e = .returned (.int .i64 r)∧w'=w:=by
 obtain ⟨ea,ec,⟨c0,c1,c2,c3,c4⟩,_⟩:=h.cells
 obtain ⟨hk1,hk2,hf,_⟩:=h.small
 unfold refE at hR
 rw [size_list] at hR
 by_cases h1:S.lame=true
 ·rw [if_pos h1] at hR
  subst hR
  rw [h1] at c4
  clear h hr
  go_enter Tryz.func166,Tryz.ntmps166
  go_wp2
  go_ret
  exact ⟨rfl,rfl⟩
 ·rw [if_neg h1] at hR
  rw [Bool.eq_false_iff.2 h1] at c4
  by_cases h2:1048576<s.size
  ·rw [if_pos h2] at hR
   subst hR
   have hd:(1048576:Int)<(s.size:Int):=by omega
   clear h hr
   go_enter Tryz.func166,Tryz.ntmps166
   go_wp2
   go_ret
   exact ⟨rfl,rfl⟩
  ·rw [if_neg h2] at hR
   have hd : ¬ (1048576:Int)<(s.size:Int):=by omega
   by_cases h3:65536≤S.ends.length
   ·rw [if_pos h3] at hR
    subst hR
    have hd2:(65536:Int)≤(S.ends.length:Int):=by omega
    generalize S.ends.length=n at *
    clear h hr
    go_enter Tryz.func166,Tryz.ntmps166
    go_wp2
    go_ret
    exact ⟨rfl,rfl⟩
   ·rw [if_neg h3] at hR
    have hd2 : ¬ (65536:Int)≤(S.ends.length:Int):=by omega
    by_cases h4:nxt S ds=false
    ·rw [if_pos h4] at hR
     subst hR
     have HN:=hide (arenext_any w h (by omega) ao b off len cap ds hr hmx _ h4)
     generalize S.ends.length=n at *
     clear h hr
     go_enter Tryz.func166,Tryz.ntmps166
     go_wp2_with (go_at_call 262; refine HN.out.mono ?_; rintro e w1 ⟨rfl,rfl⟩)
     go_ret
     exact ⟨rfl,rfl⟩
    ·rw [if_neg h4] at hR
     subst hR
     have HN:=hide (arenext_any w h (by omega) ao b off len cap ds hr hmx true (by simpa using h4))
     generalize S.ends.length=n at *
     clear h hr
     go_enter Tryz.func166,Tryz.ntmps166
     go_wp2_with (go_at_call 262; refine HN.out.mono ?_; rintro e w1 ⟨rfl,rfl⟩)
     go_ret
     exact ⟨rfl,rfl⟩
end
theorem make_texts (n:Nat) (hn:n≤8796093021952) (u:World):(Instr.makeSlice 22 (.int .i64 (n:Int)) (.int .i64 (n:Int))).run Tryz.prog u = .ok (.slice (some ⟨u.heap.size,0,none⟩) n n) (u.alloc (.cells (Array.replicate n (Value.string ByteArray.empty)) 9)):=by
 have:=run_make_row' (P:=Tryz.prog) 22 9 (.string ByteArray.empty) 16 Tryz.underlying22 Rc.Tryz.infoS rfl .i64 .i64 n (by omega) (by omega) u
 rw [this,Rc.madeCells_one]
theorem owns_made (w:World) (n:Nat) (hn:n≤8796093021952):Rc.OwnS (w.alloc (.cells (Array.replicate n (Value.string ByteArray.empty)) 9)) w.heap.size (.slice (some ⟨w.heap.size,0,none⟩) n n) (List.replicate n ByteArray.empty):=by
 refine ⟨by simp,.inr ⟨w.heap.size,n,Array.replicate n (Value.string ByteArray.empty),by simp,Nat.le_refl _,new1 _ _,by simp,by unfold maxLen; omega,by simp,by simp⟩⟩
theorem recs_len (p:Nat) (ds:List ByteArray):(recs p ds).length=ds.length:=by simp [recs]
theorem recs_snoc (p:Nat) (ds:List ByteArray) (d:ByteArray):recs p (ds++[d])=recs p ds++[tx (nod (p+ds.length) d.data.toList)]:=by simp [recs]
theorem noderecs_any (w:World) {q p:Nat} {T:Nat→Prop} {D:DV} {S:SV} (h:Sk w q p T D S) (ao:Option Addr) (b off len cap:Nat) (ds:List ByteArray) (hr:Rc.RdS w ao b off len ds) (hmx:len≤1000) (h32 : ∀ d∈ds,d.size≤32) :
  Calls Tryz.prog 168 #[.pointer (some ⟨q,0,none⟩),.slice ao len cap] w fun e w' => ∃ v,e = .returned v∧Rc.OwnS w' w.heap.size v (recs (nn S.ends.length) ds)∧Below w.heap.size w w':=by
 obtain ⟨ea,ec,⟨c0,c1,c2,c3,c4⟩,_⟩:=h.cells
 obtain ⟨hk1,hk2,hf,_⟩:=h.small
 have HN:=hide (nodesof_any w S.ends.length (by omega))
 have hb:=nn_le S.ends.length
 clear h
 generalize nn S.ends.length=m at *
 generalize S.ends.length=n at *
 have HM:=make_texts len (by omega) w
 have HO:=hide (owns_made w len (by omega))
 have u0:Below w.heap.size w (w.alloc (.cells (Array.replicate len (Value.string ByteArray.empty)) 9)):=bal (Below.refl _ _) _
 have HU:=hide u0
 obtain ⟨w1,hw1⟩ : ∃ W,w.alloc (.cells (Array.replicate len (Value.string ByteArray.empty)) 9)=W:=⟨_,rfl⟩
 rw [hw1] at HM HO HU
 clear hw1 u0
 obtain ⟨g,hg⟩ : ∃ g,w.heap.size=g:=⟨_,rfl⟩
 have HG:=hide hg
 rw [hg] at HM HO
 have HB:Hid (∀ W,Below w.heap.size w W→Rc.RdS W ao b off len ds):=fun W hW=>hr.next hW (Nat.le_refl _)
 have hl:=hr.hl
 have hp:=hr.ptr
 clear hg hr
 go_enter Tryz.func168,Tryz.ntmps168
 go_wp2_with (go_at_call 245; refine HN.out.mono ?_; rintro e w2 ⟨rfl,rfl⟩)
 go_loopg [20] len (fun g' x wr => ∃ j:Nat,j≤len∧g'=len - j∧x = .int .i64 (j:Int)∧Hid (Rc.OwnS wr g (.slice (some ⟨g,0,none⟩) len len) (recs m (ds.take j)++List.replicate (len - j) ByteArray.empty))∧Hid (Below w2.heap.size w2 wr))
 case atStart =>
  go_light
  exact ⟨0,Nat.zero_le _,rfl,rfl,HO,HU⟩
 case round =>
  obtain ⟨j,hj,rfl,rfl,HA,HW⟩:=hrel
  by_cases hlt:j<len
  ·have hz:(j:Int)<(len:Int):=by omega
   obtain rfl:=hp (by omega)
   have ck:=(HB.out _ HW.out).at hlt
   obtain ⟨d,hd0⟩ : ∃ d,ds.getD j ByteArray.empty=d:=⟨_,rfl⟩
   have hds:j<ds.length:=by omega
   have hdm:d∈ds:=by rw [← hd0,List.getD_eq_getElem?_getD,List.getElem?_eq_getElem hds]; exact List.getElem_mem _
   have htk:ds.take (j+1)=ds.take j++[d]:=by rw [← hd0,List.take_succ_eq_append_getElem hds,List.getD_eq_getElem?_getD,List.getElem?_eq_getElem hds]; rfl
   rw [hd0] at ck
   have hw:IntKind.i64.wrap ((j:Int)+1)=(j:Int)+1:=by rw [IntKind.wrap_i64]; omega
   have hw2:IntKind.u64.wrap (j:Int)=(j:Int):=wrap_u _ (by omega) (by omega)
   have hw3:IntKind.u64.wrap ((m:Int)+(j:Int))=((m+j:Nat):Int):=by rw [wrap_u _ (by omega) (by omega)]; omega
   have hd32:=h32 d hdm
   obtain ⟨tn,htn⟩ : ∃ t,tx (nod (m+j) d.data.toList)=t:=⟨_,rfl⟩
   have HC:Hid (Calls Tryz.prog 266 #[.int .u64 ((m+j:Nat):Int),.string d] wr fun e w'=>e = .returned (.string tn)∧Below wr.heap.size wr w'):=Rc.node_any wr (m+j) (by omega) d (by omega) tn (by rw [nodS,size_list,if_pos hd32]; exact htn)
   have HA2:Hid (∀ W,Below wr.heap.size wr W→(W.frozen? ⟨g,j,none⟩=false ∧ ∃ x,W.cell? ⟨g,j,none⟩=some (.string x))∧Rc.OwnS (W.setCell ⟨g,j,none⟩ (.string tn)) g (.slice (some ⟨g,0,none⟩) len len) (recs m (ds.take (j+1))++List.replicate (len - (j+1)) ByteArray.empty)∧Below w2.heap.size w2 (W.setCell ⟨g,j,none⟩ (.string tn))):=fun W hW=>by
    have ho:=Rc.own_next HA.out hW (Nat.le_refl _)
    have hjl:j<(recs m (ds.take j)++List.replicate (len - j) ByteArray.empty).length:=by simp [recs_len]; omega
    have hoc:=own_cell ho hjl
    refine ⟨⟨hoc.2,_,hoc.1⟩,?_,(bnext HW.out hW).setCell (by rw [HG.out]; exact Nat.le_refl _) _⟩
    have:=own_set ho j tn
    have hj2:(recs m (ds.take j)).length=j:=by rw [recs_len,List.length_take]; omega
    have hj3:(ds.take j).length=j:=by rw [List.length_take]; omega
    rw [htk,recs_snoc,hj3,htn,show len - j=(len - (j+1))+1 by omega,List.replicate_succ] at *
    rw [List.set_append_right _ _ (by omega),hj2,Nat.sub_self,List.set_cons_zero] at this
    rw [List.append_assoc]
    exact this
   clear HA HW htk HB hd0
   go_wp2_with (go_at_call 266; refine HC.out.mono ?_; rintro e w3 ⟨rfl,u3⟩; have ⟨⟨f1,x1,f2⟩,_⟩:=HA2.out _ u3)
   go_roundg (len - (j+1))
   case rel =>
    go_light
    exact ⟨j+1,by omega,rfl,by go_num,(HA2.out _ u3).2.1,(HA2.out _ u3).2.2⟩
   case measure=>go_light; omega
  ·have hz : ¬ (j:Int)<(len:Int):=by omega
   have HZ:Hid (Rc.OwnS wr w2.heap.size (.slice (some ⟨g,0,none⟩) len len) (recs m ds)∧Below w2.heap.size w2 wr):=by
    have:=HA.out
    rw [List.take_of_length_le (by omega),show len - j=0 by omega,List.replicate_zero,List.append_nil] at this
    exact ⟨by rw [HG.out]; exact this,HW.out⟩
   clear HA HW HB
   go_wp2
   go_ret
   exact ⟨_,rfl,HZ.out⟩
end Go.Proofs.YtoblgjledefdbaaGreatDoor.St
namespace Go.Proofs.YtoblgjledefdbaaGreatDoor.St
open Go.RowKit
def tot:List (List UInt8×FV)→Nat
 | []=>0
 | (_,f)::r=>f.now.length+tot r
theorem ord_tail {x:List UInt8×FV} {r:List (List UInt8×FV)} (h:Ord (x::r)):Ord r:=⟨(List.pairwise_cons.1 h.1).2,fun p hp=>h.2 p (List.mem_cons_of_mem _ hp)⟩
theorem tot_put : ∀ {L:List (List UInt8×FV)} (_:Ord L) (s:List UInt8) (f:FV),tot (fput L s f)+(fget L s).now.length=tot L+f.now.length
 | [],_,s,f=>by
  rw [fput,fget]
  split
  ·rename_i h; have:=gone_len.1 h; simp only [tot,fz]; simp; omega
  ·simp [tot,fz]
 | (t,g)::r,h,s,f=>by
  rw [fput,fget]
  by_cases e:t=s
  ·rw [if_pos e,if_pos e]
   split
   ·rename_i hg; have:=gone_len.1 hg; simp only [tot]; omega
   ·simp only [tot]; omega
  ·rw [if_neg e,if_neg e]
   by_cases e2:s<t
   ·rw [if_pos e2]
    have hn:fget r s=fz:=by
     apply fget_none
     intro hm
     obtain ⟨p,hp,hps⟩:=List.mem_map.1 hm
     have h3:=(List.pairwise_cons.1 h.1).1 p hp
     have h4:t<s:=by rw [← hps]; exact h3
     exact List.lt_irrefl _ (List.lt_trans h4 e2)
    rw [hn]
    split
    ·rename_i hg; have:=gone_len.1 hg; rw [this.1]; rfl
    ·simp only [tot,fz]; simp; omega
   ·rw [if_neg e2]
    have:=tot_put (ord_tail h) s f
    simp only [tot]
    omega
theorem actD_plain {D:DV} (h:D.fk=0) (s:List UInt8) (f:FV):actD D s f=(dput { D with acts:=D.acts+1 } s f,0):=by
 have e:metD { D with acts:=D.acts+1 } = ({ D with acts:=D.acts+1 },0,[]):=by
  unfold metD
  exact if_pos h
 unfold actD
 rw [e]
 rfl
section
variable {w W W':World} {p q bo:Nat} {D E D':DV} {ob:Obj}
end
theorem seven_at {W:World} {q:Nat} {a b c d e f g:Value} {T:TypeId} (h:W.heap[q]? = some (.cells #[a,b,c,d,e,f,g] T (0,0))):W.cell? ⟨q,0,none⟩=some a∧W.cell? ⟨q,1,none⟩=some b∧W.cell? ⟨q,2,none⟩=some c∧W.cell? ⟨q,3,none⟩=some d∧W.cell? ⟨q,4,none⟩=some e∧W.cell? ⟨q,5,none⟩=some f∧W.cell? ⟨q,6,none⟩=some g :=
 ⟨by rw [cell_of_row W q 0 _ _ (0,0) h]; rfl,by rw [cell_of_row W q 1 _ _ (0,0) h]; rfl,by rw [cell_of_row W q 2 _ _ (0,0) h]; rfl,by rw [cell_of_row W q 3 _ _ (0,0) h]; rfl,by rw [cell_of_row W q 4 _ _ (0,0) h]; rfl,by rw [cell_of_row W q 5 _ _ (0,0) h]; rfl,by rw [cell_of_row W q 6 _ _ (0,0) h]; rfl⟩
def cB (ks:List Bool):List Value:=ks.map .bool
def OwnL (w:World) (B:Nat) (v:Value) (ks:List Bool):Prop:=w.ownsRow B 4 1 v ks.length (cB ks)
theorem Tryz.infoB:(Tryz.prog.info? 4).map (fun i=>(i.zero,i.size,i.bytes))=some (some (.bool false),1,1):=by kernel_rfl
theorem ownL_rd {w:World} {B:Nat} {v:Value} {ks:List Bool} (h:OwnL w B v ks) : ∃ ao b cap,v = .slice ao ks.length cap∧RdL w ao b 0 ks∧(0<ks.length→Ty w b 4∧B≤b):=by
 rcases h.2 with ⟨e1,e2⟩ | ⟨g,cap,cur,e1,e2,hb,h1,h2,h3,h4⟩
 ·refine ⟨none,0,0,by rw [e1,e2],⟨fun h0 => ?_,fun j hj => ?_⟩,fun h0 => ?_⟩ <;> omega
 ·refine ⟨some ⟨g,0,none⟩,g,cap,e1,⟨fun _=>rfl,fun j hj => ?_⟩,fun _=>⟨⟨_,_,hb⟩,e2⟩⟩
  rw [cell_of_row w g (0+j) cur _ (0,0) hb,Nat.zero_add]
  have:=congrArg (fun x=>x[j]?) h4
  simp only [List.getElem?_take,Nat.mul_one,if_pos hj] at this
  rw [Array.getElem?_toList] at this
  rw [this]
  simp [cB,List.getD_eq_getElem?_getD,hj]
set_option maxRecDepth 100000 in
set_option maxHeartbeats 1000000 in
theorem clone_any (w:World) (ao:Option Addr) (b o c:Nat) (ks:List Bool) (hk:RdL w ao b o ks) (hkl:ks.length≤140737488355328) :
  Calls Tryz.prog 46 #[.slice ao ks.length c] w fun e w' => ∃ v,e = .returned v∧OwnL w' w.heap.size v ks∧Below w.heap.size w w':=by
 obtain ⟨i0,hi,hz0,hz1,hz2⟩:=info_parts Tryz.infoB
 obtain ⟨n,hn⟩ : ∃ n,ks.length=n:=⟨_,rfl⟩
 cases ao with
 | none =>
  have h0:ks=[]:=by
   rcases Nat.eq_zero_or_pos ks.length with q | q
   ·exact List.length_eq_zero_iff.1 q
   ·have:=hk.ptr q; cases this
  subst h0
  simp only [List.length_nil] at hn ⊢
  subst hn
  have HE:=Lib.run_eql_slice_nil_nil (P:=Tryz.prog) w 0 c Tryz.underlying31
  clear hk hkl
  go_enter Tryz.func46,Tryz.ntmps46
  go_wp2
  go_ret
  exact ⟨_,rfl,⟨rfl,.inl ⟨rfl,rfl⟩⟩,Below.refl _ _⟩
 | some a =>
  have HH:Hid (RdL w (some a) b o ks∧ks.length=n∧n≤140737488355328):=⟨hk,hn,by omega⟩
  have hb:=bal (Below.refl w.heap.size w) (.cells #[] 4)
  have HO:Hid ((w.alloc (.cells #[] 4)).ownsRow w.heap.size 4 1 (.slice (some ⟨w.heap.size,0,none⟩) 0 0) 0 []):=⟨rfl,.inr ⟨w.heap.size,0,_,rfl,Nat.le_refl _,new1 w _,Nat.zero_le _,by decide,rfl,rfl⟩⟩
  have HR:=hide (hk.next hb)
  have HB:=hide hb
  have HE:=Lib.run_eql_slice_some_nil (P:=Tryz.prog) w a n c Tryz.underlying31
  rw [hn]
  clear hk hkl hn hb
  go_enter Tryz.func46,Tryz.ntmps46
  go_wp2_with (at_builtin; refine wpList_append_own _ rfl _ _ 31 rfl w.heap.size 4 i0 (.bool false) 1 1 Tryz.underlying31 hi hz0 hz1 hz2 rfl (by decide) _ 0 [] rfl HO.out _ n c (cB ks) rfl ?c0 ?c1 ?c2 ?c3 ?c4 ?c5 ?_)
  case c0=>rw [cB,List.length_map,HH.out.2.1,Nat.mul_one]
  case c1 =>
   intro j u hu
   have hj:j<ks.length:=by have:=(List.getElem?_eq_some_iff.1 hu).1; simpa [cB] using this
   have ep:=HR.out.ptr (by omega)
   injection ep with ep
   rw [ep,Addr.add_mid,HR.out.cell j hj]
   rw [← hu]
   simp [cB,List.getD_eq_getElem?_getD,hj]
  case c2 =>
   intro u hu
   obtain ⟨x,_,rfl⟩:=List.mem_map.1 hu
   rfl
  case c3=>have:=HH.out.2.2; unfold maxLen; omega
  case c4=>have:=HH.out.2.2; omega
  case c5=>have:=HB.out.size; exact this
  intro v' w' o' g' _
  have HY:Hid (OwnL w' w.heap.size v' ks∧Below w.heap.size w w'):=by
   refine ⟨?_,HB.out.trans ((Below.refl _ _).grown g' HB.out.size (fun k hk=>by cases hk; exact Nat.le_refl _))⟩
   unfold OwnL
   rw [HH.out.2.1]
   exact o'
  clear o' g'
  go_wp2
  go_ret
  exact ⟨_,rfl,HY.out.1,HY.out.2⟩
def layD (D:DV) (a k:Int) (ks:List Bool):DV:=if D.down then D else if 1≤a∧1≤k∧k≤5 then { D with fa:=a,fk:=k,ks:=ks } else { D with fa:=0,fk:=0,ks:=[] }
theorem Dk.fate {w W:World} {p m:Nat} {R:List UInt8→FR} {ka:Option Addr} {kb ko kc:Nat} {D:DV} (h:Dk w p m R ka kb ko kc D none) (hu:Upo (fun x=>x=p) w W) {a k:Int} {ks:List Bool} {ka':Option Addr} {kb' ko' kc':Nat}
  (hblk:W.heap[p]? = some (.cells #[.int .i64 (D.free:Int),.map (some m),.int .i64 (D.acts:Int),.int .i64 a,.int .i64 k,.slice ka' ks.length kc',.bool D.down] 98 (0,0)))
  (hk:RdL W ka' kb' ko' ks) (ht:0<ks.length→Ty W kb' 4) (hl:ks.length≤140737488355328) (hf:k=0∨(1≤k∧k≤5∧1≤a∧a≤9223372036854775807)):Dk W p m R ka' kb' ko' kc' { D with fa:=a,fk:=k,ks:=ks } none:=by
 have hm:=hu.block m h.mp.lt (fun e=>h.pm e.symm)
 have hx : ∀ x,Ty w x 5→W.heap[x]? = w.heap[x]? := fun x hx=>hu.block x hx.lt (h.other hx).1
 exact ⟨hblk,h.mp.same hm,h.ord,fun s hs he=>(h.fil s hs he).same fun x hx'=>hx x (h.low s hs x hx'),fun s hs x hx'=>(h.low s hs x hx').same (hx x (h.low s hs x hx')),h.apart,h.nm,h.cnt,hk,ht,hl,h.fr,h.ac,hf⟩
theorem set345 {W:World} {q:Nat} {x0 x1 x2 x3 x4 x5 x6:Value} {T:TypeId} (h:W.heap[q]? = some (.cells #[x0,x1,x2,x3,x4,x5,x6] T (0,0))) (a b c:Value) :
  (((W.setCell ⟨q,3,none⟩ a).setCell ⟨q,4,none⟩ b).setCell ⟨q,5,none⟩ c).heap[q]? = some (.cells #[x0,x1,x2,a,b,c,x6] T (0,0)):=by
 have h1:(W.setCell ⟨q,3,none⟩ a).heap[q]? = some (.cells #[x0,x1,x2,a,x4,x5,x6] T (0,0)):=heap_setCell_same W q 3 _ _ a h
 have h2:((W.setCell ⟨q,3,none⟩ a).setCell ⟨q,4,none⟩ b).heap[q]? = some (.cells #[x0,x1,x2,a,b,x5,x6] T (0,0)):=heap_setCell_same _ q 4 _ _ b h1
 exact heap_setCell_same _ q 5 _ _ c h2
theorem upo345 {W0 W:World} {q:Nat} (h:Upo (fun x=>x=q) W0 W) (a b c:Value):Upo (fun x=>x=q) W0 (((W.setCell ⟨q,3,none⟩ a).setCell ⟨q,4,none⟩ b).setCell ⟨q,5,none⟩ c) :=
 ((h.set _ _ _ (.inl rfl)).set _ _ _ (.inl rfl)).set _ _ _ (.inl rfl)
def LayLeft (w w':World) (p m:Nat) (R:List UInt8→FR) (kb:Nat) (D D':DV):Prop := ∃ ka' kb' ko' kc',Dk w' p m R ka' kb' ko' kc' D' none∧(∀ x,Foot p m R kb' D' x→Foot p m R kb D x∨w.heap.size≤x)∧Upo (fun x=>x=p) w w'
section
variable {p m:Nat} {R:List UInt8→FR} {ka:Option Addr} {kb ko kc:Nat} {D:DV}
set_option maxRecDepth 100000 in
set_option maxHeartbeats 2000000 in
theorem lay_any (w:World) (h:Dk w p m R ka kb ko kc D none) (a k:Int) (ha:a≤9223372036854775807) (ao:Option Addr) (b o c:Nat) (ks:List Bool) (hk:RdL w ao b o ks) (hkl:ks.length≤140737488355328) (hne:0<ks.length→b≠p) :
  Calls Tryz.prog 12 #[.pointer (some ⟨p,0,none⟩),.agg #[.int .i64 a,.int .i64 k,.slice ao ks.length c]] w fun e w'=>e = .returned (.tuple #[])∧LayLeft w w' p m R kb D (layD D a k ks):=by
 obtain ⟨n,hn⟩ : ∃ n,ks.length=n:=⟨_,rfl⟩
 obtain ⟨w1,hw1⟩ : ∃ W,w.alloc (.cells #[.int .i64 a,.int .i64 k,.slice ao n c] 37)=W:=⟨_,rfl⟩
 have HW1:=hide hw1
 have HNe:=hide hne
 clear hne
 have hb1:Below w.heap.size w w1:=by rw [← hw1]; exact bal (Below.refl _ _) _
 have bx:w1.heap[w.heap.size]? = some (.cells #[.int .i64 a,.int .i64 k,.slice ao n c] 37 (0,0)):=by rw [← hw1]; exact new1 _ _
 have h1:=h.next hb1
 have hlt:=h.lt (.inl rfl)
 obtain ⟨c0,c1,c2,c3,c4,c5,c6⟩:=h1.cells
 have fz:=h1.frz
 have HH:Hid (Dk w p m R ka kb ko kc D none∧Dk w1 p m R ka kb ko kc D none∧Below w.heap.size w w1∧RdL w ao b o ks∧ks.length=n∧n≤140737488355328∧p<w.heap.size∧w1.heap[w.heap.size]? = some (.cells #[.int .i64 a,.int .i64 k,.slice ao n c] 37 (0,0))):=⟨h,h1,hb1,hk,hn,by omega,hlt,bx⟩
 rw [hn]
 by_cases hd:D.down=true
 ·have HL:Hid (layD D a k ks=D):=if_pos hd
  rw [hd] at c6
  clear h hk hkl hn hw1 hb1 bx h1 hlt hd
  go_enter Tryz.func12,Tryz.ntmps12
  go_upto_region 1 with (fail)
  rw [HW1.out]
  go_wp2
  refine bodyPost_ret (v := .tuple #[]) (by simp [results,Tryz.results12,go_sem]) rfl ⟨rfl,?_⟩
  rw [HL.out]
  exact ⟨ka,kb,ko,kc,HH.out.2.1,fun x hx => .inl hx,Upo.of HH.out.2.2.1⟩
 have hd2:D.down=false:=by simpa using hd
 rw [hd2] at c6
 obtain ⟨w2,hw2⟩ : ∃ W,((w1.setCell ⟨p,3,none⟩ (.int .i64 0)).setCell ⟨p,4,none⟩ (.int .i64 0)).setCell ⟨p,5,none⟩ (.slice none 0 0)=W:=⟨_,rfl⟩
 have HW2:=hide hw2
 have u2:Upo (fun x=>x=p) w1 w2:=by rw [← hw2]; exact upo345 (Upo.refl _ _) _ _ _
 have j2:w2.heap[p]? = some (.cells #[.int .i64 (D.free:Int),.map (some m),.int .i64 (D.acts:Int),.int .i64 0,.int .i64 0,.slice none 0 0,.bool D.down] 98 (0,0)):=by rw [← hw2]; exact set345 h1.blk _ _ _
 have bx2:=(u2.block w.heap.size (Array.getElem?_eq_some_iff.1 bx).1 (by omega)).trans bx
 obtain ⟨b0,b1,b2⟩:=three_at bx2
 have HJ:Hid (Upo (fun x=>x=p) w1 w2∧w2.heap[p]? = some (.cells #[.int .i64 (D.free:Int),.map (some m),.int .i64 (D.acts:Int),.int .i64 0,.int .i64 0,.slice none 0 0,.bool D.down] 98 (0,0))∧D.down=false):=⟨u2,j2,hd2⟩
 clear h hk hkl hn hw1 hb1 bx h1 hlt hd hd2 hw2 u2 j2 bx2
 go_enter Tryz.func12,Tryz.ntmps12
 go_upto_region 1 with (fail)
 rw [HW1.out]
 go_upto_region 3 with (fail)
 rw [HW2.out]
 clear c0 c1 c2 c3 c4 c5 c6 fz HW1 HW2
 by_cases hf:1≤a∧1≤k∧k≤5
 ·obtain ⟨f1,f2,f3⟩:=hf
  have HL:Hid (layD D a k ks = { D with fa:=a,fk:=k,ks:=ks }):=by show _=_; unfold layD; rw [if_neg (by simp [HJ.out.2.2]),if_pos ⟨f1,f2,f3⟩]
  have HCl:Hid (Calls Tryz.prog 46 #[.slice ao n c] w2.drew fun e w' => ∃ v,e = .returned v∧OwnL w' w2.heap.size v ks∧Below w2.heap.size w2 w'):=by
   obtain ⟨g1,g2,g3,g4,g5,g6,g7,g8⟩:=HH.out
   have hne:=HNe.out
   have hr2:RdL w2 ao b o ks:=(g4.next g3).same fun h0=>HJ.out.1.block b ((g4.next g3).lt h0) (hne h0)
   have:=clone_any w2.drew ao b o c ks (hr2.same fun _=>rfl) (by omega)
   rw [g5] at this
   exact this.mono fun e w' z=>by obtain ⟨v,z1,z2,z3⟩:=z; exact ⟨v,z1,z2,⟨z3.os,z3.tape,z3.output,z3.size,z3.block⟩⟩
  have HF:Hid (∀ W,Below w2.heap.size w2 W→W.cell? ⟨p,3,none⟩=some (.int .i64 0)∧W.cell? ⟨p,4,none⟩=some (.int .i64 0)∧W.cell? ⟨p,5,none⟩=some (.slice none 0 0)∧(∀ j,W.frozen? ⟨p,j,none⟩=false)∧W.cell? ⟨w.heap.size,0,none⟩=some (.int .i64 a)∧W.cell? ⟨w.heap.size,1,none⟩=some (.int .i64 k)∧W.cell? ⟨w.heap.size,2,none⟩=some (.slice ao n c)):=fun W hW=>by
   obtain ⟨g1,g2,g3,g4,g5,g6,g7,g8⟩:=HH.out
   have jW:=(hW.block p (Array.getElem?_eq_some_iff.1 HJ.out.2.1).1).trans HJ.out.2.1
   have bW:=(HJ.out.1.block w.heap.size (Array.getElem?_eq_some_iff.1 g8).1 (by omega)).trans g8
   have bW2:=(hW.block _ (Array.getElem?_eq_some_iff.1 bW).1).trans bW
   obtain ⟨y0,y1,y2,y3,y4,y5,y6⟩:=seven_at jW
   obtain ⟨v0,v1,v2⟩:=three_at bW2
   exact ⟨y3,y4,y5,fun j=>frozen_of_row W p j _ _ jW,v0,v1,v2⟩
  obtain ⟨z3,z4,z5,zf,z0,z1,z2⟩:=HF.out w2 (Below.refl _ _)
  have HX:Hid (∀ W qa qb qc,Below w2.heap.size w2 W→RdL W qa qb 0 ks→(0<ks.length→Ty W qb 4∧w2.heap.size≤qb)→LayLeft w (((W.setCell ⟨p,3,none⟩ (.int .i64 a)).setCell ⟨p,4,none⟩ (.int .i64 k)).setCell ⟨p,5,none⟩ (.slice qa ks.length qc)) p m R kb D (layD D a k ks)):=fun W qa qb qc hW hr ht=>by
   obtain ⟨g1,g2,g3,g4,g5,g6,g7,g8⟩:=HH.out
   have jW:=(hW.block p (Array.getElem?_eq_some_iff.1 HJ.out.2.1).1).trans HJ.out.2.1
   have u1:Upo (fun x=>x=p) w1 (((W.setCell ⟨p,3,none⟩ (.int .i64 a)).setCell ⟨p,4,none⟩ (.int .i64 k)).setCell ⟨p,5,none⟩ (.slice qa ks.length qc)):=upo345 (HJ.out.1.next hW) _ _ _
   have uW:Upo (fun x=>x=p) W (((W.setCell ⟨p,3,none⟩ (.int .i64 a)).setCell ⟨p,4,none⟩ (.int .i64 k)).setCell ⟨p,5,none⟩ (.slice qa ks.length qc)):=upo345 (Upo.refl _ _) _ _ _
   have hp2:p<w2.heap.size:=(Array.getElem?_eq_some_iff.1 HJ.out.2.1).1
   have kq:0<ks.length→(((W.setCell ⟨p,3,none⟩ (.int .i64 a)).setCell ⟨p,4,none⟩ (.int .i64 k)).setCell ⟨p,5,none⟩ (.slice qa ks.length qc)).heap[qb]? = W.heap[qb]? := fun h0=>uW.block qb (hr.lt h0) (by have:=(ht h0).2; omega)
   rw [HL.out]
   refine ⟨qa,qb,0,qc,g2.fate u1 (set345 jW _ _ _) (hr.same kq) (fun h0=>(ht h0).1.same (kq h0)) (by omega) (.inr ⟨f2,f3,f1,ha⟩),fun x hx => ?_,(Upo.of g3).trans u1 (fun _ _ q=>q)⟩
   rcases hx with q | q | q | ⟨q,e⟩
   ·exact .inl (.inl q)
   ·exact .inl (.inr (.inl q))
   ·exact .inl (.inr (.inr (.inl q)))
   ·have h1:=(ht q).2
    have h2:=g3.size
    have h3:=HJ.out.1.size
    exact .inr (by omega)
  go_upto_region 4 with (fail)
  go_region_with (go_at_call 46; (with_reducible refine HCl.out.mono ?_); rintro e w3 ⟨v,rfl,ho,hb3⟩; obtain ⟨qa,qb,qc,rfl,hr3,ht3⟩:=ownL_rd ho; obtain ⟨y3,y4,y5,yf,y0,y1,y2⟩:=HF.out w3 hb3)
  all_goals
   go_end0
   exact ⟨rfl,HX.out w3 qa qb qc hb3 hr3 ht3⟩
 ·have HL:Hid (layD D a k ks = { D with fa:=0,fk:=0,ks:=[] }):=by show _=_; unfold layD; rw [if_neg (by simp [HJ.out.2.2]),if_neg hf]
  have HE:Hid (LayLeft w w2 p m R kb D (layD D a k ks)):=by
   obtain ⟨g1,g2,g3,g4,g5,g6,g7,g8⟩:=HH.out
   rw [HL.out]
   refine ⟨none,0,0,0,g2.fate HJ.out.1 HJ.out.2.1 (rdl_nil _ _ _ _) (fun h0=>by simp at h0) (Nat.zero_le _) (.inl rfl),fun x hx => ?_,(Upo.of g3).trans HJ.out.1 (fun _ _ q=>q)⟩
   rcases hx with q | q | q | ⟨q,_⟩
   ·exact .inl (.inl q)
   ·exact .inl (.inr (.inl q))
   ·exact .inl (.inr (.inr (.inl q)))
   ·simp at q
  clear HH HJ HL
  by_cases f1:a≥1
  ·by_cases f2:k≥1
   ·have f3 : ¬ (k≤5):=fun q=>hf ⟨f1,f2,q⟩
    clear hf
    go_wp2
    go_end0
    exact ⟨rfl,HE.out⟩
   ·clear hf
    go_wp2
    go_end0
    exact ⟨rfl,HE.out⟩
  ·clear hf
   go_wp2
   go_end0
   exact ⟨rfl,HE.out⟩
end
theorem Dsk.lay {w:World} {p:Nat} {S:Nat→Prop} {D:DV} (h:Dsk w p S D) (a k:Int) (ha:a≤9223372036854775807) (ao:Option Addr) (b o c:Nat) (ks:List Bool) (hk:RdL w ao b o ks) (hkl:ks.length≤140737488355328) (hne:0<ks.length → ¬ S b) :
  Calls Tryz.prog 12 #[.pointer (some ⟨p,0,none⟩),.agg #[.int .i64 a,.int .i64 k,.slice ao ks.length c]] w fun e w'=>e = .returned (.tuple #[])∧Mvd w w' p S (layD D a k ks):=by
 obtain ⟨m,R,ka,kb,ko,kc,h1,h2⟩:=h
 refine (lay_any w h1 a k ha ao b o c ks hk hkl (fun h0 e=>hne h0 ((h2 b).1 (.inl e)))).mono fun e w' z=>⟨z.1,?_⟩
 obtain ⟨ka',kb',ko',kc',q1,q2,q3⟩:=z.2
 exact ⟨Foot p m R kb' (layD D a k ks),⟨m,R,ka',kb',ko',kc',q1,fun _=>Iff.rfl⟩,fun x hx=>(q2 x hx).imp (h2 x).1 id,q3.mono (fun x _ q=>(h2 x).1 (.inl q))⟩
def allS (l:List (List UInt8×List UInt8)):List (List UInt8×FV):=l.map fun x=>(x.1,⟨x.2,x.2⟩)
theorem fput_last (s:List UInt8) (f:FV) (hf:f.gone=false) : ∀ L:List (List UInt8×FV),(∀ p∈L,p.1<s)→fput L s f=L++[(s,f)]
 | [],_=>by rw [fput,if_neg (by simp [hf])]; rfl
 | (t,g)::r,h=>by
  have h1:t<s:=h (t,g) (by simp)
  have ne : ¬ t=s:=fun e=>by rw [e] at h1; exact List.lt_irrefl _ h1
  have nl : ¬ s<t:=fun e=>List.lt_irrefl _ (List.lt_trans h1 e)
  rw [fput,if_neg ne,if_neg nl,fput_last s f hf r (fun p hp=>h p (List.mem_cons_of_mem _ hp))]
  rfl
theorem rev_ind {α:Type} {P:List α→Prop} (h0:P []) (hs : ∀ l x,P l→P (l++[x])) (l:List α):P l:=by
 rw [← List.reverse_reverse l]
 induction l.reverse with
 | nil=>exact h0
 | cons x r ih=>rw [List.reverse_cons]; exact hs _ _ ih
def Sor (l:List (List UInt8×List UInt8)):Prop:=l.Pairwise (fun a b=>a.1<b.1) ∧ ∀ x∈l,x.2≠[]
theorem lay_sor (l:List (List UInt8×List UInt8)):Sor l→layL l=allS l:=by
 induction l using rev_ind with
 | h0=>intro _; rfl
 | hs l x ih =>
  intro h
  obtain ⟨h1,h2⟩:=h
  have h3:=List.pairwise_append.1 h1
  have ih':=ih ⟨h3.1,fun y hy=>h2 y (by simp [hy])⟩
  have hx:=h2 x (by simp)
  rw [layL_snoc,if_neg hx,ih',fput_last]
  ·simp [allS]
  ·cases hg:(⟨x.2,x.2⟩:FV).gone
   ·rfl
   ·exact absurd (congrArg FV.now (gone_iff.1 hg)) hx
  ·intro p hp
   obtain ⟨y,hy,rfl⟩:=List.mem_map.1 hp
   exact h3.2.2 y hy x (by simp)
theorem aft_sor (ks:List Bool) : ∀ (L:List (List UInt8×FV)) (i:Nat),L.Pairwise (fun a b=>a.1<b.1)→Sor (aft ks L i)
 | [],_,_=>⟨.nil,by simp [aft]⟩
 | (s,f)::r,i,h=>by
  obtain ⟨h1,h2⟩:=List.pairwise_cons.1 h
  have ih:=aft_sor ks r (stay ks f i).2 h2
  simp only [aft]
  split
  ·exact ih
  ·rename_i hn
   refine ⟨List.pairwise_cons.2 ⟨fun y hy => ?_,ih.1⟩,fun y hy => ?_⟩
   ·obtain ⟨g,j,hg,_⟩:=aft_mem hy
    exact h1 _ hg
   ·rcases List.mem_cons.1 hy with rfl | hy
    ·exact hn
    ·exact ih.2 y hy
theorem stay_sync (ks:List Bool) (x:List UInt8) (i:Nat):(stay ks ⟨x,x⟩ i).1=x:=by
 have hs:slen ks ⟨x,x⟩ i=(x.length,i):=by unfold slen; rw [if_pos rfl]
 have hg : ∀ n,(sgo ks ⟨x,x⟩ i n).1=(List.range (64 * n)).map fun j=>x.getD j 0:=by
  intro n
  induction n with
  | zero=>rfl
  | succ n ih =>
   simp only [sgo,if_true]
   rw [ih,show 64 * (n+1)=64 * n+64 by omega,List.range_add,List.map_append,List.map_map]
   rfl
 simp only [stay,hs]
 rw [hg]
 apply List.ext_getElem?
 intro j
 by_cases hj:j<x.length
 ·have h1:j<64 * nsec ⟨x,x⟩:=by unfold nsec; simp only; omega
  rw [List.getElem?_take,if_pos hj,List.getElem?_map,List.getElem?_range h1]
  simp [List.getD_eq_getElem?_getD,hj]
 ·rw [List.getElem?_take,if_neg hj,List.getElem?_eq_none (by omega)]
section
variable {D E:DV} {at_ k j:Nat} {ks:List Bool}
end
section
variable {D:DV} {l:List (List UInt8×List UInt8)} {n:Nat}
end
end Go.Proofs.YtoblgjledefdbaaGreatDoor.St
