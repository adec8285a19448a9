/- Own work. -/
import Derived.Test.YtoblgjledefdbaaGreatDoorQf19
namespace Go.Proofs.YtoblgjledefdbaaGreatDoor.St.Rc
open Go.RowKit
attribute [local go_sem ↓] Go.wp_at_zero Go.wp_at_succ
theorem bytes_of (W:World) (t:ByteArray) (n:Nat) (hn:t.size=n) : ∃ cap W',(convert 9 127 (.string t)).run Tryz.prog W = .ok (.slice (some ⟨W.heap.size,0,none⟩) n cap) W'∧n≤cap∧Byt W' W.heap.size t.data.toList∧Below W.heap.size W W'∧W.heap.size<W'.heap.size:=by
 subst hn
 refine ⟨_,_,run_bytes_of_string (P:=Tryz.prog) W 9 127 5 t Tryz.underlying9 Tryz.underlying127 Tryz.underlying5,?_,?_,?_,?_⟩
 ·have:=grownCap_ge W t.size 0 5
  exact this
 ·exact byt_new W.drew t _ _
 ·exact (below_drewN (Below.refl _ _) 1:Below W.heap.size W W.drew).alloc (Nat.le_refl _) _
 ·simp
theorem bdrew {B:Nat} {w W:World} (h:Below B w W):Below B w W.drew:=⟨h.os,h.tape,h.output,h.size,h.block⟩
theorem toList_loop (bs:ByteArray) : ∀ (n i:Nat) (r:List UInt8),bs.size - i=n→ByteArray.toList.loop bs i r=r.reverse++bs.data.toList.drop i:=by
 intro n
 induction n with
 | zero =>
  intro i r h
  rw [ByteArray.toList.loop,if_neg (by omega)]
  rw [List.drop_eq_nil_of_le (by simp; exact (by omega:bs.size≤i)),List.append_nil]
 | succ n ih =>
  intro i r h
  have hi:i<bs.size:=by omega
  rw [ByteArray.toList.loop,if_pos hi,ih (i+1) _ (by omega)]
  have hl:i<bs.data.toList.length:=by simp; exact hi
  rw [List.drop_eq_getElem_cons hl,List.reverse_cons,List.append_assoc]
  have:bs.get! i=bs.data.toList[i]:=by
   show bs.data[i]! = _
   have hi2:i<bs.data.size:=hi
   rw [getElem!_pos bs.data i hi2]
   simp
  rw [this]; rfl
theorem toList_eq (bs:ByteArray):bs.toList=bs.data.toList:=by
 rw [ByteArray.toList,toList_loop bs bs.size 0 [] rfl]; rfl
theorem beq_ne {x y:ByteArray} (h:x≠y):(x.toList == y.toList)=false:=by
 rw [toList_eq,toList_eq]
 simp only [beq_eq_false_iff_ne,ne_eq]
 intro e
 exact h (ByteArray.ext (Array.toList_inj.1 e))
theorem beq_yes {x y:ByteArray} (h:x=y):(x.toList == y.toList)=true:=by
 rw [h]; simp
def rpT (s:List UInt8):ByteArray×Nat×Int:=match rpay s with
 | some x=>(⟨x.toArray⟩,x.length+8,0)
 | none=>(⟨#[]⟩,0,180)
theorem rpT_no {s:List UInt8} (h:rpay s=none):rpT s=(⟨#[]⟩,0,180):=by rw [rpT,h]
theorem rpT_yes {s x:List UInt8} (h:rpay s=some x):rpT s=(⟨x.toArray⟩,x.length+8,0):=by rw [rpT,h]
set_option maxRecDepth 100000 in
set_option maxHeartbeats 1000000 in
theorem rpayload_any (w:World) (s:ByteArray) (hs:s.size≤9223372036854775807) (rt:ByteArray) (rn:Nat) (re:Int) (h:rpT s.data.toList=(rt,rn,re)) :
  Calls Tryz.prog 231 #[.string s] w fun e w'=>e = .returned (.tuple #[.string rt,.int .i64 (rn:Int),.int .i64 re])∧Below w.heap.size w w':=by
 by_cases h4:s.size<4
 ·have z1:(s.size:Int)<4:=by omega
  rw [rpT_no (if_neg (by rw [size_list]; omega))] at h
  obtain ⟨rfl,rfl,rfl⟩:(⟨#[]⟩:ByteArray)=rt∧0=rn∧180=re:=by simpa using h
  go_enter Tryz.func231,Tryz.ntmps231
  go_wp2
  exact bodyPost_ret (v := .tuple #[.string ⟨#[]⟩,.int .i64 0,.int .i64 180]) (by simp [results,Tryz.results231,go_sem]) rfl ⟨rfl,Below.refl _ _⟩
 have z1 : ¬ (s.size:Int)<4:=by omega
 have z2:(4:Int)≤(s.size:Int):=by omega
 obtain ⟨x4,hx4⟩ : ∃ x,s.extract 0 4=x:=⟨_,rfl⟩
 have hx4l:x4.data.toList=s.data.toList.take 4:=by rw [← hx4,ext_take]
 have hx4s:x4.size=4:=by rw [← size_list,hx4l,List.length_take,size_list]; omega
 obtain ⟨c4,w1,kb,_,hy4,hb1,_⟩:=bytes_of w x4 4 hx4s
 rw [hx4l] at hy4
 obtain ⟨n,hn⟩ : ∃ n,num (s.data.toList.take 4)=n:=⟨_,rfl⟩
 have hn4:n<4294967296:=by rw [← hn]; exact num_le _ 4 (by simp; omega)
 have HN:=number_any w1 w.heap.size 0 4 c4 _ hy4 (by simp; omega) (by decide) n (by rw [List.drop_zero,List.take_of_length_le (by simp; omega)]; exact hn)
 have z3:(s.size:Int)≤9223372036854775807:=by omega
 have hws:IntKind.u64.wrap (s.size:Int)=(s.size:Int):=by rw [IntKind.wrap_u64]; omega
 have hw1:IntKind.u64.wrap (4+(n:Int))=4+(n:Int):=by rw [IntKind.wrap_u64]; omega
 have hw2:IntKind.u64.wrap (4+(n:Int)+4)=4+(n:Int)+4:=by rw [IntKind.wrap_u64]; omega
 by_cases hbig:n≤1048576∧n+8≤s.size
 ·obtain ⟨g1,g2⟩:=hbig
  have y1 : ¬ (n:Int) > 1048576:=by omega
  have y2 : ¬ (s.size:Int)<4+(n:Int)+4:=by omega
  have y3:IntKind.i64.wrap (n:Int)=(n:Int):=by rw [IntKind.wrap_i64]; omega
  obtain ⟨N,hN⟩ : ∃ N,n+8=N:=⟨_,rfl⟩
  have y4:(4:Int)+(n:Int)+4=(N:Int):=by omega
  have y5:(0:Int)≤(N:Int):=by omega
  have y6:(N:Int)≤(s.size:Int):=by omega
  have y7:(n:Int)≤1048576:=by omega
  obtain ⟨x8,hx8⟩ : ∃ x,s.extract 0 N=x:=⟨_,rfl⟩
  have hx8l:x8.data.toList=s.data.toList.take N:=by rw [← hx8,ext_take]
  have hx8s:x8.size=N:=by rw [← size_list,hx8l,List.length_take,size_list]; omega
  obtain ⟨c8,w2,kb2,hc8,hy8,hb2,hlt8⟩:=bytes_of w1 x8 N hx8s
  rw [hx8l] at hy8
  obtain ⟨o,ho⟩ : ∃ o,(if N - 4=4 then 0 else 4)=o:=⟨_,rfl⟩
  have HPP:Hid (Calls Tryz.prog 263 #[.slice (some ⟨w1.heap.size,0,none⟩) N c8] w2 fun e w'=>e = .returned (.tuple #[.slice (some ⟨w1.heap.size,0,none⟩) 4 4,.slice (some ⟨w1.heap.size,o,none⟩) n n])∧Below w2.heap.size w2 w') :=
   pparts_any w2 w1.heap.size N c8 (by omega) hc8 (by omega) o ho n (by omega)
  obtain ⟨t8,ht8⟩ : ∃ t:ByteArray,(⟨(sld (s.data.toList.take (n+4))).toArray⟩:ByteArray)=t:=⟨_,rfl⟩
  have htt:(s.data.toList.take N).take (N - 4)=s.data.toList.take (n+4):=by rw [List.take_take]; congr 1; omega
  have HPC:Hid (pay ((s.data.toList.drop 4).take n)=sld (s.data.toList.take (n+4))):=pay_cut s.data.toList n (by rw [size_list]; omega) hn (by rw [size_list]; omega)
  obtain ⟨v,hv⟩ : ∃ v:ByteArray,(⟨(((sld (s.data.toList.take (n+4))).drop 4).take n).toArray⟩:ByteArray)=v:=⟨_,rfl⟩
  have HV:Hid ((⟨((s.data.toList.drop 4).take n).toArray⟩:ByteArray)=v):=by
   show _=_
   rw [← hv]
   congr 2
   rw [sld,List.drop_append_of_le_length (by simp; omega),List.take_append_of_le_length (by simp; omega),List.drop_take,List.take_take,Nat.min_eq_left (by omega)]
  have HSE:Hid (∀ W,Below w2.heap.size w2 W→Calls Tryz.prog 265 #[.slice (some ⟨w1.heap.size,0,none⟩) N c8] W fun e w'=>e = .returned (.string t8)∧(convert 127 9 (.slice (some ⟨w1.heap.size,o,none⟩) n n)).run Tryz.prog w' = .ok (.string v) w'∧Below w.heap.size w w'):=fun W hb=>by
   have hy:=hy8.next hb hlt8
   refine (sealed_any W w1.heap.size N c8 _ hy (by simp; omega) (by omega) hc8 (by omega) t8 (by rw [htt]; exact ht8)).mono ?_
   rintro e w' ⟨rfl,hz,hup⟩
   rw [htt] at hz
   refine ⟨rfl,hz.conv (k:=4) (n:=n) (by rw [sld_len]; simp; omega) o (fun h0=>by rw [← ho,if_neg (by omega)]) n v hv,hup.since (bnext hb1 (bnext hb2 hb)) hb1.size⟩
  have HRP:Hid ((⟨(s.data.toList.take N).toArray⟩:ByteArray)=x8):=by show _=_; rw [← hx8l]
  by_cases heq:t8=x8
  ·have hbq:=beq_yes heq
   have hre:rpay s.data.toList=some ((s.data.toList.drop 4).take n):=by
    unfold rpay
    rw [hn]
    refine if_pos ⟨by rw [size_list]; omega,g1,by rw [size_list]; exact g2,?_⟩
    rw [HPC.out,hN]
    have:=congrArg (fun z:ByteArray=>z.data.toList) (ht8.trans (heq.trans HRP.out.symm))
    simpa using this
   rw [rpT_yes hre] at h
   have hlen:((s.data.toList.drop 4).take n).length=n:=by simp; omega
   rw [hlen,HV.out,hN] at h
   obtain ⟨rfl,rfl,rfl⟩:v=rt∧N=rn∧0=re:=by simpa using h
   clear hy4 hx4s hx4l h hn hx8l hx8s ho ht8 htt hv heq hre hlen hy8 hN
   go_enter Tryz.func231,Tryz.ntmps231
   go_upto_region 9 with (first
    | (go_at_call 321; with_reducible refine HN.mono ?_; rintro e w3 ⟨rfl,rfl⟩)
    | (go_at_call 263; with_reducible refine HPP.out.mono ?_; rintro e w4 ⟨rfl,hb4⟩))
   go_region_with (go_at_call 265; with_reducible refine (HSE.out _ (bdrew hb4)).mono ?_; rintro e w5 ⟨rfl,kc,hb5⟩)
   go_wp2
   exact bodyPost_ret (v := .tuple #[.string v,.int .i64 (N:Int),.int .i64 0]) (by simp [results,Tryz.results231,go_sem]) rfl ⟨rfl,hb5⟩
  ·have hbq:=beq_ne heq
   have hno:rpay s.data.toList=none:=by
    unfold rpay
    rw [hn]
    refine if_neg fun q=>heq ?_
    have q4:=q.2.2.2
    rw [HPC.out,hN] at q4
    rw [← ht8,q4,HRP.out]
   rw [rpT_no hno] at h
   obtain ⟨rfl,rfl,rfl⟩:(⟨#[]⟩:ByteArray)=rt∧0=rn∧180=re:=by simpa using h
   clear hy4 hx4s hx4l h hn hx8l hx8s ho ht8 htt hv heq hno hy8 hN
   go_enter Tryz.func231,Tryz.ntmps231
   go_upto_region 9 with (first
    | (go_at_call 321; with_reducible refine HN.mono ?_; rintro e w3 ⟨rfl,rfl⟩)
    | (go_at_call 263; with_reducible refine HPP.out.mono ?_; rintro e w4 ⟨rfl,hb4⟩))
   go_region_with (go_at_call 265; with_reducible refine (HSE.out _ (bdrew hb4)).mono ?_; rintro e w5 ⟨rfl,kc,hb5⟩)
   go_wp2
   exact bodyPost_ret (v := .tuple #[.string ⟨#[]⟩,.int .i64 0,.int .i64 180]) (by simp [results,Tryz.results231,go_sem]) rfl ⟨rfl,hb5⟩
 ·have hno:rpay s.data.toList=none:=by
   unfold rpay
   rw [hn,size_list]
   exact if_neg (fun q=>hbig ⟨q.2.1,q.2.2.1⟩)
  rw [rpT_no hno] at h
  obtain ⟨rfl,rfl,rfl⟩:(⟨#[]⟩:ByteArray)=rt∧0=rn∧180=re:=by simpa using h
  by_cases hb2:n≤1048576
  ·have g1 : ¬ (n:Int) > 1048576:=by omega
   have g2:(s.size:Int)<4+(n:Int)+4:=by omega
   clear hy4 hx4s hx4l hbig h hn hno
   go_enter Tryz.func231,Tryz.ntmps231
   go_wp2_with (go_at_call 321; with_reducible refine HN.mono ?_; rintro e w2 ⟨rfl,rfl⟩)
   exact bodyPost_ret (v := .tuple #[.string ⟨#[]⟩,.int .i64 0,.int .i64 180]) (by simp [results,Tryz.results231,go_sem]) rfl ⟨rfl,hb1⟩
  ·have g1:(n:Int) > 1048576:=by omega
   clear hy4 hx4s hx4l hbig h hn hno
   go_enter Tryz.func231,Tryz.ntmps231
   go_wp2_with (go_at_call 321; with_reducible refine HN.mono ?_; rintro e w2 ⟨rfl,rfl⟩)
   exact bodyPost_ret (v := .tuple #[.string ⟨#[]⟩,.int .i64 0,.int .i64 180]) (by simp [results,Tryz.results231,go_sem]) rfl ⟨rfl,hb1⟩
def rnT (k:Int) (p:Nat) (s:List UInt8):ByteArray×Int:=if 1≤k∧k≤32 then (match rnod k.toNat p s with
 | some x=>(⟨x.toArray⟩,0)
 | none=>(⟨#[]⟩,180)) else (⟨#[]⟩,70)
theorem rnT_off {k:Int} {p:Nat} {s:List UInt8} (h : ¬ (1≤k∧k≤32)):rnT k p s=(⟨#[]⟩,70):=if_neg h
theorem rnT_no {k:Int} {p:Nat} {s:List UInt8} (hk:1≤k∧k≤32) (h:rnod k.toNat p s=none):rnT k p s=(⟨#[]⟩,180):=by rw [rnT,if_pos hk,h]
theorem rnT_yes {k:Int} {p:Nat} {s x:List UInt8} (hk:1≤k∧k≤32) (h:rnod k.toNat p s=some x):rnT k p s=(⟨x.toArray⟩,0):=by rw [rnT,if_pos hk,h]
set_option maxRecDepth 100000 in
set_option maxHeartbeats 1000000 in
theorem rnode_any (w:World) (k:Int) (p:Nat) (hp:p<18446744073709551616) (s:ByteArray) (rt:ByteArray) (re:Int) (h:rnT k p s.data.toList=(rt,re)) :
  Calls Tryz.prog 252 #[.int .i64 k,.int .u64 (p:Int),.string s] w fun e w'=>e = .returned (.tuple #[.string rt,.int .i64 re])∧Below w.heap.size w w':=by
 have HS:=fun W=>strength_any W k
 by_cases hk:1≤k∧k≤32
 ·rw [decide_eq_true hk] at HS
  by_cases h40:s.size=40
  ·have z1:((s.size:Int) == 40)=true:=by simp; omega
   obtain ⟨n,rfl⟩ : ∃ n:Nat,k=(n:Int):=⟨k.toNat,by omega⟩
   obtain ⟨c0,w1,kb,hc0,hy,hb1,hlt⟩:=bytes_of w s 40 h40
   have HPP:Hid (Calls Tryz.prog 333 #[.slice (some ⟨w.heap.size,0,none⟩) 40 c0] w1 fun e w'=>e = .returned (.tuple #[.slice (some ⟨w.heap.size,0,none⟩) 32 32,.slice (some ⟨w.heap.size,32,none⟩) 4 4])∧Below w1.heap.size w1 w'):=nparts_any w1 w.heap.size 40 c0 (by omega)
   have y1:(0:Int)≤(n:Int):=by omega
   have y2:(n:Int)≤32:=by omega
   obtain ⟨d,hd⟩ : ∃ d:ByteArray,(⟨(s.data.toList.take n).toArray⟩:ByteArray)=d:=⟨_,rfl⟩
   have hdl:d.data.toList=s.data.toList.take n:=by rw [← hd]
   have hds:d.size=n:=by rw [← size_list,hdl,List.length_take,size_list]; omega
   have HC:Hid (∀ W,Below w1.heap.size w1 W→(convert 127 9 (.slice (some ⟨w.heap.size,0,none⟩) n n)).run Tryz.prog W = .ok (.string d) W):=fun W hb =>
    (hy.next hb hlt).conv (k:=0) (n:=n) (by rw [size_list]; omega) 0 (fun _=>rfl) n d (by rw [List.drop_zero]; exact hd)
   obtain ⟨t,ht⟩ : ∃ t:ByteArray,(⟨(nodS p d.data.toList).toArray⟩:ByteArray)=t:=⟨_,rfl⟩
   have HND:Hid (∀ W,Calls Tryz.prog 266 #[.int .u64 (p:Int),.string d] W fun e w'=>e = .returned (.string t)∧Below W.heap.size W w'):=fun W=>node_any W p hp d (by omega) t ht
   have htt:t.data.toList=nod p (s.data.toList.take n):=by
    rw [← ht,nodS,if_pos (by rw [hdl,List.length_take]; omega),hdl]
   by_cases heq:t=s
   ·have hbq:=beq_yes heq
    rw [rnT_yes hk (x:=s.data.toList.take n) (if_pos ⟨by rw [size_list]; exact h40,by rw [Int.toNat_natCast,← htt,heq]⟩),hd] at h
    obtain ⟨rfl,rfl⟩:d=rt∧0=re:=by simpa using h
    clear hd hdl hds ht htt heq h hy
    go_enter Tryz.func252,Tryz.ntmps252
    go_wp2_with (first
     | (go_at_call 272; with_reducible refine (HS _).mono ?_; rintro e w2 ⟨rfl,rfl⟩)
     | (go_at_call 333; with_reducible refine HPP.out.mono ?_; rintro e w3 ⟨rfl,hb3⟩; have kc:=HC.out _ hb3)
     | (go_at_call 266; with_reducible refine (HND.out _).mono ?_; rintro e w4 ⟨rfl,hb4⟩))
    exact bodyPost_ret (v := .tuple #[.string d,.int .i64 0]) (by simp [results,Tryz.results252,go_sem]) rfl ⟨rfl,bnext hb1 (bnext hb3 hb4)⟩
   ·have hbq:=beq_ne heq
    rw [rnT_no hk (if_neg fun q=>heq (ba_ext (by rw [htt]; have:=q.2; rw [Int.toNat_natCast] at this; exact this)))] at h
    obtain ⟨rfl,rfl⟩:(⟨#[]⟩:ByteArray)=rt∧180=re:=by simpa using h
    clear hd hdl hds ht htt heq h hy
    go_enter Tryz.func252,Tryz.ntmps252
    go_wp2_with (first
     | (go_at_call 272; with_reducible refine (HS _).mono ?_; rintro e w2 ⟨rfl,rfl⟩)
     | (go_at_call 333; with_reducible refine HPP.out.mono ?_; rintro e w3 ⟨rfl,hb3⟩; have kc:=HC.out _ hb3)
     | (go_at_call 266; with_reducible refine (HND.out _).mono ?_; rintro e w4 ⟨rfl,hb4⟩))
    exact bodyPost_ret (v := .tuple #[.string ⟨#[]⟩,.int .i64 180]) (by simp [results,Tryz.results252,go_sem]) rfl ⟨rfl,bnext hb1 (bnext hb3 hb4)⟩
  ·have z1:((s.size:Int) == 40)=false:=by simp; omega
   rw [rnT_no hk (if_neg fun q=>h40 (by rw [← size_list]; exact q.1))] at h
   obtain ⟨rfl,rfl⟩:(⟨#[]⟩:ByteArray)=rt∧180=re:=by simpa using h
   clear h
   go_enter Tryz.func252,Tryz.ntmps252
   go_wp2_with (go_at_call 272; with_reducible refine (HS _).mono ?_; rintro e w2 ⟨rfl,rfl⟩)
   exact bodyPost_ret (v := .tuple #[.string ⟨#[]⟩,.int .i64 180]) (by simp [results,Tryz.results252,go_sem]) rfl ⟨rfl,Below.refl _ _⟩
 ·rw [decide_eq_false hk] at HS
  rw [rnT_off hk] at h
  obtain ⟨rfl,rfl⟩:(⟨#[]⟩:ByteArray)=rt∧70=re:=by simpa using h
  clear h
  go_enter Tryz.func252,Tryz.ntmps252
  go_wp2_with (go_at_call 272; with_reducible refine (HS _).mono ?_; rintro e w2 ⟨rfl,rfl⟩)
  exact bodyPost_ret (v := .tuple #[.string ⟨#[]⟩,.int .i64 70]) (by simp [results,Tryz.results252,go_sem]) rfl ⟨rfl,Below.refl _ _⟩
end Go.Proofs.YtoblgjledefdbaaGreatDoor.St.Rc
namespace Go.Proofs.YtoblgjledefdbaaGreatDoor.St
open Go.RowKit
open Rc
attribute [local go_sem ↓] Go.wp_at_zero Go.wp_at_succ
theorem wrap_u (x:Int) (h0:0≤x) (h1:x<18446744073709551616):IntKind.u64.wrap x=x:=by
 show x % 18446744073709551616=x
 omega
section
variable {q p:Nat} {T:Nat→Prop} {D:DV} {S:SV}
theorem fsize_any (w:World) (h:Sk w q p T D S):Calls Tryz.prog 74 #[.pointer (some ⟨q,0,none⟩)] w fun e w'=>e = .returned (.int .u64 (S.ends.length:Int))∧w'=w:=by
 obtain ⟨ao,cap,⟨c0,c1,c2,c3,c4⟩,_⟩:=h.cells
 obtain ⟨_,_,hf,_⟩:=h.small
 have hw:IntKind.u64.wrap (S.ends.length:Int)=(S.ends.length:Int):=wrap_u _ (by omega) (by omega)
 generalize S.ends.length=n at *
 clear h
 go_enter Tryz.func74,Tryz.ntmps74
 go_wp2
 go_ret
 exact ⟨rfl,rfl⟩
theorem endof_any (w:World) (h:Sk w q p T D S) (n:Nat) (hn:n≤S.ends.length):Calls Tryz.prog 142 #[.pointer (some ⟨q,0,none⟩),.int .i64 (n:Int)] w fun e w'=>e = .returned (.int .i64 (endE S.ends n:Int))∧w'=w:=by
 obtain ⟨ao,cap,⟨c0,c1,c2,c3,c4⟩,hc⟩:=h.cells
 obtain ⟨_,_,hf,_⟩:=h.small
 clear h
 cases n with
 | zero =>
  go_enter Tryz.func142,Tryz.ntmps142
  go_wp2
  go_ret
  exact ⟨rfl,rfl⟩
 | succ n =>
  obtain ⟨g,rfl,hg⟩:=hc n (by omega)
  have e1:endE S.ends (n+1)=S.ends.getD n 0:=rfl
  rw [e1]
  have hz : ¬ ((n:Int)+1=0):=by omega
  have hm:IntKind.i64.wrap ((n:Int)+1 - 1)=(n:Int):=by rw [IntKind.wrap_i64]; omega
  generalize S.ends.getD n 0=x at *
  generalize S.ends.length=m at *
  clear hc e1
  go_enter Tryz.func142,Tryz.ntmps142
  go_wp2
  go_ret
  exact ⟨rfl,rfl⟩
theorem nodesof_any (w:World) (n:Nat) (hn:n≤65537):Calls Tryz.prog 245 #[.int .i64 (n:Int)] w fun e w'=>e = .returned (.int .u64 (nn n:Int))∧w'=w:=by
 have HC:=hide (Pl.nodes_yes n w (by omega))
 have hw:IntKind.u64.wrap (n:Int)=(n:Int):=wrap_u _ (by omega) (by omega)
 go_enter Tryz.func245,Tryz.ntmps245
 go_wp2_with (go_at_call 328; refine HC.out.mono ?_; rintro e w1 ⟨rfl,rfl⟩)
 go_ret
 exact ⟨rfl,rfl⟩
theorem nn_le (n:Nat):nn n≤2 * n:=by unfold nn Pl.N; omega
theorem length_items (w:World) (h:Sk w q p T D S):Calls Tryz.prog 155 #[.pointer (some ⟨q,0,none⟩),.string ⟨#[105,116,101,109,115]⟩] w fun e w'=>e = .returned (.int .i64 (lst S.ends:Int))∧w'=w:=by
 obtain ⟨ao,cap,⟨c0,c1,c2,c3,c4⟩,hc⟩:=h.cells
 have HE:=hide (endof_any w h S.ends.length (Nat.le_refl _))
 rw [endE_all] at HE
 generalize S.ends.length=n at *
 clear h hc
 go_enter Tryz.func155,Tryz.ntmps155
 go_wp2_with (go_at_call 142; refine HE.out.mono ?_; rintro e w1 ⟨rfl,rfl⟩)
 go_ret
 exact ⟨rfl,rfl⟩
theorem length_nodes (w:World) (h:Sk w q p T D S):Calls Tryz.prog 155 #[.pointer (some ⟨q,0,none⟩),.string ⟨#[110,111,100,101,115]⟩] w fun e w'=>e = .returned (.int .i64 ((nn S.ends.length * 40:Nat):Int))∧w'=w:=by
 obtain ⟨ao,cap,⟨c0,c1,c2,c3,c4⟩,hc⟩:=h.cells
 obtain ⟨_,_,hf,_⟩:=h.small
 have HN:=hide (nodesof_any w S.ends.length (by omega))
 have hb:=nn_le S.ends.length
 generalize S.ends.length=n at *
 generalize nn n=m at *
 have h1:IntKind.i64.wrap (m:Int)=(m:Int):=by rw [IntKind.wrap_i64]; omega
 have h2:IntKind.i64.wrap ((m:Int) * 40)=((m * 40:Nat):Int):=by rw [IntKind.wrap_i64]; omega
 clear h hc
 go_enter Tryz.func155,Tryz.ntmps155
 go_wp2_with (go_at_call 245; refine HN.out.mono ?_; rintro e w1 ⟨rfl,rfl⟩)
 go_ret
 exact ⟨rfl,rfl⟩
theorem length_marks (w:World) (h:Sk w q p T D S):Calls Tryz.prog 155 #[.pointer (some ⟨q,0,none⟩),.string ⟨#[109,97,114,107,115]⟩] w fun e w'=>e = .returned (.int .i64 ((S.ends.length * 64:Nat):Int))∧w'=w:=by
 obtain ⟨ao,cap,⟨c0,c1,c2,c3,c4⟩,hc⟩:=h.cells
 obtain ⟨_,_,hf,_⟩:=h.small
 generalize S.ends.length=m at *
 have h2:IntKind.i64.wrap ((m:Int) * 64)=((m * 64:Nat):Int):=by rw [IntKind.wrap_i64]; omega
 clear h hc
 go_enter Tryz.func155,Tryz.ntmps155
 go_wp2
 go_ret
 exact ⟨rfl,rfl⟩
theorem read_err (D:DV) (s:List UInt8) (off n:Int):(rdD D s off n).2=0∨(rdD D s off n).2=170∨(rdD D s off n).2=173:=by
 unfold rdD
 split
 ·exact .inr (.inl rfl)
 ·split
  ·exact .inr (.inr rfl)
  ·exact .inl rfl
theorem fread_any (w:World) (h:Sk w q p T D S) (s:ByteArray) (hs:s.size≤maxLen) (off y:Int) (ho1 : -9223372036854775808≤off) (ho2:off≤9223372036854775807) (hq1 : -9223372036854775808≤y) (hq2:y≤9223372036854775807) (t:ByteArray) (r:Int) (ht:tx (rdS D s.data.toList off y).1=t) (hr:(rdS D s.data.toList off y).2=r) :
  Calls Tryz.prog 143 #[.pointer (some ⟨q,0,none⟩),.string s,.int .i64 off,.int .i64 y] w fun e w'=>e = .returned (.tuple #[.string t,.int .i64 r])∧Below w.heap.size w w':=by
 obtain ⟨ao,cap,⟨c0,c1,c2,c3,c4⟩,hc⟩:=h.cells
 have HR:=hide (h.read s hs off y ho1 ho2 hq1 hq2)
 unfold rdS at ht hr
 obtain ⟨x,e,hx⟩ : ∃ x e,rdD D s.data.toList off y=(x,e):=⟨_,_,rfl⟩
 have he:=read_err D s.data.toList off y
 rw [hx] at ht hr HR he
 clear h hc hx
 by_cases h3:e=173
 ·subst h3
  simp only [if_pos] at ht hr
  subst ht hr
  go_enter Tryz.func143,Tryz.ntmps143
  go_wp2_with (go_at_call 152; refine HR.out.mono ?_; rintro e w1 ⟨rfl,hb⟩)
  go_ret2
  exact ⟨rfl,hb⟩
 ·simp only [if_neg h3] at ht hr
  subst ht hr
  go_enter Tryz.func143,Tryz.ntmps143
  go_wp2_with (go_at_call 152; refine HR.out.mono ?_; rintro e w1 ⟨rfl,hb⟩)
  go_ret2
  exact ⟨rfl,hb⟩
def whT (s:List UInt8):ByteArray:=(rpT s).1
theorem whole_any (w:World) (s:ByteArray) (hs:s.size≤9223372036854775807) (b:Bool) (hb:whl s.data.toList=b) (t:ByteArray) (ht:whT s.data.toList=t) :
  Calls Tryz.prog 144 #[.string s] w fun e w'=>e = .returned (.tuple #[.string t,.bool b])∧Below w.heap.size w w':=by
 have hl:=size_list s
 unfold whT at ht
 unfold whl at hb
 cases hp:rpay s.data.toList with
 | none =>
  rw [hp] at hb
  have e1:=rpT_no hp
  rw [e1] at ht
  subst ht hb
  have HR:=hide (rpayload_any w s hs _ _ _ e1)
  go_enter Tryz.func144,Tryz.ntmps144
  go_wp2_with (go_at_call 231; refine HR.out.mono ?_; rintro e w1 ⟨rfl,hb⟩)
  go_ret2
  exact ⟨rfl,hb⟩
 | some x =>
  rw [hp] at hb
  have e1:=rpT_yes hp
  rw [e1] at ht
  subst ht
  have HR:=hide (rpayload_any w s hs _ _ _ e1)
  have e2:(((x.length+8:Nat):Int) == (s.size:Int))=b:=by
   rw [← hb,hl]
   exact Bool.eq_iff_iff.2 (by simp; omega)
  generalize x.length+8=m at *
  generalize s.size=n at *
  go_enter Tryz.func144,Tryz.ntmps144
  go_wp2_with (go_at_call 231; refine HR.out.mono ?_; rintro e w1 ⟨rfl,hb⟩)
  go_ret2
  exact ⟨by simp_all,hb⟩
end
section
variable {q p:Nat} {T:Nat→Prop} {D:DV} {S:SV}
theorem rdD_len (D:DV) (s:List UInt8) (off n:Int):(rdD D s off n).1.length≤(fget D.L s).now.length:=by
 unfold rdD
 split
 ·exact Nat.zero_le _
 ·split
  ·exact Nat.zero_le _
  ·simp only [List.length_take,List.length_drop]; omega
theorem rdS_len (D:DV) (s:List UInt8) (off n:Int):(rdS D s off n).1.length≤(fget D.L s).now.length:=by
 unfold rdS
 split
 ·exact Nat.zero_le _
 ·exact rdD_len _ _ _ _
theorem rdS_err (D:DV) (s:List UInt8) (off n:Int):(rdS D s off n).2=0∨(rdS D s off n).2=170∨(rdS D s off n).2=190:=by
 unfold rdS
 rcases read_err D s off n with h | h | h
 ·rw [if_neg (by omega)]; exact .inl h
 ·rw [if_neg (by omega)]; exact .inr (.inl h)
 ·rw [if_pos h]; exact .inr (.inr rfl)
theorem whT_yes {s:List UInt8} (h:whl s=true):whT s=tx ((rpay s).getD []):=by
 unfold whl at h
 unfold whT
 cases hp:rpay s with
 | none=>rw [hp] at h; cases h
 | some x=>rw [rpT_yes hp]; rfl
set_option maxRecDepth 100000 in
theorem item_any (w:World) (h:Sk w q p T D S) (i:Nat) (hi:i<18446744073709551616) (t:ByteArray) (r:Int) (ht:tx (itmD D S i).1=t) (hr:(itmD D S i).2=r) :
  Calls Tryz.prog 84 #[.pointer (some ⟨q,0,none⟩),.int .u64 (i:Int)] w fun e w'=>e = .returned (.tuple #[.string t,.int .i64 r])∧Below w.heap.size w w':=by
 obtain ⟨ao,cap,⟨c0,c1,c2,c3,c4⟩,hc⟩:=h.cells
 obtain ⟨_,_,hf,hg,he,_⟩:=h.small
 have HS:=hide (fsize_any w h)
 unfold itmD at ht hr
 by_cases hlt:S.ends.length≤i
 ·rw [if_pos hlt] at ht hr
  subst ht hr
  have hd:((S.ends.length:Int)≤(i:Int)):=by omega
  generalize S.ends.length=n at *
  clear h hc hg he
  go_enter Tryz.func84,Tryz.ntmps84
  go_wp2_with (go_at_call 74; refine HS.out.mono ?_; rintro e w1 ⟨rfl,rfl⟩)
  go_ret2
  exact ⟨rfl,Below.refl _ _⟩
 ·rw [if_neg hlt] at ht hr
  have hd : ¬ ((S.ends.length:Int)≤(i:Int)):=by omega
  have hd2:(i:Int)<(S.ends.length:Int):=by omega
  obtain ⟨g,rfl,cg⟩:=hc i (by omega)
  have HE:=hide (endof_any w h i (by omega))
  have hgi:=hg i
  have hei:=he i
  have HR:Hid (∀ t r,tx (itmR D S i).1=t→(itmR D S i).2=r→Calls Tryz.prog 143 #[.pointer (some ⟨q,0,none⟩),.string ⟨#[105,116,101,109,115]⟩,.int .i64 (endE S.ends i:Int),.int .i64 ((S.ends.getD i 0:Int) - (endE S.ends i:Int))] w fun e w'=>e = .returned (.tuple #[.string t,.int .i64 r])∧Below w.heap.size w w'):=fun t r h1 h2=>fread_any w h ⟨#[105,116,101,109,115]⟩ (by decide) _ _ (by omega) (by omega) (by omega) (by omega) t r h1 h2
  have hz:(itmR D S i).1.length≤268435456:=Nat.le_trans (rdS_len _ _ _ _) (h.sz _)
  have hee:(itmR D S i).2=0∨(itmR D S i).2=170∨(itmR D S i).2=190:=rdS_err _ _ _ _
  generalize itmR D S i=x at *
  have hw1:IntKind.i64.wrap (i:Int)=(i:Int):=by rw [IntKind.wrap_i64]; omega
  have hw2:IntKind.i64.wrap ((S.ends.getD i 0:Int) - (endE S.ends i:Int))=(S.ends.getD i 0:Int) - (endE S.ends i:Int):=by rw [IntKind.wrap_i64]; omega
  clear hg he hc h
  generalize S.ends.getD i 0=a at *
  generalize endE S.ends i=b at *
  generalize S.ends.length=n at *
  obtain ⟨xl,xe⟩:=x
  simp only at ht hr hee hz HR
  by_cases h0:xe=0
  ·subst h0
   simp only [ne_eq,not_true_eq_false,if_false] at ht hr
   have HR2:=hide (HR.out _ _ rfl rfl)
   have HW:Hid (∀ W b,whl xl=b→Calls Tryz.prog 144 #[.string (tx xl)] W fun e w'=>e = .returned (.tuple #[.string (whT xl),.bool b])∧Below W.heap.size W w'):=fun W b hb=>whole_any W (tx xl) (by rw [tx_size]; omega) b hb _ rfl
   clear HR
   by_cases hwh:whl xl=true
   ·simp only [hwh,if_true] at ht hr
    subst ht hr
    have HW2:=hide (fun W=>HW.out W _ hwh)
    rw [whT_yes hwh] at HW2
    clear HW
    go_enter Tryz.func84,Tryz.ntmps84
    go_wp2_with (first
     | (go_at_call 74; refine HS.out.mono ?_; rintro e w1 ⟨rfl,rfl⟩)
     | (go_at_call 142; refine HE.out.mono ?_; rintro e w1 ⟨rfl,rfl⟩)
     | (go_at_call 143; refine HR2.out.mono ?_; rintro e w2 ⟨rfl,u2⟩)
     | (go_at_call 144; refine (HW2.out _).mono ?_; rintro e w3 ⟨rfl,u3⟩))
    go_ret2
    exact ⟨rfl,bnext u2 u3⟩
   ·rw [if_neg hwh] at ht hr
    subst ht hr
    have HW2:=hide (fun W=>HW.out W _ (Bool.eq_false_iff.2 hwh))
    clear HW
    go_enter Tryz.func84,Tryz.ntmps84
    go_wp2_with (first
     | (go_at_call 74; refine HS.out.mono ?_; rintro e w1 ⟨rfl,rfl⟩)
     | (go_at_call 142; refine HE.out.mono ?_; rintro e w1 ⟨rfl,rfl⟩)
     | (go_at_call 143; refine HR2.out.mono ?_; rintro e w2 ⟨rfl,u2⟩)
     | (go_at_call 144; refine (HW2.out _).mono ?_; rintro e w3 ⟨rfl,u3⟩))
    go_ret2
    exact ⟨rfl,bnext u2 u3⟩
  ·rw [if_pos h0] at ht hr
   subst ht hr
   have HR2:=hide (HR.out _ _ rfl rfl)
   clear HR
   go_enter Tryz.func84,Tryz.ntmps84
   go_wp2_with (first
    | (go_at_call 74; refine HS.out.mono ?_; rintro e w1 ⟨rfl,rfl⟩)
    | (go_at_call 142; refine HE.out.mono ?_; rintro e w1 ⟨rfl,rfl⟩)
    | (go_at_call 143; refine HR2.out.mono ?_; rintro e w2 ⟨rfl,u2⟩))
   go_ret2
   exact ⟨rfl,u2⟩
set_option maxRecDepth 100000 in
theorem fnode_any (w:World) (h:Sk w q p T D S) (i:Nat) (hi:i<18446744073709551616) (t:ByteArray) (r:Int) (ht:tx (nodD D S i).1=t) (hr:(nodD D S i).2=r) :
  Calls Tryz.prog 162 #[.pointer (some ⟨q,0,none⟩),.int .u64 (i:Int)] w fun e w'=>e = .returned (.tuple #[.string t,.int .i64 r])∧Below w.heap.size w w':=by
 obtain ⟨ao,cap,⟨c0,c1,c2,c3,c4⟩,hc⟩:=h.cells
 obtain ⟨hk1,hk2,hf,_⟩:=h.small
 have HN:=hide (nodesof_any w S.ends.length (by omega))
 have hb:=nn_le S.ends.length
 unfold nodD at ht hr
 by_cases hlt:nn S.ends.length≤i
 ·rw [if_pos hlt] at ht hr
  subst ht hr
  have hd:((nn S.ends.length:Int)≤(i:Int)):=by omega
  generalize S.ends.length=n at *
  generalize nn n=m at *
  clear h hc
  go_enter Tryz.func162,Tryz.ntmps162
  go_wp2_with (go_at_call 245; refine HN.out.mono ?_; rintro e w1 ⟨rfl,rfl⟩)
  go_ret2
  exact ⟨rfl,Below.refl _ _⟩
 ·rw [if_neg hlt] at ht hr
  have hd : ¬ ((nn S.ends.length:Int)≤(i:Int)):=by omega
  have HR:Hid (∀ t r,tx (nodR D i).1=t→(nodR D i).2=r→Calls Tryz.prog 143 #[.pointer (some ⟨q,0,none⟩),.string ⟨#[110,111,100,101,115]⟩,.int .i64 ((i * 40:Nat):Int),.int .i64 40] w fun e w'=>e = .returned (.tuple #[.string t,.int .i64 r])∧Below w.heap.size w w'):=fun t r h1 h2=>fread_any w h ⟨#[110,111,100,101,115]⟩ (by decide) _ _ (by omega) (by omega) (by omega) (by omega) t r h1 h2
  have hw1:IntKind.i64.wrap (i:Int)=(i:Int):=by rw [IntKind.wrap_i64]; omega
  have hw2:IntKind.i64.wrap ((i:Int) * 40)=((i * 40:Nat):Int):=by rw [IntKind.wrap_i64]; omega
  have hee:(nodR D i).2=0∨(nodR D i).2=170∨(nodR D i).2=190:=rdS_err _ _ _ _
  generalize nodR D i=x at *
  have CK:Hid (∀ W,Below w.heap.size w W→W.cell? ⟨q,1,none⟩=some (.int .i64 (S.k:Int))):=fun W hW=>by
   obtain ⟨_,_,⟨_,c1',_⟩,_⟩:=(h.next hW).cells
   exact c1'
  clear hc h c1
  obtain ⟨xl,xe⟩:=x
  simp only at ht hr hee HR
  by_cases h0:xe=0
  ·subst h0
   simp only [ne_eq,not_true_eq_false,if_false] at ht hr
   have HR2:=hide (HR.out _ _ rfl rfl)
   have HW:Hid (∀ W t r,rnT (S.k:Int) i xl=(t,r)→Calls Tryz.prog 252 #[.int .i64 (S.k:Int),.int .u64 (i:Int),.string (tx xl)] W fun e w'=>e = .returned (.tuple #[.string t,.int .i64 r])∧Below W.heap.size W w'):=fun W t r hb=>rnode_any W (S.k:Int) i hi (tx xl) t r hb
   clear HR
   generalize nn S.ends.length=m at *
   generalize S.ends.length=n at *
   cases hwh:rnod S.k i xl with
   | some y =>
    rw [hwh] at ht hr
    subst ht hr
    have HW2:=hide (fun W=>HW.out W _ _ (rnT_yes (by omega) (by simpa using hwh)))
    clear HW
    generalize S.k=k at *
    go_enter Tryz.func162,Tryz.ntmps162
    go_wp2_with (first
     | (go_at_call 245; refine HN.out.mono ?_; rintro e w1 ⟨rfl,rfl⟩)
     | (go_at_call 143; refine HR2.out.mono ?_; rintro e w2 ⟨rfl,u2⟩; have c1:=CK.out _ u2)
     | (go_at_call 252; refine (HW2.out _).mono ?_; rintro e w3 ⟨rfl,u3⟩))
    go_ret2
    exact ⟨rfl,bnext u2 u3⟩
   | none =>
    rw [hwh] at ht hr
    subst ht hr
    have HW2:=hide (fun W=>HW.out W _ _ (rnT_no (by omega) (by simpa using hwh)))
    clear HW
    generalize S.k=k at *
    go_enter Tryz.func162,Tryz.ntmps162
    go_wp2_with (first
     | (go_at_call 245; refine HN.out.mono ?_; rintro e w1 ⟨rfl,rfl⟩)
     | (go_at_call 143; refine HR2.out.mono ?_; rintro e w2 ⟨rfl,u2⟩; have c1:=CK.out _ u2)
     | (go_at_call 252; refine (HW2.out _).mono ?_; rintro e w3 ⟨rfl,u3⟩))
    go_ret2
    exact ⟨rfl,bnext u2 u3⟩
  ·rw [if_pos h0] at ht hr
   subst ht hr
   have HR2:=hide (HR.out _ _ rfl rfl)
   clear HR
   generalize nn S.ends.length=m at *
   generalize S.ends.length=n at *
   go_enter Tryz.func162,Tryz.ntmps162
   go_wp2_with (first
    | (go_at_call 245; refine HN.out.mono ?_; rintro e w1 ⟨rfl,rfl⟩)
    | (go_at_call 143; refine HR2.out.mono ?_; rintro e w2 ⟨rfl,u2⟩))
   go_ret2
   exact ⟨rfl,u2⟩
end
end Go.Proofs.YtoblgjledefdbaaGreatDoor.St
