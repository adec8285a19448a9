/- Own work. -/
import Derived.Test.YtoblgjledefdbaaGreatDoorQf17
namespace Go.Proofs.YtoblgjledefdbaaGreatDoor.St
open Go.RowKit
theorem al_get {w:World} {i:Nat} (o:Obj) (h:i<w.heap.size):(w.alloc o).heap[i]? = w.heap[i]? := (MapKept.heap_alloc w o).2 i h
theorem al_new {w:World} {n:Nat} (o:Obj) (h:w.heap.size=n):(w.alloc o).heap[n]? = some o:=by rw [← h]; exact new1 w o
theorem al_size (w:World) (o:Obj):(w.alloc o).heap.size=w.heap.size+1:=by simp
theorem al_four (w:World) (o1 o2 o3 o4:Obj):((((w.alloc o1).alloc o2).alloc o3).alloc o4).heap[w.heap.size]? = some o1∧((((w.alloc o1).alloc o2).alloc o3).alloc o4).heap[w.heap.size+1]? = some o2∧((((w.alloc o1).alloc o2).alloc o3).alloc o4).heap[w.heap.size+2]? = some o3∧((((w.alloc o1).alloc o2).alloc o3).alloc o4).heap[w.heap.size+3]? = some o4:=by
 have s1:=al_size w o1
 have s2:=al_size (w.alloc o1) o2
 have s3:=al_size ((w.alloc o1).alloc o2) o3
 refine ⟨?_,?_,?_,al_new _ (by omega)⟩
 ·rw [al_get _ (by omega),al_get _ (by omega),al_get _ (by omega)]; exact new1 w o1
 ·rw [al_get _ (by omega),al_get _ (by omega)]; exact al_new _ (by omega)
 ·rw [al_get _ (by omega)]; exact al_new _ (by omega)
def Left (w w':World) (p m:Nat) (R:List UInt8→FR) (kb ko:Nat) (D D':DV):Prop :=
 ∃ m' R' ka' kc',Dk w' p m' R' ka' kb ko kc' D' none∧(∀ x,Foot p m' R' kb D' x→Foot p m R kb D x∨w.heap.size≤x)∧Upo (Foot p m R kb D) w w'
def wrD (D:DV) (s:List UInt8) (off:Int) (t:List UInt8):DV×Int :=
 if D.down then (D,170) else
 if off<0∨((fget D.L s).now.length:Int)<off∨268435456 - off<(t.length:Int) then (D,173) else
 if (D.free:Int)<off+(t.length:Int) - ((fget D.L s).now.length:Int) then (D,172) else
 actD D s ⟨wr (fget D.L s).now off.toNat t,(fget D.L s).syn⟩
theorem Left.drew {w w':World} {p m:Nat} {R:List UInt8→FR} {kb ko:Nat} {D D':DV} (h:Left w w' p m R kb ko D D'):Left w w'.drew p m R kb ko D D':=by
 obtain ⟨m',R',ka',kc',h1,h2,h3⟩:=h
 exact ⟨m',R',ka',kc',h1.same (fun _ _=>rfl),h2,h3.drew⟩
section
variable {p m:Nat} {R:List UInt8→FR} {ka:Option Addr} {kb ko kc:Nat} {D:DV}
theorem left_same {w w':World} (h:Dk w p m R ka kb ko kc D none) (hb:Below w.heap.size w w'):Left w w' p m R kb ko D D:=⟨m,R,ka,kc,h.next hb,fun _ hx => .inl hx,Upo.of hb⟩
theorem left_next {w w1 w':World} {D':DV} (hb:Below w.heap.size w w1) (hl : ∃ m' R' ka' kc',Dk w' p m' R' ka' kb ko kc' D' none∧(∀ x,Foot p m' R' kb D' x→Foot p m R kb D x∨w1.heap.size≤x)∧Upo (Foot p m R kb D) w1 w'):Left w w' p m R kb ko D D':=by
 obtain ⟨m',R',ka',kc',h1,h2,h3⟩:=hl
 exact ⟨m',R',ka',kc',h1,fun x hx=>(h2 x hx).imp id (fun q=>Nat.le_trans hb.size q),(Upo.of hb).trans h3 (fun _ _ q=>q)⟩
set_option maxRecDepth 100000 in
set_option maxHeartbeats 2000000 in
theorem write_any (w:World) (h:Dk w p m R ka kb ko kc D none) (s t:ByteArray) (hs:s.size≤maxLen) (off:Int) (ho1 : -9223372036854775808≤off) (ho2:off≤9223372036854775807) (ht:t.size≤140737488355328) (hac:D.acts+1≤4611686018427387904) (hcnt:D.L.length<1099511627776) (hfr:D.down=false→D.free+(fget D.L s.data.toList).now.length≤9223372036854775807) :
  Calls Tryz.prog 268 #[.pointer (some ⟨p,0,none⟩),.string s,.int .i64 off,.string t] w fun e w'=>e = .returned (.int .i64 (wrD D s.data.toList off t.data.toList).2)∧Left w w' p m R kb ko D (wrD D s.data.toList off t.data.toList).1:=by
 obtain ⟨r,hl,hr⟩:=h.look s hs
 obtain ⟨hfil,_⟩:=h.file hr
 have hb1:=hfil.b1
 obtain ⟨f0,hf0⟩ : ∃ f0,fget D.L s.data.toList=f0:=⟨_,rfl⟩
 rw [hf0] at hl hb1 hfr
 obtain ⟨n,hn⟩ : ∃ n,f0.now.length=n:=⟨_,rfl⟩
 obtain ⟨n2,hn2⟩ : ∃ n,f0.syn.length=n:=⟨_,rfl⟩
 simp only [fval,fv,hn,hn2] at hl
 have hwr:wrD D s.data.toList off t.data.toList=if D.down then (D,170) else if off<0∨(n:Int)<off∨268435456 - off<(t.size:Int) then (D,173) else if (D.free:Int)<off+(t.size:Int) - (n:Int) then (D,172) else actD D s.data.toList ⟨wr f0.now off.toNat t.data.toList,f0.syn⟩:=by
  simp only [wrD,hf0,hn,size_list]
 obtain ⟨w4,hw4⟩ : ∃ W,(((w.alloc (.cells #[.pointer (some ⟨p,0,none⟩)] 25)).alloc (.cells #[.string s] 9)).alloc (.cells #[.int .i64 off] 3)).alloc (.cells #[.string t] 9)=W:=⟨_,rfl⟩
 have hb4:Below w.heap.size w w4:=by rw [← hw4]; exact bal (bal (bal (bal (Below.refl _ _) _) _) _) _
 have hz4:w4.heap.size=w.heap.size+4:=by rw [← hw4]; simp
 have hq4:=al_four w (.cells #[.pointer (some ⟨p,0,none⟩)] 25) (.cells #[.string s] 9) (.cells #[.int .i64 off] 3) (.cells #[.string t] 9)
 rw [hw4] at hq4
 obtain ⟨n1,n2',n3,n4⟩:=hq4
 have hr2:=r
 obtain ⟨ra,rg,rc,rb,rh,rd,rs⟩:=r
 simp only at hl
 obtain ⟨w5,hw5⟩ : ∃ W,w4.alloc (.cells #[.slice ra n rc,.slice rb n2 rd,.int .i64 (rs:Int)] 129)=W:=⟨_,rfl⟩
 have h4:=h.next hb4
 obtain ⟨c0,c1,c2,c3,c4,c5,c6⟩:=h4.cells
 have a1:=Bx1.at n1
 have a2:=Bx1.at n2'
 have hl4:=hl w4.drew (hb4.block m h.mp.lt)
 have hl5:=hl (w4.alloc (.cells #[.slice none 0 0,.slice none 0 0,.int .i64 0] 129)).drew ((al_get _ h4.mp.lt).trans (hb4.block m h.mp.lt))
 have hb5:Below w4.heap.size w4 w5:=by rw [← hw5]; exact bal (Below.refl _ _) _
 have HG:Hid (Dk w p m R ka kb ko kc D none∧Below w.heap.size w w4∧Below w4.heap.size w4 w5∧w4.heap.size=w.heap.size+4∧n≤268435456∧(D.down=false→D.free+n≤9223372036854775807)∧t.size≤140737488355328∧D.acts+1≤4611686018427387904∧D.L.length<1099511627776∧fget D.L s.data.toList=f0∧f0.now.length=n∧f0.syn.length=n2):=⟨h,hb4,hb5,hz4,by omega,fun q=>by have:=hfr q; omega,ht,hac,hcnt,hf0,hn,hn2⟩
 have HWr:=hide hwr
 have hp4 : ¬ (p=w4.heap.size):=by have:=h.lt (.inl rfl); omega
 have a0 : ∀ i j v,i<w4.heap.size→w4.cell? ⟨i,j,none⟩=some v→(w4.alloc (.cells #[.slice none 0 0,.slice none 0 0,.int .i64 0] 129)).cell? ⟨i,j,none⟩=some v:=fun i j v hi hv=>by
  unfold World.cell? at hv ⊢; rw [al_get _ hi]; exact hv
 have a3:=a0 _ _ _ (by omega) a1
 have a4:=a0 _ _ _ (by omega) a2
 have a5:=a0 _ _ _ (h4.lt (.inl rfl)) c1
 clear a0
 have HW4:Hid ((((w.alloc (.cells #[.pointer (some ⟨p,0,none⟩)] 25)).alloc (.cells #[.string s] 9)).alloc (.cells #[.int .i64 off] 3)).alloc (.cells #[.string t] 9)=w4):=hw4
 have HW5:Hid (w4.alloc (.cells #[.slice ra n rc,.slice rb n2 rd,.int .i64 (rs:Int)] 129)=w5):=hw5
 have HN:Hid (Bx1 w4 w.heap.size (.pointer (some ⟨p,0,none⟩)) 25∧Bx1 w4 (w.heap.size+1) (.string s) 9∧Bx1 w4 (w.heap.size+2) (.int .i64 off) 3∧Bx1 w4 (w.heap.size+3) (.string t) 9∧((s.data.toList∈keys D.L∧(⟨ra,rg,rc,rb,rh,rd,rs⟩:FR)=R s.data.toList)∨(s.data.toList ∉ keys D.L∧(⟨ra,rg,rc,rb,rh,rd,rs⟩:FR)=fr0∧fget D.L s.data.toList=fz))):=⟨n1,n2',n3,n4,hr⟩
 clear h hb4 hz4 hb5 hn hn2 hf0 hfr hac hcnt ht hb1 hfil hwr hr n1 n2' n3 n4 h4 c0 c2 c3 c4 c5 c6 hw4 hw5 hl hr2
 go_enter Tryz.func268,Tryz.ntmps268
 go_upto_region 1 with (fail)
 rw [show (w.heap.size+1+1:Nat)=w.heap.size+2 from rfl,HW4.out]
 go_region
 all_goals
  rw [HW5.out]
  obtain ⟨w6,hw6⟩ : ∃ W,w5.drew=W:=⟨_,rfl⟩
  rw [hw6]
  obtain ⟨h,hb4,hb5,hz4,hn0,hfr,ht,hac,hcnt,hf0,hn,hn2⟩:=HG.out
  obtain ⟨x1,x2,x4,x5,hr⟩:=HN.out
  have hb6:Below w4.heap.size w4 w6:=by rw [← hw6]; exact ⟨hb5.os,hb5.tape,hb5.output,hb5.size,hb5.block⟩
  have x3:w6.heap[w4.heap.size]? = some (.cells #[.slice ra n rc,.slice rb n2 rd,.int .i64 (rs:Int)] 129 (0,0)):=by rw [← hw6,← HW5.out]; exact new1 w4 _
  have y1:Bx1 w6 w.heap.size _ _:=(hb6.block _ (by omega)).trans x1
  have y2:Bx1 w6 (w.heap.size+1) _ _:=(hb6.block _ (by omega)).trans x2
  have y4:Bx1 w6 (w.heap.size+2) _ _:=(hb6.block _ (by omega)).trans x4
  have y5:Bx1 w6 (w.heap.size+3) _ _:=(hb6.block _ (by omega)).trans x5
  have hbw:=bnext hb4 hb6
  have h6:=h.next hbw
  obtain ⟨c0,c1',c2,c3,c4,c5,c6⟩:=h6.cells
  obtain ⟨b0,b1,b2⟩:=three_at x3
  have z1:=y1.at
  have z2:=y2.at
  have z4:=y4.at
  have z5:=y5.at
  have hwr:=HWr.out
  have HS:Hid (Left w w6 p m R kb ko D D):=left_same h hbw
  have HQ:Hid (Dk w6 p m R ka kb ko kc D none∧Below w.heap.size w w6∧Bx1 w6 w.heap.size (.pointer (some ⟨p,0,none⟩)) 25∧Bx1 w6 (w.heap.size+1) (.string s) 9∧Bx1 w6 (w.heap.size+2) (.int .i64 off) 3∧Bx1 w6 (w.heap.size+3) (.string t) 9∧w6.heap[w4.heap.size]? = some (.cells #[.slice ra n rc,.slice rb n2 rd,.int .i64 (rs:Int)] 129 (0,0))):=⟨h6,hbw,y1,y2,y4,y5,x3⟩
  clear hw6 h hb4 hb5 hz4 hf0 hn hn2 x1 x2 x4 x5 hr hb6 x3 y1 y2 y4 y5 hbw h6 c1' c2 c3 c4 c5 b1 b2 a1 a2 a3 a4 a5 c1 hl4 hl5 hp4 HW5 HW4 HWr hac hcnt
  by_cases hd:D.down=true
  ·rw [if_pos hd] at hwr
   have HE:=hide hwr
   clear hwr
   rw [hd] at c6
   go_wp2
   go_ret
   rw [HE.out]
   exact ⟨rfl,HS.out⟩
  rw [if_neg hd] at hwr
  have hd2:D.down=false:=by simpa using hd
  rw [hd2] at c6
  have HDn:=hide hd2
  clear hd hd2
  by_cases hc:off<0∨(n:Int)<off∨268435456 - off<(t.size:Int)
  ·rw [if_pos hc] at hwr
   have HE:=hide hwr
   clear hwr
   by_cases k1:off<0
   ·clear hc
    go_wp2
    go_ret
    rw [HE.out]
    exact ⟨rfl,HS.out⟩
   by_cases k2:(n:Int)<off
   ·clear hc
    go_wp2
    go_ret
    rw [HE.out]
    exact ⟨rfl,HS.out⟩
   have k3:268435456 - off<(t.size:Int):=by omega
   have e1:IntKind.i64.wrap (268435456 - off)=268435456 - off:=by rw [IntKind.wrap_i64]; omega
   clear hc
   go_wp2
   go_ret
   rw [HE.out]
   exact ⟨rfl,HS.out⟩
  rw [if_neg hc] at hwr
  have k1 : ¬ off<0:=fun e=>hc (.inl e)
  have k2 : ¬ (n:Int)<off:=fun e=>hc (.inr (.inl e))
  have k3 : ¬ 268435456 - off<(t.size:Int):=fun e=>hc (.inr (.inr e))
  obtain ⟨k,rfl⟩ : ∃ k:Nat,off=(k:Int):=⟨off.toNat,by omega⟩
  have e1:IntKind.i64.wrap (268435456 - (k:Int))=268435456 - (k:Int):=by rw [IntKind.wrap_i64]; omega
  have e2:IntKind.i64.wrap ((k:Int)+(t.size:Int))=(k:Int)+(t.size:Int):=by rw [IntKind.wrap_i64]; omega
  have e3:IntKind.i64.wrap ((k:Int)+(t.size:Int) - (n:Int))=(k:Int)+(t.size:Int) - (n:Int):=by rw [IntKind.wrap_i64]; omega
  go_upto_region 6 with (fail)
  by_cases hm:(D.free:Int)<(k:Int)+(t.size:Int) - (n:Int)
  ·rw [if_pos hm] at hwr
   have HE:=hide hwr
   clear hwr
   go_region
   go_wp2
   go_ret
   rw [HE.out]
   exact ⟨rfl,(HS.out.drew)⟩
  rw [if_neg hm] at hwr
  have HE:=hide hwr
  have HAct:Hid (Calls Tryz.prog 246 #[.pointer (some ⟨p,0,none⟩),.func (.func 343) #[] #[.pointer (some ⟨w.heap.size,0,none⟩),.pointer (some ⟨w.heap.size+1,0,none⟩),.pointer (some ⟨w4.heap.size,0,none⟩),.pointer (some ⟨w.heap.size+2,0,none⟩),.pointer (some ⟨w.heap.size+3,0,none⟩)]] w6.drew fun e w'=>e = .returned (.int .i64 (wrD D s.data.toList (k:Int) t.data.toList).2)∧Left w w' p m R kb ko D (wrD D s.data.toList (k:Int) t.data.toList).1):=by
   obtain ⟨h,hb4,hb5,hz4,hn0,hfr,ht,hac,hcnt,hf0,hn,hn2⟩:=HG.out
   obtain ⟨x1,x2,x4,x5,hr⟩:=HN.out
   have hfr:=hfr HDn.out
   obtain ⟨q1,q2,q3,q4,q5,q6,q7⟩:=HQ.out
   have hf:fget D.L s.data.toList=f0:=hf0
   have hbd:Below w.heap.size w w6.drew:=⟨q2.os,q2.tape,q2.output,q2.size,q2.block⟩
   have hD6:Dk w6.drew p m R ka kb ko kc D none:=q1.same (fun _ _=>rfl)
   have HD:=do_write w6.drew hD6 s t hs k (by rw [hf,hn]; omega) (by omega) ⟨ra,rg,rc,rb,rh,rd,rs⟩ hr hcnt (by rw [hf,hn]; omega) (by rw [hf,hn]; omega) w.heap.size (w.heap.size+1) w4.heap.size (w.heap.size+2) (w.heap.size+3) q3 q4 (by rw [hf,hn,hn2]; exact q7) q5 q6
   have HZ:=act_any w6.drew hD6 hac _ _ _ _ HD (.inl rfl)
   rw [hf] at HZ
   refine HZ.mono ?_
   rintro e w' ⟨m',R',ka',kc',rfl,hl⟩
   rw [HE.out,Int.toNat_natCast]
   exact ⟨rfl,left_next hbd ⟨m',R',ka',kc',hl⟩⟩
  clear HE hwr HS HQ HG HN
  go_region
  go_wp2_with (go_at_call 246; (with_reducible refine HAct.out.mono ?_); rintro e w7 ⟨rfl,hl⟩)
  go_ret
  exact ⟨rfl,hl⟩
end
theorem al_three (w:World) (o1 o2 o3:Obj):(((w.alloc o1).alloc o2).alloc o3).heap[w.heap.size]? = some o1∧(((w.alloc o1).alloc o2).alloc o3).heap[w.heap.size+1]? = some o2∧(((w.alloc o1).alloc o2).alloc o3).heap[w.heap.size+2]? = some o3:=by
 have s1:=al_size w o1
 have s2:=al_size (w.alloc o1) o2
 refine ⟨?_,?_,al_new _ (by omega)⟩
 ·rw [al_get _ (by omega),al_get _ (by omega)]; exact new1 w o1
 ·rw [al_get _ (by omega)]; exact al_new _ (by omega)
def cutD (D:DV) (s:List UInt8) (off:Int):DV×Int :=
 if D.down then (D,170) else
 if off<0∨((fget D.L s).now.length:Int)<off then (D,173) else
 actD D s ⟨(fget D.L s).now.take off.toNat,(fget D.L s).syn⟩
def synD (D:DV) (s:List UInt8):DV×Int:=if D.down then (D,170) else actD D s ⟨(fget D.L s).now,(fget D.L s).now⟩
section
variable {p m:Nat} {R:List UInt8→FR} {ka:Option Addr} {kb ko kc:Nat} {D:DV}
set_option maxRecDepth 100000 in
set_option maxHeartbeats 2000000 in
theorem cut_any (w:World) (h:Dk w p m R ka kb ko kc D none) (s:ByteArray) (hs:s.size≤maxLen) (off:Int) (ho1 : -9223372036854775808≤off) (ho2:off≤9223372036854775807) (hac:D.acts+1≤4611686018427387904) (hcnt:D.L.length<1099511627776) (hfr:D.down=false→D.free+(fget D.L s.data.toList).now.length≤9223372036854775807) :
  Calls Tryz.prog 156 #[.pointer (some ⟨p,0,none⟩),.string s,.int .i64 off] w fun e w'=>e = .returned (.int .i64 (cutD D s.data.toList off).2)∧Left w w' p m R kb ko D (cutD D s.data.toList off).1:=by
 obtain ⟨r,hl,hr⟩:=h.look s hs
 obtain ⟨hfil,_⟩:=h.file hr
 have hb1:=hfil.b1
 obtain ⟨f0,hf0⟩ : ∃ f0,fget D.L s.data.toList=f0:=⟨_,rfl⟩
 rw [hf0] at hl hb1 hfr
 obtain ⟨n,hn⟩ : ∃ n,f0.now.length=n:=⟨_,rfl⟩
 obtain ⟨n2,hn2⟩ : ∃ n,f0.syn.length=n:=⟨_,rfl⟩
 simp only [fval,fv,hn,hn2] at hl
 have hwr:cutD D s.data.toList off=if D.down then (D,170) else if off<0∨(n:Int)<off then (D,173) else actD D s.data.toList ⟨f0.now.take off.toNat,f0.syn⟩:=by
  simp only [cutD,hf0,hn]
 obtain ⟨w4,hw4⟩ : ∃ W,((w.alloc (.cells #[.pointer (some ⟨p,0,none⟩)] 25)).alloc (.cells #[.string s] 9)).alloc (.cells #[.int .i64 off] 3)=W:=⟨_,rfl⟩
 have hb4:Below w.heap.size w w4:=by rw [← hw4]; exact bal (bal (bal (Below.refl _ _) _) _) _
 have hz4:w4.heap.size=w.heap.size+3:=by rw [← hw4]; simp
 have hq4:=al_three w (.cells #[.pointer (some ⟨p,0,none⟩)] 25) (.cells #[.string s] 9) (.cells #[.int .i64 off] 3)
 rw [hw4] at hq4
 obtain ⟨n1,n2',n3⟩:=hq4
 have hr2:=r
 obtain ⟨ra,rg,rc,rb,rh,rd,rs⟩:=r
 simp only at hl
 obtain ⟨w5,hw5⟩ : ∃ W,w4.alloc (.cells #[.slice ra n rc,.slice rb n2 rd,.int .i64 (rs:Int)] 129)=W:=⟨_,rfl⟩
 have h4:=h.next hb4
 obtain ⟨c0,c1,c2,c3,c4,c5,c6⟩:=h4.cells
 have a1:=Bx1.at n1
 have a2:=Bx1.at n2'
 have hl4:=hl w4.drew (hb4.block m h.mp.lt)
 have hl5:=hl (w4.alloc (.cells #[.slice none 0 0,.slice none 0 0,.int .i64 0] 129)).drew ((al_get _ h4.mp.lt).trans (hb4.block m h.mp.lt))
 have hb5:Below w4.heap.size w4 w5:=by rw [← hw5]; exact bal (Below.refl _ _) _
 have HG:Hid (Dk w p m R ka kb ko kc D none∧Below w.heap.size w w4∧Below w4.heap.size w4 w5∧w4.heap.size=w.heap.size+3∧n≤268435456∧(D.down=false→D.free+n≤9223372036854775807)∧D.acts+1≤4611686018427387904∧D.L.length<1099511627776∧fget D.L s.data.toList=f0∧f0.now.length=n∧f0.syn.length=n2):=⟨h,hb4,hb5,hz4,by omega,fun q=>by have:=hfr q; omega,hac,hcnt,hf0,hn,hn2⟩
 have HWr:=hide hwr
 have hp4 : ¬ (p=w4.heap.size):=by have:=h.lt (.inl rfl); omega
 have a0 : ∀ i j v,i<w4.heap.size→w4.cell? ⟨i,j,none⟩=some v→(w4.alloc (.cells #[.slice none 0 0,.slice none 0 0,.int .i64 0] 129)).cell? ⟨i,j,none⟩=some v:=fun i j v hi hv=>by
  unfold World.cell? at hv ⊢; rw [al_get _ hi]; exact hv
 have a3:=a0 _ _ _ (by omega) a1
 have a4:=a0 _ _ _ (by omega) a2
 have a5:=a0 _ _ _ (h4.lt (.inl rfl)) c1
 clear a0
 have HW4:Hid (((w.alloc (.cells #[.pointer (some ⟨p,0,none⟩)] 25)).alloc (.cells #[.string s] 9)).alloc (.cells #[.int .i64 off] 3)=w4):=hw4
 have HW5:Hid (w4.alloc (.cells #[.slice ra n rc,.slice rb n2 rd,.int .i64 (rs:Int)] 129)=w5):=hw5
 have HN:Hid (Bx1 w4 w.heap.size (.pointer (some ⟨p,0,none⟩)) 25∧Bx1 w4 (w.heap.size+1) (.string s) 9∧Bx1 w4 (w.heap.size+2) (.int .i64 off) 3∧((s.data.toList∈keys D.L∧(⟨ra,rg,rc,rb,rh,rd,rs⟩:FR)=R s.data.toList)∨(s.data.toList ∉ keys D.L∧(⟨ra,rg,rc,rb,rh,rd,rs⟩:FR)=fr0∧fget D.L s.data.toList=fz))):=⟨n1,n2',n3,hr⟩
 clear h hb4 hz4 hb5 hn hn2 hf0 hfr hac hcnt hb1 hfil hwr hr n1 n2' n3 h4 c0 c2 c3 c4 c5 c6 hw4 hw5 hl hr2
 go_enter Tryz.func156,Tryz.ntmps156
 go_upto_region 1 with (fail)
 rw [show (w.heap.size+1+1:Nat)=w.heap.size+2 from rfl,HW4.out]
 go_region
 all_goals
  rw [HW5.out]
  obtain ⟨w6,hw6⟩ : ∃ W,w5.drew=W:=⟨_,rfl⟩
  rw [hw6]
  obtain ⟨h,hb4,hb5,hz4,hn0,hfr,hac,hcnt,hf0,hn,hn2⟩:=HG.out
  obtain ⟨x1,x2,x4,hr⟩:=HN.out
  have hb6:Below w4.heap.size w4 w6:=by rw [← hw6]; exact ⟨hb5.os,hb5.tape,hb5.output,hb5.size,hb5.block⟩
  have x3:w6.heap[w4.heap.size]? = some (.cells #[.slice ra n rc,.slice rb n2 rd,.int .i64 (rs:Int)] 129 (0,0)):=by rw [← hw6,← HW5.out]; exact new1 w4 _
  have y1:Bx1 w6 w.heap.size _ _:=(hb6.block _ (by omega)).trans x1
  have y2:Bx1 w6 (w.heap.size+1) _ _:=(hb6.block _ (by omega)).trans x2
  have y4:Bx1 w6 (w.heap.size+2) _ _:=(hb6.block _ (by omega)).trans x4
  have hbw:=bnext hb4 hb6
  have h6:=h.next hbw
  obtain ⟨c0,c1',c2,c3,c4,c5,c6⟩:=h6.cells
  obtain ⟨b0,b1,b2⟩:=three_at x3
  have z1:=y1.at
  have z2:=y2.at
  have z4:=y4.at
  have hwr:=HWr.out
  have HS:Hid (Left w w6 p m R kb ko D D):=left_same h hbw
  have HQ:Hid (Dk w6 p m R ka kb ko kc D none∧Below w.heap.size w w6∧Bx1 w6 w.heap.size (.pointer (some ⟨p,0,none⟩)) 25∧Bx1 w6 (w.heap.size+1) (.string s) 9∧Bx1 w6 (w.heap.size+2) (.int .i64 off) 3∧w6.heap[w4.heap.size]? = some (.cells #[.slice ra n rc,.slice rb n2 rd,.int .i64 (rs:Int)] 129 (0,0))):=⟨h6,hbw,y1,y2,y4,x3⟩
  clear hw6 h hb4 hb5 hz4 hf0 hn hn2 x1 x2 x4 hr hb6 x3 y1 y2 y4 hbw h6 c1' c2 c3 c4 c5 b1 b2 a1 a2 a3 a4 a5 c1 hl4 hl5 hp4 HW5 HW4 HWr hac hcnt
  by_cases hd:D.down=true
  ·rw [if_pos hd] at hwr
   have HE:=hide hwr
   clear hwr
   rw [hd] at c6
   go_wp2
   go_ret
   rw [HE.out]
   exact ⟨rfl,HS.out⟩
  rw [if_neg hd] at hwr
  have hd2:D.down=false:=by simpa using hd
  rw [hd2] at c6
  have HDn:=hide hd2
  clear hd hd2
  by_cases hc:off<0∨(n:Int)<off
  ·rw [if_pos hc] at hwr
   have HE:=hide hwr
   clear hwr
   by_cases k1:off<0
   ·clear hc
    go_wp2
    go_ret
    rw [HE.out]
    exact ⟨rfl,HS.out⟩
   have k2:(n:Int)<off:=by omega
   clear hc
   go_wp2
   go_ret
   rw [HE.out]
   exact ⟨rfl,HS.out⟩
  rw [if_neg hc] at hwr
  have k1 : ¬ off<0:=fun e=>hc (.inl e)
  have k2 : ¬ (n:Int)<off:=fun e=>hc (.inr e)
  obtain ⟨k,rfl⟩ : ∃ k:Nat,off=(k:Int):=⟨off.toNat,by omega⟩
  have HE:=hide hwr
  have HAct:Hid (Calls Tryz.prog 246 #[.pointer (some ⟨p,0,none⟩),.func (.func 247) #[] #[.pointer (some ⟨w.heap.size,0,none⟩),.pointer (some ⟨w.heap.size+1,0,none⟩),.pointer (some ⟨w4.heap.size,0,none⟩),.pointer (some ⟨w.heap.size+2,0,none⟩)]] w6 fun e w'=>e = .returned (.int .i64 (cutD D s.data.toList (k:Int)).2)∧Left w w' p m R kb ko D (cutD D s.data.toList (k:Int)).1):=by
   obtain ⟨h,hb4,hb5,hz4,hn0,hfr,hac,hcnt,hf0,hn,hn2⟩:=HG.out
   obtain ⟨x1,x2,x4,hr⟩:=HN.out
   have hfr:=hfr HDn.out
   obtain ⟨q1,q2,q3,q4,q5,q7⟩:=HQ.out
   have hf:fget D.L s.data.toList=f0:=hf0
   have HD:=do_cut w6 q1 s hs k (by rw [hf,hn]; omega) ⟨ra,rg,rc,rb,rh,rd,rs⟩ hr hcnt (by rw [hf,hn]; omega) w.heap.size (w.heap.size+1) w4.heap.size (w.heap.size+2) q3 q4 (by rw [hf,hn,hn2]; exact q7) q5
   have HZ:=act_any w6 q1 hac _ _ _ _ HD (.inr (.inl rfl))
   rw [hf] at HZ
   refine HZ.mono ?_
   rintro e w' ⟨m',R',ka',kc',rfl,hl⟩
   rw [HE.out,Int.toNat_natCast]
   exact ⟨rfl,left_next q2 ⟨m',R',ka',kc',hl⟩⟩
  clear HE hwr HS HQ HG HN
  go_wp2_with (go_at_call 246; (with_reducible refine HAct.out.mono ?_); rintro e w7 ⟨rfl,hl⟩)
  go_ret
  exact ⟨rfl,hl⟩
set_option maxRecDepth 100000 in
set_option maxHeartbeats 1000000 in
theorem sync_any (w:World) (h:Dk w p m R ka kb ko kc D none) (s:ByteArray) (hs:s.size≤maxLen) (hac:D.acts+1≤4611686018427387904) (hcnt:D.L.length<1099511627776) (hfr:D.down=false→D.free+(fget D.L s.data.toList).now.length≤9223372036854775807) :
  Calls Tryz.prog 157 #[.pointer (some ⟨p,0,none⟩),.string s] w fun e w'=>e = .returned (.int .i64 (synD D s.data.toList).2)∧Left w w' p m R kb ko D (synD D s.data.toList).1:=by
 obtain ⟨w4,hw4⟩ : ∃ W,(w.alloc (.cells #[.pointer (some ⟨p,0,none⟩)] 25)).alloc (.cells #[.string s] 9)=W:=⟨_,rfl⟩
 have HW4:Hid ((w.alloc (.cells #[.pointer (some ⟨p,0,none⟩)] 25)).alloc (.cells #[.string s] 9)=w4):=hw4
 have hb4:Below w.heap.size w w4:=by rw [← hw4]; exact bal (bal (Below.refl _ _) _) _
 have x1:Bx1 w4 w.heap.size (.pointer (some ⟨p,0,none⟩)) 25:=by rw [← hw4]; exact new0 _ _ _
 have x2:Bx1 w4 (w.heap.size+1) (.string s) 9:=by rw [← hw4]; exact new2 _ _ _
 have h4:=h.next hb4
 have HS:Hid (Left w w4 p m R kb ko D D):=left_same h hb4
 obtain ⟨_,_,_,_,_,_,c6⟩:=h4.cells
 have z1:=x1.at
 have z2:=x2.at
 have hsd:synD D s.data.toList=if D.down then (D,170) else actD D s.data.toList ⟨(fget D.L s.data.toList).now,(fget D.L s.data.toList).now⟩:=rfl
 have HAct:Hid (D.down=false→Calls Tryz.prog 246 #[.pointer (some ⟨p,0,none⟩),.func (.func 250) #[] #[.pointer (some ⟨w.heap.size,0,none⟩),.pointer (some ⟨w.heap.size+1,0,none⟩)]] w4 fun e w'=>e = .returned (.int .i64 (synD D s.data.toList).2)∧Left w w' p m R kb ko D (synD D s.data.toList).1):=fun hd=>by
  refine (act_any w4 h4 hac _ _ _ _ (do_sync w4 h4 s hs hcnt (hfr hd) w.heap.size (w.heap.size+1) x1 x2) (.inr (.inr rfl))).mono ?_
  rintro e w' ⟨m',R',ka',kc',rfl,hl⟩
  rw [hsd,if_neg (by simp [hd])]
  exact ⟨rfl,left_next hb4 ⟨m',R',ka',kc',hl⟩⟩
 have HSD:=hide hsd
 clear h hb4 h4 x1 x2 hw4 hac hcnt hfr hsd
 by_cases hd:D.down=true
 ·rw [hd] at c6
  have HE:Hid (synD D s.data.toList=(D,170)):=by show _=_; rw [HSD.out,if_pos hd]
  clear hd HSD HAct
  go_enter Tryz.func157,Tryz.ntmps157
  go_upto_region 1 with (fail)
  rw [HW4.out]
  go_wp2
  go_ret
  rw [HE.out]
  exact ⟨rfl,HS.out⟩
 ·have hd2:D.down=false:=by simpa using hd
  have HA2:=hide (HAct.out hd2)
  rw [hd2] at c6
  clear hd hd2 HSD HAct HS
  go_enter Tryz.func157,Tryz.ntmps157
  go_upto_region 1 with (fail)
  rw [HW4.out]
  go_wp2_with (go_at_call 246; (with_reducible refine HA2.out.mono ?_); rintro e w7 ⟨rfl,hl⟩)
  go_ret
  exact ⟨rfl,hl⟩
end
def rdD (D:DV) (s:List UInt8) (off n:Int):List UInt8×Int :=
 if D.down then ([],170) else
 if off<0∨n<0∨((fget D.L s).now.length:Int)<off∨((fget D.L s).now.length:Int) - off<n then ([],173) else
 (((fget D.L s).now.drop off.toNat).take n.toNat,0)
section
variable {p m:Nat} {R:List UInt8→FR} {ka:Option Addr} {kb ko kc:Nat} {D:DV}
set_option maxRecDepth 100000 in
set_option maxHeartbeats 2000000 in
theorem read_any (w:World) (h:Dk w p m R ka kb ko kc D none) (s:ByteArray) (hs:s.size≤maxLen) (off q:Int) (ho1 : -9223372036854775808≤off) (ho2:off≤9223372036854775807) (hq1 : -9223372036854775808≤q) (hq2:q≤9223372036854775807) :
  Calls Tryz.prog 152 #[.pointer (some ⟨p,0,none⟩),.string s,.int .i64 off,.int .i64 q] w fun e w'=>e = .returned (.tuple #[.string ⟨(rdD D s.data.toList off q).1.toArray⟩,.int .i64 (rdD D s.data.toList off q).2])∧Below w.heap.size w w':=by
 obtain ⟨c0,c1,c2,c3,c4,c5,c6⟩:=h.cells
 obtain ⟨r,hl,hr⟩:=h.look s hs
 have hl1:=hl w rfl
 obtain ⟨hfil,_⟩:=h.file hr
 have hb1:=hfil.b1
 have hnow:=hfil.now
 have hfld:=field_F
 obtain ⟨f0,hf0⟩ : ∃ f0,fget D.L s.data.toList=f0:=⟨_,rfl⟩
 rw [hf0] at hl1 hb1 hnow
 obtain ⟨n,hn⟩ : ∃ n,f0.now.length=n:=⟨_,rfl⟩
 obtain ⟨n2,hn2⟩ : ∃ n,f0.syn.length=n:=⟨_,rfl⟩
 simp only [fval,fv,hn,hn2] at hl1
 have hrd:rdD D s.data.toList off q=if D.down then ([],170) else if off<0∨q<0∨(n:Int)<off∨(n:Int) - off<q then ([],173) else ((f0.now.drop off.toNat).take q.toNat,0):=by
  simp only [rdD,hf0,hn]
 obtain ⟨ra,rg,rc,rb,rh,rd,rs⟩:=r
 simp only at hl1 hnow
 obtain ⟨w1,hw1⟩ : ∃ W,w.alloc (.cells #[.slice ra n rc,.slice rb n2 rd,.int .i64 (rs:Int)] 129)=W:=⟨_,rfl⟩
 have hb:Below w.heap.size w w1:=by rw [← hw1]; exact bal (Below.refl _ _) _
 have x3:w1.heap[w.heap.size]? = some (.cells #[.slice ra n rc,.slice rb n2 rd,.int .i64 (rs:Int)] 129 (0,0)):=by rw [← hw1]; exact new1 w _
 have HW:Hid (w.alloc (.cells #[.slice ra n rc,.slice rb n2 rd,.int .i64 (rs:Int)] 129)=w1):=hw1
 have HB:=hide hb
 have d6:=(h.next hb).cells.2.2.2.2.2.2
 have HN:Hid (Rw w1 ra rg rc f0.now∧f0.now.length=n):=⟨hnow.next hb (Nat.le_refl _),hn⟩
 have hle:=hnow.le
 rw [hn] at hle hb1
 obtain ⟨b0,b1,b2⟩:=three_at x3
 clear hw1 hb h hl hr hfil hnow hf0 hn hn2 x3 c0 c2 c3 c4 c5 c6
 by_cases hd:D.down=true
 ·rw [if_pos hd] at hrd
  rw [hd] at d6
  have HE:=hide hrd
  clear hrd hd
  go_enter Tryz.func152,Tryz.ntmps152
  go_upto_region 2 with (fail)
  rw [HW.out]
  go_wp2
  go_ret2
  rw [HE.out]
  exact ⟨rfl,HB.out⟩
 rw [if_neg hd] at hrd
 have hd2:D.down=false:=by simpa using hd
 rw [hd2] at d6
 clear hd hd2
 go_enter Tryz.func152,Tryz.ntmps152
 go_upto_region 2 with (fail)
 rw [HW.out]
 by_cases hc:off<0∨q<0∨(n:Int)<off∨(n:Int) - off<q
 ·rw [if_pos hc] at hrd
  have HE:=hide hrd
  clear hrd
  by_cases k1:off<0
  ·clear hc
   go_wp2
   go_ret2
   rw [HE.out]
   exact ⟨rfl,HB.out⟩
  by_cases k2:q<0
  ·clear hc
   go_wp2
   go_ret2
   rw [HE.out]
   exact ⟨rfl,HB.out⟩
  by_cases k3:(n:Int)<off
  ·clear hc
   go_wp2
   go_ret2
   rw [HE.out]
   exact ⟨rfl,HB.out⟩
  have k4:(n:Int) - off<q:=by omega
  have e1:IntKind.i64.wrap ((n:Int) - off)=(n:Int) - off:=by rw [IntKind.wrap_i64]; omega
  clear hc
  go_wp2
  go_ret2
  rw [HE.out]
  exact ⟨rfl,HB.out⟩
 rw [if_neg hc] at hrd
 have k1 : ¬ off<0:=fun e=>hc (.inl e)
 have k2 : ¬ q<0:=fun e=>hc (.inr (.inl e))
 have k3 : ¬ (n:Int)<off:=fun e=>hc (.inr (.inr (.inl e)))
 have k4 : ¬ (n:Int) - off<q:=fun e=>hc (.inr (.inr (.inr e)))
 obtain ⟨k,rfl⟩ : ∃ k:Nat,off=(k:Int):=⟨off.toNat,by omega⟩
 obtain ⟨j,rfl⟩ : ∃ k:Nat,q=(k:Int):=⟨q.toNat,by omega⟩
 have e1:IntKind.i64.wrap ((n:Int) - (k:Int))=(n:Int) - (k:Int):=by rw [IntKind.wrap_i64]; omega
 have e2:IntKind.i64.wrap ((k:Int)+(j:Int))=((k+j:Nat):Int):=by rw [IntKind.wrap_i64]; omega
 have HE:=hide hrd
 clear hrd hc
 by_cases hrc:rc=k
 ·have j0:j=0:=by omega
  have hcv : ∀ x,(convert 127 9 (.slice ra j x)).run Tryz.prog w1 = .ok (.string ⟨((f0.now.drop k).take j).toArray⟩) w1:=fun x=>HN.out.1.conv (by rw [HN.out.2]; omega) (.inl rfl) (fun _ => .inr j0) x
  clear j0
  go_wp2
  go_ret2
  rw [HE.out]
  exact ⟨rfl,HB.out⟩
 ·have hcv : ∀ x,(convert 127 9 (.slice (ra.map (·.add k)) j x)).run Tryz.prog w1 = .ok (.string ⟨((f0.now.drop k).take j).toArray⟩) w1:=fun x=>HN.out.1.conv (by rw [HN.out.2]; omega) (.inr rfl) (fun q=>((sub_ok HN.out.1 (by rw [HN.out.2]; omega) (if_neg hrc) HN.out.2).2 q).imp id (fun e=>by omega)) x
  go_wp2
  go_ret2
  rw [HE.out]
  exact ⟨rfl,HB.out⟩
end
def newD (room:Nat):DV:=⟨room,[],0,0,0,[],false⟩
def Dsk (w:World) (p:Nat) (S:Nat→Prop) (D:DV):Prop := ∃ m R ka kb ko kc,Dk w p m R ka kb ko kc D none ∧ ∀ x,Foot p m R kb D x↔S x
set_option maxRecDepth 100000 in
theorem new_any (w:World) (room:Int) (n:Nat) (hn:n=room.toNat) (h2:room≤9223372036854775807) :
  Calls Tryz.prog 10 #[.int .i64 room] w fun e w' => ∃ p S,e = .returned (.pointer (some ⟨p,0,none⟩))∧Dsk w' p S (newD n)∧(∀ x,S x→w.heap.size≤x)∧Below w.heap.size w w':=by
 have hmm := @run_makeMap Tryz.prog
 have e1:(if room<0 then 0 else room)=(n:Int):=by split <;> omega
 go_enter Tryz.func10,Tryz.ntmps10
 go_wp2
 go_ret
 have hm:max room 0=(n:Int):=by omega
 rw [hm]
 have k0:=new0 w (.map #[] 0) (.cells #[.int .i64 (n:Int),.map (some w.heap.size),.int .i64 0,.int .i64 0,.int .i64 0,.slice none 0 0,.bool false] 98)
 have k1:=new2 w (.map #[] 0) (.cells #[.int .i64 (n:Int),.map (some w.heap.size),.int .i64 0,.int .i64 0,.int .i64 0,.slice none 0 0,.bool false] 98)
 have hM:=(mv_new w).same (k0.trans (new1 w (.map #[] 0)).symm)
 refine ⟨w.heap.size+1,Foot (w.heap.size+1) w.heap.size (fun _=>fr0) 0 (newD n),rfl,⟨w.heap.size,fun _=>fr0,none,0,0,0,⟨k1,hM,?_,?_,?_,?_,?_,?_,?_,?_,?_,?_,?_,?_⟩,fun x=>Iff.rfl⟩,fun x hx => ?_,bal (bal (Below.refl _ _) _) _⟩
 ·exact ord_nil
 ·intro s hs; simp [keys,newD] at hs
 ·intro s hs; simp [keys,newD] at hs
 ·intro s hs; simp [keys,newD] at hs
 ·intro s hs; simp [keys,newD] at hs
 ·simp [newD]
 ·exact rdl_nil _ _ _ _
 ·intro h0; simp [newD] at h0
 ·simp [newD]
 ·show n≤_; omega
 ·simp [newD]
 ·exact .inl rfl
 ·rcases hx with rfl | rfl | ⟨s,hs,_⟩ | ⟨h0,_⟩
  ·omega
  ·omega
  ·simp [keys,newD] at hs
  ·simp [newD] at h0
def Mvd (w w':World) (p:Nat) (S:Nat→Prop) (D':DV):Prop := ∃ S',Dsk w' p S' D'∧(∀ x,S' x→S x∨w.heap.size≤x)∧Upo S w w'
section
variable {w W:World} {p:Nat} {S:Nat→Prop} {D:DV}
theorem Dsk.same (h:Dsk w p S D) (hb : ∀ x,S x→W.heap[x]? = w.heap[x]?):Dsk W p S D:=by
 obtain ⟨m,R,ka,kb,ko,kc,h1,h2⟩:=h
 exact ⟨m,R,ka,kb,ko,kc,h1.same (fun x hx=>hb x ((h2 x).1 hx)),h2⟩
theorem Dsk.lt (h:Dsk w p S D) {x:Nat} (hx:S x):x<w.heap.size:=by
 obtain ⟨m,R,ka,kb,ko,kc,h1,h2⟩:=h
 exact h1.lt ((h2 x).2 hx)
theorem Dsk.next (h:Dsk w p S D) (hb:Below w.heap.size w W):Dsk W p S D:=h.same fun x hx=>hb.block x (h.lt hx)
theorem Dsk.keep {T:Nat→Prop} (h:Dsk w p S D) (hu:Upo T w W) (hd : ∀ x,S x → ¬ T x):Dsk W p S D:=h.same fun x hx=>hu.block x (h.lt hx) (hd x hx)
theorem Dsk.mvd {m:Nat} {R:List UInt8→FR} {kb ko:Nat} {D':DV} (hi : ∀ x,Foot p m R kb D x↔S x) (h:Left w W p m R kb ko D D'):Mvd w W p S D':=by
 obtain ⟨m',R',ka',kc',h1,h2,h3⟩:=h
 exact ⟨Foot p m' R' kb D',⟨m',R',ka',kb,ko,kc',h1,fun _=>Iff.rfl⟩,fun x hx=>(h2 x hx).imp (hi x).1 id,h3.mono (fun x _ q=>(hi x).1 q)⟩
theorem Dsk.write (h:Dsk w p S D) (s t:ByteArray) (hs:s.size≤maxLen) (off:Int) (ho1 : -9223372036854775808≤off) (ho2:off≤9223372036854775807) (ht:t.size≤140737488355328) (hac:D.acts+1≤4611686018427387904) (hcnt:D.L.length<1099511627776) (hfr:D.down=false→D.free+(fget D.L s.data.toList).now.length≤9223372036854775807) :
  Calls Tryz.prog 268 #[.pointer (some ⟨p,0,none⟩),.string s,.int .i64 off,.string t] w fun e w'=>e = .returned (.int .i64 (wrD D s.data.toList off t.data.toList).2)∧Mvd w w' p S (wrD D s.data.toList off t.data.toList).1:=by
 obtain ⟨m,R,ka,kb,ko,kc,h1,h2⟩:=h
 exact (write_any w h1 s t hs off ho1 ho2 ht hac hcnt hfr).mono fun e w' q=>⟨q.1,Dsk.mvd h2 q.2⟩
theorem Dsk.cut (h:Dsk w p S D) (s:ByteArray) (hs:s.size≤maxLen) (off:Int) (ho1 : -9223372036854775808≤off) (ho2:off≤9223372036854775807) (hac:D.acts+1≤4611686018427387904) (hcnt:D.L.length<1099511627776) (hfr:D.down=false→D.free+(fget D.L s.data.toList).now.length≤9223372036854775807) :
  Calls Tryz.prog 156 #[.pointer (some ⟨p,0,none⟩),.string s,.int .i64 off] w fun e w'=>e = .returned (.int .i64 (cutD D s.data.toList off).2)∧Mvd w w' p S (cutD D s.data.toList off).1:=by
 obtain ⟨m,R,ka,kb,ko,kc,h1,h2⟩:=h
 exact (cut_any w h1 s hs off ho1 ho2 hac hcnt hfr).mono fun e w' q=>⟨q.1,Dsk.mvd h2 q.2⟩
theorem Dsk.sync (h:Dsk w p S D) (s:ByteArray) (hs:s.size≤maxLen) (hac:D.acts+1≤4611686018427387904) (hcnt:D.L.length<1099511627776) (hfr:D.down=false→D.free+(fget D.L s.data.toList).now.length≤9223372036854775807) :
  Calls Tryz.prog 157 #[.pointer (some ⟨p,0,none⟩),.string s] w fun e w'=>e = .returned (.int .i64 (synD D s.data.toList).2)∧Mvd w w' p S (synD D s.data.toList).1:=by
 obtain ⟨m,R,ka,kb,ko,kc,h1,h2⟩:=h
 exact (sync_any w h1 s hs hac hcnt hfr).mono fun e w' q=>⟨q.1,Dsk.mvd h2 q.2⟩
theorem Dsk.read (h:Dsk w p S D) (s:ByteArray) (hs:s.size≤maxLen) (off q:Int) (ho1 : -9223372036854775808≤off) (ho2:off≤9223372036854775807) (hq1 : -9223372036854775808≤q) (hq2:q≤9223372036854775807) :
  Calls Tryz.prog 152 #[.pointer (some ⟨p,0,none⟩),.string s,.int .i64 off,.int .i64 q] w fun e w'=>e = .returned (.tuple #[.string ⟨(rdD D s.data.toList off q).1.toArray⟩,.int .i64 (rdD D s.data.toList off q).2])∧Below w.heap.size w w':=by
 obtain ⟨m,R,ka,kb,ko,kc,h1,h2⟩:=h
 exact read_any w h1 s hs off q ho1 ho2 hq1 hq2
def sizD (D:DV) (s:List UInt8):Nat:=if D.down then 0 else (fget D.L s).now.length
theorem Dsk.size (h:Dsk w p S D) (s:ByteArray) (hs:s.size≤maxLen):Calls Tryz.prog 151 #[.pointer (some ⟨p,0,none⟩),.string s] w fun e w'=>e = .returned (.int .i64 (sizD D s.data.toList:Int))∧w'=w:=by
 obtain ⟨m,R,ka,kb,ko,kc,h1,h2⟩:=h
 exact size_any w h1 s hs _ rfl
theorem Dsk.down (h:Dsk w p S D):Calls Tryz.prog 15 #[.pointer (some ⟨p,0,none⟩)] w fun e w'=>e = .returned (.bool D.down)∧w'=w:=by
 obtain ⟨m,R,ka,kb,ko,kc,h1,h2⟩:=h
 exact down_any w h1
theorem Dsk.after (h:Dsk w p S D) (ao:Option Addr) (b o c:Nat) (ks:List Bool) (hk:RdL w ao b o ks) (hkl:ks.length≤9223372036854775807) :
  Calls Tryz.prog 17 #[.pointer (some ⟨p,0,none⟩),.slice ao ks.length c] w fun e w' => ∃ v,e = .returned v∧OwnF w' w.heap.size v (aft ks D.L 0)∧Below w.heap.size w w':=by
 obtain ⟨m,R,ka,kb,ko,kc,h1,h2⟩:=h
 exact after_any w h1 ao b o c ks hk hkl
end
end Go.Proofs.YtoblgjledefdbaaGreatDoor.St
