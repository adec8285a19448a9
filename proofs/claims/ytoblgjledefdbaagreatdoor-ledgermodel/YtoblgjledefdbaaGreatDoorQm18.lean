/- Own work. -/
import Derived.Test.YtoblgjledefdbaaGreatDoorQm17
set_option maxRecDepth 100000
set_option maxHeartbeats 2000000
namespace Go.Proofs.YtoblgjledefdbaaGreatDoor
open Go.RowKit
open Go.Proofs.Tryz
namespace St
theorem YO{w:World}{i:Nat}(o:Obj)(h:i<w.heap.size):(w.alloc o).heap[i]? = w.heap[i]? := (MapKept.heap_alloc w o).2 i h
theorem Qa7{w:World}{n:Nat}(o:Obj)(h:w.heap.size=n):(w.alloc o).heap[n]? = some o:=by rw[<-h];exact Yq w o
theorem Y3(w:World)(o:Obj):(w.alloc o).heap.size=w.heap.size+1:=by simp
theorem Qlx(w:World)(o1 o2 o3 o4:Obj):((((w.alloc o1).alloc o2).alloc o3).alloc o4).heap[w.heap.size]? = some o1∧((((w.alloc o1).alloc o2).alloc o3).alloc o4).heap[w.heap.size+1]? = some o2∧((((w.alloc o1).alloc o2).alloc o3).alloc o4).heap[w.heap.size+2]? = some o3∧((((w.alloc o1).alloc o2).alloc o3).alloc o4).heap[w.heap.size+3]? = some o4:=by
 have s1:=Y3 w o1;have s2:=Y3 (w.alloc o1) o2;have s3:=Y3 ((w.alloc o1).alloc o2) o3;refine⟨?_,?_,?_,Qa7 _ (by omega)⟩
 ·rw[YO _ (by omega),YO _ (by omega),YO _ (by omega)];exact Yq w o1
 ·rw[YO _ (by omega),YO _ (by omega)];exact Qa7 _ (by omega)
 ·rw[YO _ (by omega)];exact Qa7 _ (by omega)
def Left(w w':World)(p m:Nat)(R:List UInt8->FR)(kb ko:Nat)(D D':DV):Prop :=
 ∃m' R' ka' kc',Dk w' p m' R' ka' kb ko kc' D' none∧(∀x,YN p m' R' kb D' x->YN p m R kb D x∨w.heap.size<=x)∧Upo (YN p m R kb D) w w'
def wrD(D:DV)(s:List UInt8)(off:Int)(t:List UInt8):DV×Int :=
 if D.down then (D,170) else
 if off<0∨((Qe D.L s).now.length:Int)<off∨268435456 - off<(t.length:Int) then (D,173) else
 if (D.free:Int)<off+(t.length:Int) - ((Qe D.L s).now.length:Int) then (D,172) else
 Ui D s ⟨wr (Qe D.L s).now off.toNat t,(Qe D.L s).syn⟩
theorem Left.drew{w w':World}{p m:Nat}{R:List UInt8->FR}{kb ko:Nat}{D D':DV}(h:Left w w' p m R kb ko D D'):Left w w'.drew p m R kb ko D D':=by
 obtain⟨m',R',xA,xB,h1,h2,h3⟩:=h;exact⟨m',R',xA,xB,h1.same (fun _ _=>rfl),h2,h3.drew⟩
section
variable {p m:Nat} {R:List UInt8->FR} {ka:OA} {kb ko kc:Nat} {D:DV}
theorem Qar{w w':World}(h:Dk w p m R ka kb ko kc D none)(hb:Below w.heap.size w w'):Left w w' p m R kb ko D D:=⟨m,R,ka,kc,h.next hb,fun _ hx => .inl hx,Upo.of hb⟩
theorem Qaq{w w1 w':World}{D':DV}(hb:Below w.heap.size w w1)(hl : ∃m' R' ka' kc',Dk w' p m' R' ka' kb ko kc' D' none∧(∀x,YN p m' R' kb D' x->YN p m R kb D x∨w1.heap.size<=x)∧Upo (YN p m R kb D) w1 w'):Left w w' p m R kb ko D D':=by
 obtain⟨m',R',ka',kc',h1,h2,h3⟩:=hl;exact⟨m',R',ka',kc',h1,fun x hx=>(h2 x hx).imp id (fun q=>Lu hb.size q),(Upo.of hb).trans h3 (fun _ _ q=>q)⟩
theorem QaG(w:World)(h:Dk w p m R ka kb ko kc D none)(s t:BA)(hs:s.size<=maxLen)(off:Int)(ho1 : -9223372036854775808<=off)(ho2:off<=9223372036854775807)(ht:t.size<=140737488355328)(hac:D.acts+1<=4611686018427387904)(hcnt:D.L.length<1099511627776)(hfr:D.down=false->D.free+(Qe D.L s.data.toList).now.length<=9223372036854775807) :
  Calls prog 268 #[.pointer (some ⟨p,0,none⟩),.string s,.int .i64 off,.string t] w fun e w'=>e = .returned (.int .i64 (wrD D s.data.toList off t.data.toList).2)∧Left w w' p m R kb ko D (wrD D s.data.toList off t.data.toList).1:=by
 obtain⟨r,hl,hr⟩:=h.look s hs;obtain⟨xG,_⟩:=h.file hr;have xT:=xG.b1;obtain⟨f0,xD⟩:=Ze (Qe D.L s.data.toList);rw[xD] at hl xT hfr;obtain⟨n,hn⟩:=Ze f0.now.length;obtain⟨n2,xE⟩:=Ze f0.syn.length;simp only[Y6,fv,hn,xE] at hl;have xA:wrD D s.data.toList off t.data.toList=if D.down then (D,170) else if off<0∨(n:Int)<off∨268435456 - off<(t.size:Int) then (D,173) else if (D.free:Int)<off+(t.size:Int) - (n:Int) then (D,172) else Ui D s.data.toList ⟨wr f0.now off.toNat t.data.toList,f0.syn⟩:=by
  simp only[wrD,xD,hn,Qb]
 obtain⟨w4,xH⟩:=Ze ((((w.alloc (.cells #[.pointer (some ⟨p,0,none⟩)] 25)).alloc (.cells #[.string s] 9)).alloc (.cells #[.int .i64 off] 3)).alloc (.cells #[.string t] 9));have xC:Below w.heap.size w w4:=by rw[<-xH];exact bal (bal (bal (bal (Lb _ _) _) _) _) _
 have xI:w4.heap.size=w.heap.size+4:=by rw[<-xH];simp
 have xU:=Qlx w (.cells #[.pointer (some ⟨p,0,none⟩)] 25) (.cells #[.string s] 9) (.cells #[.int .i64 off] 3) (.cells #[.string t] 9);rw[xH] at xU;obtain⟨n1,xP,n3,n4⟩:=xU;have yC:=r;obtain⟨ra,rg,rc,rb,rh,rd,rs⟩:=r;simp only at hl;obtain⟨w5,xO⟩:=Ze (w4.alloc (.cells #[.slice ra n rc,.slice rb n2 rd,.int .i64 (rs:Int)] 129));have h4:=h.next xC;obtain⟨c0,c1,c2,c3,c4,c5,c6⟩:=h4.cells;have a1:=Bx1.at n1;have a2:=Bx1.at xP;have xY:=hl w4.drew (xC.block m h.mp.lt);have xZ:=hl (w4.alloc (.cells #[.slice none 0 0,.slice none 0 0,.int .i64 0] 129)).drew ((YO _ h4.mp.lt).trans (xC.block m h.mp.lt));have xB:Below w4.heap.size w4 w5:=by rw[<-xO];exact bal (Lb _ _) _
 have HG:Hid (Dk w p m R ka kb ko kc D none∧Below w.heap.size w w4∧Below w4.heap.size w4 w5∧w4.heap.size=w.heap.size+4∧n<=268435456∧(D.down=false->D.free+n<=9223372036854775807)∧t.size<=140737488355328∧D.acts+1<=4611686018427387904∧D.L.length<1099511627776∧Qe D.L s.data.toList=f0∧f0.now.length=n∧f0.syn.length=n2):=⟨h,xC,xB,xI,by omega,fun q=>by have:=hfr q;omega,ht,hac,hcnt,xD,hn,xE⟩
 have xR:=Qd xA;have yB : ¬(p=w4.heap.size):=by have:=h.lt (.inl rfl);omega
 have a0 : ∀i j v,i<w4.heap.size->w4.cell? ⟨i,j,none⟩=some v->(w4.alloc (.cells #[.slice none 0 0,.slice none 0 0,.int .i64 0] 129)).cell? ⟨i,j,none⟩=some v:=fun i j v hi hv=>by
  unfold World.cell? at hv ⊢;rw[YO _ hi];exact hv
 have a3:=a0 _ _ _ (by omega) a1
 have a4:=a0 _ _ _ (by omega) a2
 have a5:=a0 _ _ _ (h4.lt (.inl rfl)) c1;clear a0;have xQ:Hid ((((w.alloc (.cells #[.pointer (some ⟨p,0,none⟩)] 25)).alloc (.cells #[.string s] 9)).alloc (.cells #[.int .i64 off] 3)).alloc (.cells #[.string t] 9)=w4):=xH;have xM:Hid (w4.alloc (.cells #[.slice ra n rc,.slice rb n2 rd,.int .i64 (rs:Int)] 129)=w5):=xO;have HN:Hid (Bx1 w4 w.heap.size (.pointer (some ⟨p,0,none⟩)) 25∧Bx1 w4 (w.heap.size+1) (.string s) 9∧Bx1 w4 (w.heap.size+2) (.int .i64 off) 3∧Bx1 w4 (w.heap.size+3) (.string t) 9∧((s.data.toList∈Qh D.L∧(⟨ra,rg,rc,rb,rh,rd,rs⟩:FR)=R s.data.toList)∨(s.data.toList ∉ Qh D.L∧(⟨ra,rg,rc,rb,rh,rd,rs⟩:FR)=fr0∧Qe D.L s.data.toList=fz))):=⟨n1,xP,n3,n4,hr⟩;clear h xC xI xB hn xE xD hfr hac hcnt ht xT xG xA hr n1 xP n3 n4 h4 c0 c2 c3 c4 c5 c6 xH xO hl yC
 go_enter func268,ntmps268
 go_upto_region 1 with (fail)
 rw[show(w.heap.size+1+1:Nat)=w.heap.size+2 from rfl,xQ.out]
 go_region
 all_goals
  rw[xM.out];obtain⟨w6,xK⟩:=Ze w5.drew;rw[xK];obtain⟨h,xC,xB,xI,yA,hfr,ht,hac,hcnt,xD,hn,xE⟩:=HG.out;obtain⟨x1,x2,x4,x5,hr⟩:=HN.out;have xF:Below w4.heap.size w4 w6:=by rw[<-xK];exact⟨xB.os,xB.tape,xB.output,xB.size,xB.block⟩
  have x3:w6.heap[w4.heap.size]? = some (.cells #[.slice ra n rc,.slice rb n2 rd,.int .i64 (rs:Int)] 129 (0,0)):=by rw[<-xK,<-xM.out];exact Yq w4 _
  have y1:Bx1 w6 w.heap.size _ _:=(xF.block _ (by omega)).trans x1
  have y2:Bx1 w6 (w.heap.size+1) _ _:=(xF.block _ (by omega)).trans x2
  have y4:Bx1 w6 (w.heap.size+2) _ _:=(xF.block _ (by omega)).trans x4
  have y5:Bx1 w6 (w.heap.size+3) _ _:=(xF.block _ (by omega)).trans x5
  have xJ:=Qa xC xF;have h6:=h.next xJ;obtain⟨c0,xW,c2,c3,c4,c5,c6⟩:=h6.cells;obtain⟨b0,b1,b2⟩:=Qs x3;have z1:=y1.at;have z2:=y2.at;have z4:=y4.at;have z5:=y5.at;have xA:=xR.out;have HS:Hid (Left w w6 p m R kb ko D D):=Qar h xJ;have HQ:Hid (Dk w6 p m R ka kb ko kc D none∧Below w.heap.size w w6∧Bx1 w6 w.heap.size (.pointer (some ⟨p,0,none⟩)) 25∧Bx1 w6 (w.heap.size+1) (.string s) 9∧Bx1 w6 (w.heap.size+2) (.int .i64 off) 3∧Bx1 w6 (w.heap.size+3) (.string t) 9∧w6.heap[w4.heap.size]? = some (.cells #[.slice ra n rc,.slice rb n2 rd,.int .i64 (rs:Int)] 129 (0,0))):=⟨h6,xJ,y1,y2,y4,y5,x3⟩;clear xK h xC xB xI xD hn xE x1 x2 x4 x5 hr xF x3 y1 y2 y4 y5 xJ h6 xW c2 c3 c4 c5 b1 b2 a1 a2 a3 a4 a5 c1 xY xZ yB xM xQ xR hac hcnt
  by_cases hd:D.down=true
  ·rw[Lk hd] at xA;have HE:=Qd xA;clear xA;rw[hd] at c6;go_wp2
   go_ret
   rw[HE.out];exact⟨rfl,HS.out⟩
  rw[Le hd] at xA;have xN:D.down=false:=by simpa using hd
  rw[xN] at c6;have xV:=Qd xN;clear hd xN
  by_cases hc:off<0∨(n:Int)<off∨268435456 - off<(t.size:Int)
  ·rw[Lk hc] at xA;have HE:=Qd xA;clear xA
   by_cases k1:off<0
   ·clear hc;go_wp2
    go_ret
    rw[HE.out];exact⟨rfl,HS.out⟩
   by_cases k2:(n:Int)<off
   ·clear hc;go_wp2
    go_ret
    rw[HE.out];exact⟨rfl,HS.out⟩
   have k3:268435456 - off<(t.size:Int):=by omega
   have e1:IntKind.i64.wrap (268435456 - off)=268435456 - off:=by rw[Lr];omega
   clear hc;go_wp2
   go_ret
   rw[HE.out];exact⟨rfl,HS.out⟩
  rw[Le hc] at xA;have k1 : ¬off<0:=fun e=>hc (.inl e)
  have k2 : ¬(n:Int)<off:=fun e=>hc (.inr (.inl e))
  have k3 : ¬268435456 - off<(t.size:Int):=fun e=>hc (.inr (.inr e))
  obtain⟨k,rfl⟩ : ∃k:Nat,off=(k:Int):=⟨off.toNat,by omega⟩
  have e1:IntKind.i64.wrap (268435456 - (k:Int))=268435456 - (k:Int):=by rw[Lr];omega
  have e2:IntKind.i64.wrap ((k:Int)+(t.size:Int))=(k:Int)+(t.size:Int):=by rw[Lr];omega
  have e3:IntKind.i64.wrap ((k:Int)+(t.size:Int) - (n:Int))=(k:Int)+(t.size:Int) - (n:Int):=by rw[Lr];omega
  go_upto_region 6 with (fail)
  by_cases hm:(D.free:Int)<(k:Int)+(t.size:Int) - (n:Int)
  ·rw[Lk hm] at xA;have HE:=Qd xA;clear xA
   go_region
   go_wp2
   go_ret
   rw[HE.out];exact⟨rfl,(HS.out.drew)⟩
  rw[Le hm] at xA;have HE:=Qd xA;have xL:Hid (Calls prog 246 #[.pointer (some ⟨p,0,none⟩),.func (.func 343) #[] #[.pointer (some ⟨w.heap.size,0,none⟩),.pointer (some ⟨w.heap.size+1,0,none⟩),.pointer (some ⟨w4.heap.size,0,none⟩),.pointer (some ⟨w.heap.size+2,0,none⟩),.pointer (some ⟨w.heap.size+3,0,none⟩)]] w6.drew fun e w'=>e = .returned (.int .i64 (wrD D s.data.toList (k:Int) t.data.toList).2)∧Left w w' p m R kb ko D (wrD D s.data.toList (k:Int) t.data.toList).1):=by
   obtain⟨h,xC,xB,xI,yA,hfr,ht,hac,hcnt,xD,hn,xE⟩:=HG.out;obtain⟨x1,x2,x4,x5,hr⟩:=HN.out;have hfr:=hfr xV.out;obtain⟨q1,q2,q3,q4,q5,q6,q7⟩:=HQ.out;have hf:Qe D.L s.data.toList=f0:=xD;have xX:Below w.heap.size w w6.drew:=⟨q2.os,q2.tape,q2.output,q2.size,q2.block⟩;have xS:Dk w6.drew p m R ka kb ko kc D none:=q1.same (fun _ _=>rfl)
   have HD:=QjE w6.drew xS s t hs k (by rw[hf,hn];omega) (by omega) ⟨ra,rg,rc,rb,rh,rd,rs⟩ hr hcnt (by rw[hf,hn];omega) (by rw[hf,hn];omega) w.heap.size (w.heap.size+1) w4.heap.size (w.heap.size+2) (w.heap.size+3) q3 q4 (by rw[hf,hn,xE];exact q7) q5 q6
   have HZ:=Qc2 w6.drew xS hac _ _ _ _ HD (.inl rfl);rw[hf] at HZ;refine HZ.mono ?_
   rintro e w' ⟨m',R',yD,yE,rfl,hl⟩;rw[HE.out,LM];exact⟨rfl,Qaq xX ⟨m',R',yD,yE,hl⟩⟩
  clear HE xA HS HQ HG HN
  go_region
  go_wp2_with (go_at_call 246;(with_reducible refine xL.out.mono ?_);rintro e w7 ⟨rfl,hl⟩)
  go_ret
  exact⟨rfl,hl⟩
end
theorem Qja(w:World)(o1 o2 o3:Obj):(((w.alloc o1).alloc o2).alloc o3).heap[w.heap.size]? = some o1∧(((w.alloc o1).alloc o2).alloc o3).heap[w.heap.size+1]? = some o2∧(((w.alloc o1).alloc o2).alloc o3).heap[w.heap.size+2]? = some o3:=by
 have s1:=Y3 w o1;have s2:=Y3 (w.alloc o1) o2;refine⟨?_,?_,Qa7 _ (by omega)⟩
 ·rw[YO _ (by omega),YO _ (by omega)];exact Yq w o1
 ·rw[YO _ (by omega)];exact Qa7 _ (by omega)
def Jg(D:DV)(s:List UInt8)(off:Int):DV×Int :=
 if D.down then (D,170) else
 if off<0∨((Qe D.L s).now.length:Int)<off then (D,173) else
 Ui D s ⟨(Qe D.L s).now.take off.toNat,(Qe D.L s).syn⟩
def Q1(D:DV)(s:List UInt8):DV×Int:=if D.down then (D,170) else Ui D s ⟨(Qe D.L s).now,(Qe D.L s).now⟩
section
variable {p m:Nat} {R:List UInt8->FR} {ka:OA} {kb ko kc:Nat} {D:DV}
theorem QlQ(w:World)(h:Dk w p m R ka kb ko kc D none)(s:BA)(hs:s.size<=maxLen)(off:Int)(ho1 : -9223372036854775808<=off)(ho2:off<=9223372036854775807)(hac:D.acts+1<=4611686018427387904)(hcnt:D.L.length<1099511627776)(hfr:D.down=false->D.free+(Qe D.L s.data.toList).now.length<=9223372036854775807) :
  Calls prog 156 #[.pointer (some ⟨p,0,none⟩),.string s,.int .i64 off] w fun e w'=>e = .returned (.int .i64 (Jg D s.data.toList off).2)∧Left w w' p m R kb ko D (Jg D s.data.toList off).1:=by
 obtain⟨r,hl,hr⟩:=h.look s hs;obtain⟨xG,_⟩:=h.file hr;have xS:=xG.b1;obtain⟨f0,xD⟩:=Ze (Qe D.L s.data.toList);rw[xD] at hl xS hfr;obtain⟨n,hn⟩:=Ze f0.now.length;obtain⟨n2,xE⟩:=Ze f0.syn.length;simp only[Y6,fv,hn,xE] at hl;have xA:Jg D s.data.toList off=if D.down then (D,170) else if off<0∨(n:Int)<off then (D,173) else Ui D s.data.toList ⟨f0.now.take off.toNat,f0.syn⟩:=by
  simp only[Jg,xD,hn]
 obtain⟨w4,xH⟩:=Ze (((w.alloc (.cells #[.pointer (some ⟨p,0,none⟩)] 25)).alloc (.cells #[.string s] 9)).alloc (.cells #[.int .i64 off] 3));have xC:Below w.heap.size w w4:=by rw[<-xH];exact bal (bal (bal (Lb _ _) _) _) _
 have xI:w4.heap.size=w.heap.size+3:=by rw[<-xH];simp
 have xT:=Qja w (.cells #[.pointer (some ⟨p,0,none⟩)] 25) (.cells #[.string s] 9) (.cells #[.int .i64 off] 3);rw[xH] at xT;obtain⟨n1,xP,n3⟩:=xT;have yA:=r;obtain⟨ra,rg,rc,rb,rh,rd,rs⟩:=r;simp only at hl;obtain⟨w5,xO⟩:=Ze (w4.alloc (.cells #[.slice ra n rc,.slice rb n2 rd,.int .i64 (rs:Int)] 129));have h4:=h.next xC;obtain⟨c0,c1,c2,c3,c4,c5,c6⟩:=h4.cells;have a1:=Bx1.at n1;have a2:=Bx1.at xP;have xW:=hl w4.drew (xC.block m h.mp.lt);have xX:=hl (w4.alloc (.cells #[.slice none 0 0,.slice none 0 0,.int .i64 0] 129)).drew ((YO _ h4.mp.lt).trans (xC.block m h.mp.lt));have xB:Below w4.heap.size w4 w5:=by rw[<-xO];exact bal (Lb _ _) _
 have HG:Hid (Dk w p m R ka kb ko kc D none∧Below w.heap.size w w4∧Below w4.heap.size w4 w5∧w4.heap.size=w.heap.size+3∧n<=268435456∧(D.down=false->D.free+n<=9223372036854775807)∧D.acts+1<=4611686018427387904∧D.L.length<1099511627776∧Qe D.L s.data.toList=f0∧f0.now.length=n∧f0.syn.length=n2):=⟨h,xC,xB,xI,by omega,fun q=>by have:=hfr q;omega,hac,hcnt,xD,hn,xE⟩
 have xR:=Qd xA;have xZ : ¬(p=w4.heap.size):=by have:=h.lt (.inl rfl);omega
 have a0 : ∀i j v,i<w4.heap.size->w4.cell? ⟨i,j,none⟩=some v->(w4.alloc (.cells #[.slice none 0 0,.slice none 0 0,.int .i64 0] 129)).cell? ⟨i,j,none⟩=some v:=fun i j v hi hv=>by
  unfold World.cell? at hv ⊢;rw[YO _ hi];exact hv
 have a3:=a0 _ _ _ (by omega) a1
 have a4:=a0 _ _ _ (by omega) a2
 have a5:=a0 _ _ _ (h4.lt (.inl rfl)) c1;clear a0;have xQ:Hid (((w.alloc (.cells #[.pointer (some ⟨p,0,none⟩)] 25)).alloc (.cells #[.string s] 9)).alloc (.cells #[.int .i64 off] 3)=w4):=xH;have xM:Hid (w4.alloc (.cells #[.slice ra n rc,.slice rb n2 rd,.int .i64 (rs:Int)] 129)=w5):=xO;have HN:Hid (Bx1 w4 w.heap.size (.pointer (some ⟨p,0,none⟩)) 25∧Bx1 w4 (w.heap.size+1) (.string s) 9∧Bx1 w4 (w.heap.size+2) (.int .i64 off) 3∧((s.data.toList∈Qh D.L∧(⟨ra,rg,rc,rb,rh,rd,rs⟩:FR)=R s.data.toList)∨(s.data.toList ∉ Qh D.L∧(⟨ra,rg,rc,rb,rh,rd,rs⟩:FR)=fr0∧Qe D.L s.data.toList=fz))):=⟨n1,xP,n3,hr⟩;clear h xC xI xB hn xE xD hfr hac hcnt xS xG xA hr n1 xP n3 h4 c0 c2 c3 c4 c5 c6 xH xO hl yA
 go_enter func156,ntmps156
 go_upto_region 1 with (fail)
 rw[show(w.heap.size+1+1:Nat)=w.heap.size+2 from rfl,xQ.out]
 go_region
 all_goals
  rw[xM.out];obtain⟨w6,xK⟩:=Ze w5.drew;rw[xK];obtain⟨h,xC,xB,xI,xY,hfr,hac,hcnt,xD,hn,xE⟩:=HG.out;obtain⟨x1,x2,x4,hr⟩:=HN.out;have xF:Below w4.heap.size w4 w6:=by rw[<-xK];exact⟨xB.os,xB.tape,xB.output,xB.size,xB.block⟩
  have x3:w6.heap[w4.heap.size]? = some (.cells #[.slice ra n rc,.slice rb n2 rd,.int .i64 (rs:Int)] 129 (0,0)):=by rw[<-xK,<-xM.out];exact Yq w4 _
  have y1:Bx1 w6 w.heap.size _ _:=(xF.block _ (by omega)).trans x1
  have y2:Bx1 w6 (w.heap.size+1) _ _:=(xF.block _ (by omega)).trans x2
  have y4:Bx1 w6 (w.heap.size+2) _ _:=(xF.block _ (by omega)).trans x4
  have xJ:=Qa xC xF;have h6:=h.next xJ;obtain⟨c0,xV,c2,c3,c4,c5,c6⟩:=h6.cells;obtain⟨b0,b1,b2⟩:=Qs x3;have z1:=y1.at;have z2:=y2.at;have z4:=y4.at;have xA:=xR.out;have HS:Hid (Left w w6 p m R kb ko D D):=Qar h xJ;have HQ:Hid (Dk w6 p m R ka kb ko kc D none∧Below w.heap.size w w6∧Bx1 w6 w.heap.size (.pointer (some ⟨p,0,none⟩)) 25∧Bx1 w6 (w.heap.size+1) (.string s) 9∧Bx1 w6 (w.heap.size+2) (.int .i64 off) 3∧w6.heap[w4.heap.size]? = some (.cells #[.slice ra n rc,.slice rb n2 rd,.int .i64 (rs:Int)] 129 (0,0))):=⟨h6,xJ,y1,y2,y4,x3⟩;clear xK h xC xB xI xD hn xE x1 x2 x4 hr xF x3 y1 y2 y4 xJ h6 xV c2 c3 c4 c5 b1 b2 a1 a2 a3 a4 a5 c1 xW xX xZ xM xQ xR hac hcnt
  by_cases hd:D.down=true
  ·rw[Lk hd] at xA;have HE:=Qd xA;clear xA;rw[hd] at c6;go_wp2
   go_ret
   rw[HE.out];exact⟨rfl,HS.out⟩
  rw[Le hd] at xA;have xN:D.down=false:=by simpa using hd
  rw[xN] at c6;have xU:=Qd xN;clear hd xN
  by_cases hc:off<0∨(n:Int)<off
  ·rw[Lk hc] at xA;have HE:=Qd xA;clear xA
   by_cases k1:off<0
   ·clear hc;go_wp2
    go_ret
    rw[HE.out];exact⟨rfl,HS.out⟩
   have k2:(n:Int)<off:=by omega
   clear hc;go_wp2
   go_ret
   rw[HE.out];exact⟨rfl,HS.out⟩
  rw[Le hc] at xA;have k1 : ¬off<0:=fun e=>hc (.inl e)
  have k2 : ¬(n:Int)<off:=fun e=>hc (.inr e)
  obtain⟨k,rfl⟩ : ∃k:Nat,off=(k:Int):=⟨off.toNat,by omega⟩
  have HE:=Qd xA;have xL:Hid (Calls prog 246 #[.pointer (some ⟨p,0,none⟩),.func (.func 247) #[] #[.pointer (some ⟨w.heap.size,0,none⟩),.pointer (some ⟨w.heap.size+1,0,none⟩),.pointer (some ⟨w4.heap.size,0,none⟩),.pointer (some ⟨w.heap.size+2,0,none⟩)]] w6 fun e w'=>e = .returned (.int .i64 (Jg D s.data.toList (k:Int)).2)∧Left w w' p m R kb ko D (Jg D s.data.toList (k:Int)).1):=by
   obtain⟨h,xC,xB,xI,xY,hfr,hac,hcnt,xD,hn,xE⟩:=HG.out;obtain⟨x1,x2,x4,hr⟩:=HN.out;have hfr:=hfr xU.out;obtain⟨q1,q2,q3,q4,q5,q7⟩:=HQ.out;have hf:Qe D.L s.data.toList=f0:=xD;have HD:=Qn1 w6 q1 s hs k (by rw[hf,hn];omega) ⟨ra,rg,rc,rb,rh,rd,rs⟩ hr hcnt (by rw[hf,hn];omega) w.heap.size (w.heap.size+1) w4.heap.size (w.heap.size+2) q3 q4 (by rw[hf,hn,xE];exact q7) q5
   have HZ:=Qc2 w6 q1 hac _ _ _ _ HD (.inr (.inl rfl));rw[hf] at HZ;refine HZ.mono ?_
   rintro e w' ⟨m',R',yB,yC,rfl,hl⟩;rw[HE.out,LM];exact⟨rfl,Qaq q2 ⟨m',R',yB,yC,hl⟩⟩
  clear HE xA HS HQ HG HN
  go_wp2_with (go_at_call 246;(with_reducible refine xL.out.mono ?_);rintro e w7 ⟨rfl,hl⟩)
  go_ret
  exact⟨rfl,hl⟩
theorem Qk9(w:World)(h:Dk w p m R ka kb ko kc D none)(s:BA)(hs:s.size<=maxLen)(hac:D.acts+1<=4611686018427387904)(hcnt:D.L.length<1099511627776)(hfr:D.down=false->D.free+(Qe D.L s.data.toList).now.length<=9223372036854775807) :
  Calls prog 157 #[.pointer (some ⟨p,0,none⟩),.string s] w fun e w'=>e = .returned (.int .i64 (Q1 D s.data.toList).2)∧Left w w' p m R kb ko D (Q1 D s.data.toList).1:=by
 obtain⟨w4,xB⟩:=Ze ((w.alloc (.cells #[.pointer (some ⟨p,0,none⟩)] 25)).alloc (.cells #[.string s] 9));have xG:Hid ((w.alloc (.cells #[.pointer (some ⟨p,0,none⟩)] 25)).alloc (.cells #[.string s] 9)=w4):=xB;have xC:Below w.heap.size w w4:=by rw[<-xB];exact bal (bal (Lb _ _) _) _
 have x1:Bx1 w4 w.heap.size (.pointer (some ⟨p,0,none⟩)) 25:=by rw[<-xB];exact new0 _ _ _
 have x2:Bx1 w4 (w.heap.size+1) (.string s) 9:=by rw[<-xB];exact new2 _ _ _
 have h4:=h.next xC;have HS:Hid (Left w w4 p m R kb ko D D):=Qar h xC;obtain⟨_,_,_,_,_,_,c6⟩:=h4.cells;have z1:=x1.at;have z2:=x2.at;have xF:Q1 D s.data.toList=if D.down then (D,170) else Ui D s.data.toList ⟨(Qe D.L s.data.toList).now,(Qe D.L s.data.toList).now⟩:=rfl
 have xA:Hid (D.down=false->Calls prog 246 #[.pointer (some ⟨p,0,none⟩),.func (.func 250) #[] #[.pointer (some ⟨w.heap.size,0,none⟩),.pointer (some ⟨w.heap.size+1,0,none⟩)]] w4 fun e w'=>e = .returned (.int .i64 (Q1 D s.data.toList).2)∧Left w w' p m R kb ko D (Q1 D s.data.toList).1):=fun hd=>by
  refine(Qc2 w4 h4 hac _ _ _ _ (QlT w4 h4 s hs hcnt (hfr hd) w.heap.size (w.heap.size+1) x1 x2) (.inr (.inr rfl))).mono ?_
  rintro e w' ⟨m',R',xI,xJ,rfl,hl⟩;rw[xF,Le (by simp[hd])]
  exact⟨rfl,Qaq xC ⟨m',R',xI,xJ,hl⟩⟩
 have xD:=Qd xF;clear h xC h4 x1 x2 xB hac hcnt hfr xF
 by_cases hd:D.down=true
 ·rw[hd] at c6;have HE:Hid (Q1 D s.data.toList=(D,170)):=by show _=_;rw[xD.out,Lk hd]
  clear hd xD xA
  go_enter func157,ntmps157
  go_upto_region 1 with (fail)
  rw[xG.out];go_wp2
  go_ret
  rw[HE.out];exact⟨rfl,HS.out⟩
 ·have xE:D.down=false:=by simpa using hd
  have xH:=Qd (xA.out xE);rw[xE] at c6;clear hd xE xD xA HS
  go_enter func157,ntmps157
  go_upto_region 1 with (fail)
  rw[xG.out]
  go_wp2_with (go_at_call 246;(with_reducible refine xH.out.mono ?_);rintro e w7 ⟨rfl,hl⟩)
  go_ret
  exact⟨rfl,hl⟩
end
def rdD(D:DV)(s:List UInt8)(off n:Int):List UInt8×Int :=
 if D.down then ([],170) else
 if off<0∨n<0∨((Qe D.L s).now.length:Int)<off∨((Qe D.L s).now.length:Int) - off<n then ([],173) else
 (((Qe D.L s).now.drop off.toNat).take n.toNat,0)
section
variable {p m:Nat} {R:List UInt8->FR} {ka:OA} {kb ko kc:Nat} {D:DV}
theorem QkM(w:World)(h:Dk w p m R ka kb ko kc D none)(s:BA)(hs:s.size<=maxLen)(off q:Int)(ho1 : -9223372036854775808<=off)(ho2:off<=9223372036854775807)(hq1 : -9223372036854775808<=q)(hq2:q<=9223372036854775807) :
  Calls prog 152 #[.pointer (some ⟨p,0,none⟩),.string s,.int .i64 off,.int .i64 q] w fun e w'=>e = .returned (.tuple #[.string ⟨(rdD D s.data.toList off q).1.toArray⟩,.int .i64 (rdD D s.data.toList off q).2])∧Below w.heap.size w w':=by
 obtain⟨c0,c1,c2,c3,c4,c5,c6⟩:=h.cells;obtain⟨r,hl,hr⟩:=h.look s hs;have xF:=hl w rfl;obtain⟨xC,_⟩:=h.file hr;have xG:=xC.b1;have xA:=xC.now;have xK:=Qdd;obtain⟨f0,xE⟩:=Ze (Qe D.L s.data.toList);rw[xE] at xF xG xA;obtain⟨n,hn⟩:=Ze f0.now.length;obtain⟨n2,xI⟩:=Ze f0.syn.length;simp only[Y6,fv,hn,xI] at xF;have xB:rdD D s.data.toList off q=if D.down then ([],170) else if off<0∨q<0∨(n:Int)<off∨(n:Int) - off<q then ([],173) else ((f0.now.drop off.toNat).take q.toNat,0):=by
  simp only[rdD,xE,hn]
 obtain⟨ra,rg,rc,rb,rh,rd,rs⟩:=r;simp only at xF xA;obtain⟨w1,xD⟩:=Ze (w.alloc (.cells #[.slice ra n rc,.slice rb n2 rd,.int .i64 (rs:Int)] 129));have hb:Below w.heap.size w w1:=by rw[<-xD];exact bal (Lb _ _) _
 have x3:w1.heap[w.heap.size]? = some (.cells #[.slice ra n rc,.slice rb n2 rd,.int .i64 (rs:Int)] 129 (0,0)):=by rw[<-xD];exact Yq w _
 have HW:Hid (w.alloc (.cells #[.slice ra n rc,.slice rb n2 rd,.int .i64 (rs:Int)] 129)=w1):=xD;have HB:=Qd hb;have d6:=(h.next hb).cells.2.2.2.2.2.2;have HN:Hid (Rw w1 ra rg rc f0.now∧f0.now.length=n):=⟨xA.next hb (La _),hn⟩;have xL:=xA.le;rw[hn] at xL xG;obtain⟨b0,b1,b2⟩:=Qs x3;clear xD hb h hl hr xC xA xE hn xI x3 c0 c2 c3 c4 c5 c6
 by_cases hd:D.down=true
 ·rw[Lk hd] at xB;rw[hd] at d6;have HE:=Qd xB;clear xB hd
  go_enter func152,ntmps152
  go_upto_region 2 with (fail)
  rw[HW.out];go_wp2
  go_ret2
  rw[HE.out];exact⟨rfl,HB.out⟩
 rw[Le hd] at xB;have xH:D.down=false:=by simpa using hd
 rw[xH] at d6;clear hd xH
 go_enter func152,ntmps152
 go_upto_region 2 with (fail)
 rw[HW.out]
 by_cases hc:off<0∨q<0∨(n:Int)<off∨(n:Int) - off<q
 ·rw[Lk hc] at xB;have HE:=Qd xB;clear xB
  by_cases k1:off<0
  ·clear hc;go_wp2
   go_ret2
   rw[HE.out];exact⟨rfl,HB.out⟩
  by_cases k2:q<0
  ·clear hc;go_wp2
   go_ret2
   rw[HE.out];exact⟨rfl,HB.out⟩
  by_cases k3:(n:Int)<off
  ·clear hc;go_wp2
   go_ret2
   rw[HE.out];exact⟨rfl,HB.out⟩
  have k4:(n:Int) - off<q:=by omega
  have e1:IntKind.i64.wrap ((n:Int) - off)=(n:Int) - off:=by rw[Lr];omega
  clear hc;go_wp2
  go_ret2
  rw[HE.out];exact⟨rfl,HB.out⟩
 rw[Le hc] at xB;have k1 : ¬off<0:=fun e=>hc (.inl e)
 have k2 : ¬q<0:=fun e=>hc (.inr (.inl e))
 have k3 : ¬(n:Int)<off:=fun e=>hc (.inr (.inr (.inl e)))
 have k4 : ¬(n:Int) - off<q:=fun e=>hc (.inr (.inr (.inr e)))
 obtain⟨k,rfl⟩ : ∃k:Nat,off=(k:Int):=⟨off.toNat,by omega⟩
 obtain⟨j,rfl⟩ : ∃k:Nat,q=(k:Int):=⟨q.toNat,by omega⟩
 have e1:IntKind.i64.wrap ((n:Int) - (k:Int))=(n:Int) - (k:Int):=by rw[Lr];omega
 have e2:IntKind.i64.wrap ((k:Int)+(j:Int))=((k+j:Nat):Int):=by rw[Lr];omega
 have HE:=Qd xB;clear xB hc
 by_cases hrc:rc=k
 ·have j0:j=0:=by omega
  have xJ : ∀x,(convert 127 9 (.slice ra j x)).run prog w1 = .ok (.string ⟨((f0.now.drop k).take j).toArray⟩) w1:=fun x=>HN.out.1.conv (by rw[HN.out.2];omega) (.inl rfl) (fun _ => .inr j0) x
  clear j0;go_wp2
  go_ret2
  rw[HE.out];exact⟨rfl,HB.out⟩
 ·have xJ : ∀x,(convert 127 9 (.slice (ra.map (·.add k)) j x)).run prog w1 = .ok (.string ⟨((f0.now.drop k).take j).toArray⟩) w1:=fun x=>HN.out.1.conv (by rw[HN.out.2];omega) (.inr rfl) (fun q=>((Qd0 HN.out.1 (by rw[HN.out.2];omega) (Le hrc) HN.out.2).2 q).imp id (fun e=>by omega)) x
  go_wp2
  go_ret2
  rw[HE.out];exact⟨rfl,HB.out⟩
end
def YU(room:Nat):DV:=⟨room,[],0,0,0,[],false⟩
def Dsk(w:World)(p:Nat)(S:Nat->Prop)(D:DV):Prop := ∃m R ka kb ko kc,Dk w p m R ka kb ko kc D none ∧ ∀x,YN p m R kb D x↔S x
theorem Qdq(w:World)(room:Int)(n:Nat)(hn:n=room.toNat)(h2:room<=9223372036854775807) :
  Calls prog 10 #[.int .i64 room] w fun e w' => ∃p S,e = .returned (.pointer (some ⟨p,0,none⟩))∧Dsk w' p S (YU n)∧(∀x,S x->w.heap.size<=x)∧Below w.heap.size w w':=by
 have xA := @run_makeMap prog;have e1:(if room<0 then 0 else room)=(n:Int):=by split <;> omega
 go_enter func10,ntmps10;go_wp2
 go_ret
 have hm:max room 0=(n:Int):=by omega
 rw[hm];have k0:=new0 w (.map #[] 0) (.cells #[.int .i64 (n:Int),.map (some w.heap.size),.int .i64 0,.int .i64 0,.int .i64 0,.slice none 0 0,.bool false] 98);have k1:=new2 w (.map #[] 0) (.cells #[.int .i64 (n:Int),.map (some w.heap.size),.int .i64 0,.int .i64 0,.int .i64 0,.slice none 0 0,.bool false] 98);have hM:=(Qkj w).same (k0.trans (Yq w (.map #[] 0)).symm);refine⟨w.heap.size+1,YN (w.heap.size+1) w.heap.size (fun _=>fr0) 0 (YU n),rfl,⟨w.heap.size,fun _=>fr0,none,0,0,0,⟨k1,hM,?_,?_,?_,?_,?_,?_,?_,?_,?_,?_,?_,?_⟩,fun x=>Iff.rfl⟩,fun x hx => ?_,bal (bal (Lb _ _) _) _⟩
 ·exact Ul
 ·intro s hs;simp[Qh,YU] at hs
 ·intro s hs;simp[Qh,YU] at hs
 ·intro s hs;simp[Qh,YU] at hs
 ·intro s hs;simp[Qh,YU] at hs
 ·simp[YU]
 ·exact JU _ _ _ _
 ·intro h0;simp[YU] at h0
 ·simp[YU]
 ·show n<=_;omega
 ·simp[YU]
 ·exact .inl rfl
 ·rcases hx with rfl|rfl|⟨s,hs,_⟩|⟨h0,_⟩
  ·omega
  ·omega
  ·simp[Qh,YU] at hs
  ·simp[YU] at h0
def Mvd(w w':World)(p:Nat)(S:Nat->Prop)(D':DV):Prop := ∃S',Dsk w' p S' D'∧(∀x,S' x->S x∨w.heap.size<=x)∧Upo S w w'
section
variable {w W:World} {p:Nat} {S:Nat->Prop} {D:DV}
theorem Dsk.same(h:Dsk w p S D)(hb : ∀x,S x->W.heap[x]? = w.heap[x]?):Dsk W p S D:=by
 obtain⟨m,R,ka,kb,ko,kc,h1,h2⟩:=h;exact⟨m,R,ka,kb,ko,kc,h1.same (fun x hx=>hb x ((h2 x).1 hx)),h2⟩
theorem Dsk.lt(h:Dsk w p S D){x:Nat}(hx:S x):x<w.heap.size:=by
 obtain⟨m,R,ka,kb,ko,kc,h1,h2⟩:=h;exact h1.lt ((h2 x).2 hx)
theorem Dsk.next(h:Dsk w p S D)(hb:Below w.heap.size w W):Dsk W p S D:=h.same fun x hx=>hb.block x (h.lt hx)
theorem Dsk.keep{T:Nat->Prop}(h:Dsk w p S D)(hu:Upo T w W)(hd : ∀x,S x -> ¬T x):Dsk W p S D:=h.same fun x hx=>hu.block x (h.lt hx) (hd x hx)
theorem Dsk.mvd{m:Nat}{R:List UInt8->FR}{kb ko:Nat}{D':DV}(hi : ∀x,YN p m R kb D x↔S x)(h:Left w W p m R kb ko D D'):Mvd w W p S D':=by
 obtain⟨m',R',xA,xB,h1,h2,h3⟩:=h;exact⟨YN p m' R' kb D',⟨m',R',xA,kb,ko,xB,h1,fun _=>Iff.rfl⟩,fun x hx=>(h2 x hx).imp (hi x).1 id,h3.mono (fun x _ q=>(hi x).1 q)⟩
theorem Dsk.write(h:Dsk w p S D)(s t:BA)(hs:s.size<=maxLen)(off:Int)(ho1 : -9223372036854775808<=off)(ho2:off<=9223372036854775807)(ht:t.size<=140737488355328)(hac:D.acts+1<=4611686018427387904)(hcnt:D.L.length<1099511627776)(hfr:D.down=false->D.free+(Qe D.L s.data.toList).now.length<=9223372036854775807) :
  Calls prog 268 #[.pointer (some ⟨p,0,none⟩),.string s,.int .i64 off,.string t] w fun e w'=>e = .returned (.int .i64 (wrD D s.data.toList off t.data.toList).2)∧Mvd w w' p S (wrD D s.data.toList off t.data.toList).1:=by
 obtain⟨m,R,ka,kb,ko,kc,h1,h2⟩:=h;exact(QaG w h1 s t hs off ho1 ho2 ht hac hcnt hfr).mono fun e w' q=>⟨q.1,Dsk.mvd h2 q.2⟩
theorem Dsk.cut(h:Dsk w p S D)(s:BA)(hs:s.size<=maxLen)(off:Int)(ho1 : -9223372036854775808<=off)(ho2:off<=9223372036854775807)(hac:D.acts+1<=4611686018427387904)(hcnt:D.L.length<1099511627776)(hfr:D.down=false->D.free+(Qe D.L s.data.toList).now.length<=9223372036854775807) :
  Calls prog 156 #[.pointer (some ⟨p,0,none⟩),.string s,.int .i64 off] w fun e w'=>e = .returned (.int .i64 (Jg D s.data.toList off).2)∧Mvd w w' p S (Jg D s.data.toList off).1:=by
 obtain⟨m,R,ka,kb,ko,kc,h1,h2⟩:=h;exact(QlQ w h1 s hs off ho1 ho2 hac hcnt hfr).mono fun e w' q=>⟨q.1,Dsk.mvd h2 q.2⟩
theorem Dsk.sync(h:Dsk w p S D)(s:BA)(hs:s.size<=maxLen)(hac:D.acts+1<=4611686018427387904)(hcnt:D.L.length<1099511627776)(hfr:D.down=false->D.free+(Qe D.L s.data.toList).now.length<=9223372036854775807) :
  Calls prog 157 #[.pointer (some ⟨p,0,none⟩),.string s] w fun e w'=>e = .returned (.int .i64 (Q1 D s.data.toList).2)∧Mvd w w' p S (Q1 D s.data.toList).1:=by
 obtain⟨m,R,ka,kb,ko,kc,h1,h2⟩:=h;exact(Qk9 w h1 s hs hac hcnt hfr).mono fun e w' q=>⟨q.1,Dsk.mvd h2 q.2⟩
theorem Dsk.read(h:Dsk w p S D)(s:BA)(hs:s.size<=maxLen)(off q:Int)(ho1 : -9223372036854775808<=off)(ho2:off<=9223372036854775807)(hq1 : -9223372036854775808<=q)(hq2:q<=9223372036854775807) :
  Calls prog 152 #[.pointer (some ⟨p,0,none⟩),.string s,.int .i64 off,.int .i64 q] w fun e w'=>e = .returned (.tuple #[.string ⟨(rdD D s.data.toList off q).1.toArray⟩,.int .i64 (rdD D s.data.toList off q).2])∧Below w.heap.size w w':=by
 obtain⟨m,R,ka,kb,ko,kc,h1,h2⟩:=h;exact QkM w h1 s hs off q ho1 ho2 hq1 hq2
def JD(D:DV)(s:List UInt8):Nat:=if D.down then 0 else (Qe D.L s).now.length
theorem Dsk.size(h:Dsk w p S D)(s:BA)(hs:s.size<=maxLen):Calls prog 151 #[.pointer (some ⟨p,0,none⟩),.string s] w fun e w'=>e = .returned (.int .i64 (JD D s.data.toList:Int))∧w'=w:=by
 obtain⟨m,R,ka,kb,ko,kc,h1,h2⟩:=h;exact QbZ w h1 s hs _ rfl
theorem Dsk.down(h:Dsk w p S D):Calls prog 15 #[.pointer (some ⟨p,0,none⟩)] w fun e w'=>e = .returned (.bool D.down)∧w'=w:=by
 obtain⟨m,R,ka,kb,ko,kc,h1,h2⟩:=h;exact QjF w h1
end
end St
end Go.Proofs.YtoblgjledefdbaaGreatDoor
