/- Own work. -/
import Derived.Test.YtoblgjledefdbaaGreatDoorQf11
import Derived.Test.YtoblgjledefdbaaGreatDoorQf14
namespace Go.Proofs.YtoblgjledefdbaaGreatDoor.St
open Go.RowKit
def cF (l:List (List UInt8×List UInt8)):List Value:=l.flatMap fun p=>[Value.string ⟨p.1.toArray⟩,Value.string ⟨p.2.toArray⟩]
theorem cF_app (l k:List (List UInt8×List UInt8)):cF (l++k)=cF l++cF k:=by simp [cF]
def OwnF (w:World) (B:Nat) (v:Value) (l:List (List UInt8×List UInt8)):Prop:=w.ownsRow B 72 2 v l.length (cF l)
theorem Tryz.infoF:(Tryz.prog.info? 72).map (fun i=>(i.zero,i.size,i.bytes))=some (some (.agg #[.string ⟨#[]⟩,.string ⟨#[]⟩]),2,32):=by kernel_rfl
def pick:List (List UInt8)→List (List UInt8)→List (List UInt8×List UInt8)
 | s::N,x::X=>if x=[] then pick N X else (s,x)::pick N X
 | _,_=>[]
theorem pick_snoc : ∀ (N X:List (List UInt8)) (s x:List UInt8),N.length=X.length→pick (N++[s]) (X++[x])=pick N X++(if x=[] then [] else [(s,x)])
 | [],[],s,x,_=>by
  simp only [List.nil_append,pick]
 | s'::N,x'::X,s,x,h=>by
  have ih:=pick_snoc N X s x (by simpa using h)
  simp only [List.cons_append,pick]
  split
  ·exact ih
  ·rw [ih]; rfl
 | [],_::_,_,_,h=>by simp at h
 | _::_,[],_,_,h=>by simp at h
theorem pick_len : ∀ (N X:List (List UInt8)),(pick N X).length≤N.length
 | s::N,x::X=>by
  have:=pick_len N X
  simp only [pick]
  split
  ·simp; omega
  ·simp; omega
 | [],_=>by simp [pick]
 | _::_,[]=>by simp [pick]
theorem take_snoc {α:Type} (l:List α) (d:α) (j:Nat) (h:j<l.length):l.take (j+1)=l.take j++[l.getD j d]:=by
 rw [List.take_add_one,List.getElem?_eq_getElem h,List.getD_eq_getElem?_getD,List.getElem?_eq_getElem h]; rfl
theorem keys_len (L:List (List UInt8×FV)):(keys L).length=L.length:=by simp [keys]
theorem keys_at (L:List (List UInt8×FV)) (j:Nat) (h:j<L.length):(keys L).getD j []∈keys L:=by
 have:j<(keys L).length:=by rw [keys_len]; exact h
 rw [List.getD_eq_getElem?_getD,List.getElem?_eq_getElem this]
 exact List.getElem_mem this
structure Tl (w:World) (p m:Nat) (R:List UInt8→FR) (kb:Nat) (D:DV) (S:Nat→Prop) (fn:Nat) (caps:Array Value) (X:List (List UInt8)) (J:Nat→World→Prop):Prop where
 len:X.length=D.L.length
 old : ∀ x,S x→x<w.heap.size ∧ ¬ Foot p m R kb D x
 call : ∀ (W:World) j,j<D.L.length→J j W→Upo S w W→Calls Tryz.prog fn (#[fval (fget D.L ((keys D.L).getD j [])) (R ((keys D.L).getD j []))]++caps) W fun e w' => ∃ ao g cap,e = .returned (.slice ao (X.getD j []).length cap)∧Rw w' ao g cap (X.getD j [])∧J (j+1) w'∧Upo S W w'
 keep : ∀ (W W':World) j,J j W→Below W.heap.size W W'∨(Upo (fun x=>w.heap.size≤x) W W')→J j W'
 zero : ∀ W,Below w.heap.size w W→J 0 W
structure Tj (w:World) (N X:List (List UInt8)) (nb:Nat) (na:Option Addr) (S:Nat→Prop) (J:Nat→World→Prop) (j:Nat) (v:Value) (wr:World):Prop where
 own:OwnF wr w.heap.size v (pick (N.take j) (X.take j))
 nms:RdN wr na nb N
 nty:0<N.length→w.heap.size≤nb∧Ty wr nb 9
 st:J j wr
 up:Upo S w wr
theorem own_slice {w:World} {B T s n:Nat} {v:Value} {xs:List Value} (h:w.ownsRow B T s v n xs) : ∃ ao cap,v = .slice ao n cap:=by
 rcases h.2 with ⟨rfl,rfl⟩ | ⟨g,cap,cur,rfl,_⟩
 ·exact ⟨none,0,rfl⟩
 ·exact ⟨_,cap,rfl⟩
theorem row_keep {w w':World} {B T s n:Nat} {v:Value} {xs:List Value} (h:w.ownsRow B T s v n xs) (hk : ∀ g,v.ownBlock=some g→w'.heap[g]? = w.heap[g]?):w'.ownsRow B T s v n xs:=by
 obtain ⟨h1,h2⟩:=h
 refine ⟨h1,?_⟩
 rcases h2 with h2 | ⟨g,cap,cur,hv,hg,hh,h3⟩
 ·exact .inl h2
 ·exact .inr ⟨g,cap,cur,hv,hg,(hk g (by rw [hv]; rfl)).trans hh,h3⟩
theorem two_new (w:World) (a b:Value) (T:TypeId) : ∀ j u,[a,b][j]? = some u→(w.alloc (.cells #[a,b] T)).cell? ((⟨w.heap.size,0,none⟩:Addr).add j)=some u:=fun j u hu=>by
 rw [Addr.add_mid,World.cell?_alloc_new,Nat.zero_add]
 simpa using hu
set_option maxRecDepth 100000 in
set_option maxHeartbeats 1000000 in
theorem told_any (w:World) {p m:Nat} {R:List UInt8→FR} {ka:Option Addr} {kb ko kc:Nat} {D:DV} (h:Dk w p m R ka kb ko kc D none) (S:Nat→Prop) (fn:Nat) (caps:Array Value) (X:List (List UInt8)) (J:Nat→World→Prop) (hT:Tl w p m R kb D S fn caps X J) (hfn:fn=71∨fn=53) :
  Calls Tryz.prog 52 #[.pointer (some ⟨p,0,none⟩),.func (.func fn) #[] caps] w fun e w' => ∃ v,e = .returned v∧OwnF w' w.heap.size v (pick (keys D.L) X)∧J D.L.length w'∧Upo S w w':=by
 have HN:=names_any w h
 have HH:Hid (Dk w p m R ka kb ko kc D none∧Tl w p m R kb D S fn caps X J):=⟨h,hT⟩
 obtain ⟨n,hn⟩ : ∃ n,(keys D.L).length=n:=⟨_,rfl⟩
 have HL:Hid ((keys D.L).length=n∧D.L.length=n∧n≤1099511627776):=⟨hn,by rw [← hn,keys_len],by rw [← hn,keys_len]; exact h.cnt⟩
 rw [hn] at HN
 clear h hT hn
 go_enter Tryz.func52,Tryz.ntmps52
 go_wp2_with (go_at_call 102; with_reducible refine HN.mono ?_; rintro e w1 ⟨na,nb,ncap,rfl,hrn,hnt,hb1⟩)
 have HS:Hid (Tj w (keys D.L) X nb na S J 0 (.slice none 0 0) w1):=⟨⟨rfl,.inl ⟨rfl,rfl⟩⟩,hrn,by rw [HL.out.1]; exact hnt,HH.out.2.zero w1 hb1,Upo.of hb1⟩
 clear hrn hnt hb1
 go_loopg [5,12] n (fun g x i wr => ∃ j:Nat,j≤n∧g=n - j∧i = .int .i64 (j:Int)∧Tj w (keys D.L) X nb na S J j x wr)
 case atStart=>exact ⟨0,Nat.zero_le _,rfl,rfl,HS.out⟩
 case round =>
  obtain ⟨j,hj,rfl,rfl,hR⟩:=hrel
  by_cases hlt:j<n
  ·obtain ⟨nm,hnm⟩ : ∃ nm:ByteArray,(⟨((keys D.L).getD j []).toArray⟩:ByteArray)=nm:=⟨_,rfl⟩
   have hjl:j<D.L.length:=by rw [HL.out.2.1]; exact hlt
   have hk:=keys_at D.L j hjl
   have hnl:nm.data.toList=(keys D.L).getD j []:=by rw [← hnm]
   have cn:=hR.nms.cell j (by rw [HL.out.1]; exact hlt)
   rw [hnm] at cn
   have ea:=hR.nms.ptr (by rw [HL.out.1]; omega)
   have hD:Dk wr p m R ka kb ko kc D none:=HH.out.1.same fun x hx=>hR.up.block x (HH.out.1.lt hx) (fun hS=>(HH.out.2.old x hS).2 hx)
   obtain ⟨c0,c1,c2,c3,c4,c5,c6⟩:=hD.cells
   obtain ⟨r,hl,hr⟩:=hD.look nm (by have:=hD.nm _ hk; rw [← hnl,size_list] at this; exact this)
   rw [hnl] at hl hr
   obtain rfl:r=R ((keys D.L).getD j []):=hr.elim (fun q=>q.2) (fun q=>absurd hk q.1)
   obtain ⟨V,hV⟩ : ∃ V,fval (fget D.L ((keys D.L).getD j [])) (R ((keys D.L).getD j []))=V:=⟨_,rfl⟩
   have hl1:=hl wr rfl
   have HC:=HH.out.2.call wr j hjl hR.st hR.up
   rw [hV] at hl1 HC
   obtain ⟨xs,hxs⟩ : ∃ xs,X.getD j []=xs:=⟨_,rfl⟩
   rw [hxs] at HC
   have hi1:(0:Int)≤(j:Int):=by omega
   have hi2:(j:Int)<(n:Int):=by omega
   have hw:IntKind.i64.wrap ((j:Int)+1)=(j:Int)+1:=by have:=HL.out.2.2; rw [IntKind.wrap_i64]; omega
   subst ea
   have HR:Hid (Tj w (keys D.L) X nb (some ⟨nb,0,none⟩) S J j u5 wr∧nm.data.toList=(keys D.L).getD j []∧X.getD j []=xs∧j<n):=⟨hR,hnl,hxs,hlt⟩
   have HC2:Hid (Calls Tryz.prog fn (#[V]++caps) wr fun e w' => ∃ ao g cap,e = .returned (.slice ao xs.length cap)∧Rw w' ao g cap xs∧J (j+1) w'∧Upo S wr w'):=HC
   clear c0 c2 c3 c4 c5 c6 hR hD hl hr hV hxs HC hnl hnm hk hjl hlt hj
   go_upto_region 5 with (fail)
   go_cut [8] from 13 to 34 (fun x wx => ∃ ao g cap,x = .slice ao xs.length cap∧Rw wx ao g cap xs∧J (j+1) wx∧Upo S wr wx)
   case first =>
    rcases hfn with rfl | rfl
    ·go_wp2_with (go_at_call 71; with_reducible refine HC2.out.mono ?_; rintro e w2 ⟨ao,g,cap,rfl,rw2,st2,up2⟩)
     go_meet
     case rel=>exact ⟨ao,g,cap,rfl,rw2,st2,up2⟩
    ·go_wp2_with (go_at_call 53; with_reducible refine HC2.out.mono ?_; rintro e w2 ⟨ao,g,cap,rfl,rw2,st2,up2⟩)
     go_meet
     case rel=>exact ⟨ao,g,cap,rfl,rw2,st2,up2⟩
   case rest =>
    obtain ⟨ao,g,cap,rfl,rw2,st2,up2⟩:=hcut
    obtain ⟨w2,hw2⟩ : ∃ W,W=wc:=⟨_,rfl⟩
    subst hw2
    have hnb:w.heap.size≤nb:=(HR.out.1.nty (by rw [HL.out.1]; have:=HR.out.2.2.2; omega)).1
    have hso : ∀ x,w.heap.size≤x→x<wr.heap.size→w2.heap[x]? = wr.heap[x]? := fun x hx hx2=>up2.block x hx2 (fun hS=>by have:=(HH.out.2.old x hS).1; omega)
    have own2:OwnF w2 w.heap.size u5 (pick ((keys D.L).take j) (X.take j)):=row_keep HR.out.1.own fun g hg=>by
     have:=HR.out.1.own.lt g hg
     exact hso g this.1 this.2
    have nms2:RdN w2 (some ⟨nb,0,none⟩) nb (keys D.L):=HR.out.1.nms.same fun h0=>hso nb hnb (HR.out.1.nms.lt h0)
    have nty2:0<(keys D.L).length→w.heap.size≤nb∧Ty w2 nb 9:=fun h0=>⟨hnb,(HR.out.1.nty h0).2.same (hso nb hnb (HR.out.1.nty h0).2.lt)⟩
    have hup:Upo S w w2:=HR.out.1.up.trans up2 (fun _ _ q=>q)
    have hNj:(keys D.L).take (j+1)=(keys D.L).take j++[nm.data.toList]:=by rw [HR.out.2.1]; exact take_snoc _ _ _ (by rw [HL.out.1]; exact HR.out.2.2.2)
    have hXj:X.take (j+1)=X.take j++[xs]:=by rw [← HR.out.2.2.1]; exact take_snoc _ _ _ (by rw [HH.out.2.len,HL.out.2.1]; exact HR.out.2.2.2)
    have hpk:pick ((keys D.L).take (j+1)) (X.take (j+1))=pick ((keys D.L).take j) (X.take j)++(if xs=[] then [] else [(nm.data.toList,xs)]):=by
     rw [hNj,hXj]
     exact pick_snoc _ _ _ _ (by rw [List.length_take,List.length_take,HL.out.1,HH.out.2.len,HL.out.2.1])
    have hpl:(pick ((keys D.L).take j) (X.take j)).length≤j:=by
     have:=pick_len ((keys D.L).take j) (X.take j)
     rw [List.length_take] at this
     omega
    by_cases hx0:xs=[]
    ·subst hx0
     rw [if_pos rfl,List.append_nil] at hpk
     have HF:Hid (Tj w (keys D.L) X nb (some ⟨nb,0,none⟩) S J (j+1) u5 w2):=⟨by rw [hpk]; exact own2,nms2,nty2,st2,hup⟩
     clear own2 nms2 nty2 hup hNj hXj hpk hpl rw2 st2 up2 hso
     have hz : ¬ ((([]:List UInt8).length:Int) > 0):=by simp
     go_wp2
     go_roundg (n - (j+1))
     case rel =>
      go_light
      exact ⟨j+1,by have:=HR.out.2.2.2; omega,rfl,by go_num,HF.out⟩
     case measure=>go_light; have:=HR.out.2.2.2; omega
    ·rw [if_neg hx0] at hpk
     have hcv:(convert 127 9 (.slice ao xs.length cap)).run Tryz.prog w2 = .ok (.string ⟨xs.toArray⟩) w2:=by
      have:=rw2.conv (k:=0) (n:=xs.length) (by omega) (ax:=ao) (.inl rfl) (fun _ => .inl rfl) cap
      rwa [List.drop_zero,List.take_length] at this
     obtain ⟨sx,hsx⟩ : ∃ sx:ByteArray,(⟨xs.toArray⟩:ByteArray)=sx:=⟨_,rfl⟩
     rw [hsx] at hcv
     have hsl:sx.data.toList=xs:=by rw [← hsx]
     have hpos:(0:Int)<(xs.length:Int):=by have:xs.length≠0:=fun e=>hx0 (List.length_eq_zero_iff.1 e); omega
     obtain ⟨i0,hi,hz0,hz1,hz2⟩:=info_parts Tryz.infoF
     obtain ⟨xl,hxl⟩ : ∃ xl,xs.length=xl:=⟨_,rfl⟩
     have HX:Hid (nm.data.toList=nm.data.toList∧sx.data.toList=xs∧Tj w (keys D.L) X nb (some ⟨nb,0,none⟩) S J j u5 wr):=⟨rfl,hsl,HR.out.1⟩
     have HP:Hid (OwnF w2 w.heap.size u5 (pick ((keys D.L).take j) (X.take j))∧RdN w2 (some ⟨nb,0,none⟩) nb (keys D.L)∧(0<(keys D.L).length→w.heap.size≤nb∧Ty w2 nb 9)∧J (j+1) w2∧Upo S w w2∧pick ((keys D.L).take (j+1)) (X.take (j+1))=pick ((keys D.L).take j) (X.take j)++[(nm.data.toList,xs)]∧(pick ((keys D.L).take j) (X.take j)).length≤j):=⟨own2,nms2,nty2,st2,hup,hpk,hpl⟩
     rw [hxl] at hcv hpos ⊢
     clear own2 nms2 nty2 hup hNj hXj hpk hpl rw2 st2 up2 hso hx0 hsl hsx cn hxl
     have q1:(pick ((keys D.L).take j) (X.take j)).length+1≤maxLen:=by have:=HP.out.2.2.2.2.2.2; have:=HR.out.2.2.2; have:=HL.out.2.2; unfold maxLen; omega
     have q2:((pick ((keys D.L).take j) (X.take j)).length+1) * 32≤140737488355328:=by have:=HP.out.2.2.2.2.2.2; have:=HR.out.2.2.2; have:=HL.out.2.2; omega
     have q3:w.heap.size≤(w2.alloc (.cells #[.string nm,.string sx] 72)).heap.size:=by have:=HP.out.2.2.2.2.1.size; simp; omega
     have Q:=hide (And.intro q1 (And.intro q2 q3))
     clear q1 q2 q3
     go_wp2_with (first
      | (at_builtin; refine wpList_append_own _ rfl _ _ 42 rfl w.heap.size 72 i0 (.agg #[.string ⟨#[]⟩,.string ⟨#[]⟩]) 2 32 Tryz.underlying42 hi hz0 hz1 hz2 rfl (by decide) _ _ _ rfl (HP.out.1.alloc _) ⟨w2.heap.size,0,none⟩ 1 1 [.string nm,.string sx] rfl rfl (two_new _ _ _ _) (by simp [Value.oneCell']) Q.out.1 Q.out.2.1 Q.out.2.2 ?_; intro v' w3 own3 g3 nil3; go_frame)
      | go_in)
     obtain ⟨own2,nms2,nty2,st2,hup,hpk,hpl⟩:=HP.out
     obtain ⟨va,vc,rfl⟩:=own_slice own3
     have hal:Below w2.heap.size w2 (w2.alloc (.cells #[.string nm,.string sx] 72)):=bal (Below.refl _ _) _
     have hup3:Upo (fun x=>w.heap.size≤x) w2 w3:=by
      refine (Upo.of hal).trans (Upo.grown (S:=fun x=>w.heap.size≤x) g3 (fun b hb=>(own2.lt b hb).1)) (fun _ _ q=>q)
     have hne : ∀ x,x<w2.heap.size→some x≠u5.ownBlock→w3.heap[x]? = w2.heap[x]? := fun x hx hn=>(g3.block x (by have:=hal.size; omega) hn).trans (hal.block x hx)
     have hnn:some nb≠u5.ownBlock:=fun e=>by
      have h0:0<(keys D.L).length:=by rw [HL.out.1]; have:=HR.out.2.2.2; omega
      rcases own2.2 with ⟨q,_⟩ | ⟨g',cap',cur',q,_,hb',_⟩
      ·rw [q] at e; cases e
      ·rw [q] at e
       simp only [Value.ownBlock,Option.some.injEq] at e
       exact (nty2 h0).2.ne ⟨_,_,hb'⟩ (by decide) e
     have HF:Hid (Tj w (keys D.L) X nb (some ⟨nb,0,none⟩) S J (j+1) (.slice va ((pick ((keys D.L).take j) (X.take j)).length+1) vc) w3):=by
      refine ⟨?_,nms2.same fun h0=>hne nb (nms2.lt h0) hnn,fun h0=>⟨(nty2 h0).1,(nty2 h0).2.same (hne nb (nty2 h0).2.lt hnn)⟩,HH.out.2.keep w2 w3 (j+1) st2 (.inr hup3),hup.trans hup3 (fun b hb q=>by omega)⟩
      unfold OwnF
      rw [hpk,cF_app,List.length_append]
      have e2:cF [(nm.data.toList,xs)]=[.string nm,.string sx]:=by
       rw [← HX.out.2.1]
       rfl
      rw [e2]
      exact own3
     clear own2 nms2 nty2 st2 hup hpk hpl own3 hal hup3 hne hnn HP HX g3 nil3
     go_wp2
     go_roundg (n - (j+1))
     case rel =>
      go_light
      exact ⟨j+1,by have:=HR.out.2.2.2; omega,rfl,by go_num,HF.out⟩
     case measure=>go_light; have:=HR.out.2.2.2; omega
  ·obtain rfl:j=n:=by omega
   have hc : ¬ ((j:Int)<(j:Int)):=by omega
   have HR:Hid (Tj w (keys D.L) X nb na S J j u5 wr):=hR
   clear hR hlt hj
   go_wp2
   go_ret
   refine ⟨u5,rfl,?_,by rw [HL.out.2.1]; exact HR.out.st,HR.out.up⟩
   have:=HR.out.own
   rwa [List.take_of_length_le (by rw [HL.out.1]; exact Nat.le_refl _),List.take_of_length_le (by rw [HH.out.2.len,HL.out.2.1]; exact Nat.le_refl _)] at this
def outs (ks:List Bool):List FV→Nat→List (List UInt8)
 | [],_=>[]
 | f::r,i=>(stay ks f i).1::outs ks r (stay ks f i).2
def ixa (ks:List Bool):List FV→Nat→Nat→Nat
 | _,i,0=>i
 | [],i,_+1=>i
 | f::r,i,j+1=>ixa ks r (stay ks f i).2 j
theorem ixa_zero (ks:List Bool) (fs:List FV) (i:Nat):ixa ks fs i 0=i:=by cases fs <;> rfl
theorem outs_len (ks:List Bool) : ∀ (fs:List FV) (i:Nat),(outs ks fs i).length=fs.length
 | [],_=>rfl
 | f::r,i=>by simp [outs,outs_len ks r]
theorem outs_at (ks:List Bool) : ∀ (fs:List FV) (i j:Nat),j<fs.length→(outs ks fs i).getD j []=(stay ks (fs.getD j fz) (ixa ks fs i j)).1∧ixa ks fs i (j+1)=(stay ks (fs.getD j fz) (ixa ks fs i j)).2
 | [],_,_,h=>by simp at h
 | f::r,i,0,_=>⟨rfl,by cases r <;> rfl⟩
 | f::r,i,j+1,h=>by
  have:=outs_at ks r (stay ks f i).2 j (by simpa using h)
  exact ⟨this.1,this.2⟩
theorem pick_outs (ks:List Bool) : ∀ (L:List (List UInt8×FV)) (i:Nat),pick (keys L) (outs ks (L.map (·.2)) i)=aft ks L i
 | [],_=>rfl
 | (s,f)::r,i=>by
  have:=pick_outs ks r (stay ks f i).2
  simp only [keys,List.map_cons,outs,pick,aft] at *
  rw [this]
theorem fget_at {L:List (List UInt8×FV)} (h:Ord L) {j:Nat} (hj:j<L.length):fget L ((keys L).getD j [])=(L.map (·.2)).getD j fz:=by
 have e1:(keys L).getD j []=(L[j]).1:=by simp [keys,List.getD_eq_getElem?_getD,List.getElem?_eq_getElem hj]
 have e2:(L.map (·.2)).getD j fz=(L[j]).2:=by simp [List.getD_eq_getElem?_getD,List.getElem?_eq_getElem hj]
 rw [e1,e2]
 exact fget_mem h (List.getElem_mem hj)
section
variable {p m:Nat} {R:List UInt8→FR} {ka:Option Addr} {kb ko kc:Nat} {D:DV}
theorem after1_any (w:World) (f:FV) (r:FR) (q qc:Nat) (ao:Option Addr) (b o c:Nat) (ks:List Bool) (i:Nat) (hF:Fil w f r) (hc:Chs w q ao c ks i) (hk:RdL w ao b o ks) (hkl:ks.length≤9223372036854775807) (hq:w.heap[qc]? = some (.cells #[.pointer (some ⟨q,0,none⟩)] 123 (0,0))) :
  Calls Tryz.prog 53 #[fval f r,.pointer (some ⟨qc,0,none⟩)] w fun e w' => ∃ gr,e = .returned (.slice (some ⟨gr,0,none⟩) (stay ks f i).1.length (stay ks f i).1.length)∧w.heap.size≤gr∧Rw w' (some ⟨gr,0,none⟩) gr (stay ks f i).1.length (stay ks f i).1∧Chs w' q ao c ks (stay ks f i).2∧Upo (fun x=>x=q) w w':=by
 obtain ⟨n,hn⟩ : ∃ n,f.now.length=n:=⟨_,rfl⟩
 obtain ⟨k,hk2⟩ : ∃ k,f.syn.length=k:=⟨_,rfl⟩
 obtain ⟨P,hP⟩ : ∃ P,stay ks f i=P:=⟨_,rfl⟩
 rw [hP]
 simp only [fval,fv,hn,hk2]
 obtain ⟨ra,rg,rc,rb,rh,rd,rs⟩:=r
 simp only
 obtain ⟨w1,hw1⟩ : ∃ W,w.alloc (.cells #[.slice ra n rc,.slice rb k rd,.int .i64 (rs:Int)] 129)=W:=⟨_,rfl⟩
 have hb1:Below w.heap.size w w1:=by rw [← hw1]; exact bal (Below.refl _ _) _
 have HS:=stays_any w1 ra rg n rc f.now rb rh k rd rs f.syn q ao b o c ks i (hF.now.next hb1 (Nat.le_refl _)) (hF.syn.next hb1 (Nat.le_refl _)) hn hk2 (hc.same (hb1.block q hc.lt)) (hk.next hb1) hkl (by have:=hF.b1; omega) (by have:=hF.b2; omega) P hP
 have k1:w1.heap[w.heap.size]? = some (.cells #[.slice ra n rc,.slice rb k rd,.int .i64 (rs:Int)] 129 (0,0)):=by rw [← hw1]; exact new1 _ _
 obtain ⟨b0,b1,b2⟩:=three_at k1
 have q1:w1.cell? ⟨qc,0,none⟩=some (.pointer (some ⟨q,0,none⟩)):=by
  have e:=(hb1.block qc (Array.getElem?_eq_some_iff.1 hq).1).trans hq
  rw [cell_of_row w1 qc 0 _ _ (0,0) e]; rfl
 have HB:=hide (And.intro hb1 hc.lt)
 have HW:Hid (w.alloc (.cells #[.slice ra n rc,.slice rb k rd,.int .i64 (rs:Int)] 129)=w1):=hw1
 clear hF hc hk hkl hq hb1 hw1 k1 hn hk2 hP
 go_enter Tryz.func53,Tryz.ntmps53
 go_upto_region 1 with (fail)
 rw [HW.out]
 go_wp2_with (go_at_call 54; with_reducible refine HS.mono ?_; rintro e w' ⟨gr,rfl,hg,hr,hc,hu⟩)
 go_ret
 exact ⟨gr,rfl,Nat.le_trans HB.out.1.size hg,hr,hc,(Upo.of HB.out.1).trans hu (fun _ _ e=>e)⟩
set_option maxHeartbeats 1000000 in
theorem after_any (w:World) (h:Dk w p m R ka kb ko kc D none) (ao:Option Addr) (b o c:Nat) (ks:List Bool) (hk:RdL w ao b o ks) (hkl:ks.length≤9223372036854775807) :
  Calls Tryz.prog 17 #[.pointer (some ⟨p,0,none⟩),.slice ao ks.length c] w fun e w' => ∃ v,e = .returned v∧OwnF w' w.heap.size v (aft ks D.L 0)∧Below w.heap.size w w':=by
 obtain ⟨w1,hw1⟩ : ∃ W,(w.alloc (.cells #[.slice ao ks.length c,.int .i64 0] 125)).alloc (.cells #[.pointer (some ⟨w.heap.size,0,none⟩)] 123)=W:=⟨_,rfl⟩
 have hb1:Below w.heap.size w w1:=by rw [← hw1]; exact bal (bal (Below.refl _ _) _) _
 have hz1:w1.heap.size=w.heap.size+2:=by rw [← hw1]; simp
 have hc1:Chs w1 w.heap.size ao c ks 0:=by
  have e:cat ks 0=0:=by unfold cat; split <;> simp
  unfold Chs
  rw [e,← hw1]
  exact new0 _ _ _
 have hq1:w1.heap[w.heap.size+1]? = some (.cells #[.pointer (some ⟨w.heap.size,0,none⟩)] 123 (0,0)):=by rw [← hw1]; exact new2 _ _ _
 have h1:=h.next hb1
 have hk1:=hk.next hb1
 have HT:Tl w1 p m R kb D (fun x=>x=w.heap.size) 53 #[.pointer (some ⟨w.heap.size+1,0,none⟩)] (outs ks (D.L.map (·.2)) 0)
   (fun j W=>Chs W w.heap.size ao c ks (ixa ks (D.L.map (·.2)) 0 j)∧W.heap[w.heap.size+1]? = some (.cells #[.pointer (some ⟨w.heap.size,0,none⟩)] 123 (0,0))∧RdL W ao b o ks):=by
  refine ⟨by rw [outs_len]; simp,fun x hx=>⟨by omega,fun hf => ?_⟩,fun W j hj hJ hu => ?_,fun W W' j hJ hW => ?_,fun W hW => ?_⟩
  ·have:=h.lt hf; omega
  ·have hD:Dk W p m R ka kb ko kc D none:=h1.same fun x hx=>hu.block x (h1.lt hx) (fun e=>by have:=h.lt hx; omega)
   have hF:=hD.fil _ (keys_at D.L j hj) (by simp)
   obtain ⟨o1,o2⟩:=outs_at ks (D.L.map (·.2)) 0 j (by simpa using hj)
   rw [← fget_at h.ord hj] at o1 o2
   have hc:=after1_any W _ _ w.heap.size (w.heap.size+1) ao b o c ks _ hF hJ.1 hJ.2.2 hkl hJ.2.1
   refine hc.mono ?_
   rintro e w' ⟨gr,rfl,hg,hr,hch,hup⟩
   rw [o1,o2]
   refine ⟨_,_,_,rfl,hr,⟨hch,(hup.block _ (Array.getElem?_eq_some_iff.1 hJ.2.1).1 (fun e=>by omega)).trans hJ.2.1,hJ.2.2.same fun h0=>hup.block b (hJ.2.2.lt h0) (chs_ne hJ.1 hJ.2.2 h0)⟩,hup⟩
  ·have kp : ∀ x,x<w1.heap.size→x<W.heap.size→W'.heap[x]? = W.heap[x]? := fun x h1 h2=>by
    rcases hW with q | q
    ·exact q.block x h2
    ·exact q.block x h2 (by omega)
   refine ⟨hJ.1.same (kp _ (by omega) hJ.1.lt),(kp _ (by omega) (Array.getElem?_eq_some_iff.1 hJ.2.1).1).trans hJ.2.1,hJ.2.2.same fun h0=>kp b (hk1.lt h0) (hJ.2.2.lt h0)⟩
  ·exact ⟨by rw [ixa_zero]; exact hc1.same (hW.block _ (by omega)),(hW.block _ (by omega)).trans hq1,hk1.next hW⟩
 have HC:=told_any w1 h1 _ _ _ _ _ HT (.inr rfl)
 rw [pick_outs] at HC
 have HC2:=hide HC
 have HB:=hide (And.intro hb1 hz1)
 have HW:Hid ((w.alloc (.cells #[.slice ao ks.length c,.int .i64 0] 125)).alloc (.cells #[.pointer (some ⟨w.heap.size,0,none⟩)] 123)=w1):=hw1
 clear h HT HC h1 hk1 hq1 hc1 hb1 hz1 hw1 hk hkl
 go_enter Tryz.func17,Tryz.ntmps17
 go_upto_region 2 with (fail)
 rw [HW.out]
 go_wp2_with (go_at_call 52; with_reducible refine HC2.out.mono ?_; rintro e w' ⟨v,rfl,ho,_,hu⟩)
 go_ret
 have hb:Below w.heap.size w w':=by
  refine ⟨hu.os.trans HB.out.1.os,hu.tape.trans HB.out.1.tape,hu.output.trans HB.out.1.output,Nat.le_trans HB.out.1.size hu.size,fun x hx=>(hu.block x (by have:=HB.out.2; omega) (fun e=>by omega)).trans (HB.out.1.block x hx)⟩
 refine ⟨v,rfl,?_,hb⟩
 obtain ⟨q1,q2⟩:=ho
 refine ⟨q1,?_⟩
 rcases q2 with q2 | ⟨g,cap,cur,e1,e2,e3⟩
 ·exact .inl q2
 ·exact .inr ⟨g,cap,cur,e1,by have:=HB.out.2; omega,e3⟩
end
end Go.Proofs.YtoblgjledefdbaaGreatDoor.St
