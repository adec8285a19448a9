/- Own work. -/
import Derived.Test.YtoblgjledefdbaaGreatDoorQa02
namespace Go.Proofs.YtoblgjledefdbaaGreatDoor
open Go.RowKit
attribute [local go_sem ↓] Go.wp_at_zero Go.wp_at_succ
theorem turn_any (x n:Int) (w:World) (hn:0<n) (hn':n<32) :
  Calls Tryz.prog 364 #[.int .u32 x,.int .i64 n] w fun e w'=>e = .returned (.int .u32 (rotI x n)) ∧ ∃ k,w'=w.drewN k:=by
 have e1:IntKind.i64.wrap (32 - n)=32 - n:=wrap_id _ (by omega) (by omega)
 have b0:(0:Int)≤n:=by omega
 have b1:(0:Int)≤32 - n:=by omega
 have hm:min n.toNat 32=n.toNat:=by omega
 have hm2:min (32 - n).toNat 32=(32 - n).toNat:=by omega
 go_enter Tryz.func364,Tryz.ntmps364
 go_wp2
 go_region_held3 (fun _=>True) (trivial) (fail)
 go_wp2
 go_ret
 refine ⟨?_,1,rfl⟩
 show Ending.returned (Value.int .u32 _)=_
 unfold rotI
 rfl
def horI (blk:List Int) (t:Nat):Nat→Int
 | 0=>0
 | i+1=>IntKind.u32.wrap (IntKind.u32.wrap (horI blk t i * 256)+IntKind.u32.wrap (blk.getD (4 * t+i) 0))
def schR0 (blk:List Int):Nat→List Int
 | 0=>[]
 | k+1=>schR0 blk k++[horI blk k 4]
theorem schR0_len (blk:List Int) (k:Nat):(schR0 blk k).length=k:=by
 induction k with
 | zero=>rfl
 | succ k ih=>simp [schR0,ih]
def schR (blk:List Int):Nat→List Int
 | 0=>schR0 blk 16
 | k+1=>schR blk k++[nextI ((schR blk k).getD k 0) ((schR blk k).getD (k+1) 0) ((schR blk k).getD (k+9) 0) ((schR blk k).getD (k+14) 0)]
theorem schR_len (blk:List Int) (k:Nat):(schR blk k).length=16+k:=by
 induction k with
 | zero=>exact schR0_len _ _
 | succ k ih=>simp only [schR,List.length_append,ih,List.length_cons,List.length_nil]; omega
theorem keep_off2 {w:World} {b i j:Nat} {v u:Value} (h:w.cell? ⟨b,i,none⟩=some u) (hne:i≠j):(w.setCell ⟨b,j,none⟩ v).cell? ⟨b,i,none⟩=some u:=by
 rw [World.cell?_setCell_other _ _ _ _ (fun e=>hne (by have:=congrArg Addr.off e; simpa using this.symm))]; exact h
theorem pad_zero {l:List Int} (h:l.length<64):pad (l++[0])=pad l:=by
 rw [← pad_set h 0]
 apply List.ext_getElem?
 intro i
 by_cases e:i=l.length
 ·subst e
  rw [List.getElem?_set_self (by rw [pad_len (by omega)]; omega)]
  have:=pad_getD l l.length
  rw [List.getD_eq_getElem?_getD,List.getElem?_eq_getElem (by rw [pad_len (by omega)]; omega),List.getD_eq_getElem?_getD,List.getElem?_eq_none (l:=l) (by omega)] at this
  rw [List.getElem?_eq_getElem (by rw [pad_len (by omega)]; omega)]
  simpa using this.symm
 ·rw [List.getElem?_set_ne (fun h=>e h.symm)]
theorem idx_str (b:ByteArray) (m:Nat) (hm:m<b.size) (w:World):(Instr.index 9 (.string b) (.int .i64 (m:Int))).run Tryz.prog w = .ok (.int .u8 ((tB b).getD m 0)) w:=by
 have e:(tB b).getD m 0=(b[m].toNat:Int):=by
  have:b.data.toList[m]? = some b[m]:=by
   rw [Array.getElem?_toList,Array.getElem?_eq_getElem (by simpa using hm)]; rfl
  simp [tB,List.getD_eq_getElem?_getD,this]
 have h2:b[m]? = some b[m]:=getElem?_pos b m hm
 rw [e]
 simp [Instr.index,asIntOf,run_underlying Tryz.underlying9,h2]
structure Pl (w wr:World) (ws:List Int):Prop where
 below:Below w.heap.size w wr
 res:wr.there w.heap.size 0 64
 ws:wr.rangeAt (w.heap.size+1) 0 (cW (pad ws))
 wst:wr.there (w.heap.size+1) 0 64
theorem Pl.set {w wr:World} {ws:List Int} {y:Int} (h:Pl w wr (ws++[y])) {m:Nat} (hm:ws.length=m) (hl:m<64) (v:Int):Pl w (wr.setCell ⟨w.heap.size+1,m,none⟩ (.int .u32 v)) (ws++[v]):=by
 subst hm
 refine ⟨h.below.setCell (by show w.heap.size≤w.heap.size+1; omega) _,there_set h.res _ _,?_,there_set h.wst _ _⟩
 have:=range_set h.ws ws.length (.int .u32 v)
 rw [Nat.zero_add,cW_set,← pad_set hl y,List.set_set,pad_set hl] at this
 exact this
theorem Pl.step {w wr:World} {ws:List Int} (h:Pl w wr ws) {m:Nat} (hm:ws.length=m) (hl:m<64) (v:Int):Pl w (wr.setCell ⟨w.heap.size+1,m,none⟩ (.int .u32 v)) (ws++[v]) :=
 Pl.set (y:=0) ⟨h.below,h.res,by rw [pad_zero (by omega)]; exact h.ws,h.wst⟩ hm hl v
theorem Pl.same {w X Y:World} {ws:List Int} (h:Pl w X ws) (e1:Y.heap=X.heap) (e2:Y.os=X.os) (e3:Y.tape=X.tape) (e4:Y.output=X.output):Pl w Y ws:=by
 have hc : ∀ a,Y.cell? a=X.cell? a:=fun a=>World.cell?_of_block (w:=X) (by rw [e1])
 have hf : ∀ a,Y.frozen? a=X.frozen? a:=fun a=>World.frozen?_of_block (w:=X) (by rw [e1])
 exact ⟨⟨e2.trans h.below.os,e3.trans h.below.tape,e4.trans h.below.output,by rw [e1]; exact h.below.size,fun k hk=>by rw [e1]; exact h.below.block k hk⟩,
  fun j hj=>by rw [hc,hf]; exact h.res j hj,fun j v hv=>by rw [hc]; exact h.ws j v hv,fun j hj=>by rw [hc,hf]; exact h.wst j hj⟩
theorem Pl.start (w:World) (z1 z2:Array Value) (t1 t2:TypeId) (h1:z1.size=64) (h2:z2=(cW (pad [])).toArray):Pl w ((w.alloc (.cells z1 t1)).alloc (.cells z2 t2)) []:=by
 subst h2
 have q1:=there_new w z1 t1 64 (by omega)
 have r2:=range_new (w.alloc (.cells z1 t1)) (cW (pad [])) t2
 have q2:=there_new (w.alloc (.cells z1 t1)) (cW (pad [])).toArray t2 64 (by simp [cW_len,pad])
 simp only [World.size_alloc] at r2 q2
 exact ⟨((Below.refl _ _).alloc (Nat.le_refl _) _).alloc (by simp) _,World.there_alloc q1 _,r2,q2⟩
set_option maxHeartbeats 2000000 in
set_option maxRecDepth 100000 in
theorem plan_any (b:ByteArray) (hb:b.size=64) (w:World) :
  Calls Tryz.prog 363 #[.string b] w fun e w'=>e = .returned (.agg (cW (schR (tB b) 48)).toArray)∧Below w.heap.size w w':=by
 go_enter Tryz.func363,Tryz.ntmps363
 go_wp2
 go_loopg [4] 16 (fun g i wr => ∃ k:Nat,k≤16∧g=16 - k∧i = .int .i64 k∧Pl w wr (schR0 (tB b) k))
 case atStart =>
  go_light
  exact ⟨0,Nat.zero_le _,rfl,rfl,Pl.start w _ _ _ _ rfl rfl⟩
 case round =>
  obtain ⟨k,hk,rfl,rfl,hs⟩:=hrel
  by_cases hlt:k<16
  ·have hk0:(0:Int)≤(k:Int):=Int.natCast_nonneg _
   have hk8:(k:Int)<16:=by omega
   have dk:(k:Int)<64:=by omega
   have hlen:=schR0_len (tB b) k
   go_wp2
   go_loopg [5] 4 (fun g i wi => ∃ j:Nat,j≤4∧g=4 - j∧i = .int .i64 j∧Pl w wi (schR0 (tB b) k++[horI (tB b) k j]))
   case atStart =>
    go_light
    refine ⟨0,Nat.zero_le _,rfl,rfl,?_⟩
    exact ⟨hs.below,hs.res,by rw [show horI (tB b) k 0=0 from rfl,pad_zero (by omega)]; exact hs.ws,hs.wst⟩
   case round =>
    clear hs
    obtain ⟨j,hj,rfl,rfl,hs⟩:=hrel
    by_cases hjl:j<4
    ·have hj0:(0:Int)≤(j:Int):=Int.natCast_nonneg _
     have hj4:(j:Int)<4:=by omega
     obtain ⟨m,hm⟩ : ∃ m:Nat,4 * k+j=m:=⟨_,rfl⟩
     obtain ⟨m4,hm4⟩ : ∃ m4:Nat,4 * k=m4:=⟨_,rfl⟩
     have e0:IntKind.i64.wrap (4 * (k:Int))=(m4:Int):=by rw [wrap_id _ (by omega) (by omega)]; omega
     have e1:IntKind.i64.wrap ((m4:Int)+(j:Int))=(m:Int):=by rw [wrap_id _ (by omega) (by omega)]; omega
     have hidx:=fun w'=>idx_str b m (by omega) w'
     have c0:wr.cell? ⟨w.heap.size+1,k,none⟩=some (.int .u32 (horI (tB b) k j)):=by
      have:=cell_cW0 hs.ws (i:=k) (by rw [pad_len (by simp [hlen]; omega)]; omega)
      rw [pad_getD,List.getD_eq_getElem?_getD,List.getElem?_append_right (by omega),hlen,Nat.sub_self] at this
      exact this
     have f0:wr.frozen? ⟨w.heap.size+1,k,none⟩=false:=by have:=(hs.wst k (by omega)).2; rwa [Nat.zero_add] at this
     have HF:Hid (∀ v,Pl w (wr.setCell ⟨w.heap.size+1,k,none⟩ (.int .u32 v)) (schR0 (tB b) k++[v])):=fun v=>hs.set hlen (by omega) v
     have HV:Hid (horI (tB b) k (j+1)=IntKind.u32.wrap (IntKind.u32.wrap (horI (tB b) k j * 256)+IntKind.u32.wrap ((tB b).getD m 0))):=by
      show _=_
      rw [horI,hm]
     clear hs hm hm4
     generalize horI (tB b) k j=x at *
     generalize (tB b).getD m 0=y at *
     go_wp2
     go_region
     all_goals
      go_wp2
      go_roundg (4 - (j+1))
      case rel =>
       go_light
       refine ⟨j+1,by omega,rfl,by go_num,?_⟩
       have e:IntKind.u32.wrap (IntKind.u32.wrap (x * 256)+IntKind.u32.wrap y)=(x * 256+y) % 4294967296:=by simp only [IntKind.wrap_u32']; omega
       rw [HV.out,e]
       exact (HF.out _).same rfl rfl rfl rfl
      case measure=>go_light; omega
    ·obtain rfl:j=4:=by omega
     go_wp2
     go_roundg (16 - (k+1))
     case rel =>
      go_light
      exact ⟨k+1,by omega,rfl,by go_num,hs⟩
     case measure=>go_light; omega
  ·obtain rfl:k=16:=by omega
   clear hk hlt
   go_wp2
   go_loopg [6] 48 (fun g i wr => ∃ k:Nat,k≤48∧g=48 - k∧i = .int .i64 ((16+k:Nat):Int)∧Pl w wr (schR (tB b) k))
   case atStart =>
    go_light
    exact ⟨0,Nat.zero_le _,rfl,rfl,hs⟩
   case round =>
    clear hs
    obtain ⟨k,hk,rfl,rfl,hs⟩:=hrel
    by_cases hlt:k<48
    ·obtain ⟨t,ht⟩ : ∃ t:Nat,16+k=t:=⟨_,rfl⟩
     obtain ⟨k1,hk1⟩ : ∃ k1:Nat,k+1=k1:=⟨_,rfl⟩
     obtain ⟨k9,hk9⟩ : ∃ k9:Nat,k+9=k9:=⟨_,rfl⟩
     obtain ⟨k14,hk14⟩ : ∃ k14:Nat,k+14=k14:=⟨_,rfl⟩
     rw [ht]
     have e0:IntKind.i64.wrap ((t:Int) - 16)=(k:Int):=by rw [wrap_id _ (by omega) (by omega)]; omega
     have e2:IntKind.i64.wrap ((t:Int) - 7)=(k9:Int):=by rw [wrap_id _ (by omega) (by omega)]; omega
     have e1:(t:Int) - 15=(k1:Int):=by omega
     have e3:(t:Int) - 2=(k14:Int):=by omega
     have b0:(0:Int)≤(k:Int):=Int.natCast_nonneg _
     have b1:(0:Int)≤(k1:Int):=Int.natCast_nonneg _
     have b2:(0:Int)≤(k9:Int):=Int.natCast_nonneg _
     have b3:(0:Int)≤(k14:Int):=Int.natCast_nonneg _
     have bt:(0:Int)≤(t:Int):=Int.natCast_nonneg _
     have d0:(k:Int)<64:=by omega
     have d1:(k1:Int)<64:=by omega
     have d2:(k9:Int)<64:=by omega
     have d3:(k14:Int)<64:=by omega
     have dt:(t:Int)<64:=by omega
     have hlen:=schR_len (tB b) k
     have hpl:(pad (schR (tB b) k)).length=64:=pad_len (by omega)
     have c0:wr.cell? ⟨w.heap.size+1,k,none⟩=some (.int .u32 ((schR (tB b) k).getD k 0)):=by rw [← pad_getD]; exact cell_cW0 hs.ws (by omega)
     have c1:wr.cell? ⟨w.heap.size+1,k1,none⟩=some (.int .u32 ((schR (tB b) k).getD k1 0)):=by rw [← pad_getD]; exact cell_cW0 hs.ws (by omega)
     have c2:wr.cell? ⟨w.heap.size+1,k9,none⟩=some (.int .u32 ((schR (tB b) k).getD k9 0)):=by rw [← pad_getD]; exact cell_cW0 hs.ws (by omega)
     have c3:wr.cell? ⟨w.heap.size+1,k14,none⟩=some (.int .u32 ((schR (tB b) k).getD k14 0)):=by rw [← pad_getD]; exact cell_cW0 hs.ws (by omega)
     have st:wr.cell? ⟨w.heap.size+1,t,none⟩=some (.int .u32 ((schR (tB b) k).getD t 0)):=by rw [← pad_getD]; exact cell_cW0 hs.ws (by omega)
     have sf:wr.frozen? ⟨w.heap.size+1,t,none⟩=false:=by have:=(hs.wst t (by omega)).2; rwa [Nat.zero_add] at this
     have HF:Hid (∀ v,Pl w (wr.setCell ⟨w.heap.size+1,t,none⟩ (.int .u32 v)) (schR (tB b) k++[v])):=fun v=>hs.step (by omega) (by omega) v
     have HV:Hid (schR (tB b) (k+1)=schR (tB b) k++[nextI ((schR (tB b) k).getD k 0) ((schR (tB b) k).getD k1 0) ((schR (tB b) k).getD k9 0) ((schR (tB b) k).getD k14 0)]):=by
      show _=_
      subst hk1 hk9 hk14; rfl
     have HT:Hid (16+k=t):=ht
     have N0:k≠t:=by omega
     have N2:k9≠t:=by omega
     clear hs ht hk1 hk9 hk14 hlen hpl hb
     generalize (schR (tB b) k).getD k 0=x0 at *
     generalize (schR (tB b) k).getD k1 0=x1 at *
     generalize (schR (tB b) k).getD k9 0=x2 at *
     generalize (schR (tB b) k).getD k14 0=x3 at *
     generalize (schR (tB b) k).getD t 0=z at *
     go_wp2
     go_region_held3 (fun w'=>w'.cell? ⟨w.heap.size+1,k,none⟩=some (.int .u32 x0)∧w'.cell? ⟨w.heap.size+1,k9,none⟩=some (.int .u32 x2)) (first | assumption | (refine ⟨?_,?_⟩ <;> first | assumption | (refine keep_off2 ?_ ?_ <;> assumption))) (first | (go_at_call 364; refine (turn_any _ _ _ (by decide) (by decide)).mono ?_; rintro e w' ⟨rfl,q,rfl⟩))
     go_wp2
     go_roundg (48 - (k+1))
     case rel =>
      go_light
      refine ⟨k+1,by omega,rfl,?_,?_⟩
      ·have:=HT.out; go_num
      rw [HV.out]
      exact (HF.out _).same rfl rfl rfl rfl
     case measure=>go_light; omega
    ·obtain rfl:k=48:=by omega
     have hlen:=schR_len (tB b) 48
     have hws:=hs.ws
     rw [pad_full hlen] at hws
     have hbel:=hs.below
     have hi:(Tryz.prog.info? 403).map (·.size)=some (cW (schR (tB b) 48)).length:=by rw [cW_len,hlen]; exact size46
     have hi2:(Tryz.prog.info? 403).map (·.size)=some (cW (schR (tB b) 48)).toArray.size:=by simpa using hi
     have hre2:wr.there w.heap.size 0 (cW (schR (tB b) 48)).toArray.size:=by
      have hsz:(cW (schR (tB b) 48)).toArray.size=64:=by simp [cW_len,hlen]
      rw [hsz]; exact hs.res
     clear hs hk hlt hlen hb
     generalize hE:schR (tB b) 48=ws at *
     have HE:Hid (schR (tB b) 48=ws):=hE
     clear hE
     go_wp2_with (first | (refine wpList_load_mid rfl 403 _ rfl (w.heap.size+1) 0 rfl (cW ws) _ hws Tryz.underlying403 rfl hi ?_) | (refine wpList_store_mid rfl 403 _ _ rfl w.heap.size 0 (cW ws).toArray rfl rfl hre2 hi2 (all_oneCell_toArray (cW_one ws)) ?_))
     refine bodyPost_ret (v := .agg (cW ws).toArray) ?_ rfl ⟨by rw [HE.out],?_⟩
     ·refine results_cell_mid Tryz.results363 _ _ w.heap.size 0 (cW ws) (.array 64 110) ?_ ?_ Tryz.underlying403 rfl hi
      ·rfl
      ·go_light
       simpa using World.rangeAt_setCells_same _ _ _ _ (by simpa using hre2)
     ·go_light
      exact below_setCells hbel (Nat.le_refl _) _ _
end Go.Proofs.YtoblgjledefdbaaGreatDoor
namespace Go.Proofs.YtoblgjledefdbaaGreatDoor
open Go.RowKit
theorem word_eq (a b c d:Int) (ha:0≤a∧a<256) (hb:0≤b∧b<256) (hc:0≤c∧c<256) (hd:0≤d∧d<256) :
  wordI a b c d=a * 16777216+b * 65536+c * 256+d:=by
 obtain ⟨a,rfl⟩:=Int.eq_ofNat_of_zero_le ha.1
 obtain ⟨b,rfl⟩:=Int.eq_ofNat_of_zero_le hb.1
 obtain ⟨c,rfl⟩:=Int.eq_ofNat_of_zero_le hc.1
 obtain ⟨d,rfl⟩:=Int.eq_ofNat_of_zero_le hd.1
 have h1:a<256:=by omega
 have h2:b<256:=by omega
 have h3:c<256:=by omega
 have h4:d<256:=by omega
 have e1:IntKind.u32.wrap (IntKind.u32.wrap (a:Int) * 16777216)=((a * 16777216:Nat):Int):=by simp only [IntKind.wrap_u32']; omega
 have e2:IntKind.u32.wrap (IntKind.u32.wrap (b:Int) * 65536)=((b * 65536:Nat):Int):=by simp only [IntKind.wrap_u32']; omega
 have e3:IntKind.u32.wrap (IntKind.u32.wrap (c:Int) * 256)=((c * 256:Nat):Int):=by simp only [IntKind.wrap_u32']; omega
 have e4:IntKind.u32.wrap (d:Int)=((d:Nat):Int):=by simp only [IntKind.wrap_u32']; omega
 have j1:a * 16777216 ||| b * 65536=a * 16777216+b * 65536:=nat_join 24 _ _ (by omega) (by omega)
 have j2:(a * 16777216+b * 65536) ||| c * 256=a * 16777216+b * 65536+c * 256:=nat_join 16 _ _ (by omega) (by omega)
 have j3:(a * 16777216+b * 65536+c * 256) ||| d=a * 16777216+b * 65536+c * 256+d:=nat_join 8 _ _ (by omega) (by omega)
 unfold wordI
 rw [e1,e2,e3,e4,u32_or_nat _ _ (by omega) (by omega),j1,u32_or_nat _ _ (by omega) (by omega),j2,u32_or_nat _ _ (by omega) (by omega),j3]
 omega
def Bytes (l:List Int):Prop := ∀ x∈l,0≤x∧x<256
theorem Bytes.getD {l:List Int} (h:Bytes l) (i:Nat):0≤l.getD i 0∧l.getD i 0<256:=by
 rw [List.getD_eq_getElem?_getD]
 cases e:l[i]? with
 | none=>exact ⟨by decide,by decide⟩
 | some x=>exact h x (List.mem_of_getElem? e)
theorem hor_eq {blk:List Int} (h:Bytes blk) (k:Nat):horI blk k 4=wordI (blk.getD (4 * k) 0) (blk.getD (4 * k+1) 0) (blk.getD (4 * k+2) 0) (blk.getD (4 * k+3) 0):=by
 have h0:=h.getD (4 * k)
 have h1:=h.getD (4 * k+1)
 have h2:=h.getD (4 * k+2)
 have h3:=h.getD (4 * k+3)
 rw [word_eq _ _ _ _ h0 h1 h2 h3]
 simp only [horI,IntKind.wrap_u32',Nat.add_zero]
 omega
theorem schR_eq {blk:List Int} (h:Bytes blk) (k:Nat):schR blk k=schN blk k:=by
 have h0 : ∀ k,schR0 blk k=sch0 blk k:=fun k=>by
  induction k with
  | zero=>rfl
  | succ k ih=>rw [schR0,sch0,ih,hor_eq h]
 induction k with
 | zero=>exact h0 16
 | succ k ih=>rw [schR,schN,ih]
theorem tB_bytes (s:ByteArray):Bytes (tB s):=by
 intro x hx
 obtain ⟨y,_,rfl⟩:=List.mem_map.1 hx
 have:=y.toNat_lt
 omega
end Go.Proofs.YtoblgjledefdbaaGreatDoor
namespace Go.Proofs.YtoblgjledefdbaaGreatDoor
open Go.RowKit
attribute [local go_sem ↓] Go.wp_at_zero Go.wp_at_succ
def l8 (v:S8):List Int:=[v.a,v.b,v.c,v.d,v.e,v.f,v.g,v.h]
def addL (s v:S8):Nat→List Int
 | 0=>l8 v
 | k+1=>(addL s v k).set k (IntKind.u32.wrap ((l8 v).getD k 0+(l8 s).getD k 0))
theorem addL_getD (s v:S8) (k j:Nat) (h:k≤j):(addL s v k).getD j 0=(l8 v).getD j 0:=by
 induction k with
 | zero=>rfl
 | succ k ih=>rw [addL,List.getD_eq_getElem?_getD,List.getElem?_set_ne (by omega),← List.getD_eq_getElem?_getD,ih (by omega)]
theorem addL_sum (s v:S8):addL s v 8=sumI s v:=by
 have:addL s v 8=[IntKind.u32.wrap (v.a+s.a),IntKind.u32.wrap (v.b+s.b),IntKind.u32.wrap (v.c+s.c),IntKind.u32.wrap (v.d+s.d),IntKind.u32.wrap (v.e+s.e),IntKind.u32.wrap (v.f+s.f),IntKind.u32.wrap (v.g+s.g),IntKind.u32.wrap (v.h+s.h)]:=rfl
 rw [this,sumI]
 simp only [Int.add_comm]
theorem rnd_a (a b c e f g h r x:Int):IntKind.u32.wrap (oneI e f g h r x+twoI a b c) =
  (h+bits .xor .u32 (bits .xor .u32 (rotI e 6) (rotI e 11)) (rotI e 25)+bits .xor .u32 (bits .and .u32 e f) (bits .and .u32 (bits .xor .u32 IntKind.u32.max e) g)+r+x+(bits .xor .u32 (bits .xor .u32 (rotI a 2) (rotI a 13)) (rotI a 22)+bits .xor .u32 (bits .xor .u32 (bits .and .u32 a b) (bits .and .u32 a c)) (bits .and .u32 b c))) % 4294967296:=by
 simp only [oneI,twoI,IntKind.wrap_u32']; omega
theorem rnd_e (d e f g h r x:Int):IntKind.u32.wrap (d+oneI e f g h r x) =
  (d+(h+bits .xor .u32 (bits .xor .u32 (rotI e 6) (rotI e 11)) (rotI e 25)+bits .xor .u32 (bits .and .u32 e f) (bits .and .u32 (bits .xor .u32 IntKind.u32.max e) g)+r+x)) % 4294967296:=by
 simp only [oneI,IntKind.wrap_u32']; omega
structure Mx (w wr:World) (st ws rs vl:List Int) (N V:Nat):Prop where
 vlen:vl.length=8
 below:Below w.heap.size w wr
 st:wr.rangeAt w.heap.size 0 (cW st)
 res:wr.there (w.heap.size+1) 0 8
 ws:wr.rangeAt N 0 (cW ws)
 rs:wr.rangeAt 1 0 (cW rs)
 v:wr.rangeAt V 0 (cW vl)
 vt:wr.there V 0 8
 hN:w.heap.size+2≤N
 hV:N<V
 h2:1<w.heap.size
theorem Mx.same {w X Y:World} {st ws rs vl:List Int} {N V:Nat} (h:Mx w X st ws rs vl N V) (e1:Y.heap=X.heap) (e2:Y.os=X.os) (e3:Y.tape=X.tape) (e4:Y.output=X.output):Mx w Y st ws rs vl N V:=by
 have hc : ∀ a,Y.cell? a=X.cell? a:=fun a=>World.cell?_of_block (w:=X) (by rw [e1])
 have hf : ∀ a,Y.frozen? a=X.frozen? a:=fun a=>World.frozen?_of_block (w:=X) (by rw [e1])
 exact ⟨h.vlen,⟨e2.trans h.below.os,e3.trans h.below.tape,e4.trans h.below.output,by rw [e1]; exact h.below.size,fun k hk=>by rw [e1]; exact h.below.block k hk⟩,
  fun j v hv=>by rw [hc]; exact h.st j v hv,fun j hj=>by rw [hc,hf]; exact h.res j hj,fun j v hv=>by rw [hc]; exact h.ws j v hv,fun j v hv=>by rw [hc]; exact h.rs j v hv,fun j v hv=>by rw [hc]; exact h.v j v hv,fun j hj=>by rw [hc,hf]; exact h.vt j hj,h.hN,h.hV,h.h2⟩
theorem Mx.set {w wr:World} {st ws rs vl:List Int} {N V:Nat} (h:Mx w wr st ws rs vl N V) (i:Nat) (x:Int):Mx w (wr.setCell ⟨V,i,none⟩ (.int .u32 x)) st ws rs (vl.set i x) N V:=by
 have hN:=h.hN
 have hV:=h.hV
 have h2:=h.h2
 refine ⟨by rw [List.length_set]; exact h.vlen,h.below.setCell (by show w.heap.size≤V; omega) _,range_other h.st (by show V≠_; omega) _,there_set h.res _ _,range_other h.ws (by show V≠_; omega) _,range_other h.rs (by show V≠_; omega) _,?_,there_set h.vt _ _,hN,hV,h2⟩
 have:=range_set h.v i (.int .u32 x)
 rwa [Nat.zero_add,cW_set] at this
structure M1 (w W:World) (st ws rs:List Int) (N:Nat):Prop where
 below:Below w.heap.size w W
 st:W.rangeAt w.heap.size 0 (cW st)
 res:W.there (w.heap.size+1) 0 8
 ws:W.rangeAt N 0 (cW ws)
 rs:W.rangeAt 1 0 (cW rs)
 hN:w.heap.size+2≤N
 hV:N<W.heap.size
 h2:1<w.heap.size
theorem M1.start {w w':World} {st ws rs:List Int} {t1 t2 t3:TypeId} {z:Array Value} (hz:z.size=8) {z2:Array Value} (hz2:z2.size=64) (hwl:ws.length=64) (hrl:rs.length=64)
  (hr:w.rangeAt 1 0 (cW rs))
  (hb:Below ((w.alloc (.cells (cW st).toArray t1)).alloc (.cells z t2)).heap.size ((w.alloc (.cells (cW st).toArray t1)).alloc (.cells z t2)) w') :
  M1 w ((w'.alloc (.cells z2 t3)).setCells w'.heap.size 0 (cW ws)) st ws rs w'.heap.size:=by
 have hlt:1<w.heap.size:=range_lt hr (by intro h; have:=congrArg List.length h; simp [cW_len,hrl] at this)
 have hN:w.heap.size+2≤w'.heap.size:=by have:=hb.size; simp at this; omega
 have hbw2:Below w.heap.size w w':=(((Below.refl _ _).alloc (Nat.le_refl _) _).alloc (by simp) _).trans (hb.mono (by simp; omega))
 have h1:w'.rangeAt w.heap.size 0 (cW st):=range_below hb (by simp; omega) (World.rangeAt_alloc (range_new _ _ _) _)
 have h2:w'.there (w.heap.size+1) 0 8:=by
  have:=there_new (w.alloc (.cells (cW st).toArray t1)) z t2 8 (by omega)
  simp only [World.size_alloc] at this
  exact there_below hb (by simp) this
 have h3:w'.rangeAt 1 0 (cW rs):=range_below hbw2 hlt hr
 have hw:((w'.alloc (.cells z2 t3)).setCells w'.heap.size 0 (cW ws)).rangeAt w'.heap.size 0 (cW ws):=World.rangeAt_setCells_same _ _ _ _ (there_new _ _ _ _ (by rw [cW_len,hwl,hz2]; exact Nat.le_refl _))
 refine ⟨below_setCells (hbw2.alloc (by omega) _) (by omega) _ _,?_,?_,hw,?_,hN,?_,hlt⟩
 ·exact World.rangeAt_setCells_apart (World.rangeAt_alloc h1 _) _ _ _ (Or.inl (by omega))
 ·exact World.there_setCells (World.there_alloc h2 _) _ _ _
 ·exact World.rangeAt_setCells_apart (World.rangeAt_alloc h3 _) _ _ _ (Or.inl (by omega))
 ·exact range_lt hw (by intro h; have:=congrArg List.length h; simp [cW_len,hwl] at this)
theorem Mx.start {w W:World} {st ws rs:List Int} {N:Nat} (h:M1 w W st ws rs N) (hst:st.length=8) (t:TypeId):Mx w (W.alloc (.cells (cW st).toArray t)) st ws rs st N W.heap.size :=
 ⟨hst,h.below.alloc h.below.size _,World.rangeAt_alloc h.st _,World.there_alloc h.res _,World.rangeAt_alloc h.ws _,World.rangeAt_alloc h.rs _,range_new _ _ _,there_new _ _ _ _ (by simp [cW_len,hst]),h.hN,h.hV,h.h2⟩
set_option maxHeartbeats 1000000 in
set_option maxRecDepth 100000 in
theorem mixed_any (st:List Int) (hst:st.length=8) (b:ByteArray) (hb:b.size=64) (w:World) (rs:List Int) (hrl:rs.length=64) (hr:w.rangeAt 1 0 (cW rs)) :
  Calls Tryz.prog 282 #[.agg (cW st).toArray,.string b] w fun e w'=>e = .returned (.agg (cW (foldI rs st (tB b))).toArray)∧Below w.heap.size w w':=by
 obtain ⟨s0,s1,s2,s3,s4,s5,s6,s7,rfl⟩:=list8 hst
 clear hst
 obtain ⟨ws,hws⟩ : ∃ ws,ws=schN (tB b) 48:=⟨_,rfl⟩
 have hwl:ws.length=64:=by rw [hws,schN_len]
 have hplan:=fun w=>plan_any b hb w
 rw [schR_eq (tB_bytes b),← hws] at hplan
 have HE:Hid (ws=schN (tB b) 48):=hws
 clear hws
 have hsz:(cW ws).toArray.size=64:=by simp [cW_len,hwl]
 have hi46:(Tryz.prog.info? 403).map (·.size)=some (cW ws).toArray.size:=by rw [hsz]; exact size46
 go_enter Tryz.func282,Tryz.ntmps282
 go_upto_region 2 with (first | (go_at_call 363; refine (hplan _).mono ?_; rintro e w' ⟨rfl,hbw⟩) | (refine wpList_store_mid rfl 403 _ _ rfl _ 0 (cW ws).toArray rfl rfl ?_ hi46 (all_oneCell_toArray (cW_one ws)) ?_; exact there_new _ _ _ _ (by rw [hsz]; exact Nat.le_refl 64)))
 go_simp
 have hM:M1 w ((w'.alloc (.cells #[.int .u32 0,.int .u32 0,.int .u32 0,.int .u32 0,.int .u32 0,.int .u32 0,.int .u32 0,.int .u32 0,.int .u32 0,.int .u32 0,.int .u32 0,.int .u32 0,.int .u32 0,.int .u32 0,.int .u32 0,.int .u32 0,.int .u32 0,.int .u32 0,.int .u32 0,.int .u32 0,.int .u32 0,.int .u32 0,.int .u32 0,.int .u32 0,.int .u32 0,.int .u32 0,.int .u32 0,.int .u32 0,.int .u32 0,.int .u32 0,.int .u32 0,.int .u32 0,.int .u32 0,.int .u32 0,.int .u32 0,.int .u32 0,.int .u32 0,.int .u32 0,.int .u32 0,.int .u32 0,.int .u32 0,.int .u32 0,.int .u32 0,.int .u32 0,.int .u32 0,.int .u32 0,.int .u32 0,.int .u32 0,.int .u32 0,.int .u32 0,.int .u32 0,.int .u32 0,.int .u32 0,.int .u32 0,.int .u32 0,.int .u32 0,.int .u32 0,.int .u32 0,.int .u32 0,.int .u32 0,.int .u32 0,.int .u32 0,.int .u32 0,.int .u32 0] 403)).setCells w'.heap.size 0 (cW ws)) [s0,s1,s2,s3,s4,s5,s6,s7] ws rs w'.heap.size:=M1.start (z2:=(cW (List.replicate 64 0)).toArray) (z:=(cW [0,0,0,0,0,0,0,0]).toArray) rfl rfl hwl hrl hr hbw
 clear hbw hplan
 generalize ((w'.alloc (.cells #[.int .u32 0,.int .u32 0,.int .u32 0,.int .u32 0,.int .u32 0,.int .u32 0,.int .u32 0,.int .u32 0,.int .u32 0,.int .u32 0,.int .u32 0,.int .u32 0,.int .u32 0,.int .u32 0,.int .u32 0,.int .u32 0,.int .u32 0,.int .u32 0,.int .u32 0,.int .u32 0,.int .u32 0,.int .u32 0,.int .u32 0,.int .u32 0,.int .u32 0,.int .u32 0,.int .u32 0,.int .u32 0,.int .u32 0,.int .u32 0,.int .u32 0,.int .u32 0,.int .u32 0,.int .u32 0,.int .u32 0,.int .u32 0,.int .u32 0,.int .u32 0,.int .u32 0,.int .u32 0,.int .u32 0,.int .u32 0,.int .u32 0,.int .u32 0,.int .u32 0,.int .u32 0,.int .u32 0,.int .u32 0,.int .u32 0,.int .u32 0,.int .u32 0,.int .u32 0,.int .u32 0,.int .u32 0,.int .u32 0,.int .u32 0,.int .u32 0,.int .u32 0,.int .u32 0,.int .u32 0,.int .u32 0,.int .u32 0,.int .u32 0,.int .u32 0] 403)).setCells w'.heap.size 0 (cW ws))=W2 at *
 generalize w'.heap.size=N at *
 clear w'
 have c0:W2.cell? ⟨w.heap.size,0,none⟩=some (.int .u32 s0):=cell_cW0 hM.st (i:=0) (by simp)
 have c1:W2.cell? ⟨w.heap.size,1,none⟩=some (.int .u32 s1):=cell_cW0 hM.st (i:=1) (by simp)
 have c2:W2.cell? ⟨w.heap.size,2,none⟩=some (.int .u32 s2):=cell_cW0 hM.st (i:=2) (by simp)
 have c3:W2.cell? ⟨w.heap.size,3,none⟩=some (.int .u32 s3):=cell_cW0 hM.st (i:=3) (by simp)
 have c4:W2.cell? ⟨w.heap.size,4,none⟩=some (.int .u32 s4):=cell_cW0 hM.st (i:=4) (by simp)
 have c5:W2.cell? ⟨w.heap.size,5,none⟩=some (.int .u32 s5):=cell_cW0 hM.st (i:=5) (by simp)
 have c6:W2.cell? ⟨w.heap.size,6,none⟩=some (.int .u32 s6):=cell_cW0 hM.st (i:=6) (by simp)
 have c7:W2.cell? ⟨w.heap.size,7,none⟩=some (.int .u32 s7):=cell_cW0 hM.st (i:=7) (by simp)
 have hX:Mx w (W2.alloc (.cells (cW [s0,s1,s2,s3,s4,s5,s6,s7]).toArray 346)) [s0,s1,s2,s3,s4,s5,s6,s7] ws rs [s0,s1,s2,s3,s4,s5,s6,s7] N W2.heap.size:=Mx.start hM rfl 346
 replace hX:Mx w (W2.alloc (.cells #[.int .u32 s0,.int .u32 s1,.int .u32 s2,.int .u32 s3,.int .u32 s4,.int .u32 s5,.int .u32 s6,.int .u32 s7] 346)) [s0,s1,s2,s3,s4,s5,s6,s7] ws rs [s0,s1,s2,s3,s4,s5,s6,s7] N W2.heap.size:=hX
 clear hM
 go_wp2
 clear c0 c1 c2 c3 c4 c5 c6 c7
 generalize W2.alloc (.cells #[.int .u32 s0,.int .u32 s1,.int .u32 s2,.int .u32 s3,.int .u32 s4,.int .u32 s5,.int .u32 s6,.int .u32 s7] 346)=W3 at *
 generalize W2.heap.size=V at *
 clear W2
 go_loopg [7] 64 (fun g i wr => ∃ (k:Nat) (v:S8),k≤64∧g=64 - k∧i = .int .i64 k∧Hid (v=rnds (s8of [s0,s1,s2,s3,s4,s5,s6,s7]) rs ws k)∧Mx w wr [s0,s1,s2,s3,s4,s5,s6,s7] ws rs (l8 v) N V)
 case atStart =>
  go_light
  exact ⟨0,s8of [s0,s1,s2,s3,s4,s5,s6,s7],Nat.zero_le _,rfl,rfl,rfl,hX⟩
 case round =>
  clear hX
  obtain ⟨k,v,hk,rfl,rfl,hv,hX⟩:=hrel
  by_cases hlt:k<64
  ·have hk0:(0:Int)≤(k:Int):=Int.natCast_nonneg _
   have hk8:(k:Int)<64:=by omega
   obtain ⟨a,b',c,d,e,f,g,gh⟩:=v
   have cr:=cell_cW0 hX.rs (i:=k) (by omega)
   have cw:=cell_cW0 hX.ws (i:=k) (by omega)
   have c0:wr.cell? ⟨V,0,none⟩=some (.int .u32 a):=cell_cW0 hX.v (i:=0) (by simp [l8])
   have c1:wr.cell? ⟨V,1,none⟩=some (.int .u32 b'):=cell_cW0 hX.v (i:=1) (by simp [l8])
   have c2:wr.cell? ⟨V,2,none⟩=some (.int .u32 c):=cell_cW0 hX.v (i:=2) (by simp [l8])
   have c3:wr.cell? ⟨V,3,none⟩=some (.int .u32 d):=cell_cW0 hX.v (i:=3) (by simp [l8])
   have c4:wr.cell? ⟨V,4,none⟩=some (.int .u32 e):=cell_cW0 hX.v (i:=4) (by simp [l8])
   have c5:wr.cell? ⟨V,5,none⟩=some (.int .u32 f):=cell_cW0 hX.v (i:=5) (by simp [l8])
   have c6:wr.cell? ⟨V,6,none⟩=some (.int .u32 g):=cell_cW0 hX.v (i:=6) (by simp [l8])
   have c7:wr.cell? ⟨V,7,none⟩=some (.int .u32 gh):=cell_cW0 hX.v (i:=7) (by simp [l8])
   have f0:wr.frozen? ⟨V,0,none⟩=false:=by have:=(hX.vt 0 (by decide)).2; rwa [Nat.zero_add] at this
   have f1:wr.frozen? ⟨V,1,none⟩=false:=by have:=(hX.vt 1 (by decide)).2; rwa [Nat.zero_add] at this
   have f2:wr.frozen? ⟨V,2,none⟩=false:=by have:=(hX.vt 2 (by decide)).2; rwa [Nat.zero_add] at this
   have f3:wr.frozen? ⟨V,3,none⟩=false:=by have:=(hX.vt 3 (by decide)).2; rwa [Nat.zero_add] at this
   have f4:wr.frozen? ⟨V,4,none⟩=false:=by have:=(hX.vt 4 (by decide)).2; rwa [Nat.zero_add] at this
   have f5:wr.frozen? ⟨V,5,none⟩=false:=by have:=(hX.vt 5 (by decide)).2; rwa [Nat.zero_add] at this
   have f6:wr.frozen? ⟨V,6,none⟩=false:=by have:=(hX.vt 6 (by decide)).2; rwa [Nat.zero_add] at this
   have f7:wr.frozen? ⟨V,7,none⟩=false:=by have:=(hX.vt 7 (by decide)).2; rwa [Nat.zero_add] at this
   have HX:Hid (∀ x0 x1 x2 x3 x4 x5 x6 x7,Mx w ((((((((wr.setCell ⟨V,0,none⟩ (.int .u32 x0)).setCell ⟨V,1,none⟩ (.int .u32 x1)).setCell ⟨V,2,none⟩ (.int .u32 x2)).setCell ⟨V,3,none⟩ (.int .u32 x3)).setCell ⟨V,4,none⟩ (.int .u32 x4)).setCell ⟨V,5,none⟩ (.int .u32 x5)).setCell ⟨V,6,none⟩ (.int .u32 x6)).setCell ⟨V,7,none⟩ (.int .u32 x7)) [s0,s1,s2,s3,s4,s5,s6,s7] ws rs [x0,x1,x2,x3,x4,x5,x6,x7] N V):=fun x0 x1 x2 x3 x4 x5 x6 x7=>((((((((hX.set 0 x0).set 1 x1).set 2 x2).set 3 x3).set 4 x4).set 5 x5).set 6 x6).set 7 x7)
   have HV:Hid (∀ v',v'=S8.rnd ⟨a,b',c,d,e,f,g,gh⟩ (rs.getD k 0) (ws.getD k 0)→v'=rnds (s8of [s0,s1,s2,s3,s4,s5,s6,s7]) rs ws (k+1)):=fun v' h=>by
    rw [h,show S8.mk a b' c d e f g gh=_ from hv]; rfl
   clear hX hv
   generalize rs.getD k 0=r at *
   generalize ws.getD k 0=x at *
   go_wp2
   go_region_held3 (fun w'=>w'.cell? ⟨1,k,none⟩=some (.int .u32 r)∧w'.cell? ⟨N,k,none⟩=some (.int .u32 x)∧w'.cell? ⟨V,4,none⟩=some (.int .u32 e)∧w'.cell? ⟨V,5,none⟩=some (.int .u32 f)∧w'.cell? ⟨V,6,none⟩=some (.int .u32 g)∧w'.cell? ⟨V,7,none⟩=some (.int .u32 gh)) (first | assumption | (refine ⟨?_,?_,?_,?_,?_,?_⟩ <;> assumption)) (first | (go_at_call 364; refine (turn_any _ _ _ (by decide) (by decide)).mono ?_; rintro e w' ⟨rfl,q,rfl⟩))
   go_wp2
   go_region_held3 (fun w'=>w'.cell? ⟨V,0,none⟩=some (.int .u32 a)∧w'.cell? ⟨V,1,none⟩=some (.int .u32 b')∧w'.cell? ⟨V,2,none⟩=some (.int .u32 c)) (first | assumption | (refine ⟨?_,?_,?_⟩ <;> assumption)) (first | (go_at_call 364; refine (turn_any _ _ _ (by decide) (by decide)).mono ?_; rintro e w' ⟨rfl,q,rfl⟩))
   go_wp2
   go_roundg (64 - (k+1))
   case rel =>
    go_light
    refine ⟨k+1,S8.rnd ⟨a,b',c,d,e,f,g,gh⟩ r x,by omega,rfl,by go_num,HV.out (S8.rnd ⟨a,b',c,d,e,f,g,gh⟩ r x) rfl,?_⟩
    simp only [l8,S8.rnd,rnd_a,rnd_e]
    refine Mx.same (HX.out _ _ _ _ _ _ _ _) ?_ ?_ ?_ ?_
    all_goals rfl
   case measure=>go_light; omega
  ·obtain rfl:k=64:=by omega
   have HVF:Hid (foldI rs [s0,s1,s2,s3,s4,s5,s6,s7] (tB b)=sumI (s8of [s0,s1,s2,s3,s4,s5,s6,s7]) v):=by
    show _=_
    rw [show v=_ from hv,show ws=_ from HE]; rfl
   clear hk hlt hv
   go_wp2
   go_loopg [10] 8 (fun g i wr => ∃ k:Nat,k≤8∧g=8 - k∧i = .int .i64 k∧Mx w wr [s0,s1,s2,s3,s4,s5,s6,s7] ws rs (addL (s8of [s0,s1,s2,s3,s4,s5,s6,s7]) v k) N V)
   case atStart =>
    go_light
    exact ⟨0,Nat.zero_le _,rfl,rfl,hX⟩
   case round =>
    clear hX
    obtain ⟨k,hk,rfl,rfl,hX⟩:=hrel
    by_cases hlt:k<8
    ·have hk0:(0:Int)≤(k:Int):=Int.natCast_nonneg _
     have hk8:(k:Int)<8:=by omega
     have cv:=cell_cW0 hX.v (i:=k) (by rw [hX.vlen]; omega)
     rw [addL_getD _ _ _ _ (Nat.le_refl _)] at cv
     have cs:wr.cell? ⟨w.heap.size,k,none⟩=some (.int .u32 ((l8 (s8of [s0,s1,s2,s3,s4,s5,s6,s7])).getD k 0)):=cell_cW0 hX.st (i:=k) hlt
     have fv:wr.frozen? ⟨V,k,none⟩=false:=by have:=(hX.vt k hlt).2; rwa [Nat.zero_add] at this
     have HF:Hid (∀ x,Mx w (wr.setCell ⟨V,k,none⟩ (.int .u32 x)) [s0,s1,s2,s3,s4,s5,s6,s7] ws rs ((addL (s8of [s0,s1,s2,s3,s4,s5,s6,s7]) v k).set k x) N V):=fun x=>hX.set k x
     have HV:Hid (addL (s8of [s0,s1,s2,s3,s4,s5,s6,s7]) v (k+1)=(addL (s8of [s0,s1,s2,s3,s4,s5,s6,s7]) v k).set k (IntKind.u32.wrap ((l8 v).getD k 0+(l8 (s8of [s0,s1,s2,s3,s4,s5,s6,s7])).getD k 0))):=rfl
     clear hX
     generalize (l8 v).getD k 0=x at *
     generalize (l8 (s8of [s0,s1,s2,s3,s4,s5,s6,s7])).getD k 0=y at *
     go_wp2
     go_region
     all_goals
      go_wp2
      go_roundg (8 - (k+1))
      case rel =>
       go_light
       refine ⟨k+1,by omega,rfl,by go_num,?_⟩
       rw [HV.out,IntKind.wrap_u32']
       exact (HF.out _).same rfl rfl rfl rfl
      case measure=>go_light; omega
    ·obtain rfl:k=8:=by omega
     rw [addL_sum] at hX
     have hvl:=hX.vlen
     have hvr:=hX.v
     have hi34:(Tryz.prog.info? 346).map (·.size)=some (cW (sumI (s8of [s0,s1,s2,s3,s4,s5,s6,s7]) v)).length:=size34
     have hi34':(Tryz.prog.info? 346).map (·.size)=some (cW (sumI (s8of [s0,s1,s2,s3,s4,s5,s6,s7]) v)).toArray.size:=size34
     have hres:wr.there (w.heap.size+1) 0 (cW (sumI (s8of [s0,s1,s2,s3,s4,s5,s6,s7]) v)).toArray.size:=hX.res
     have hbel:=hX.below
     clear hX
     generalize hE:sumI (s8of [s0,s1,s2,s3,s4,s5,s6,s7]) v=F at *
     have HF:Hid (foldI rs [s0,s1,s2,s3,s4,s5,s6,s7] (tB b)=F):=HVF
     clear hE HVF
     go_wp2_with (first | (refine wpList_load_mid rfl 346 _ rfl V 0 rfl (cW F) _ hvr Tryz.underlying346 rfl hi34 ?_) | (refine wpList_store_mid rfl 346 _ _ rfl (w.heap.size+1) 0 (cW F).toArray rfl rfl hres hi34' (all_oneCell_toArray (cW_one F)) ?_))
     refine bodyPost_ret (v := .agg (cW F).toArray) ?_ rfl ⟨by rw [HF.out],?_⟩
     ·refine results_cell_mid Tryz.results282 _ _ (w.heap.size+1) 0 (cW F) (.array 8 110) ?_ ?_ Tryz.underlying346 rfl hi34
      ·rfl
      ·go_light
       simpa using World.rangeAt_setCells_same _ _ _ _ (by simpa using hres)
     ·go_light
      exact below_setCells hbel (by omega) _ _
end Go.Proofs.YtoblgjledefdbaaGreatDoor
