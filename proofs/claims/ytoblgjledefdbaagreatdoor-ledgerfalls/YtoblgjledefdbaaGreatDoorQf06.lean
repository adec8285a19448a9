/- Own work. -/
import Derived.Test.YtoblgjledefdbaaGreatDoorRows
import Derived.Test.YtoblgjledefdbaaGreatDoorProg
import Derived.Deep.MidRow
import Derived.Below
import Derived.WalkKit
import Derived.WalkSpells
import Derived.Outline
import Derived.KernelRfl
import Derived.Deep.LoopGhost
import Derived.Deep.RegionHeld3
import Derived.Deep.RegionWith
import Derived.Deep.DrawnRows
import Derived.Deep.Light
import Derived.Laws.BitsAllLaws
import Derived.BigQuiet
import Derived.Test.YtoblgjledefdbaaGreatDoorQf05
namespace Go.Proofs.YtoblgjledefdbaaGreatDoor
open Go.RowKit
open Pl (ones pw)
def ff (c:Nat) (L:List ByteArray) (h:Int) (k:Nat):Option ByteArray:=if 0≤h∧(k+1) * 2^h.toNat≤L.length then some (nd c L h.toNat k) else none
def fj (c:Nat) (L:List ByteArray) (x:ByteArray) (j:Nat) (h:Int) (k:Nat):Option ByteArray:=if 0≤h∧h≤(j:Int)∧(k+1) * 2^h.toNat=L.length+1 then some (nd c (L++[x]) h.toNat k) else ff c L h k
theorem nd_app (c:Nat) (L M:List ByteArray) (h k:Nat) (hk:(k+1) * 2^h≤L.length):nd c (L++M) h k=nd c L h k:=by
 refine nd_alike h k k fun t ht => ?_
 rw [List.getD_eq_getElem?_getD,List.getD_eq_getElem?_getD,List.getElem?_append_left]
 rw [Nat.add_mul,Nat.one_mul] at hk
 omega
theorem ff_nat (c:Nat) (L:List ByteArray) (h k:Nat) (hk:(k+1) * 2^h≤L.length):ff c L (h:Int) k=some (nd c L h k):=by
 rw [ff,if_pos ⟨Int.natCast_nonneg _,by rw [Int.toNat_natCast]; exact hk⟩,Int.toNat_natCast]
theorem ff_no (c:Nat) (L:List ByteArray) (h k:Nat) (hk : ¬ (k+1) * 2^h≤L.length):ff c L (h:Int) k=none:=by
 rw [ff,if_neg]
 rw [Int.toNat_natCast]
 exact fun x=>hk x.2
theorem ff_size {c:Nat} (hc:c≤32) {L:List ByteArray} {h:Int} {k:Nat} {s:ByteArray} (e:ff c L h k=some s):s.size=c:=by
 rw [ff] at e
 split at e
 ·injection e with e
  rw [← e,nd_size hc]
 ·cases e
theorem fj_start (c:Nat) (L:List ByteArray) (x:ByteArray):put (ff c L) 0 L.length (nd c (L++[x]) 0 L.length)=fj c L x 0:=by
 funext h k
 rw [put,fj]
 by_cases e:h=0∧k=L.length
 ·obtain ⟨rfl,rfl⟩:=e
  rw [if_pos ⟨rfl,rfl⟩,if_pos ⟨by decide,by decide,by simp⟩]
  rfl
 ·rw [if_neg e,if_neg]
  rintro ⟨h0,h1,h2⟩
  obtain rfl:h=0:=by simp at h1; omega
  simp at h2
  exact e ⟨rfl,h2⟩
theorem last_at {n j q:Nat} (hq:n=2^j * q):n / 2^j=q:=by
 rw [hq,Nat.mul_div_cancel_left _ (Nat.two_pow_pos j)]
theorem fj_step (c:Nat) (L:List ByteArray) (x:ByteArray) (j q:Nat) (hq:L.length+1=2^(j+1) * (q+1)):put (fj c L x j) ((j+1:Nat):Int) q (nd c (L++[x]) (j+1) q)=fj c L x (j+1):=by
 funext h k
 rw [put]
 by_cases e:h=((j+1:Nat):Int)∧k=q
 ·obtain ⟨rfl,rfl⟩:=e
  rw [if_pos ⟨rfl,rfl⟩,fj,Int.toNat_natCast,if_pos ⟨by omega,Int.le_refl _,by rw [hq,Nat.mul_comm]⟩]
 ·rw [if_neg e,fj,fj]
  by_cases g:0≤h∧h≤(j:Int)∧(k+1) * 2^h.toNat=L.length+1
  ·rw [if_pos g,if_pos ⟨g.1,by omega,g.2.2⟩]
  ·rw [if_neg g,if_neg]
   rintro ⟨h0,h1,h2⟩
   by_cases hj:h≤(j:Int)
   ·exact g ⟨h0,hj,h2⟩
   ·obtain rfl:h=((j+1:Nat):Int):=by omega
    rw [Int.toNat_natCast,hq,Nat.mul_comm] at h2
    have:=Nat.eq_of_mul_eq_mul_left (Nat.two_pow_pos (j+1)) h2
    exact e ⟨rfl,by omega⟩
theorem fj_end (c:Nat) (L:List ByteArray) (x:ByteArray) (t:Nat) (hn:L.length<65536) (ht:tr 64 (L.length+1)=t):fj c L x t=ff c (L++[x]):=by
 funext h k
 rw [fj,show ff c (L++[x]) h k=if 0≤h∧(k+1) * 2^h.toNat≤L.length+1 then some (nd c (L++[x]) h.toNat k) else none by rw [ff,List.length_append,List.length_singleton]]
 by_cases h0:0≤h
 ·obtain ⟨i,rfl⟩ : ∃ i:Nat,h=(i:Int):=⟨h.toNat,by omega⟩
  rw [Int.toNat_natCast]
  by_cases g:(k+1) * 2^i≤L.length
  ·rw [if_neg (by rintro ⟨_,_,e⟩; omega),if_pos ⟨h0,by omega⟩,ff_nat c L i k g,nd_app c L _ i k g]
  ·by_cases g2:(k+1) * 2^i=L.length+1
   ·have hi:i≤64:=by
     apply Nat.le_of_not_lt
     intro hlt
     have h1:2^64≤2^i:=Nat.pow_le_pow_right (by decide) (by omega)
     have h2:2^i≤(k+1) * 2^i:=Nat.le_mul_of_pos_left _ (by omega)
     omega
    have:=(tr_lt 64 i (L.length+1) hi).1
    rw [ht,← g2,Nat.mul_mod_left] at this
    have hit:(i:Int)≤(t:Int):=Int.ofNat_le.2 (Nat.le_of_not_lt fun hx=>this hx rfl)
    rw [if_pos ⟨h0,hit,g2⟩,if_pos ⟨h0,by omega⟩]
   ·rw [if_neg (by rintro ⟨_,_,e⟩; exact g2 e),if_neg (by rintro ⟨_,e⟩; omega),ff_no c L i k g]
 ·rw [if_neg (by rintro ⟨e,_⟩; exact h0 e),if_neg (by rintro ⟨e,_⟩; exact h0 e),ff,if_neg (by rintro ⟨e,_⟩; exact h0 e)]
theorem fj_left (c:Nat) (L:List ByteArray) (x:ByteArray) (j q:Nat) (hq:L.length+1=2^(j+1) * (q+1)):fj c L x j (j:Int) (2 * q)=some (nd c (L++[x]) j (2 * q)):=by
 have hp:=Nat.two_pow_pos j
 rw [Nat.pow_succ,Nat.mul_assoc,Nat.mul_comm] at hq
 have e1:(2 * q+1) * 2^j+2^j=L.length+1:=by
  rw [hq]
  have:2 * (q+1)=2 * q+1+1:=by omega
  rw [this,Nat.add_mul (2 * q+1),Nat.one_mul]
 rw [fj,if_neg,ff_nat c L j (2 * q) (by omega),nd_app c L _ j (2 * q) (by omega)]
 rw [Int.toNat_natCast]
 rintro ⟨_,_,e⟩
 omega
def nw (c:Nat) (M:List ByteArray) (t:Nat):List ByteArray:=(List.range (t+1)).map fun j=>nd c M j (M.length / 2^j - 1)
theorem nw_len (c:Nat) (M:List ByteArray) (t:Nat):(nw c M t).length=t+1:=by simp [nw]
theorem nw_succ (c:Nat) (M:List ByteArray) (t:Nat):nw c M (t+1)=nw c M t++[nd c M (t+1) (M.length / 2^(t+1) - 1)]:=by
 simp [nw,List.range_succ]
theorem nw_zero (c:Nat) (M:List ByteArray):nw c M 0=[nd c M 0 (M.length - 1)]:=by
 simp [nw,List.range_succ]
theorem tr_div {n t j:Nat} (ht:tr 64 n=t) (hj:j≤t) : ∃ q,n=2^j * q:=by
 have h64:=tr_le 64 n
 have h1:=(tr_lt 64 j n (by omega)).2
 have hm:n % 2^j=0:=by
  apply Classical.byContradiction
  intro h
  have:=h1 h
  omega
 exact ⟨n / 2^j,(Nat.mul_div_cancel' (Nat.dvd_of_mod_eq_zero hm)).symm⟩
theorem tr_small {n:Nat} (h1:0<n) (h2:n≤65536):tr 64 n≤16:=by
 apply Nat.le_of_not_lt
 intro h
 obtain ⟨q,hq⟩:=tr_div (n:=n) (t:=tr 64 n) (j:=17) rfl (by omega)
 have:(2:Nat)^17=131072:=by decide
 rw [this] at hq
 omega
end Go.Proofs.YtoblgjledefdbaaGreatDoor
namespace Go.Proofs.YtoblgjledefdbaaGreatDoor
def mdL (c:Nat) (L:List ByteArray) (x:ByteArray):List ByteArray:=(List.range (Pl.trl 40 L.length+1)).map fun j=>nd c (L++[x]) j (L.length / 2^j)
def pkL (c:Nat) (L:List ByteArray):List ByteArray:=ol (Kp.gN c L) 41 L.length
theorem pkL_snoc (c:Nat) (L:List ByteArray) (x:ByteArray):ol (Kp.gN c (L++[x])) 41 L.length=pkL c L:=by
 have e:=Kp.pks_ol c (L++[x]) L.length (by simp) 41
 have e2:=Kp.pks_ol c L L.length (Nat.le_refl _) 41
 rw [List.take_left] at e
 rw [List.take_length] at e2
 rw [← e,e2]; rfl
theorem trl_spec : ∀ (f n:Nat),n<2^f→n % 2^Pl.trl f n=2^Pl.trl f n - 1 ∧ ¬ n / 2^Pl.trl f n % 2=1
 | 0,n,h=>by
  obtain rfl:n=0:=by simpa using h
  exact ⟨rfl,by decide⟩
 | f+1,n,h=>by
  by_cases ho:n % 2=1
  ·rw [Pl.trl_step f n ho]
   obtain ⟨i1,i2⟩:=trl_spec f (n / 2) (by rw [Nat.pow_succ] at h; omega)
   have hp:=Nat.two_pow_pos (Pl.trl f (n / 2))
   rw [Nat.pow_succ]
   refine ⟨?_,?_⟩
   ·rw [Nat.mul_comm,Nat.mod_mul,ho,i1]; omega
   ·rw [Nat.mul_comm,← Nat.div_div_eq_div_mul]; exact i2
  ·rw [Pl.trl_none f n ho]
   exact ⟨by simp [Nat.mod_one],by simpa using ho⟩
theorem mdL_len (c:Nat) (L:List ByteArray) (x:ByteArray):(mdL c L x).length=Pl.trl 40 L.length+1:=by simp [mdL]
theorem mdL_sz {c:Nat} (hc:c≤32) (L:List ByteArray) (x:ByteArray) : ∀ d∈mdL c L x,d.size=c:=fun d hd=>by
 obtain ⟨j,_,rfl⟩:=List.mem_map.1 hd
 exact nd_size hc ..
end Go.Proofs.YtoblgjledefdbaaGreatDoor
namespace Go.Proofs.YtoblgjledefdbaaGreatDoor.St.Rc
def PL:BitVec 32:=0x82f63b78#32
def st (c:BitVec 32):BitVec 32:=(c >>> 1) ^^^ (if c.getLsbD 0 then PL else 0#32)
def stN:Nat→BitVec 32→BitVec 32
 | 0,c=>c
 | n+1,c=>st (stN n c)
theorem xor4 (a b c d:BitVec 32):(a ^^^ b) ^^^ (c ^^^ d)=(a ^^^ c) ^^^ (b ^^^ d):=by
 apply BitVec.eq_of_getLsbD_eq
 intro i _
 simp only [BitVec.getLsbD_xor]
 cases a.getLsbD i <;> cases b.getLsbD i <;> cases c.getLsbD i <;> cases d.getLsbD i <;> rfl
theorem xor_zero' (a:BitVec 32):a ^^^ 0#32=a:=BitVec.xor_zero
theorem shr_xor (a b:BitVec 32) (n:Nat):(a ^^^ b) >>> n=(a >>> n) ^^^ (b >>> n):=by
 apply BitVec.eq_of_getLsbD_eq
 intro i _
 simp only [BitVec.getLsbD_xor,BitVec.getLsbD_ushiftRight]
theorem st_xor (a b:BitVec 32):st (a ^^^ b)=st a ^^^ st b:=by
 unfold st
 rw [xor4,shr_xor]
 congr 1
 rw [BitVec.getLsbD_xor]
 cases a.getLsbD 0 <;> cases b.getLsbD 0 <;> simp
theorem stN_xor (n:Nat) (a b:BitVec 32):stN n (a ^^^ b)=stN n a ^^^ stN n b:=by
 induction n with
 | zero=>rfl
 | succ n ih=>simp only [stN,ih,st_xor]
theorem stN_add (m n:Nat) (c:BitVec 32):stN (m+n) c=stN n (stN m c):=by
 induction n with
 | zero=>rfl
 | succ n ih=>rw [← Nat.add_assoc,stN,stN,ih]
theorem shl_shr (x:BitVec 32) (h:x.getLsbD 31=false):(x <<< 1) >>> 1=x:=by
 apply BitVec.eq_of_getLsbD_eq
 intro i hi
 rw [BitVec.getLsbD_ushiftRight,BitVec.getLsbD_shiftLeft]
 by_cases h31:i=31
 ·subst h31; rw [h]; rfl
 ·have e:1+i - 1=i:=by omega
  have e2:(1+i<32):=by omega
  simp [e,e2]
def bw (b:UInt8):BitVec 32:=BitVec.ofNat 32 b.toNat
def by8 (c:BitVec 32) (b:UInt8):BitVec 32:=stN 8 (c ^^^ bw b)
def run (c:BitVec 32) (l:List UInt8):BitVec 32:=l.foldl by8 c
theorem run_append (c:BitVec 32) (l m:List UInt8):run c (l++m)=run (run c l) m:=by simp [run]
theorem run_snoc (c:BitVec 32) (l:List UInt8) (b:UInt8):run c (l++[b])=by8 (run c l) b:=by simp [run]
def mor (c:BitVec 32) (l:List UInt8):BitVec 32 := ~~~ (run (~~~ c) l)
theorem mor_nil (c:BitVec 32):mor c []=c:=by simp [mor,run]
theorem mor_append (c:BitVec 32) (l m:List UInt8):mor c (l++m)=mor (mor c l) m:=by simp [mor,run_append]
def TB:List (BitVec 32):=[0x00000000#32,0x105ec76f#32,0x20bd8ede#32,0x30e349b1#32,0x417b1dbc#32,0x5125dad3#32,0x61c69362#32,0x7198540d#32,
 0x82f63b78#32,0x92a8fc17#32,0xa24bb5a6#32,0xb21572c9#32,0xc38d26c4#32,0xd3d3e1ab#32,0xe330a81a#32,0xf36e6f75#32]
theorem tb_low : ∀ n,n<16→TB.getD n 0#32=stN 4 (BitVec.ofNat 32 n):=by decide
theorem st_shl (x:BitVec 32) (h:x.getLsbD 31=false):st (x <<< 1)=x:=by
 have h0:((x <<< 1).getLsbD 0)=false:=by simp
 rw [st,h0,if_neg (by decide),xor_zero',shl_shr x h]
theorem halves (x:BitVec 32):(x >>> 4) ^^^ TB.getD (x.toNat % 16) 0#32=stN 4 x:=by
 have hs : ∀ k,k≤4→stN k ((x >>> 4) <<< 4)=(x >>> 4) <<< (4 - k):=by
  intro k hk
  induction k with
  | zero=>rfl
  | succ k ih =>
   rw [stN,ih (by omega)]
   have e:(x >>> 4) <<< (4 - k)=((x >>> 4) <<< (4 - (k+1))) <<< 1:=by
    rw [← BitVec.shiftLeft_add,show 4 - (k+1)+1=4 - k by omega]
   rw [e,st_shl]
   rw [BitVec.getLsbD_shiftLeft,BitVec.getLsbD_ushiftRight]
   have:x.getLsbD (4+(31 - (4 - (k+1))))=false:=BitVec.getLsbD_of_ge _ _ (by omega)
   rw [this,Bool.and_false]
 have h4:=hs 4 (Nat.le_refl _)
 have hx:x=(x >>> 4) <<< 4 ^^^ BitVec.ofNat 32 (x.toNat % 16):=by
  apply BitVec.eq_of_getLsbD_eq
  intro i hi
  rw [BitVec.getLsbD_xor,BitVec.getLsbD_shiftLeft,BitVec.getLsbD_ushiftRight,BitVec.getLsbD_ofNat,show (16:Nat)=2^4 from rfl,Nat.testBit_mod_two_pow]
  by_cases h:i<4
  ·simp [h,hi,BitVec.getLsbD]
  ·have:4+(i - 4)=i:=by omega
   simp [h,hi,this]
 rw [tb_low _ (Nat.mod_lt _ (by decide))]
 conv=>rhs; rw [hx]
 rw [stN_xor,h4,Nat.sub_self,BitVec.shiftLeft_zero]
end Go.Proofs.YtoblgjledefdbaaGreatDoor.St.Rc
namespace Go.Proofs.YtoblgjledefdbaaGreatDoor.St.Rc
open Go.RowKit
attribute [local go_sem ↓] Go.wp_at_zero Go.wp_at_succ
def cW (l:List (BitVec 32)):List Value:=l.map fun c=>Value.int .u32 (c.toNat:Int)
def tabO:Obj := .cells (cW TB).toArray 419
theorem range_new (w:World) (cs:List Value) (t:TypeId):(w.alloc (.cells cs.toArray t)).rangeAt w.heap.size 0 cs:=fun j v hv=>by
 rw [Nat.zero_add,World.cell?_alloc_new]
 simpa using hv
theorem tab_cell (w:World) (n:Nat) (hn:n<16):(w.alloc tabO).cell? ⟨w.heap.size,n,none⟩=some (.int .u32 ((TB.getD n 0#32).toNat:Int)):=by
 have hl:n<TB.length:=hn
 have:=range_new w (cW TB) 419 n (.int .u32 ((TB.getD n 0#32).toNat:Int)) (by simp [cW,List.getElem?_eq_getElem hl,List.getD_eq_getElem?_getD])
 rwa [Nat.zero_add] at this
theorem xor32 (a b:BitVec 32):bits .xor .u32 (a.toNat:Int) (b.toNat:Int)=((a ^^^ b).toNat:Int):=by
 rw [u32_xor_nat _ _ a.isLt b.isLt,BitVec.toNat_xor]
theorem not32 (a:BitVec 32):bits .xor .u32 IntKind.u32.max (a.toNat:Int)=((~~~ a).toNat:Int):=by
 have e:IntKind.u32.max=((BitVec.allOnes 32).toNat:Int):=by decide
 rw [e,xor32,BitVec.allOnes_xor]
theorem byte32 (a:BitVec 32) (b:UInt8):bits .xor .u32 (a.toNat:Int) ((b.toNat:Int) % 4294967296)=((a ^^^ bw b).toNat:Int):=by
 have hb:b.toNat<256:=b.toNat_lt
 have e:(b.toNat:Int) % 4294967296=((bw b).toNat:Int):=by
  rw [bw,BitVec.toNat_ofNat,Nat.mod_eq_of_lt (by omega)]; omega
 rw [e,xor32]
theorem half (X:BitVec 32) : ∃ q n t y:Nat,(X.toNat:Int) / 16=(q:Int)∧bits .and .u32 (X.toNat:Int) 15=(n:Int)∧n<16∧(TB.getD n 0#32).toNat=t∧bits .xor .u32 (q:Int) (t:Int)=(y:Int)∧y=(stN 4 X).toNat:=by
 refine ⟨X.toNat / 16,X.toNat % 16,_,_,by omega,?_,Nat.mod_lt _ (by decide),rfl,?_,rfl⟩
 ·have:=u32_and_nat X.toNat 15 X.isLt (by decide)
  rw [show ((15:Nat):Int)=15 from rfl] at this
  rw [this]
  have:X.toNat &&& 15=X.toNat % 2^4:=Nat.and_two_pow_sub_one_eq_mod _ 4
  rw [this]
 ·have e:X.toNat / 16=(X >>> 4).toNat:=by rw [BitVec.toNat_ushiftRight,Nat.shiftRight_eq_div_pow]
  rw [e,xor32,halves]
theorem take_step (s:ByteArray) (k:Nat) (hk:k<s.size):s.data.toList.take (k+1)=s.data.toList.take k++[s[k]]:=by
 rw [List.take_succ_eq_append_getElem (by simpa using hk)]
 rfl
set_option maxRecDepth 100000 in
theorem more_any (w:World) (c:BitVec 32) (s:ByteArray) (hs:s.size≤9223372036854775807) :
  Calls Tryz.prog 342 #[.int .u32 (c.toNat:Int),.string s] w fun e w'=>e = .returned (.int .u32 ((mor c s.data.toList).toNat:Int))∧w'=w.alloc tabO:=by
 have HN:Hid (bits .xor .u32 IntKind.u32.max (c.toNat:Int)=((~~~ c).toNat:Int)):=not32 c
 go_enter Tryz.func342,Tryz.ntmps342
 go_wp2
 go_loopg [6,13] s.size (fun g x i wr=>w.alloc tabO=wr ∧ ∃ (k m:Nat),k≤s.size∧g=s.size - k∧x = .int .u32 (m:Int)∧i = .int .i64 k∧Hid (m=(run (~~~ c) (s.data.toList.take k)).toNat))
 case atStart =>
  go_light
  exact ⟨rfl,0,(~~~ c).toNat,Nat.zero_le _,rfl,by rw [HN.out],rfl,rfl⟩
 case round =>
  obtain ⟨rfl,k,d,hk,rfl,rfl,rfl,HD⟩:=hrel
  by_cases hlt:k<s.size
  ·have hz:(k:Int)<(s.size:Int):=by omega
   have e0:=byte32 (run (~~~ c) (s.data.toList.take k)) s[k]
   rw [← HD.out] at e0
   obtain ⟨q,n,t,y,e1,e2,hn,ht,e3,hy⟩:=half (run (~~~ c) (s.data.toList.take k) ^^^ bw s[k])
   obtain ⟨q',n',t',y',e1',e2',hn',ht',e3',hy'⟩:=half (stN 4 (run (~~~ c) (s.data.toList.take k) ^^^ bw s[k]))
   have HY:Hid (y'=(run (~~~ c) (s.data.toList.take (k+1))).toNat):=by
    show _=_
    rw [hy',take_step s k hlt,run_snoc,by8,← stN_add]
   rw [← hy] at e1' e2'
   have c1:=tab_cell w n hn
   have c2:=tab_cell w n' hn'
   rw [ht] at c1
   rw [ht'] at c2
   have n0:(0:Int)≤(n:Int):=Int.natCast_nonneg _
   have n1:(n:Int)<16:=by omega
   have n0':(0:Int)≤(n':Int):=Int.natCast_nonneg _
   have n1':(n':Int)<16:=by omega
   generalize (run (~~~ c) (s.data.toList.take k) ^^^ bw s[k]).toNat=x at e0 e1 e2
   clear hy hy' ht ht' HD hn hn'
   go_wp2
   go_roundg (s.size - (k+1))
   case rel =>
    go_light
    exact ⟨rfl,k+1,y',by omega,rfl,rfl,by go_num,HY.out⟩
   case measure=>go_light; omega
  ·obtain rfl:k=s.size:=by omega
   have hz : ¬ (s.size:Int)<(s.size:Int):=by omega
   have e0:=not32 (run (~~~ c) (s.data.toList.take s.size))
   rw [← HD.out] at e0
   have HE:Hid ((~~~ (run (~~~ c) (s.data.toList.take s.size))).toNat=(mor c s.data.toList).toNat):=by
    show _=_
    rw [List.take_of_length_le (by simp),mor]
   generalize (~~~ (run (~~~ c) (s.data.toList.take s.size))).toNat=x at e0 HE
   clear HD
   go_wp2
   go_ret
   exact ⟨by rw [HE.out]; rfl,rfl⟩
theorem bnext {w W w2:World} (h:Below w.heap.size w W) (h2:Below W.heap.size W w2):Below w.heap.size w w2:=h.trans (h2.mono h.size)
theorem bal {w W:World} (h:Below w.heap.size w W) (o:Obj):Below w.heap.size w (W.alloc o):=h.alloc h.size o
theorem below_drewN {B:Nat} {a w:World} (h:Below B a w) (n:Nat):Below B a (w.drewN n):=⟨h.os,h.tape,h.output,h.size,h.block⟩
theorem range_lt {w:World} {b o:Nat} {cs:List Value} (h:w.rangeAt b o cs) (hc:cs≠[]):b<w.heap.size:=by
 obtain ⟨v,r,rfl⟩:=List.exists_cons_of_ne_nil hc
 have:=h 0 v rfl
 exact World.block_lt_of_cell? _ _ this
theorem range_below {B:Nat} {a w:World} (hb:Below B a w) {b o:Nat} {cs:List Value} (hlt:b<B) (h:a.rangeAt b o cs):w.rangeAt b o cs:=fun j v hv=>by
 rw [hb.cell (p:=⟨b,o+j,none⟩) hlt]; exact h j v hv
theorem more_m (w:World) (c:BitVec 32) (m:Nat) (hm:m=c.toNat) (s:ByteArray) (hs:s.size≤9223372036854775807) :
  Calls Tryz.prog 342 #[.int .u32 (m:Int),.string s] w fun e w'=>e = .returned (.int .u32 ((mor c s.data.toList).toNat:Int))∧Below w.heap.size w w':=by
 subst hm
 refine (more_any w c s hs).mono ?_
 rintro e w' ⟨rfl,rfl⟩
 exact ⟨rfl,(Below.refl _ _).alloc (Nat.le_refl _) _⟩
def flat (ss:List ByteArray):List UInt8:=ss.flatMap fun s=>s.data.toList
def sumL (ss:List ByteArray):BitVec 32:=mor 0#32 (flat ss)
theorem flat_snoc (ss:List ByteArray) (k:Nat) (hk:k<ss.length):flat (ss.take (k+1))=flat (ss.take k)++(ss.getD k ByteArray.empty).data.toList:=by
 have e:ss.getD k ByteArray.empty=ss[k]:=by rw [List.getD_eq_getElem?_getD,List.getElem?_eq_getElem hk]; rfl
 unfold flat
 rw [List.take_succ_eq_append_getElem hk,List.flatMap_append,e]
 simp
structure RdS (w:World) (ao:Option Addr) (b off len:Nat) (ss:List ByteArray):Prop where
 hl:ss.length=len
 ptr:0<len→ao=some ⟨b,off,none⟩
 rng:w.rangeAt b off (ss.map Value.string)
 sz : ∀ s∈ss,s.size≤9223372036854775807
theorem RdS.lt {w:World} {ao:Option Addr} {b off len:Nat} {ss:List ByteArray} (h:RdS w ao b off len ss) (h0:0<len):b<w.heap.size :=
 range_lt h.rng (by intro e; have:=congrArg List.length e; rw [List.length_map,List.length_nil,h.hl] at this; omega)
theorem RdS.next {w W:World} {ao:Option Addr} {b off len B:Nat} {ss:List ByteArray} (h:RdS w ao b off len ss) (hb:Below B w W) (hB:w.heap.size≤B):RdS W ao b off len ss:=by
 refine ⟨h.hl,h.ptr,?_,h.sz⟩
 by_cases h0:0<len
 ·exact range_below hb (Nat.lt_of_lt_of_le (h.lt h0) hB) h.rng
 ·have:ss=[]:=List.length_eq_zero_iff.1 (by rw [h.hl]; omega)
  rw [this]; intro j v hv; cases hv
theorem RdS.at {w:World} {ao:Option Addr} {b off len:Nat} {ss:List ByteArray} (h:RdS w ao b off len ss) {k:Nat} (hk:k<len):w.cell? ⟨b,off+k,none⟩=some (.string (ss.getD k ByteArray.empty)) :=
 h.rng k _ (by have:=h.hl; simp [List.getElem?_eq_getElem (show k<ss.length by omega),List.getD_eq_getElem?_getD])
theorem RdS.szAt {w:World} {ao:Option Addr} {b off len:Nat} {ss:List ByteArray} (h:RdS w ao b off len ss) {k:Nat} (hk:k<len):(ss.getD k ByteArray.empty).size≤9223372036854775807:=by
 have hl:k<ss.length:=by have:=h.hl; omega
 have e:ss.getD k ByteArray.empty=ss[k]:=by rw [List.getD_eq_getElem?_getD,List.getElem?_eq_getElem hl]; rfl
 rw [e]; exact h.sz _ (List.getElem_mem _)
set_option maxRecDepth 100000 in
theorem of_any (w:World) (ao:Option Addr) (b off len cap:Nat) (ss:List ByteArray) (hr:RdS w ao b off len ss) (hmx:len≤9223372036854775807) :
  Calls Tryz.prog 341 #[.slice ao len cap] w fun e w'=>e = .returned (.int .u32 ((sumL ss).toNat:Int))∧Below w.heap.size w w':=by
 go_enter Tryz.func341,Tryz.ntmps341
 go_wp2
 go_loopg [3,8] len (fun g x i wr => ∃ (k m:Nat),k≤len∧g=len - k∧x = .int .u32 (m:Int)∧i = .int .i64 k∧Hid (m=(mor 0#32 (flat (ss.take k))).toNat)∧Below w.heap.size w wr)
 case atStart =>
  go_light
  exact ⟨0,0,Nat.zero_le _,rfl,rfl,rfl,by show _=_; rw [List.take_zero,show flat []=[] from rfl,mor_nil]; rfl,Below.refl _ _⟩
 case round =>
  obtain ⟨k,m,hk,rfl,rfl,rfl,HM,hb⟩:=hrel
  by_cases hlt:k<len
  ·have hz:(k:Int)<(len:Int):=by omega
   obtain rfl:=hr.ptr (by omega)
   have hr':=hr.next hb (Nat.le_refl _)
   have ck:=hr'.at hlt
   have hcall:=more_m wr _ m HM.out (ss.getD k ByteArray.empty) (hr.szAt hlt)
   rw [← mor_append,← flat_snoc ss k (by rw [hr.hl]; exact hlt)] at hcall
   have HB:Hid (∀ w',Below wr.heap.size wr w'→Below w.heap.size w w'):=fun w' h=>bnext hb h
   obtain ⟨y,hy⟩ : ∃ y,y=(mor 0#32 (flat (ss.take (k+1)))).toNat:=⟨_,rfl⟩
   rw [← hy] at hcall
   have HY:Hid (y=(mor 0#32 (flat (ss.take (k+1)))).toNat):=hy
   clear hy HM hb hr hr'
   generalize ss.getD k ByteArray.empty=part at *
   go_wp2_with (go_at_call 342; refine hcall.mono ?_; rintro e w' ⟨rfl,hb'⟩)
   go_roundg (len - (k+1))
   case rel =>
    go_light
    exact ⟨k+1,y,by omega,rfl,rfl,by go_num,HY.out,HB.out _ hb'⟩
   case measure=>go_light; omega
  ·obtain rfl:k=len:=by omega
   have hz : ¬ (k:Int)<(k:Int):=by omega
   have HE:Hid (m=(sumL ss).toNat):=by
    show _=_
    rw [HM.out,sumL,List.take_of_length_le (by rw [hr.hl]; exact Nat.le_refl _)]
   clear HM
   go_wp2
   go_ret
   exact ⟨by rw [← HE.out]; rfl,hb⟩
end Go.Proofs.YtoblgjledefdbaaGreatDoor.St.Rc
namespace Go.Proofs.YtoblgjledefdbaaGreatDoor.St.Rc
theorem size_list (s:ByteArray):s.data.toList.length=s.size:=Array.length_toList
theorem ba_ext {a b:ByteArray} (h:a.data.toList=b.data.toList):a=b:=by
 cases a; cases b; simp at h; simp [h]
def big:Nat→Nat→List UInt8
 | 0,_=>[]
 | k+1,n=>big k (n / 256)++[UInt8.ofNat n]
theorem big_len (k n:Nat):(big k n).length=k:=by
 induction k generalizing n with
 | zero=>rfl
 | succ k ih=>simp [big,ih]
theorem big_cons (k n:Nat):big (k+1) n=UInt8.ofNat (n / 256^k)::big k n:=by
 induction k generalizing n with
 | zero=>simp [big]
 | succ k ih =>
  rw [big,ih,Nat.div_div_eq_div_mul,← Nat.pow_succ',List.cons_append]
  rfl
def num (l:List UInt8):Nat:=l.foldl (fun n b=>n * 256+b.toNat) 0
theorem num_snoc (l:List UInt8) (b:UInt8):num (l++[b])=num l * 256+b.toNat:=by simp [num]
theorem rev_ind {P:List UInt8→Prop} (h0:P []) (hs : ∀ l b,P l→P (l++[b])) (l:List UInt8):P l:=by
 have : ∀ l:List UInt8,P l.reverse:=by
  intro l
  induction l with
  | nil=>exact h0
  | cons b l ih=>rw [List.reverse_cons]; exact hs _ _ ih
 have h:=this l.reverse
 rwa [List.reverse_reverse] at h
theorem num_lt (l:List UInt8):num l<256^l.length:=by
 induction l using rev_ind with
 | h0=>simp [num]
 | hs l b ih =>
  rw [num_snoc,List.length_append,List.length_singleton,Nat.pow_succ]
  have:=b.toNat_lt
  omega
theorem num_le (l:List UInt8) (k:Nat) (h:l.length≤k):num l<256^k:=Nat.lt_of_lt_of_le (num_lt l) (Nat.pow_le_pow_right (by decide) h)
theorem num_big (k n:Nat):num (big k n)=n % 256^k:=by
 induction k generalizing n with
 | zero=>simp [big,num,Nat.mod_one]
 | succ k ih =>
  rw [big,num_snoc,ih,UInt8.toNat_ofNat',show (256:Nat)^(k+1)=256 * 256^k from Nat.pow_succ',Nat.mod_mul]
  omega
theorem num_big_lt (k n:Nat) (h:n<256^k):num (big k n)=n:=by rw [num_big,Nat.mod_eq_of_lt h]
theorem big_num (l:List UInt8):big l.length (num l)=l:=by
 induction l using rev_ind with
 | h0=>rfl
 | hs l b ih =>
  have hb:=b.toNat_lt
  rw [List.length_append,List.length_singleton,big,num_snoc,show (num l * 256+b.toNat) / 256=num l by omega,ih]
  congr 2
  apply UInt8.toNat_inj.1
  rw [UInt8.toNat_ofNat']
  omega
theorem big_num' (l:List UInt8) (k:Nat) (h:l.length=k):big k (num l)=l:=by subst h; exact big_num l
def zer (n:Nat):List UInt8:=List.replicate n 0
theorem zer_len (n:Nat):(zer n).length=n:=by simp [zer]
def crc (l:List UInt8):Nat:=(mor 0#32 l).toNat
theorem crc_lt (l:List UInt8):crc l<256^4:=(mor 0#32 l).isLt
def sld (l:List UInt8):List UInt8:=l++big 4 (crc l)
theorem sld_len (l:List UInt8):(sld l).length=l.length+4:=by simp [sld,big_len]
def pay (s:List UInt8):List UInt8:=sld (big 4 s.length++s)
def nod (p:Nat) (d:List UInt8):List UInt8:=sld (d++zer (32 - d.length)++big 4 p)
structure MV where
 k:Int
 size:Nat
 items:Nat
 nodes:Nat
 chain:BitVec 32
def MV.z:MV:=⟨0,0,0,0,0#32⟩
def bodyM (k a b c d:Nat):List UInt8:=[109,115,102,1]++big 1 k++zer 3++big 8 a++big 8 b++big 8 c++big 4 d++zer 24
theorem bodyM_len (k a b c d:Nat):(bodyM k a b c d).length=60:=by simp [bodyM,big_len,zer_len]
def mrk (m:MV):List UInt8:=if 1≤m.k∧m.k≤32 then sld (bodyM m.k.toNat m.size m.items m.nodes m.chain.toNat) else []
theorem pay_len (s:List UInt8):(pay s).length=s.length+8:=by simp [pay,sld_len,big_len]; omega
theorem nod_len (p:Nat) (d:List UInt8) (h:d.length≤32):(nod p d).length=40:=by simp [nod,sld_len,big_len,zer_len]; omega
theorem mrk_len (m:MV) (h:1≤m.k∧m.k≤32):(mrk m).length=64:=by rw [mrk,if_pos h,sld_len,bodyM_len]
def payS (s:List UInt8):List UInt8:=if s.length≤1048576 then pay s else []
def nodS (p:Nat) (d:List UInt8):List UInt8:=if d.length≤32 then nod p d else []
def rpay (s:List UInt8):Option (List UInt8) :=
 if 4≤s.length∧num (s.take 4)≤1048576∧num (s.take 4)+8≤s.length∧pay ((s.drop 4).take (num (s.take 4)))=s.take (num (s.take 4)+8) then some ((s.drop 4).take (num (s.take 4))) else none
theorem pay_cut (s:List UInt8) (n:Nat) (h4:4≤s.length) (hn:num (s.take 4)=n) (h8:n+8≤s.length):pay ((s.drop 4).take n)=sld (s.take (n+4)):=by
 have e1:((s.drop 4).take n).length=n:=by simp; omega
 have e2:big 4 n=s.take 4:=by rw [← hn,big_num' _ _ (by simp; omega)]
 rw [pay,e1,e2]
 congr 1
 have:s.take (n+4)=s.take 4++(s.drop 4).take n:=by rw [Nat.add_comm,List.take_add]
 rw [this]
theorem rpay_pay (x t:List UInt8) (h:x.length≤1048576):rpay (pay x++t)=some x:=by
 have hl:=pay_len x
 have e0:(pay x++t).take 4=big 4 x.length:=by
  rw [List.take_append_of_le_length (by omega),pay,sld,List.append_assoc,List.take_append_of_le_length (by rw [big_len]; exact Nat.le_refl _),List.take_of_length_le (by rw [big_len]; exact Nat.le_refl _)]
 have e1:num ((pay x++t).take 4)=x.length:=by rw [e0,num_big_lt _ _ (by omega)]
 have e2:((pay x++t).drop 4).take x.length=x:=by
  rw [List.drop_append_of_le_length (by omega),List.take_append_of_le_length (by simp; omega),pay,sld,List.append_assoc,List.drop_append_of_le_length (by rw [big_len]; exact Nat.le_refl _),List.drop_eq_nil_of_le (by rw [big_len]; exact Nat.le_refl _),List.nil_append,List.take_append_of_le_length (Nat.le_refl _),List.take_of_length_le (Nat.le_refl _)]
 rw [rpay,e1,e2]
 refine if_pos ⟨by simp; omega,h,by simp; omega,?_⟩
 rw [List.take_append_of_le_length (by omega),List.take_of_length_le (by omega)]
theorem rpay_len {s x:List UInt8} (h:rpay s=some x):x.length≤1048576∧x.length+8≤s.length∧pay x=s.take (x.length+8)∧num (s.take 4)=x.length:=by
 unfold rpay at h
 split at h
 ·rename_i hc
  cases h
  have e:(List.take (num (List.take 4 s)) (List.drop 4 s)).length=num (List.take 4 s):=by simp; omega
  rw [e]
  exact ⟨hc.2.1,hc.2.2.1,hc.2.2.2,rfl⟩
 ·cases h
def rnod (k p:Nat) (s:List UInt8):Option (List UInt8):=if s.length=40∧nod p (s.take k)=s then some (s.take k) else none
theorem nod_take (p:Nat) (d:List UInt8):(nod p d).take d.length=d:=by
 rw [nod,sld,List.append_assoc,List.append_assoc,List.take_append_of_le_length (Nat.le_refl _),List.take_of_length_le (Nat.le_refl _)]
theorem rnod_nod (p:Nat) (d:List UInt8) (h:d.length≤32):rnod d.length p (nod p d)=some d:=by
 rw [rnod,nod_take]
 exact if_pos ⟨nod_len p d h,rfl⟩
def mOf (s:List UInt8):MV:=⟨(num ((s.drop 4).take 1):Int),num ((s.drop 8).take 8),num ((s.drop 16).take 8),num ((s.drop 24).take 8),BitVec.ofNat 32 (num ((s.drop 32).take 4))⟩
def rmrk (s:List UInt8):Option MV:=if s.length=64∧mrk (mOf s)=s then some (mOf s) else none
theorem MV.ext' {a b:MV} (h1:a.k=b.k) (h2:a.size=b.size) (h3:a.items=b.items) (h4:a.nodes=b.nodes) (h5:a.chain=b.chain):a=b:=by
 cases a; cases b; simp only at h1 h2 h3 h4 h5; subst h1 h2 h3 h4 h5; rfl
structure MV.Ok (m:MV):Prop where
 k1:1≤m.k
 k2:m.k≤32
 size:m.size<256^8
 items:m.items<256^8
 nodes:m.nodes<256^8
theorem cut_at (a b c:List UInt8) (i n:Nat) (ha:a.length=i) (hb:b.length=n):((a++b++c).drop i).take n=b:=by
 subst ha hb
 rw [List.append_assoc,List.drop_append_of_le_length (Nat.le_refl _),List.drop_eq_nil_of_le (Nat.le_refl _),List.nil_append,List.take_append_of_le_length (Nat.le_refl _),List.take_of_length_le (Nat.le_refl _)]
theorem mOf_mrk (m:MV) (h:m.Ok):mOf (mrk m)=m:=by
 have e:mrk m=sld (bodyM m.k.toNat m.size m.items m.nodes m.chain.toNat):=if_pos ⟨h.k1,h.k2⟩
 obtain ⟨T,hT⟩ : ∃ T,big 4 (crc (bodyM m.k.toNat m.size m.items m.nodes m.chain.toNat))=T:=⟨_,rfl⟩
 rw [e,sld,hT,bodyM]
 have h1:=h.k1
 have h2:=h.k2
 refine MV.ext' ?_ ?_ ?_ ?_ ?_
 ·show ((num _:Nat):Int)=_
  have:=cut_at [109,115,102,1] (big 1 m.k.toNat) (zer 3++big 8 m.size++big 8 m.items++big 8 m.nodes++big 4 m.chain.toNat++zer 24++T) 4 1 rfl (big_len _ _)
  simp only [List.append_assoc] at this ⊢
  rw [this,num_big_lt _ _ (by omega)]
  omega
 ·show num _=_
  have:=cut_at ([109,115,102,1]++big 1 m.k.toNat++zer 3) (big 8 m.size) (big 8 m.items++big 8 m.nodes++big 4 m.chain.toNat++zer 24++T) 8 8 (by simp [big_len,zer_len]) (big_len _ _)
  simp only [List.append_assoc] at this ⊢
  rw [this,num_big_lt _ _ h.size]
 ·show num _=_
  have:=cut_at ([109,115,102,1]++big 1 m.k.toNat++zer 3++big 8 m.size) (big 8 m.items) (big 8 m.nodes++big 4 m.chain.toNat++zer 24++T) 16 8 (by simp [big_len,zer_len]) (big_len _ _)
  simp only [List.append_assoc] at this ⊢
  rw [this,num_big_lt _ _ h.items]
 ·show num _=_
  have:=cut_at ([109,115,102,1]++big 1 m.k.toNat++zer 3++big 8 m.size++big 8 m.items) (big 8 m.nodes) (big 4 m.chain.toNat++zer 24++T) 24 8 (by simp [big_len,zer_len]) (big_len _ _)
  simp only [List.append_assoc] at this ⊢
  rw [this,num_big_lt _ _ h.nodes]
 ·show BitVec.ofNat 32 (num _)=_
  have:=cut_at ([109,115,102,1]++big 1 m.k.toNat++zer 3++big 8 m.size++big 8 m.items++big 8 m.nodes) (big 4 m.chain.toNat) (zer 24++T) 32 4 (by simp [big_len,zer_len]) (big_len _ _)
  simp only [List.append_assoc] at this ⊢
  rw [this,num_big_lt _ _ (show m.chain.toNat<256^4 from m.chain.isLt)]
  simp
theorem rmrk_mrk (m:MV) (h:m.Ok):rmrk (mrk m)=some m:=by
 rw [rmrk,mOf_mrk m h]
 exact if_pos ⟨mrk_len m ⟨h.k1,h.k2⟩,rfl⟩
end Go.Proofs.YtoblgjledefdbaaGreatDoor.St.Rc
