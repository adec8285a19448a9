/- Own work. -/
import Derived.Deep.CutRange
import Derived.Lib.LazyBuf
import Derived.Lib.BufferOwn
import Derived.Test.YtoblgjledefdbaaGreatDoorQm00
set_option maxRecDepth 100000
set_option maxHeartbeats 2000000
namespace Go.Proofs.YtoblgjledefdbaaGreatDoor
open Go.RowKit
attribute [local go_sem ↓] Go.wp_at_zero Go.wp_at_succ
open Go.Proofs.Tryz
def Jh(blk:List Int)(u:Nat):List Int:=(blk.set u 128).take (u+1)++List.replicate (64 - (u+1)) 0
def Ug(l:List Int)(b:Int):Nat->List Int
 | 0=>l
 | k+1=>(Ug l b k).set (63 - k) (IntKind.u8.wrap (b / 2^(8*k)))
def QY(rs st blk:List Int)(n:Nat):List Int :=
 if 55<n % 64 then YM rs (YM rs st (Jh blk (n % 64))) (Ug (List.replicate 64 0) (IntKind.u64.wrap ((n:Int)*8)) 8)
 else YM rs st (Ug (Jh blk (n % 64)) (IntKind.u64.wrap ((n:Int)*8)) 8)
theorem QjH{blk:List Int}(h:blk.length=64){u:Nat}(hu:u<64):(Jh blk u).length=64:=by
 simp[Jh,h];omega
theorem Qbe(rs st blk:List Int)(n:Nat):(QY rs st blk n).length=8:=by
 unfold QY;split <;> rfl
structure Hs(w:World)(p:Nat)(st blk:List Int)(n:Nat):Prop where
 stl:st.length=8
 blkl:blk.length=64
 st:w.rangeAt p 0 (cW st)
 blk:w.rangeAt p 8 (cB blk)
 len:w.cell? ⟨p,72,none⟩=some (.int .u64 n)
 there:w.there p 0 73
theorem Hs.lt{w:World}{p:Nat}{st blk:List Int}{n:Nat}(h:Hs w p st blk n):p<w.heap.size:=Ln _ _ h.len
theorem Hs.later{w w':World}{p B:Nat}{st blk:List Int}{n:Nat}(h:Hs w p st blk n)(hb:Below B w w')(hp:p<B):Hs w' p st blk n :=
 ⟨h.stl,h.blkl,Qn hb hp h.st,Qn hb hp h.blk,by rw[hb.cell (p:=⟨p,72,none⟩) hp];exact h.len,QT hb hp h.there⟩
theorem Qf7{w:World}{b:Nat}{cs:List Value}(h:w.rangeAt b 0 cs)(k:Nat)(vs:List Value)(hk:k+vs.length=cs.length)(ht:w.there b k vs.length) :
  (w.setCells b k vs).rangeAt b 0 (cs.take k++vs):=fun j u hu=>by
 rw[Lm]
 by_cases hj:j<k
 ·rw[Ly (by simp;omega),LQ,Lk hj] at hu
  rw[World.cell?_setCells_out b vs k w ⟨b,j,none⟩ (fun _ _=>Or.inl hj)]
  have:=h j u hu
  rwa [Lm] at this
 ·rw[LK (by simp;omega)] at hu
  have hlen:(cs.take k).length=k:=by simp;omega
  rw[hlen] at hu;have xA:j - k<vs.length:=(List.getElem?_eq_some_iff.1 hu).1
  have:=World.cell?_setCells_in b vs k w (fun i hi=>(ht i hi).1) (j - k) xA
  rw[show k+(j - k)=j by omega] at this
  rw[this,<-hu,Lh xA]
structure Cl(w wc:World)(st last:List Int)(bs bl:Nat):Prop where
 stl:st.length=8
 lastl:last.length=64
 below:Below w.heap.size w wc
 hbs:w.heap.size+1<=bs
 hbl:w.heap.size+1<=bl
 ne:bs≠bl
 st:wc.rangeAt bs 0 (cW st)
 stt:wc.there bs 0 8
 last:wc.rangeAt bl 0 (cB last)
 lastt:wc.there bl 0 64
 res:wc.there w.heap.size 0 8
theorem Cl.one(w:World)(st blk:List Int)(hs:st.length=8)(hb:blk.length=64)(z:List Int)(hz:z.length=8)(z2:List Int)(hz2:z2.length=64)(t1 t2 t3:TypeId) :
  Cl w ((((w.alloc (.cells (cW z).toArray t1)).alloc (.cells (cW st).toArray t2)).alloc (.cells (cB z2).toArray t3)).drew.setCells (w.heap.size+1+1) 0 (cB blk)) st blk (w.heap.size+1) (w.heap.size+1+1):=by
 have r1:=Qq (w.alloc (.cells (cW z).toArray t1)) (cW st) t2;have q1:=Qm (w.alloc (.cells (cW z).toArray t1)) (cW st).toArray t2 8 (by simp[Qo,hs])
 have q2:=Qm ((w.alloc (.cells (cW z).toArray t1)).alloc (.cells (cW st).toArray t2)) (cB z2).toArray t3 64 (by simp[QA,hz2])
 have q0:=Qm w (cW z).toArray t1 8 (by simp[Qo,hz])
 simp only[World.size_alloc] at r1 q1 q2 q0;refine⟨hs,hb,Qr ((((Lb _ _).alloc (La _) _).alloc (by simp) _).alloc (by simp;omega) _).drew (by omega) _ _,by omega,by omega,by omega,?_,?_,?_,?_,?_⟩
 ·exact World.rangeAt_setCells_apart (by rw[World.rangeAt_drew];exact World.rangeAt_alloc r1 _) _ _ _ (Or.inl (by omega))
 ·exact World.there_setCells (by rw[World.there_drew];exact World.there_alloc q1 _) _ _ _
 ·exact World.rangeAt_setCells_same _ _ _ _ (by rw[World.there_drew,QA,hb];exact q2)
 ·exact World.there_setCells (by rw[World.there_drew];exact q2) _ _ _
 ·exact World.there_setCells (by rw[World.there_drew];exact World.there_alloc (World.there_alloc q0 _) _) _ _ _
theorem Cl.two(w:World)(st blk:List Int)(hs:st.length=8)(hb:blk.length=64)(z:List Int)(hz:z.length=8)(z2:List Int)(hz2:z2.length=64)(t1 t2 t3:TypeId) :
  Cl w ((((w.alloc (.cells (cW z).toArray t1)).alloc (.cells (cB z2).toArray t3)).alloc (.cells (cW st).toArray t2)).drew.setCells (w.heap.size+1) 0 (cB blk)) st blk (w.heap.size+1+1) (w.heap.size+1):=by
 have r1:=Qq ((w.alloc (.cells (cW z).toArray t1)).alloc (.cells (cB z2).toArray t3)) (cW st) t2;have q1:=Qm ((w.alloc (.cells (cW z).toArray t1)).alloc (.cells (cB z2).toArray t3)) (cW st).toArray t2 8 (by simp[Qo,hs])
 have q2:=Qm (w.alloc (.cells (cW z).toArray t1)) (cB z2).toArray t3 64 (by simp[QA,hz2])
 have q0:=Qm w (cW z).toArray t1 8 (by simp[Qo,hz])
 simp only[World.size_alloc] at r1 q1 q2 q0;refine⟨hs,hb,Qr ((((Lb _ _).alloc (La _) _).alloc (by simp) _).alloc (by simp;omega) _).drew (by omega) _ _,by omega,by omega,by omega,?_,?_,?_,?_,?_⟩
 ·exact World.rangeAt_setCells_apart (by rw[World.rangeAt_drew];exact r1) _ _ _ (Or.inl (by omega))
 ·exact World.there_setCells (by rw[World.there_drew];exact q1) _ _ _
 ·exact World.rangeAt_setCells_same _ _ _ _ (by rw[World.there_drew,QA,hb];exact World.there_alloc q2 _)
 ·exact World.there_setCells (by rw[World.there_drew];exact World.there_alloc q2 _) _ _ _
 ·exact World.there_setCells (by rw[World.there_drew];exact World.there_alloc (World.there_alloc q0 _) _) _ _ _
theorem Cl.set{w wc:World}{st last:List Int}{bs bl:Nat}(h:Cl w wc st last bs bl)(i:Nat)(v:Int):Cl w (wc.setCell ⟨bl,i,none⟩ (.int .u8 v)) st (last.set i v) bs bl:=by
 have xA:=h.hbl;refine⟨h.stl,by rw[Is];exact h.lastl,h.below.setCell (by show w.heap.size<=bl;omega) _,h.hbs,h.hbl,h.ne,Ua h.st (Ne.symm h.ne) _,QK h.stt _ _,?_,QK h.lastt _ _,QK h.res _ _⟩
 have:=YG h.last i (.int .u8 v)
 rwa [Lm,QfB] at this
theorem Cl.rest{w wc:World}{st last:List Int}{bs bl:Nat}(h:Cl w wc st last bs bl)(k:Nat)(hk:k<=64) :
  Cl w (wc.setCells bl k (List.replicate (64 - k) (.int .u8 0))) st (last.take k++List.replicate (64 - k) 0) bs bl:=by
 have xA:=h.hbl;have hl:=h.lastl;have e:(List.replicate (64 - k) (Value.int .u8 0))=cB (List.replicate (64 - k) 0):=by simp[cB]
 refine⟨h.stl,by simp[hl];omega,Qr h.below (by omega) _ _,h.hbs,h.hbl,h.ne,World.rangeAt_setCells_apart h.st _ _ _ (Or.inl h.ne),World.there_setCells h.stt _ _ _,?_,World.there_setCells h.lastt _ _ _,World.there_setCells h.res _ _ _⟩
 have:=Qf7 h.last k (List.replicate (64 - k) (Value.int .u8 0)) (by simp[QA,hl];omega) (fun j hj=>by
  have:=h.lastt (k+j) (by simp at hj;omega)
  rwa [Lm] at this)
 rw[e] at this;rw[e]
 simpa [cB,List.map_take] using this
theorem Cl.later{w wc w':World}{st last:List Int}{bs bl:Nat}(h:Cl w wc st last bs bl)(hb:Below wc.heap.size wc w'):Cl w w' st last bs bl:=by
 have h1:=JF h.stt (by decide)
 have h2:=JF h.lastt (by decide)
 have h3:=JF h.res (by decide)
 exact⟨h.stl,h.lastl,h.below.trans (hb.mono (by omega)),h.hbs,h.hbl,h.ne,Qn hb h1 h.st,QT hb h1 h.stt,Qn hb h2 h.last,QT hb h2 h.lastt,QT hb h3 h.res⟩
theorem Cl.storeSt{w wc:World}{st last:List Int}{bs bl:Nat}(h:Cl w wc st last bs bl)(st':List Int)(hs:st'.length=8):Cl w (wc.setCells bs 0 (cW st')) st' last bs bl:=by
 have xA:=h.hbs;exact⟨hs,h.lastl,Qr h.below (by omega) _ _,h.hbs,h.hbl,h.ne,World.rangeAt_setCells_same _ _ _ _ (by rw[Qo,hs];exact h.stt),World.there_setCells h.stt _ _ _,World.rangeAt_setCells_apart h.last _ _ _ (Or.inl (Ne.symm h.ne)),World.there_setCells h.lastt _ _ _,World.there_setCells h.res _ _ _⟩
theorem Cl.storeLast{w wc:World}{st last:List Int}{bs bl:Nat}(h:Cl w wc st last bs bl)(l':List Int)(hs:l'.length=64):Cl w (wc.setCells bl 0 (cB l')) st l' bs bl:=by
 have xA:=h.hbl;exact⟨h.stl,hs,Qr h.below (by omega) _ _,h.hbs,h.hbl,h.ne,World.rangeAt_setCells_apart h.st _ _ _ (Or.inl h.ne),World.there_setCells h.stt _ _ _,World.rangeAt_setCells_same _ _ _ _ (by rw[QA,hs];exact h.lastt),World.there_setCells h.lastt _ _ _,World.there_setCells h.res _ _ _⟩
theorem QnI(w:World):(Go.sizeOf 5).run prog w = .ok 1 w:=by kernel_rfl
theorem Qpe(w:World):(zeroValue 5).run prog w = .ok (.int .u8 0) w:=by kernel_rfl
theorem Qb1(b o v:Nat)(m:Nat)(hm:v+m=64)(h0:0<m)(w:World) :
  (Instr.sliceAt 184 (.pointer (some ⟨b,o,none⟩)) (some (.int .i64 (v:Int))) none none).run prog w = .ok (.slice (some ⟨b,o+v,none⟩) m m) w:=by
 have h:=run_sliceAt_array_l (P:=prog) w 184 ⟨b,o,none⟩ (by kernel_rfl) .i64 (v:Int) (Lf _) (by
  have e:prog.arrayLen 184=64:=by kernel_rfl
  rw[e];omega)
 have e:prog.arrayLen 184=64:=by kernel_rfl
 have e2:prog.elem 184=5:=by kernel_rfl
 rw[h,e,e2,QnI];have e3:64 - v=m:=by omega
 have e4 : ¬64=v:=by omega
 simp[slicedAt,e3,e4,Addr.add_mid]
theorem QfG(w:World)(b o m:Nat)(h0:0<m)(ht:w.there b o m) :
  (Builtin.clear_ #[127] 0 #[.slice (some ⟨b,o,none⟩) m m]).run prog w = .ok (.tuple #[]) (w.setCells b o (List.replicate m (.int .u8 0))) :=
 Lib.run_clear_slice w 127 5 0 (.int .u8 0) underlying127 Qpe rfl rfl b o m m h0 (fun j hj=>(ht j hj).1) (fun j hj=>(ht j hj).2)
theorem QfF(w:World)(a:OA):(Builtin.clear_ #[127] 0 #[.slice a 0 0]).run prog w = .ok (.tuple #[]) w:=by
 cases a <;> simp[Builtin.clear_,run_underlying underlying127]
theorem J1(n u:Nat)(h:Hid (n % 64=u))(w:World)(b:Nat)(hc:w.cell? ⟨b,72,none⟩=some (.int .u64 n)) :
  Calls prog 403 #[.pointer (some ⟨b,0,none⟩)] w fun e w'=>e = .returned (.int .i64 (u:Int))∧w'=w:=by
 refine(Qfp n w b (Lf _) hc).mono ?_
 rintro e w' ⟨rfl,rfl⟩;have h:=h.out;exact⟨by rw[show((n:Int) % 64)=(u:Int) by omega],rfl⟩
theorem closed_any (w:World) (p:Nat) (st blk:List Int) (n:Nat) (hh:Hs w p st blk n) (rs:List Int) (hrl:rs.length=64) (hr:w.rangeAt 3 0 (cW rs)) :
    Calls prog 405 #[.pointer (some ⟨p,0,none⟩)] w fun e w'=>e = .returned (.agg (cW (QY rs st blk n)).toArray)∧Below w.heap.size w w':=by
  obtain⟨s0,s1,s2,s3,s4,s5,s6,s7,rfl⟩:=QbE hh.stl;have hp:p<w.heap.size:=Ln _ _ hh.len;have hl:=hh.blkl;have h1w:3<w.heap.size:=QE hr (by intro h;have:=Lw List.length h;simp[Qo,hrl] at this)
  have c0:w.cell? ⟨p,0,none⟩=some (.int .u32 s0):=Qc hh.st (i:=0) (by simp)
  have c1:w.cell? ⟨p,1,none⟩=some (.int .u32 s1):=Qc hh.st (i:=1) (by simp)
  have c2:w.cell? ⟨p,2,none⟩=some (.int .u32 s2):=Qc hh.st (i:=2) (by simp)
  have c3:w.cell? ⟨p,3,none⟩=some (.int .u32 s3):=Qc hh.st (i:=3) (by simp)
  have c4:w.cell? ⟨p,4,none⟩=some (.int .u32 s4):=Qc hh.st (i:=4) (by simp)
  have c5:w.cell? ⟨p,5,none⟩=some (.int .u32 s5):=Qc hh.st (i:=5) (by simp)
  have c6:w.cell? ⟨p,6,none⟩=some (.int .u32 s6):=Qc hh.st (i:=6) (by simp)
  have c7:w.cell? ⟨p,7,none⟩=some (.int .u32 s7):=Qc hh.st (i:=7) (by simp)
  have c72:=hh.len;have hrb:=hh.blk;have hu:=underlying184;obtain⟨u,hun⟩ : ∃u:Nat,n % 64=u:=⟨_,rfl⟩;have hu64:Hid (n % 64=u):=hun;clear hun;have hi:(prog.info? 184).map (·.size)=some (cB blk).length:=by rw[QA,hl];exact QaB
  have hl':(cB blk).length=64:=by rw[QA,hl]
  have h1:=Qbb blk;have hA : ∀(r o:Obj),(((w.alloc r).alloc o).alloc (.cells #[.int .u8 0,.int .u8 0,.int .u8 0,.int .u8 0,.int .u8 0,.int .u8 0,.int .u8 0,.int .u8 0,.int .u8 0,.int .u8 0,.int .u8 0,.int .u8 0,.int .u8 0,.int .u8 0,.int .u8 0,.int .u8 0,.int .u8 0,.int .u8 0,.int .u8 0,.int .u8 0,.int .u8 0,.int .u8 0,.int .u8 0,.int .u8 0,.int .u8 0,.int .u8 0,.int .u8 0,.int .u8 0,.int .u8 0,.int .u8 0,.int .u8 0,.int .u8 0,.int .u8 0,.int .u8 0,.int .u8 0,.int .u8 0,.int .u8 0,.int .u8 0,.int .u8 0,.int .u8 0,.int .u8 0,.int .u8 0,.int .u8 0,.int .u8 0,.int .u8 0,.int .u8 0,.int .u8 0,.int .u8 0,.int .u8 0,.int .u8 0,.int .u8 0,.int .u8 0,.int .u8 0,.int .u8 0,.int .u8 0,.int .u8 0,.int .u8 0,.int .u8 0,.int .u8 0,.int .u8 0,.int .u8 0,.int .u8 0,.int .u8 0,.int .u8 0] 184)).drew.there (w.heap.size+1+1) 0 64:=fun r o=>by
    have q2:=Qm ((w.alloc r).alloc o) (cB (List.replicate 64 0)).toArray 184 64 (by simp[QA])
    simp only[World.size_alloc] at q2;rw[World.there_drew];exact q2
  have hB : ∀(r o:Obj),(((w.alloc r).alloc (.cells #[.int .u8 0,.int .u8 0,.int .u8 0,.int .u8 0,.int .u8 0,.int .u8 0,.int .u8 0,.int .u8 0,.int .u8 0,.int .u8 0,.int .u8 0,.int .u8 0,.int .u8 0,.int .u8 0,.int .u8 0,.int .u8 0,.int .u8 0,.int .u8 0,.int .u8 0,.int .u8 0,.int .u8 0,.int .u8 0,.int .u8 0,.int .u8 0,.int .u8 0,.int .u8 0,.int .u8 0,.int .u8 0,.int .u8 0,.int .u8 0,.int .u8 0,.int .u8 0,.int .u8 0,.int .u8 0,.int .u8 0,.int .u8 0,.int .u8 0,.int .u8 0,.int .u8 0,.int .u8 0,.int .u8 0,.int .u8 0,.int .u8 0,.int .u8 0,.int .u8 0,.int .u8 0,.int .u8 0,.int .u8 0,.int .u8 0,.int .u8 0,.int .u8 0,.int .u8 0,.int .u8 0,.int .u8 0,.int .u8 0,.int .u8 0,.int .u8 0,.int .u8 0,.int .u8 0,.int .u8 0,.int .u8 0,.int .u8 0,.int .u8 0,.int .u8 0] 184)).alloc o).drew.there (w.heap.size+1) 0 64:=fun r o=>by
    have q2:=Qm (w.alloc r) (cB (List.replicate 64 0)).toArray 184 64 (by simp[QA])
    simp only[World.size_alloc] at q2;rw[World.there_drew];exact World.there_alloc q2 _
  have HK:Hid (∀w',Below w.heap.size w w'->(w'.cell? ⟨p,0,none⟩=some (.int .u32 s0)∧w'.cell? ⟨p,1,none⟩=some (.int .u32 s1)∧w'.cell? ⟨p,2,none⟩=some (.int .u32 s2)∧w'.cell? ⟨p,3,none⟩=some (.int .u32 s3)∧w'.cell? ⟨p,4,none⟩=some (.int .u32 s4)∧w'.cell? ⟨p,5,none⟩=some (.int .u32 s5)∧w'.cell? ⟨p,6,none⟩=some (.int .u32 s6)∧w'.cell? ⟨p,7,none⟩=some (.int .u32 s7)∧w'.cell? ⟨p,72,none⟩=some (.int .u64 n)∧w'.rangeAt p 8 (cB blk)∧Below w.heap.size w w')):=fun w' hb=>by
    refine⟨?_,?_,?_,?_,?_,?_,?_,?_,?_,Qn hb hp hrb,hb⟩ <;> (rw[hb.cell hp];assumption)
  have HH:Hid (Hs w p [s0,s1,s2,s3,s4,s5,s6,s7] blk n):=hh;clear hh
  go_enter func405,ntmps405;go_wp2
  go_cut [3,4,5] from 8 (fun q3 q4 q5 wc => ∃bs bl:Nat,q3 = .pointer (some ⟨bs,0,none⟩)∧q4 = .pointer (some ⟨bl,0,none⟩)∧q5 = .int .i64 (u:Int)∧Cl w wc [s0,s1,s2,s3,s4,s5,s6,s7] blk bs bl)
  case first =>
   go_region_held3 (fun w'=>w'.cell? ⟨p,0,none⟩=some (.int .u32 s0)∧w'.cell? ⟨p,1,none⟩=some (.int .u32 s1)∧w'.cell? ⟨p,2,none⟩=some (.int .u32 s2)∧w'.cell? ⟨p,3,none⟩=some (.int .u32 s3)∧w'.cell? ⟨p,4,none⟩=some (.int .u32 s4)∧w'.cell? ⟨p,5,none⟩=some (.int .u32 s5)∧w'.cell? ⟨p,6,none⟩=some (.int .u32 s6)∧w'.cell? ⟨p,7,none⟩=some (.int .u32 s7)∧w'.cell? ⟨p,72,none⟩=some (.int .u64 n)∧w'.rangeAt p 8 (cB blk)∧Below w.heap.size w w')
    ((refine HK.out _ ?_;repeat (first|exact Lb _ _|assumption|apply Below.drew|(refine Below.alloc ?_ (by simp <;> omega) _)|(refine Qr ?_ (by omega) _ _)))) (first|(go_at_call 403;refine(J1 n u hu64 _ p ?_).mono ?_;(simp[*]);rintro e w' ⟨rfl,rfl⟩))
   all_goals
     go_wp2
     go_meet
     case rel =>
      go_light
      first
        | exact⟨_,_,rfl,rfl,rfl,Cl.one w [s0,s1,s2,s3,s4,s5,s6,s7] blk rfl hl [0,0,0,0,0,0,0,0] rfl (List.replicate 64 0) rfl 346 346 184⟩
        | exact⟨_,_,rfl,rfl,rfl,Cl.two w [s0,s1,s2,s3,s4,s5,s6,s7] blk rfl hl [0,0,0,0,0,0,0,0] rfl (List.replicate 64 0) rfl 346 346 184⟩
  case rest =>
   obtain⟨bs,bl,rfl,rfl,rfl,hcl⟩:=hcut;clear hA hB HK c0 c1 c2 c3 c4 c5 c6 c7;have hu0:(0:Int)<=(u:Int):=Lf _;have hu1:(u:Int)<64:=by have:=hu64.out;omega
   have cu:wc.cell? ⟨bl,u,none⟩=some (.int .u8 (blk.getD u 0)):=Yg hcl.last (by omega)
   have fu:wc.frozen? ⟨bl,u,none⟩=false:=by have:=(hcl.lastt u (by omega)).2;rwa [Lm] at this
   have HC:Hid (Cl w (wc.setCell ⟨bl,u,none⟩ (.int .u8 128)) [s0,s1,s2,s3,s4,s5,s6,s7] (blk.set u 128) bs bl):=hcl.set u 128;clear hcl;obtain⟨v,hv⟩ : ∃v:Nat,u+1=v:=⟨_,rfl⟩;have ev:(u:Int)+1=(v:Int):=by omega
   have HV:Hid (u+1=v):=hv;clear hv
   go_upto_region 3 with (fail)
   go_cut [] from 18 (fun wx=>Cl w wx [s0,s1,s2,s3,s4,s5,s6,s7] (Jh blk u) bs bl)
   case first =>
    by_cases h63:v=64
    · subst h63;have hclr:(Builtin.clear_ #[127] 0 #[.slice (some ⟨bl,0,none⟩) 0 0]).run prog (wc.setCell ⟨bl,u,none⟩ (.int .u8 128)) = .ok (.tuple #[]) (wc.setCell ⟨bl,u,none⟩ (.int .u8 128)):=QfF _ _;go_wp2
      go_meet
      case rel =>
        go_light;have h1:=HC.out;have h2:=HV.out;have e:Jh blk u=blk.set u 128:=by
          unfold Jh;rw[Lo (by simp;omega)];simp;omega
        rw[e];exact h1
    · obtain⟨m,hm⟩ : ∃m:Nat,v+m=64:=⟨64 - v,by have:=HV.out;omega⟩
      have hm0:0<m:=by omega
      have hsl:=fun w'=>Qb1 bl 0 v m hm hm0 w'
      have hclr:(Builtin.clear_ #[127] 0 #[.slice (some ⟨bl,v,none⟩) m m]).run prog (wc.setCell ⟨bl,u,none⟩ (.int .u8 128)) = .ok (.tuple #[]) ((wc.setCell ⟨bl,u,none⟩ (.int .u8 128)).setCells bl v (List.replicate m (.int .u8 0))):=QfG _ _ _ _ hm0 (fun j hj=>by
        have:=HC.out.lastt (v+j) (by omega)
        rwa [Lm] at this)
      simp only[Nat.zero_add] at hsl;have HM:Hid (v+m=64):=hm;clear hm;go_wp2
      go_meet
      case rel =>
        go_light;have h1:=HC.out.rest v (by have:=HM.out;omega)
        have h2:=HV.out;have e:64 - v=m:=by have:=HM.out;omega
        rw[e] at h1;unfold Jh;rw[h2,e];exact h1
   case rest =>
    have hcl:=hcut;clear hcut HC cu fu;have HB:Hid (∃b8,b8=IntKind.u64.wrap ((n:Int)*8)):=⟨_,rfl⟩
    go_upto_if 26 with (fail)
    go_cut [] from 18 (fun wx => ∃st2 last2:List Int,Hid (QY rs [s0,s1,s2,s3,s4,s5,s6,s7] blk n=YM rs st2 (Ug last2 (IntKind.u64.wrap ((n:Int)*8)) 8))∧Cl w wx st2 last2 bs bl)
    case first =>
      by_cases h55:v+8<=64
      · have h55' : ¬((64:Int)<(v:Int)+8):=by omega
        go_wp2
        go_meet
        case rel =>
          go_light;refine⟨_,_,?_,hcl⟩
          have h2:=HV.out;have h3:=hu64.out
          show _=_
          unfold QY;rw[Le (by omega),h3]
      · have h55':(64:Int)<(v:Int)+8:=by omega
        have hi34:(prog.info? 346).map (·.size)=some (cW [s0,s1,s2,s3,s4,s5,s6,s7]).length:=Ut;have hle:=QjH hl (show u<64 by omega)
        have hi35:(prog.info? 184).map (·.size)=some (cB (Jh blk u)).length:=by rw[QA,hle];exact QaB
        have hrc:wc.rangeAt 3 0 (cW rs):=Qn hcl.below h1w hr;have hst:=hcl.st;have hla:=hcl.last;have HL:Hid (∀w',Below wc.heap.size wc w'->Cl w w' [s0,s1,s2,s3,s4,s5,s6,s7] (Jh blk u) bs bl):=fun w' hb=>hcl.later hb
        clear hcl;have hfo:=fun w'=>Oi [s0,s1,s2,s3,s4,s5,s6,s7] rfl (Jh blk u) hle w' rs hrl
        generalize hF:YM rs [s0,s1,s2,s3,s4,s5,s6,s7] (Jh blk u)=F at hfo;have hFl:F.length=8:=by rw[<-hF];rfl
        have hiF:(prog.info? 346).map (·.size)=some (cW F).toArray.size:=by rw[NG,Qo,hFl];exact Ut
        have HF:Hid (YM rs [s0,s1,s2,s3,s4,s5,s6,s7] (Jh blk u)=F):=hF;clear hF
        go_wp2_with (first|(refine wpList_load_mid rfl 346 _ rfl bs 0 rfl _ _ hst underlying346 rfl hi34 ?_)|(refine wpList_load_mid rfl 184 _ rfl bl 0 rfl _ _ hla underlying184 rfl hi35 ?_)|(go_at_call 404;refine(hfo _ hrc).mono ?_;rintro e w' ⟨rfl,hbw⟩)|(refine wpList_store_mid rfl 346 _ _ rfl bs 0 (cW F).toArray rfl rfl ?_ hiF (all_oneCell_toArray (Up F)) ?_;exact(by rw[NG,Qo,hFl];exact(HL.out _ hbw).stt))|(refine wpList_store_mid rfl 184 _ _ rfl bl 0 (cB (List.replicate 64 0)).toArray rfl rfl ?_ QaB (all_oneCell_toArray (Qbb _)) ?_;exact((HL.out _ hbw).storeSt F hFl).lastt))
        go_simp
        go_meet
        case rel =>
          go_light;refine⟨_,_,?_,((HL.out _ hbw).storeSt F hFl).storeLast _ rfl⟩
          have h2:=HV.out;have h3:=hu64.out
          show _=_
          unfold QY;rw[Lk (by omega),h3,HF.out]
          rfl
    case rest =>
      obtain⟨st2,last2,HC,hcl⟩:=hcut;have c72':wc.cell? ⟨p,72,none⟩=some (.int .u64 n):=by rw[hcl.below.cell (p:=⟨p,72,none⟩) hp];exact c72
      go_wp2;generalize hb8:IntKind.u64.wrap ((n:Int)*8)=b8 at *;clear hb8
      go_loopg [36] 8 (fun g i wr => ∃k:Nat,k<=8∧g=8 - k∧i = .int .i64 k∧Cl w wr st2 (Ug last2 b8 k) bs bl)
      case atStart=>go_light;exact⟨0,Ll _,rfl,rfl,hcl⟩
      case round =>
        clear hcl c72';obtain⟨k,hk,rfl,rfl,hcl⟩:=hrel
        by_cases hlt:k<8
        · have hk0:(0:Int)<=(k:Int):=Lf _;have hk8:(k:Int)<8:=by omega
          obtain⟨m,hm⟩ : ∃m:Nat,k+m=63:=⟨63 - k,by omega⟩
          obtain⟨m8,hm8⟩ : ∃m8:Nat,8*k=m8:=⟨_,rfl⟩;have em:(63:Int) - (k:Int)=(m:Int):=by omega
          have em8:(8:Int)*(k:Int)=(m8:Int):=by omega
          have bm0:(0:Int)<=(m:Int):=Lf _;have bm1:(m:Int)<64:=by omega
          have b80:(0:Int)<=(m8:Int):=Lf _;have b81:(m8:Int)<64:=by omega
          have cm:wr.cell? ⟨bl,m,none⟩=some (.int .u8 ((Ug last2 b8 k).getD m 0)):=Yg hcl.last (by have:=hcl.lastl;omega)
          have fm:wr.frozen? ⟨bl,m,none⟩=false:=by have:=(hcl.lastt m (by omega)).2;rwa [Lm] at this
          have HF:Hid (∀x,Cl w (wr.setCell ⟨bl,m,none⟩ (.int .u8 x)) st2 ((Ug last2 b8 k).set m x) bs bl):=fun x=>hcl.set m x
          have HV:Hid (Ug last2 b8 (k+1)=(Ug last2 b8 k).set m (IntKind.u8.wrap (b8 / 2^m8))):=by
            show _=_
            rw[Ug,<-hm8,show 63 - k=m by omega]
          clear hcl hm hm8;generalize (Ug last2 b8 k).getD m 0=z at *;go_wp2
          go_roundg (8 - (k+1))
          case rel =>
            go_light;refine⟨k+1,by omega,rfl,by go_num,?_⟩
            rw[HV.out];exact HF.out _
          case measure=>go_light;omega
        · obtain rfl:k=8:=by omega
          clear hk hlt;have hi34:(prog.info? 346).map (·.size)=some (cW st2).length:=by rw[Qo,hcl.stl];exact Ut
          have hi35:(prog.info? 184).map (·.size)=some (cB (Ug last2 b8 8)).length:=by rw[QA,hcl.lastl];exact QaB
          have hrc:wr.rangeAt 3 0 (cW rs):=Qn hcl.below h1w hr;have hst:=hcl.st;have hla:=hcl.last;have HL:Hid (∀w',Below wr.heap.size wr w'->Cl w w' st2 (Ug last2 b8 8) bs bl):=fun w' hb=>hcl.later hb
          have hfo:=fun w'=>Oi st2 hcl.stl (Ug last2 b8 8) hcl.lastl w' rs hrl
          clear hcl;rw[<-HC.out] at hfo;have hFl:=Qbe rs [s0,s1,s2,s3,s4,s5,s6,s7] blk n;generalize hE:QY rs [s0,s1,s2,s3,s4,s5,s6,s7] blk n=F at hfo hFl;have hiF:(prog.info? 346).map (·.size)=some (cW F).toArray.size:=by rw[NG,Qo,hFl];exact Ut
          have hszF:(cW F).toArray.size=8:=by simp[Qo,hFl]
          have hiF2:(prog.info? 346).map (·.size)=some (cW F).length:=by rw[Qo,hFl];exact Ut
          have HE:Hid (QY rs [s0,s1,s2,s3,s4,s5,s6,s7] blk n=F):=hE;clear hE HC
          go_wp2_with (first|(refine wpList_load_mid rfl 346 _ rfl bs 0 rfl _ _ hst underlying346 rfl hi34 ?_)|(refine wpList_load_mid rfl 184 _ rfl bl 0 rfl _ _ hla underlying184 rfl hi35 ?_)|(go_at_call 404;refine(hfo _ hrc).mono ?_;rintro e w' ⟨rfl,hbw⟩)|(refine wpList_store_mid rfl 346 _ _ rfl w.heap.size 0 (cW F).toArray rfl rfl ?_ hiF (all_oneCell_toArray (Up F)) ?_;exact(by rw[hszF];exact(HL.out _ hbw).res)))
          refine Lv (v := .agg (cW F).toArray) ?_ rfl ⟨by rw[HE.out],?_⟩
          · refine QH results405 _ _ w.heap.size 0 (cW F) (.array 8 110) ?_ ?_ underlying346 rfl hiF2
            · rfl
            · go_light;exact World.rangeAt_setCells_same _ _ _ _ (by rw[Qo,hFl];exact(HL.out _ hbw).res)
          · go_light;exact Qr (HL.out _ hbw).below (La _) _ _
def tB(s:BA):List Int:=s.data.toList.map fun x=>(x.toNat:Int)
theorem Yj(s:BA):(tB s).length=s.size:=by simp[tB]
theorem QoX(s:BA):cB (tB s)=s.data.toList.map fun x=>Value.int .u8 (x.toNat:Int):=by simp[cB,tB,List.map_map,Function.comp_def]
theorem QdU{P:Program}(w:World)(dT sT ty elem:TypeId)(b o dLen dCap c:Nat)(t:BA)
  (hu:P.underlying dT=some (.slice elem)) (hz : ∀w,(Go.sizeOf elem).run P w = .ok 1 w) (hc:Nat.min t.size dLen=c) (ht:w.there b o c) :
  (Builtin.copy_ #[dT,sT] ty #[.slice (some ⟨b,o,none⟩) dLen dCap,.string t]).run P w = .ok (goInt c) (w.setCells b o (cB ((tB t).take c))):=by
 have xB:c<=t.size:=by rw[<-hc];exact IM _ _
 have hl:(cB ((tB t).take c)).length=c:=by rw[QA,Lz,Yj];omega
 have xA:=run_storeCells_cells (P:=P) b o (cB ((tB t).take c)) 0 w (by rw[hl];intro j hj;simpa using (ht j hj).1) (by rw[hl];intro j hj;simpa using (ht j hj).2) (Qbb _)
 have he:List.take c (List.map (fun x:UInt8=>Value.int IntKind.u8 (x.toNat:Int)) t.data.toList)=cB ((tB t).take c):=by
  rw[<-QoX];simp[cB,List.map_take]
 simp only[Nat.add_zero] at xA;simp[Builtin.copy_,run_underlying hu,Builtin.lenOf,Builtin.firstCells,hz,hc];rw[he,xA]
 rfl
theorem Qch{P:Program}{ops:Array Oper}{o:Oper}{a:Act}{w:World}{K:Act->World->Prop}{Q:Exit->Act->World->Prop}{E:Prop}
  (hg:o.guard=none) (d x:Operand) (dT sT:TypeId) (hop:o.op=Op.call { callee:=Callee.builtin Builtin.copy,args:=#[d,x],argTypes:=#[dT,sT] })
  (elem:TypeId) (hu:P.underlying dT=some (.slice elem)) (hz : ∀w,(Go.sizeOf elem).run P w = .ok 1 w)
  (b off dLen dCap c:Nat) (hd:a.eval d = .slice (some ⟨b,off,none⟩) dLen dCap) (t:BA) (hx:a.eval x = .string t) (hc:Nat.min t.size dLen=c) (ht:w.there b off c)
  (hK:K (a.put o.dst (goInt c)) (w.setCells b off (cB ((tB t).take c)))) :
  if Region.wanted o (yielded ops a.tmps)=true then Oper.wp P o a w K Q else E:=by
 have hw:Region.wanted o (yielded ops a.tmps)=true:=by simp[Region.wanted,hg]
 rw[Lk hw];have xA:=QdU (P:=P) w dT sT o.type elem b off dLen dCap c t hu hz hc ht;unfold Oper.wp;simp[execOp,hop,resolve,invoke,builtin,hd,hx,xA,Result.andThen];exact hK
theorem Uo{w:World}{b o:Nat}{cs:List Value}(h:w.rangeAt b o cs)(k:Nat)(vs:List Value)(hk:k+vs.length<=cs.length)(ht:w.there b (o+k) vs.length) :
  (w.setCells b (o+k) vs).rangeAt b o (cs.take k++vs++cs.drop (k+vs.length)):=fun j u hu=>by
 have hlen:(cs.take k).length=k:=by simp;omega
 by_cases hj:j<k
 ·rw[Lq,Ly (by omega),LQ,Lk hj] at hu
  rw[World.cell?_setCells_out b vs (o+k) w ⟨b,o+j,none⟩ (fun _ _=>Or.inl (by show o+j<o+k;omega))]
  exact h j u hu
 ·by_cases hj2:j<k+vs.length
  ·rw[Ly (by simp;omega),LK (by omega),hlen] at hu
   have:=World.cell?_setCells_in b vs (o+k) w (fun i hi=>(ht i hi).1) (j - k) (by omega)
   rw[show o+k+(j - k)=o+j by omega] at this
   rw[this,<-hu,Lh (by omega)]
  ·rw[LK (by simp;omega)] at hu
   rw[Nr,show k+vs.length+(j - (cs.take k++vs).length)=j by simp;omega] at hu
   rw[World.cell?_setCells_out b vs (o+k) w ⟨b,o+j,none⟩ (fun _ _=>Or.inr (by show o+k+vs.length<=o+j;omega))]
   exact h j u hu
def stN(rs iv t:List Int):Nat->List Int
 | 0=>iv
 | k+1=>YM rs (stN rs iv t k) ((t.drop (64*k)).take 64)
theorem Oq(rs iv t x:List Int)(k:Nat)(h:64*k<=t.length):stN rs iv (t++x) k=stN rs iv t k:=by
 induction k with
 | zero=>rfl
 | succ k ih =>
  rw[stN,stN,ih (by omega),LI (by omega),Lt (by simp;omega)]
theorem QdZ{rs iv t:List Int}(h:iv.length=8)(k:Nat):(stN rs iv t k).length=8:=by
 cases k with
 | zero=>exact h
 | succ k=>exact Qh5 _ _ _
def Hst(w:World)(p:Nat)(rs iv t:List Int):Prop :=
 ∃st blk,Hs w p st blk t.length∧st=stN rs iv t (t.length / 64)∧blk.take (t.length % 64)=t.drop (64*(t.length / 64))
def blkC(blk x:List Int)(u:Nat):List Int:=blk.take u++x++blk.drop (u+x.length)
theorem Qa9{blk x:List Int}{u:Nat}(h:blk.length=64)(hu:u+x.length<=64):(blkC blk x u).length=64:=by simp[blkC,h];omega
theorem Qcn{blk x t:List Int}{u:Nat}(h:blk.length=64)(_hu:u+x.length<=64)(ht:t.length % 64=u)(hb:blk.take u=t.drop (64*(t.length / 64))) :
  (blkC blk x u).take (u+x.length)=(t++x).drop (64*(t.length / 64)):=by
 have e:(blk.take u++x).length=u+x.length:=by simp[h];omega
 rw[blkC,Lt (by omega),Lo (by omega),hb,LI (by omega)]
theorem QjA{t x:List Int}(h:t.length % 64+x.length<64):(t++x).length / 64=t.length / 64∧(t++x).length % 64=t.length % 64+x.length:=by
 simp only[List.length_append];omega
theorem Qjz{t x:List Int}(h:t.length % 64+x.length=64):(t++x).length / 64=t.length / 64+1∧(t++x).length % 64=0:=by
 simp only[List.length_append];omega
theorem Hs.copied{w:World}{p:Nat}{st blk:List Int}{n:Nat}(h:Hs w p st blk n)(u:Nat)(x:List Int)(hu:u+x.length<=64):Hs (w.setCells p (8+u) (cB x)) p st (blkC blk x u) n:=by
 have hl:=h.blkl;refine⟨h.stl,Qa9 hl hu,?_,?_,?_,World.there_setCells h.there _ _ _⟩
 ·exact World.rangeAt_setCells_apart h.st _ _ _ (by right;left;rw[Qo,h.stl];omega)
 ·have:=Uo h.blk u (cB x) (by rw[QA,QA,hl];omega) (fun j hj=>by
   rw[QA] at hj;have:=h.there (8+u+j) (by omega)
   rwa [Lm] at this)
  simpa [blkC,cB,List.map_take,List.map_drop] using this
 ·rw[World.cell?_setCells_out p (cB x) (8+u) w ⟨p,72,none⟩ (fun _ _=>by right;show 8+u+(cB x).length<=72;rw[QA];omega)]
  exact h.len
theorem Hs.setLen{w:World}{p:Nat}{st blk:List Int}{n:Nat}(h:Hs w p st blk n)(m:Nat):Hs (w.setCell ⟨p,72,none⟩ (.int .u64 m)) p st blk m:=by
 have hl:=h.blkl;have hs:=h.stl;refine⟨h.stl,h.blkl,?_,?_,?_,QK h.there _ _⟩
 ·intro j u hu;have hj:j<8:=by have:=(List.getElem?_eq_some_iff.1 hu).1;rw[Qo,hs] at this;exact this
  rw[LO _ _ _ _ (fun e=>by have:=Lw Addr.off e;simp at this;omega)]
  exact h.st j u hu
 ·intro j u hu;have hj:j<64:=by have:=(List.getElem?_eq_some_iff.1 hu).1;rw[QA,hl] at this;exact this
  rw[LO _ _ _ _ (fun e=>by have:=Lw Addr.off e;simp at this;omega)]
  exact h.blk j u hu
 ·exact Na _ _ _ h.len
theorem Hs.setState{w:World}{p:Nat}{st blk:List Int}{n:Nat}(h:Hs w p st blk n)(st':List Int)(hs':st'.length=8):Hs (w.setCells p 0 (cW st')) p st' blk n:=by
 refine⟨hs',h.blkl,?_,?_,?_,World.there_setCells h.there _ _ _⟩
 ·exact World.rangeAt_setCells_same _ _ _ _ (by rw[Qo,hs'];exact fun j hj=>h.there j (by omega))
 ·exact World.rangeAt_setCells_apart h.blk _ _ _ (by right;right;rw[Qo,hs'];omega)
 ·rw[World.cell?_setCells_out p (cW st') 0 w ⟨p,72,none⟩ (fun _ _=>by right;show 0+(cW st').length<=72;rw[Qo,hs'];omega)]
  exact h.len
theorem Hs.drew{w:World}{p:Nat}{st blk:List Int}{n:Nat}(h:Hs w p st blk n):Hs w.drew p st blk n :=
 ⟨h.stl,h.blkl,by rw[World.rangeAt_drew];exact h.st,by rw[World.rangeAt_drew];exact h.blk,h.len,by rw[World.there_drew];exact h.there⟩
theorem Jm{a w:World}{b:Nat}(h:a.grownBy w (some b))(o:Nat)(vs:List Value):a.grownBy (w.setCells b o vs) (some b):=by
 induction vs generalizing o w with
 | nil=>exact h
 | cons c r ih=>exact ih (Lib.grownBy_setB h o c) (o+1)
theorem Qet{a w w':World}{b:Nat}(h:a.grownBy w (some b))(hb:Below w.heap.size w w'):a.grownBy w' (some b) :=
 Lib.grownBy_trans h ⟨hb.os,hb.tape,hb.output,hb.size,fun k hk _=>hb.block k hk⟩
theorem Qbv{a w:World}{b:Nat}(h:a.grownBy w (some b)):a.grownBy w.drew (some b):=⟨h.os,h.tape,h.output,h.size,h.block⟩
theorem QeU{a w:World}{b c o:Nat}{cs:List Value}(h:a.grownBy w (some b))(hne:c≠b)(hr:a.rangeAt c o cs):w.rangeAt c o cs:=fun j u hu=>by
 have h1:=hr j u hu;have hlt:=Ln _ _ h1;rw[LD (w:=a) (h.block c hlt (fun e=>hne (Ns e)))]
 exact h1
theorem Hs.ne_rounds{w:World}{p q:Nat}{st blk:List Int}{n:Nat}(h:Hs w p st blk n){rs:List Int}(hl:rs.length=64)(hr:w.rangeAt q 0 (cW rs)):q≠p:=by
 rintro rfl;have h1:=Qc hr (i:=8) (by omega)
 have h2:=QgM h.blk (i:=0) (by have:=h.blkl;omega)
 rw[N8,h1] at h2;injection h2 with h2
 injection h2 with h2
 cases h2
theorem Qb5(r:BA)(c:Nat):tB (r.extract c r.size)=(tB r).drop c:=by
 have:(r.extract c r.size).data.toList=r.data.toList.drop c:=by
  rw[Nz];simp[Array.toList_extract,List.extract]
  apply Lo
  simp
 rw[tB,this,tB,IJ]
theorem QoH{r:BA}(h:r.size=0):tB r=[]:=by
 have:=Yj r;rw[h] at this;exact List.length_eq_zero_iff.1 this
theorem Hst.full{w:World}{p:Nat}{rs iv t x st blk:List Int}{u:Nat}(hl:blk.length=64)(hu:t.length % 64=u)(hx:u+x.length=64)
  (hst:st=stN rs iv t (t.length / 64)) (hb:blk.take u=t.drop (64*(t.length / 64))) (h:Hs w p (YM rs st (blkC blk x u)) (blkC blk x u) (t++x).length):Hst w p rs iv (t++x):=by
 have hd:=Qjz (t:=t) (x:=x) (by omega)
 have hk:=Qcn (x:=x) hl (by omega) hu hb
 rw[hx,Lo (by rw[Qa9 hl (by omega)];exact La _)] at hk
 refine⟨_,_,h,?_,?_⟩
 ·rw[hd.1,stN,Oq _ _ _ _ _ (by omega),<-hst,<-hk,Lo (by rw[Qa9 hl (by omega)];exact La _)]
 ·rw[hd.2,hd.1,IF,LZ];simp only[List.length_append];omega
theorem Hst.part{w:World}{p:Nat}{rs iv t x st blk:List Int}{u:Nat}(hl:blk.length=64)(hu:t.length % 64=u)(hx:u+x.length<64)
  (hst:st=stN rs iv t (t.length / 64)) (hb:blk.take u=t.drop (64*(t.length / 64))) (h:Hs w p st (blkC blk x u) (t++x).length):Hst w p rs iv (t++x):=by
 have hd:=QjA (t:=t) (x:=x) (by omega)
 have hk:=Qcn (x:=x) hl (by omega) hu hb
 refine⟨_,_,h,?_,?_⟩
 ·rw[hd.1,Oq _ _ _ _ _ (by omega),<-hst]
 ·rw[hd.2,hd.1,hu];exact hk
end Go.Proofs.YtoblgjledefdbaaGreatDoor
