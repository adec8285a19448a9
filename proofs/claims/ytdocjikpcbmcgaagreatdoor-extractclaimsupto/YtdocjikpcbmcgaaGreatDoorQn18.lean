/- Own work. -/
import Derived.Test.YtdocjikpcbmcgaaGreatDoorQn17
set_option maxRecDepth 100000
set_option maxHeartbeats 8000000
namespace Go.Proofs.YtdocjikpcbmcgaaGreatDoor
open Go.RowKit
attribute [local go_sem ↓] Go.wp_at_zero Go.wp_at_succ
open Go.Proofs.Tryz
section
open Cv (QT)
def pre(p:PV):List UInt8:=UInt8.ofNat p.kd.toNat::UInt8.ofNat p.k.toNat::(num p.size++(if p.kd=3 then num p.old else if p.kd=2 then num p.S.length else []))
theorem QgD{p:PV}{c:Nat}(h:CntOk p.kd p.k p.old p.size p.S c):enc p=pre p++Qq 0 p.S++QD p.D:=by
 have h1:=h.kd1;have h3:=h.kd3;rw[enc,pre,mid]
 rcases(show p.kd=1∨p.kd=2∨p.kd=3 by omega) with e|e|e
 ·obtain⟨hl,_⟩:=h.one e;obtain⟨i,hi⟩ : ∃i,p.S=[i]:=by
   match hS:p.S,hl with
   | [i],_=>exact⟨i,rfl⟩
  rw[Lm e,Le (by omega),Le (by omega),hi]
  simp[Qq]
 ·rw[Le (by omega),Lm e,Le (by omega),Lm e]
  simp[List.append_assoc]
 ·rw[Le (by omega),Le (by omega),Lm e,h.three e]
  simp[Qq]
theorem Yi : ∀(S:List Nat) (x j:Nat),(Qq x (S.take j)).length<=(Qq x S).length:=by
 intro S
 induction S with
 | nil=>intro x j;simp[Qq]
 | cons i S ih =>
  intro x j
  cases j with
  | zero=>simp[Qq]
  | succ j=>rw[I5,Qq,Qq,Lg,Lg];have:=ih (i+1) j;omega
theorem UW(D:LB)(j:Nat):(QD (D.take j)).length<=(QD D).length:=by
 have:QD D=QD (D.take j)++QD (D.drop j):=by rw[<-OL,Nk]
 rw[this,Lg];omega
theorem Qcz(a:List UInt8)(d:BA):(⟨a.toArray⟩:BA)++d=⟨(a++d.data.toList).toArray⟩:=by
 apply Qbu
 rw[IQ,Array.toList_append]
theorem Jr{D:LB}{j:Nat}(h:j<D.length):D.take (j+1)=D.take j++[D.getD j ByteArray.empty]:=by
 rw[Nz,Lc h,La,Lc h];rfl
theorem QbQ(d:BA):QD [d]=d.data.toList:=by simp[QD]
theorem Qas{S:List Nat}{size j:Nat}(hc:QT 0 S size)(hj:j<S.length):Qq 0 (S.take (j+1))=Qq 0 (S.take j)++num (S.getD j 0 - (if j=0 then 0 else S.getD (j - 1) 0+1))∧(0<j->S.getD (j - 1) 0<S.getD j 0)∧S.getD j 0<size:=by
 have hd:=Cv.Y9 hc j hj;refine⟨?_,fun h=>hd.2.2 (j - 1) (by omega),hd.1⟩
 rw[UN hj,QhV]
 cases j with
 | zero=>simp[nxt]
 | succ j =>
  have:S.take (j+1)=S.take j++[S.getD j 0]:=UN (by omega)
  rw[this,Jl,Le (by omega),Nv]
section
variable (w:World) (sa:OA) (sb so sc:Nat) (da:OA) (db dO dc:Nat) (P:PV)
theorem Qgc(hp:RdPC w sa sb so sc da db dO dc P)(h : ¬Y7 P) :
  Zr 85 #[pvP P sa sc da dc] w (.tuple #[.string ⟨#[]⟩,.int .i64 150]):=by
 obtain⟨W,hW,h6,hb,hz⟩:=Yk w (.int .i64 P.kd) (.int .i64 P.k) (.int .u64 (P.old:Int)) (.int .u64 (P.size:Int)) (.slice sa P.S.length sc) (.slice da P.D.length dc);obtain⟨e0,e1,e2,e3,e4,e5⟩:=h6.cells;have HC:=Qdh W sa sb so sc da db dO dc P (hp.next hb);rw[Lj h] at HC;have HB:=Qg hb;simp only[pvP,pv6] at HC ⊢;clear h6 hb hz hp h;generalize P.S.length=ms at *;generalize P.D.length=md at *
 go_enter func85,ntmps85
 go_wp2_with (go_at_call 139;(try rw[hW]);with_reducible refine HC.mono ?_;rintro x w1 ⟨rfl,xA⟩)
 go_ret2
 exact⟨rfl,Qa HB.out xA⟩
theorem rencode_yes (hp:RdPC w sa sb so sc da db dO dc P) (h:Y7 P) :
    Zr 85 #[pvP P sa sc da dc] w (.tuple #[.string ⟨(enc P).toArray⟩,.int .i64 0]):=by
  have ho:=QK h.1;have hel:=Qli h;rw[QgD ho] at hel ⊢;obtain⟨W,hW,h6,hb,_⟩:=Yk w (.int .i64 P.kd) (.int .i64 P.k) (.int .u64 (P.old:Int)) (.int .u64 (P.size:Int)) (.slice sa P.S.length sc) (.slice da P.D.length dc);have HC:=Qdh W sa sb so sc da db dO dc P (hp.next hb);rw[Ln h] at HC;obtain⟨kd,k,old,size,S,D⟩:=P;simp only[pvP,pv6] at HC hW h6 ho ⊢;have HX:Hid (∀F,Zb W F->Six F w.heap.size (.int .i64 kd) (.int .i64 k) (.int .u64 (old:Int)) (.int .u64 (size:Int)) (.slice sa S.length sc) (.slice da D.length dc)∧RdU F sa sb so S.length S∧RdS F da db dO D.length D∧Zb w F):=fun F hF=>⟨h6.next hF,(hp.next (Qa hb hF)).rs,(hp.next (Qa hb hF)).rd,Qa hb hF⟩
  obtain⟨e0,e1,e2,e3,e4,e5⟩:=h6.cells;have i1:=ho.kd1;have i2:=ho.kd3;have i3:=ho.k1;have i4:=ho.k32;have i5:=ho.hsz;have i6:=ho.hold;have i7:=ho.len;have i8:D.length<=8796093022208:=hp.mD;obtain⟨a,rfl⟩ : ∃a:Nat,kd=(a:Int):=⟨kd.toNat,by omega⟩
  obtain⟨b,rfl⟩ : ∃b:Nat,k=(b:Int):=⟨k.toNat,by omega⟩
  have ha:a<256:=by omega
  have hb':b<256:=by omega
  have hS1:(S.length:Int)<=1099511627776:=by omega
  have hD1:(D.length:Int)<=8796093022208:=by omega
  have eS:IntKind.u64.wrap (S.length:Int)=(S.length:Int):=by rw[IntKind.wrap_u64];omega
  have ea:IntKind.u8.wrap (a:Int)=(a:Int):=by rw[IntKind.wrap_u8];omega
  have eb:IntKind.u8.wrap (b:Int)=(b:Int):=by rw[IntKind.wrap_u8];omega
  have HN:=fun W'=>Qcm W' size (by omega)
  have HNn:Hid (∀(W':World) (n:Nat),n<=1099511627776->Calls prog 140 #[.int .u64 (n:Int)] W' fun x w'=>x = .returned (.string ⟨(num n).toArray⟩)∧Zb W' w'):=fun W1 n hn=>Qcm W1 n (N7 hn (by decide))
  have ht:=fun W'=>QiJ W' a b ha hb'
  have HP:Hid (pre ⟨a,b,old,size,S,D⟩=[UInt8.ofNat a,UInt8.ofNat b]++num size++(if (a:Int)=3 then num old else if (a:Int)=2 then num S.length else [])):=by
    show _=_
    simp only[pre,List.cons_append,List.nil_append,Int.toNat_natCast]
  have HE:Hid ((pre ⟨a,b,old,size,S,D⟩++Qq 0 S++QD D).length<=70368744177664):=hel;have HCH:Hid (QT 0 S size∧size<=1099511627776∧(a=1∨a=2∨a=3)∧old<=1099511627776∧S.length<=1099511627776):=⟨ho.chain,i5,by omega,by omega,by omega⟩
  have hnl:=Ym (n:=size) (by omega)
  obtain⟨t1,ht1e⟩:=Ze (⟨[UInt8.ofNat a,UInt8.ofNat b].toArray⟩:BA);obtain⟨t2,ht2e⟩:=Ze (⟨(num size).toArray⟩:BA);have hs1:(t1.size:Int)<=2:=by rw[<-ht1e];simp[ByteArray.size]
  have hs2:(t2.size:Int)<=10:=by rw[<-ht2e];simp[ByteArray.size];omega
  have HT:Hid (t1++t2=⟨([UInt8.ofNat a,UInt8.ofNat b]++num size).toArray⟩):=by show _=_;rw[<-ht1e,<-ht2e,Ux]
  have hHA : ∀(V w1:World),Below (V.alloc (.cells #[.int .u8 (a:Int),.int .u8 (b:Int)] 5)).heap.size (V.alloc (.cells #[.int .u8 (a:Int),.int .u8 (b:Int)] 5)) w1->(convert 95 9 (.slice (some ⟨V.heap.size,0,none⟩) 2 2)).run prog w1 = .ok (.string ⟨[UInt8.ofNat a,UInt8.ofNat b].toArray⟩) w1:=fun V w1 hb1=>QnN ha hb' ((hb1.block _ (by simp)).trans (Lu V _))
  rw[ht1e] at hHA;simp only[ht1e] at ht;simp only[ht2e] at HN;clear h6 hb hp h ho hel i1 i2 i3 i4 i5 i6 i7 i8 ha hb' hnl ht1e ht2e
  go_enter func85,ntmps85
  go_upto_region 3 with (go_at_call 139;(try rw[hW]);with_reducible refine HC.mono ?_;rintro x Z ⟨rfl,hbZ⟩)
  clear hW HC e0 e1 e2 e3 e4 e5;have hZd:Zb W Z.drew:=Qa hbZ ((Lb Z.heap.size Z).drew);have HCc:Hid (∀F,Zb W F->F.cell? ⟨w.heap.size,0,none⟩=some (.int .i64 (a:Int))∧F.cell? ⟨w.heap.size,1,none⟩=some (.int .i64 (b:Int))∧F.cell? ⟨w.heap.size,3,none⟩=some (.int .u64 (size:Int))):=fun F hF=>by
    have k:=(HX.out F hF).1.cells;exact⟨k.1,k.2.1,k.2.2.2.1⟩
  obtain⟨V1,hV1⟩:=Ze (Z.drew.alloc (.cells #[.int .u8 (a:Int),.int .u8 (b:Int)] 5));have hbA:Zb W V1:=by rw[<-hV1];exact bal hZd _
  have hcv0:(convert 95 9 (.slice (some ⟨Z.heap.size,0,none⟩) 2 2)).run prog V1 = .ok (.string t1) V1:=by rw[<-hV1];exact ht Z.drew
  have HA:Hid (∀w5,Zb V1 w5->(convert 95 9 (.slice (some ⟨Z.heap.size,0,none⟩) 2 2)).run prog w5 = .ok (.string t1) w5):=fun w5 h5=>hHA Z.drew w5 (by rw[hV1];exact h5)
  have hss : ¬(9223372036854775807<t1.size+t2.size):=by omega
  clear hbZ hHA;refine wp_region_noPanic ?_
  refine wp_region_held_drew (S:=fun Y=>Y.cell? ⟨w.heap.size,0,none⟩=some (.int .i64 (a:Int))∧Y.cell? ⟨w.heap.size,1,none⟩=some (.int .i64 (b:Int))∧Y.cell? ⟨w.heap.size,3,none⟩=some (.int .u64 (size:Int))) (by kernel_rfl) ?_ (fun hHeld => ?_)
  · exact HCc.out _ hZd
  refine wpAnyH_take (i:=0) (oi:=({ dst:=some 11,op:=Op.fieldAddr 55 (Operand.tmp 1) 0,type:=0,pos := "ref.go:128",after:=#[],guard:=none } : Oper)) (v := ?v1) rfl (by kernel_rfl) (by kernel_rfl) (by kernel_rfl) (fun _ _ _ h=>h) (Or.inl ⟨by rfl,?y1⟩) (by assumption) ?r1
  case y1=>intro w0 hSw;(try dsimp only at hSw);go_simp <;> (try with_reducible rfl)
  try simp only[Act.put,List.setIfInBounds_toArray,List.set_cons_zero,List.set_cons_succ]
  refine wpAnyH_take (i:=1) (oi:=({ dst:=some 12,op:=Op.load 3 (Operand.tmp 11),type:=3,pos := "ref.go:128",after:=#[{ on:=0,ground:=Ground.data }],guard:=none } : Oper)) (v := ?v2) rfl (by kernel_rfl) (by kernel_rfl) (by kernel_rfl) (fun _ _ _ h=>h) (Or.inl ⟨by rfl,?y2⟩) (by assumption) ?r2
  case y2=>intro w0 hSw;(try dsimp only at hSw);go_simp <;> (try with_reducible rfl)
  try simp only[Act.put,List.setIfInBounds_toArray,List.set_cons_zero,List.set_cons_succ]
  refine wpAnyH_take (i:=2) (oi:=({ dst:=some 13,op:=Op.convert 3 5 (Operand.tmp 12),type:=5,pos := "ref.go:128",after:=#[{ on:=1,ground:=Ground.data }],guard:=none } : Oper)) (v := ?v3) rfl (by kernel_rfl) (by kernel_rfl) (by kernel_rfl) (fun _ _ _ h=>h) (Or.inl ⟨by rfl,?y3⟩) (by assumption) ?r3
  case y3=>intro w0 hSw;(try dsimp only at hSw);go_simp <;> (try with_reducible rfl)
  try simp only[Act.put,List.setIfInBounds_toArray,List.set_cons_zero,List.set_cons_succ]
  refine wpAnyH_take (i:=3) (oi:=({ dst:=some 14,op:=Op.fieldAddr 55 (Operand.tmp 1) 1,type:=0,pos := "ref.go:128",after:=#[],guard:=none } : Oper)) (v := ?v4) rfl (by kernel_rfl) (by kernel_rfl) (by kernel_rfl) (fun _ _ _ h=>h) (Or.inl ⟨by rfl,?y4⟩) (by assumption) ?r4
  case y4=>intro w0 hSw;(try dsimp only at hSw);go_simp <;> (try with_reducible rfl)
  try simp only[Act.put,List.setIfInBounds_toArray,List.set_cons_zero,List.set_cons_succ]
  refine wpAnyH_take (i:=4) (oi:=({ dst:=some 15,op:=Op.load 3 (Operand.tmp 14),type:=3,pos := "ref.go:128",after:=#[{ on:=3,ground:=Ground.data }],guard:=none } : Oper)) (v := ?v5) rfl (by kernel_rfl) (by kernel_rfl) (by kernel_rfl) (fun _ _ _ h=>h) (Or.inl ⟨by rfl,?y5⟩) (by assumption) ?r5
  case y5=>intro w0 hSw;(try dsimp only at hSw);go_simp <;> (try with_reducible rfl)
  try simp only[Act.put,List.setIfInBounds_toArray,List.set_cons_zero,List.set_cons_succ]
  refine wpAnyH_take (i:=5) (oi:=({ dst:=some 16,op:=Op.convert 3 5 (Operand.tmp 15),type:=5,pos := "ref.go:128",after:=#[{ on:=4,ground:=Ground.data }],guard:=none } : Oper)) (v := ?v6) rfl (by kernel_rfl) (by kernel_rfl) (by kernel_rfl) (fun _ _ _ h=>h) (Or.inl ⟨by rfl,?y6⟩) (by assumption) ?r6
  case y6=>intro w0 hSw;(try dsimp only at hSw);go_simp <;> (try with_reducible rfl)
  try simp only[Act.put,List.setIfInBounds_toArray,List.set_cons_zero,List.set_cons_succ]
  refine wpAnyH_take (i:=8) (oi:=({ dst:=some 19,op:=Op.fieldAddr 55 (Operand.tmp 1) 3,type:=0,pos := "ref.go:128",after:=#[],guard:=none } : Oper)) (v := ?v7) rfl (by kernel_rfl) (by kernel_rfl) (by kernel_rfl) (fun _ _ _ h=>h) (Or.inl ⟨by rfl,?y7⟩) (by assumption) ?r7
  case y7=>intro w0 hSw;(try dsimp only at hSw);go_simp <;> (try with_reducible rfl)
  try simp only[Act.put,List.setIfInBounds_toArray,List.set_cons_zero,List.set_cons_succ]
  refine wpAnyH_take (i:=9) (oi:=({ dst:=some 20,op:=Op.load 28 (Operand.tmp 19),type:=28,pos := "ref.go:128",after:=#[{ on:=8,ground:=Ground.data }],guard:=none } : Oper)) (v := ?v8) rfl (by kernel_rfl) (by kernel_rfl) (by kernel_rfl) (fun _ _ _ h=>h) (Or.inl ⟨by rfl,?y8⟩) (by assumption) ?r8
  case y8=>intro w0 hSw;(try dsimp only at hSw);go_simp <;> (try with_reducible rfl)
  try simp only[Act.put,List.setIfInBounds_toArray,List.set_cons_zero,List.set_cons_succ]
  refine wpAnyH_ready (rs:=[6,10]) (by kernel_rfl) (by simp) ?_
  refine AllReadyH.cons (o:=({ dst:=some 17,op:=Op.buildSlice 95 2 #[(0,Operand.tmp 13),(1,Operand.tmp 16)],type:=95,pos := "ref.go:128",after:=#[{ on:=2,ground:=Ground.data },{ on:=5,ground:=Ground.data }],guard:=none } : Oper)) rfl (fun K hK => ?_) ?_
  go_simp
  refine hK.out _ _ ?_ (fun hHeld => ?_)
  · exact HCc.out _ hbA
  clear hK K
  try simp only[Act.put,List.setIfInBounds_toArray,List.set_cons_zero,List.set_cons_succ]
  refine wpAnyH_ready (rs:=[7,10]) (by kernel_rfl) (by simp) ?_
  refine AllReadyH.cons (o:=({ dst:=some 18,op:=Op.convert 95 9 (Operand.tmp 17),type:=9,pos := "ref.go:128",after:=#[{ on:=6,ground:=Ground.data }],guard:=none } : Oper)) rfl (fun K hK => ?_) ?_
  go_simp
  refine hK.out _ _ ?_ (fun hHeld => ?_)
  · exact HCc.out _ hbA
  clear hK K
  try simp only[Act.put,List.setIfInBounds_toArray,List.set_cons_zero,List.set_cons_succ]
  refine wpAnyH_ready (rs:=[10]) (by kernel_rfl) (by simp) ?_
  refine AllReadyH.cons (o:=({ dst:=some 21,op:=Op.call { callee:=Callee.value (Operand.func 140),args:=#[Operand.tmp 20],argTypes:=#[28] },type:=9,pos := "ref.go:128",after:=#[{ on:=9,ground:=Ground.data }],guard:=none } : Oper)) rfl (fun K hK => ?_) ?_
  go_simp
  go_at_call 140
  with_reducible refine(HN _).mono ?_
  rintro x w5 ⟨rfl,hb5⟩;have hb5W:Zb W w5:=Qa hbA hb5
  try dsimp only
  refine hK.out _ _ ?_ (fun hHeld => ?_)
  · exact HCc.out _ hb5W
  clear hK K
  try simp only[Act.put,List.setIfInBounds_toArray,List.set_cons_zero,List.set_cons_succ]
  refine wpAnyH_take (i:=11) (oi:=({ dst:=some 22,op:=Op.binOp BinOp.add 9 (Operand.tmp 18) (Operand.tmp 21) 9,type:=9,pos := "ref.go:128",after:=#[{ on:=7,ground:=Ground.data },{ on:=10,ground:=Ground.data }],guard:=none } : Oper)) (v := ?v9) rfl (by kernel_rfl) (by kernel_rfl) (by kernel_rfl) (fun _ _ _ h=>h) (Or.inl ⟨by rfl,?y9⟩) (by assumption) ?r9
  case y9=>intro w0 hSw;(try dsimp only at hSw);go_simp <;> (try with_reducible rfl)
  try simp only[Act.put,List.setIfInBounds_toArray,List.set_cons_zero,List.set_cons_succ]
  refine wpAnyH_take (i:=12) (oi:=({ dst:=some 4,op:=Op.assign (Operand.tmp 22),type:=9,pos := "ref.go:128",after:=#[{ on:=11,ground:=Ground.data },{ on:=10,ground:=Ground.chain },{ on:=0,ground:=Ground.phase },{ on:=1,ground:=Ground.phase },{ on:=2,ground:=Ground.phase },{ on:=3,ground:=Ground.phase },{ on:=4,ground:=Ground.phase },{ on:=5,ground:=Ground.phase },{ on:=6,ground:=Ground.phase },{ on:=7,ground:=Ground.phase },{ on:=8,ground:=Ground.phase },{ on:=9,ground:=Ground.phase },{ on:=10,ground:=Ground.phase },{ on:=11,ground:=Ground.phase }],guard:=none } : Oper)) (v := ?v10) rfl (by kernel_rfl) (by kernel_rfl) (by kernel_rfl) (fun _ _ _ h=>h) (Or.inl ⟨by rfl,?y10⟩) (by assumption) ?r10
  case y10=>intro w0 hSw;(try dsimp only at hSw);go_simp <;> (try with_reducible rfl)
  try simp only[Act.put,List.setIfInBounds_toArray,List.set_cons_zero,List.set_cons_succ]
  refine wpAnyH_done (by kernel_rfl) ?_ _
  refine NoPanic.normal ?_
  rotate_left
  exact AllReadyH.nil;refine AllReadyH.cons (o:=({ dst:=some 21,op:=Op.call { callee:=Callee.value (Operand.func 140),args:=#[Operand.tmp 20],argTypes:=#[28] },type:=9,pos := "ref.go:128",after:=#[{ on:=9,ground:=Ground.data }],guard:=none } : Oper)) rfl (fun K hK => ?_) ?_
  go_simp
  go_at_call 140
  with_reducible refine(HN _).mono ?_
  rintro x w5 ⟨rfl,hb5⟩;have hb5W:Zb W w5:=Qa hbA hb5
  try dsimp only
  have hcv:(convert 95 9 (.slice (some ⟨Z.heap.size,0,none⟩) 2 2)).run prog w5 = .ok (.string t1) w5:=HA.out w5 hb5;refine hK.out _ _ ?_ (fun hHeld => ?_)
  · exact HCc.out _ hb5W
  clear hK K
  try simp only[Act.put,List.setIfInBounds_toArray,List.set_cons_zero,List.set_cons_succ]
  refine wpAnyH_ready (rs:=[7]) (by kernel_rfl) (by simp) ?_
  refine AllReadyH.cons (o:=({ dst:=some 18,op:=Op.convert 95 9 (Operand.tmp 17),type:=9,pos := "ref.go:128",after:=#[{ on:=6,ground:=Ground.data }],guard:=none } : Oper)) rfl (fun K hK => ?_) ?_
  go_simp
  refine hK.out _ _ ?_ (fun hHeld => ?_)
  · exact HCc.out _ hb5W
  clear hK K
  try simp only[Act.put,List.setIfInBounds_toArray,List.set_cons_zero,List.set_cons_succ]
  refine wpAnyH_take (i:=11) (oi:=({ dst:=some 22,op:=Op.binOp BinOp.add 9 (Operand.tmp 18) (Operand.tmp 21) 9,type:=9,pos := "ref.go:128",after:=#[{ on:=7,ground:=Ground.data },{ on:=10,ground:=Ground.data }],guard:=none } : Oper)) (v := ?v11) rfl (by kernel_rfl) (by kernel_rfl) (by kernel_rfl) (fun _ _ _ h=>h) (Or.inl ⟨by rfl,?y11⟩) (by assumption) ?r11
  case y11=>intro w0 hSw;(try dsimp only at hSw);go_simp <;> (try with_reducible rfl)
  try simp only[Act.put,List.setIfInBounds_toArray,List.set_cons_zero,List.set_cons_succ]
  refine wpAnyH_take (i:=12) (oi:=({ dst:=some 4,op:=Op.assign (Operand.tmp 22),type:=9,pos := "ref.go:128",after:=#[{ on:=11,ground:=Ground.data },{ on:=10,ground:=Ground.chain },{ on:=0,ground:=Ground.phase },{ on:=1,ground:=Ground.phase },{ on:=2,ground:=Ground.phase },{ on:=3,ground:=Ground.phase },{ on:=4,ground:=Ground.phase },{ on:=5,ground:=Ground.phase },{ on:=6,ground:=Ground.phase },{ on:=7,ground:=Ground.phase },{ on:=8,ground:=Ground.phase },{ on:=9,ground:=Ground.phase },{ on:=10,ground:=Ground.phase },{ on:=11,ground:=Ground.phase }],guard:=none } : Oper)) (v := ?v12) rfl (by kernel_rfl) (by kernel_rfl) (by kernel_rfl) (fun _ _ _ h=>h) (Or.inl ⟨by rfl,?y12⟩) (by assumption) ?r12
  case y12=>intro w0 hSw;(try dsimp only at hSw);go_simp <;> (try with_reducible rfl)
  try simp only[Act.put,List.setIfInBounds_toArray,List.set_cons_zero,List.set_cons_succ]
  refine wpAnyH_done (by kernel_rfl) ?_ _
  refine NoPanic.normal ?_
  rotate_left
  exact AllReadyH.nil;exact AllReadyH.nil;refine AllReadyH.cons (o:=({ dst:=some 21,op:=Op.call { callee:=Callee.value (Operand.func 140),args:=#[Operand.tmp 20],argTypes:=#[28] },type:=9,pos := "ref.go:128",after:=#[{ on:=9,ground:=Ground.data }],guard:=none } : Oper)) rfl (fun K hK => ?_) ?_
  go_simp
  go_at_call 140
  with_reducible refine(HN _).mono ?_
  rintro x w5 ⟨rfl,hb5⟩;have hb5W:Zb W w5:=Qa hZd hb5
  try dsimp only
  have hcv:=ht w5;refine hK.out _ _ ?_ (fun hHeld => ?_)
  · exact HCc.out _ hb5W
  clear hK K
  try simp only[Act.put,List.setIfInBounds_toArray,List.set_cons_zero,List.set_cons_succ]
  refine wpAnyH_ready (rs:=[6]) (by kernel_rfl) (by simp) ?_
  refine AllReadyH.cons (o:=({ dst:=some 17,op:=Op.buildSlice 95 2 #[(0,Operand.tmp 13),(1,Operand.tmp 16)],type:=95,pos := "ref.go:128",after:=#[{ on:=2,ground:=Ground.data },{ on:=5,ground:=Ground.data }],guard:=none } : Oper)) rfl (fun K hK => ?_) ?_
  go_simp
  refine hK.out _ _ ?_ (fun hHeld => ?_)
  · exact HCc.out _ (bal hb5W _)
  clear hK K
  try simp only[Act.put,List.setIfInBounds_toArray,List.set_cons_zero,List.set_cons_succ]
  refine wpAnyH_ready (rs:=[7]) (by kernel_rfl) (by simp) ?_
  refine AllReadyH.cons (o:=({ dst:=some 18,op:=Op.convert 95 9 (Operand.tmp 17),type:=9,pos := "ref.go:128",after:=#[{ on:=6,ground:=Ground.data }],guard:=none } : Oper)) rfl (fun K hK => ?_) ?_
  go_simp
  refine hK.out _ _ ?_ (fun hHeld => ?_)
  · exact HCc.out _ (bal hb5W _)
  clear hK K
  try simp only[Act.put,List.setIfInBounds_toArray,List.set_cons_zero,List.set_cons_succ]
  refine wpAnyH_take (i:=11) (oi:=({ dst:=some 22,op:=Op.binOp BinOp.add 9 (Operand.tmp 18) (Operand.tmp 21) 9,type:=9,pos := "ref.go:128",after:=#[{ on:=7,ground:=Ground.data },{ on:=10,ground:=Ground.data }],guard:=none } : Oper)) (v := ?v13) rfl (by kernel_rfl) (by kernel_rfl) (by kernel_rfl) (fun _ _ _ h=>h) (Or.inl ⟨by rfl,?y13⟩) (by assumption) ?r13
  case y13=>intro w0 hSw;(try dsimp only at hSw);go_simp <;> (try with_reducible rfl)
  try simp only[Act.put,List.setIfInBounds_toArray,List.set_cons_zero,List.set_cons_succ]
  refine wpAnyH_take (i:=12) (oi:=({ dst:=some 4,op:=Op.assign (Operand.tmp 22),type:=9,pos := "ref.go:128",after:=#[{ on:=11,ground:=Ground.data },{ on:=10,ground:=Ground.chain },{ on:=0,ground:=Ground.phase },{ on:=1,ground:=Ground.phase },{ on:=2,ground:=Ground.phase },{ on:=3,ground:=Ground.phase },{ on:=4,ground:=Ground.phase },{ on:=5,ground:=Ground.phase },{ on:=6,ground:=Ground.phase },{ on:=7,ground:=Ground.phase },{ on:=8,ground:=Ground.phase },{ on:=9,ground:=Ground.phase },{ on:=10,ground:=Ground.phase },{ on:=11,ground:=Ground.phase }],guard:=none } : Oper)) (v := ?v14) rfl (by kernel_rfl) (by kernel_rfl) (by kernel_rfl) (fun _ _ _ h=>h) (Or.inl ⟨by rfl,?y14⟩) (by assumption) ?r14
  case y14=>intro w0 hSw;(try dsimp only at hSw);go_simp <;> (try with_reducible rfl)
  try simp only[Act.put,List.setIfInBounds_toArray,List.set_cons_zero,List.set_cons_succ]
  refine wpAnyH_done (by kernel_rfl) ?_ _
  refine NoPanic.normal ?_
  rotate_left
  exact AllReadyH.nil;exact AllReadyH.nil;exact AllReadyH.nil
  all_goals
    first
      | (obtain⟨V,hV⟩:=Ze (w5.alloc (.cells #[.int .u8 (a:Int),.int .u8 (b:Int)] 5))
         rw[hV];have hbV:Zb W V:=by rw[<-hV];exact bal hb5W _
         clear hV)
      | (obtain⟨V,rfl⟩ : ∃V,V=w5:=⟨_,rfl⟩
         have hbV:=hb5W)
    obtain⟨k6,kU,kD,kb⟩:=HX.out V hbV;obtain⟨e0,e1,e2,e3,e4,e5⟩:=k6.cells;clear k6 kU kD kb hb5 hb5W hZd hbA hcv0 hV1 ht HA HN HCc
    rcases HCH.out.2.2.1 with hk|hk|hk
    · have d3:((a:Int) == 3)=false:=beq_eq_false_iff_ne.2 (by omega)
      have d2:((a:Int) == 2)=false:=beq_eq_false_iff_ne.2 (by omega)
      obtain⟨x0,hx0⟩:=Ze (t1++t2);have HX0:Hid (x0=⟨(pre ⟨a,b,old,size,S,D⟩).toArray⟩):=by
        show _=_
        rw[<-hx0,HT.out,HP.out,Le (by omega),Le (by omega),Na]
      rw[hx0];clear hk hx0
      go_upto_region 8 with (fail)
      have hx1:(x0.size:Int)<=70368744177664:=by
        rw[HX0.out,YL];have h1:=HE.out;rw[Lg,Lg] at h1;omega
      have HV:=Qg hbV;clear e0 e1 e2 e3 e4 e5 d2 d3 hbV;go_wp2
      go_loopg [4,5,6] S.length (fun gk sv i _ wr => ∃(j:Nat) (x:BA),j<=S.length∧gk=S.length - j∧i = .int .i64 (j:Int)∧sv = .string x∧(x.size:Int)<=70368744177664∧Hid (x=⟨(pre ⟨a,b,old,size,S,D⟩++Qq 0 (S.take j)).toArray⟩)∧Hid (Zb W wr))
      case atStart=>go_light;exact⟨0,x0,Ll _,rfl,rfl,rfl,hx1,(show _=_ by rw[HX0.out];simp[Qq]),HV⟩
      case round =>
        obtain⟨j,x,hj,rfl,rfl,rfl,hxs,HXj,HI⟩:=hrel;obtain⟨k6,v1,v2,hbw⟩:=HX.out wr HI.out;obtain⟨_,_,_,_,e4,e5⟩:=k6.cells;have hj0:(0:Int)<=(j:Int):=Lf _;have HBw:=Qg hbw;clear k6 hbw hx1 HX0 HV
        by_cases hlt:j<S.length
        · have hlt':(j:Int)<(S.length:Int):=by omega
          obtain rfl:=v1.ptr (by omega)
          have c1:=v1.at (j:=j) hlt;obtain⟨l1,l2,l3⟩:=Qas HCH.out.1 hlt;have hle:S.getD j 0<=1099511627776:=by have:=HCH.out.2.1;omega
          by_cases j1:j=0
          · have j2 : ¬(0:Int)<(j:Int):=by omega
            rw[Lm j1,I9] at l1;obtain⟨d,hd⟩:=Ze (S.getD j 0);rw[hd] at c1 l1 hle;have HM:=HNn.out wr d hle;have hnl:=Ym (n:=d) (by omega)
            obtain⟨t3,ht3⟩:=Ze (⟨(num d).toArray⟩:BA);have hs3:(t3.size:Int)<=10:=by rw[<-ht3];simp[ByteArray.size];omega
            rw[ht3] at HM;have HXn:Hid (x++t3=⟨(pre ⟨a,b,old,size,S,D⟩++Qq 0 (S.take (j+1))).toArray⟩):=by
              show _=_
              rw[HXj.out,<-ht3,Ux,l1,LH]
            have HXs:Hid (((x++t3).size:Int)<=70368744177664):=by
              show _<=_
              rw[HXn.out,YL];have h1:=HE.out;have h2:=Yi S 0 (j+1);rw[Lg,Lg] at h1;rw[Lg];omega
            clear j1 l1 l2 l3 hd hle hnl ht3 HXj v1 v2
            go_wp2_with (go_at_call 140;with_reducible refine HM.mono ?_;rintro y w9 ⟨rfl,hb9⟩)
            go_roundg (S.length - (j+1))
            case rel=>go_light;exact⟨j+1,x++t3,hlt,rfl,by go_num,rfl,HXs.out,HXn,Qa HI.out hb9⟩
            case measure=>go_light;omega
          · obtain⟨u,rfl⟩ : ∃u,j=u+1:=⟨j - 1,by omega⟩
            have j2:(0:Int)<((u+1:Nat):Int):=by omega
            have c2:=v1.at (j:=u) (by omega)
            have l2':=l2 (by omega)
            rw[Le j1,Nv] at l1;rw[Nv] at l2';obtain⟨p,hp⟩:=Ze (S.getD (u+1) 0);obtain⟨q,hq⟩:=Ze (S.getD u 0);rw[hp] at c1 l1 hle l2';rw[hq] at c2 l1 l2';obtain⟨d,hd⟩:=Ze (p - (q+1));rw[hd] at l1;have HM:=HNn.out wr d (by omega)
            have hnl:=Ym (n:=d) (by omega)
            have ed1:IntKind.u64.wrap ((p:Int) - (q:Int))=(d:Int)+1:=by rw[IntKind.wrap_u64];omega
            have ed2:IntKind.u64.wrap ((d:Int)+1 - 1)=(d:Int):=by rw[IntKind.wrap_u64];omega
            have ed3:IntKind.u64.wrap (d:Int)=(d:Int):=by rw[IntKind.wrap_u64];omega
            have eu:((u+1:Nat):Int) - 1=(u:Int):=by omega
            have eu0:(0:Int)<=(u:Int):=Lf _;have eu1:(u:Int)<(S.length:Int):=by omega
            obtain⟨t3,ht3⟩:=Ze (⟨(num d).toArray⟩:BA);have hs3:(t3.size:Int)<=10:=by rw[<-ht3];simp[ByteArray.size];omega
            rw[ht3] at HM;have HXn:Hid (x++t3=⟨(pre ⟨a,b,old,size,S,D⟩++Qq 0 (S.take (u+1+1))).toArray⟩):=by
              show _=_
              rw[HXj.out,<-ht3,Ux,l1,LH]
            have HXs:Hid (((x++t3).size:Int)<=70368744177664):=by
              show _<=_
              rw[HXn.out,YL];have h1:=HE.out;have h2:=Yi S 0 (u+1+1);rw[Lg,Lg] at h1;rw[Lg];omega
            clear j1 l1 l2 l2' l3 hd hle hnl ht3 HXj v1 v2 hp hq
            go_wp2_with (go_at_call 140;with_reducible refine HM.mono ?_;rintro y w9 ⟨rfl,hb9⟩)
            go_roundg (S.length - (u+1+1))
            case rel=>go_light;exact⟨u+1+1,x++t3,hlt,rfl,by go_num,rfl,HXs.out,HXn,Qa HI.out hb9⟩
            case measure=>go_light;omega
        · obtain hje:j=S.length:=by omega
          have hlt' : ¬(j:Int)<(S.length:Int):=by omega
          have HY0:Hid (x=⟨(pre ⟨a,b,old,size,S,D⟩++Qq 0 S).toArray⟩):=by
            have:=HXj.out;rw[hje,LY] at this;exact this
          clear HXj hje hlt v1 v2;go_wp2;clear hlt' e4 e5
          go_loopg [4,7] D.length (fun gk sv i wr2 => ∃(m:Nat) (y:BA),m<=D.length∧gk=D.length - m∧i = .int .i64 (m:Int)∧sv = .string y∧(y.size:Int)<=70368744177664∧Hid (y=⟨(pre ⟨a,b,old,size,S,D⟩++Qq 0 S++QD (D.take m)).toArray⟩)∧Hid (Zb W wr2))
          case atStart=>go_light;exact⟨0,x,Ll _,rfl,rfl,rfl,hxs,(show _=_ by rw[HY0.out];simp[QD]),HI⟩
          case round =>
            obtain⟨m,y,hm,rfl,rfl,rfl,hys,HYm,HI2⟩:=hrel;obtain⟨k6,v1,v2,hbw⟩:=HX.out _ HI2.out;obtain⟨_,_,_,_,e4,e5⟩:=k6.cells;have hm0:(0:Int)<=(m:Int):=Lf _;have HB3:=Qg hbw;clear k6 hbw HY0 hxs HBw
            by_cases hlt:m<D.length
            · have hlt':(m:Int)<(D.length:Int):=by omega
              obtain rfl:=v2.ptr (by omega)
              have c1:=v2.at (k:=m) hlt;have hn:=Jr hlt;obtain⟨d,hd⟩:=Ze (D.getD m ByteArray.empty);rw[hd] at c1 hn;have HYn:Hid (y++d=⟨(pre ⟨a,b,old,size,S,D⟩++Qq 0 S++QD (D.take (m+1))).toArray⟩):=by
                show _=_
                rw[HYm.out,Qcz,hn,OL,QbQ,LH]
              have hyd:((y++d).size:Int)<=70368744177664:=by
                rw[HYn.out,YL];have h1:=HE.out;have h2:=UW D (m+1);rw[Lg] at h1;rw[Lg];omega
              have HYs:=Qg hyd;have hds:(d.size:Int)<=70368744177664:=by rw[L3] at hyd;omega
              clear hyd hn hd HYm v1 v2;go_wp2
              go_roundg (D.length - (m+1))
              case rel=>go_light;exact⟨m+1,y++d,hlt,rfl,by go_num,rfl,HYs.out,HYn,HI2⟩
              case measure=>go_light;omega
            · obtain hme:m=D.length:=by omega
              have hlt' : ¬(m:Int)<(D.length:Int):=by omega
              have HYe:Hid (y=⟨(pre ⟨a,b,old,size,S,D⟩++Qq 0 S++QD D).toArray⟩):=by
                have:=HYm.out;rw[hme,LY] at this;exact this
              clear HYm hme hlt v1 v2;go_wp2
              go_ret2
              exact⟨by rw[HYe.out,LH];try rfl,HB3.out⟩
    · have d3:((a:Int) == 3)=false:=beq_eq_false_iff_ne.2 (by omega)
      have d2:((a:Int) == 2)=true:=beq_iff_eq.2 (by omega)
      have HM:=HNn.out V S.length HCH.out.2.2.2.2;have hnl:=Ym (n:=S.length) (by have:=HCH.out;omega)
      obtain⟨t3,ht3⟩:=Ze (⟨(num S.length).toArray⟩:BA);have hs3:(t3.size:Int)<=10:=by rw[<-ht3];simp[ByteArray.size];omega
      have hs12:((t1++t2).size:Int)<=12:=by rw[L3];omega
      have HX0:Hid (t1++t2++t3=⟨(pre ⟨a,b,old,size,S,D⟩).toArray⟩):=by
        show _=_
        rw[HT.out,<-ht3,Ux,HP.out,Le (by omega),Lm (by omega)]
      rw[ht3] at HM;generalize t1++t2=t12 at *;clear hk ht3 hnl
      go_upto_region 8 with (go_at_call 140;with_reducible refine HM.mono ?_;rintro x V2 ⟨rfl,hb8⟩)
      have hbV2:=Qa hbV hb8;clear hbV hb8 HM;obtain⟨x0,hx0⟩:=Ze (t12++t3);rw[hx0] at HX0;rw[hx0];clear hx0 hs12 hs3;have hbV:=hbV2;clear hbV2;have hx1:(x0.size:Int)<=70368744177664:=by
        rw[HX0.out,YL];have h1:=HE.out;rw[Lg,Lg] at h1;omega
      have HV:=Qg hbV;clear e0 e1 e2 e3 e4 e5 d2 d3 hbV;go_wp2
      go_loopg [4,5,6] S.length (fun gk sv i _ wr => ∃(j:Nat) (x:BA),j<=S.length∧gk=S.length - j∧i = .int .i64 (j:Int)∧sv = .string x∧(x.size:Int)<=70368744177664∧Hid (x=⟨(pre ⟨a,b,old,size,S,D⟩++Qq 0 (S.take j)).toArray⟩)∧Hid (Zb W wr))
      case atStart=>go_light;exact⟨0,x0,Ll _,rfl,rfl,rfl,hx1,(show _=_ by rw[HX0.out];simp[Qq]),HV⟩
      case round =>
        obtain⟨j,x,hj,rfl,rfl,rfl,hxs,HXj,HI⟩:=hrel;obtain⟨k6,v1,v2,hbw⟩:=HX.out wr HI.out;obtain⟨_,_,_,_,e4,e5⟩:=k6.cells;have hj0:(0:Int)<=(j:Int):=Lf _;have HBw:=Qg hbw;clear k6 hbw hx1 HX0 HV
        by_cases hlt:j<S.length
        · have hlt':(j:Int)<(S.length:Int):=by omega
          obtain rfl:=v1.ptr (by omega)
          have c1:=v1.at (j:=j) hlt;obtain⟨l1,l2,l3⟩:=Qas HCH.out.1 hlt;have hle:S.getD j 0<=1099511627776:=by have:=HCH.out.2.1;omega
          by_cases j1:j=0
          · have j2 : ¬(0:Int)<(j:Int):=by omega
            rw[Lm j1,I9] at l1;obtain⟨d,hd⟩:=Ze (S.getD j 0);rw[hd] at c1 l1 hle;have HM:=HNn.out wr d hle;have hnl:=Ym (n:=d) (by omega)
            obtain⟨t3,ht3⟩:=Ze (⟨(num d).toArray⟩:BA);have hs3:(t3.size:Int)<=10:=by rw[<-ht3];simp[ByteArray.size];omega
            rw[ht3] at HM;have HXn:Hid (x++t3=⟨(pre ⟨a,b,old,size,S,D⟩++Qq 0 (S.take (j+1))).toArray⟩):=by
              show _=_
              rw[HXj.out,<-ht3,Ux,l1,LH]
            have HXs:Hid (((x++t3).size:Int)<=70368744177664):=by
              show _<=_
              rw[HXn.out,YL];have h1:=HE.out;have h2:=Yi S 0 (j+1);rw[Lg,Lg] at h1;rw[Lg];omega
            clear j1 l1 l2 l3 hd hle hnl ht3 HXj v1 v2
            go_wp2_with (go_at_call 140;with_reducible refine HM.mono ?_;rintro y w9 ⟨rfl,hb9⟩)
            go_roundg (S.length - (j+1))
            case rel=>go_light;exact⟨j+1,x++t3,hlt,rfl,by go_num,rfl,HXs.out,HXn,Qa HI.out hb9⟩
            case measure=>go_light;omega
          · obtain⟨u,rfl⟩ : ∃u,j=u+1:=⟨j - 1,by omega⟩
            have j2:(0:Int)<((u+1:Nat):Int):=by omega
            have c2:=v1.at (j:=u) (by omega)
            have l2':=l2 (by omega)
            rw[Le j1,Nv] at l1;rw[Nv] at l2';obtain⟨p,hp⟩:=Ze (S.getD (u+1) 0);obtain⟨q,hq⟩:=Ze (S.getD u 0);rw[hp] at c1 l1 hle l2';rw[hq] at c2 l1 l2';obtain⟨d,hd⟩:=Ze (p - (q+1));rw[hd] at l1;have HM:=HNn.out wr d (by omega)
            have hnl:=Ym (n:=d) (by omega)
            have ed1:IntKind.u64.wrap ((p:Int) - (q:Int))=(d:Int)+1:=by rw[IntKind.wrap_u64];omega
            have ed2:IntKind.u64.wrap ((d:Int)+1 - 1)=(d:Int):=by rw[IntKind.wrap_u64];omega
            have ed3:IntKind.u64.wrap (d:Int)=(d:Int):=by rw[IntKind.wrap_u64];omega
            have eu:((u+1:Nat):Int) - 1=(u:Int):=by omega
            have eu0:(0:Int)<=(u:Int):=Lf _;have eu1:(u:Int)<(S.length:Int):=by omega
            obtain⟨t3,ht3⟩:=Ze (⟨(num d).toArray⟩:BA);have hs3:(t3.size:Int)<=10:=by rw[<-ht3];simp[ByteArray.size];omega
            rw[ht3] at HM;have HXn:Hid (x++t3=⟨(pre ⟨a,b,old,size,S,D⟩++Qq 0 (S.take (u+1+1))).toArray⟩):=by
              show _=_
              rw[HXj.out,<-ht3,Ux,l1,LH]
            have HXs:Hid (((x++t3).size:Int)<=70368744177664):=by
              show _<=_
              rw[HXn.out,YL];have h1:=HE.out;have h2:=Yi S 0 (u+1+1);rw[Lg,Lg] at h1;rw[Lg];omega
            clear j1 l1 l2 l2' l3 hd hle hnl ht3 HXj v1 v2 hp hq
            go_wp2_with (go_at_call 140;with_reducible refine HM.mono ?_;rintro y w9 ⟨rfl,hb9⟩)
            go_roundg (S.length - (u+1+1))
            case rel=>go_light;exact⟨u+1+1,x++t3,hlt,rfl,by go_num,rfl,HXs.out,HXn,Qa HI.out hb9⟩
            case measure=>go_light;omega
        · obtain hje:j=S.length:=by omega
          have hlt' : ¬(j:Int)<(S.length:Int):=by omega
          have HY0:Hid (x=⟨(pre ⟨a,b,old,size,S,D⟩++Qq 0 S).toArray⟩):=by
            have:=HXj.out;rw[hje,LY] at this;exact this
          clear HXj hje hlt v1 v2;go_wp2;clear hlt' e4 e5
          go_loopg [4,7] D.length (fun gk sv i wr2 => ∃(m:Nat) (y:BA),m<=D.length∧gk=D.length - m∧i = .int .i64 (m:Int)∧sv = .string y∧(y.size:Int)<=70368744177664∧Hid (y=⟨(pre ⟨a,b,old,size,S,D⟩++Qq 0 S++QD (D.take m)).toArray⟩)∧Hid (Zb W wr2))
          case atStart=>go_light;exact⟨0,x,Ll _,rfl,rfl,rfl,hxs,(show _=_ by rw[HY0.out];simp[QD]),HI⟩
          case round =>
            obtain⟨m,y,hm,rfl,rfl,rfl,hys,HYm,HI2⟩:=hrel;obtain⟨k6,v1,v2,hbw⟩:=HX.out _ HI2.out;obtain⟨_,_,_,_,e4,e5⟩:=k6.cells;have hm0:(0:Int)<=(m:Int):=Lf _;have HB3:=Qg hbw;clear k6 hbw HY0 hxs HBw
            by_cases hlt:m<D.length
            · have hlt':(m:Int)<(D.length:Int):=by omega
              obtain rfl:=v2.ptr (by omega)
              have c1:=v2.at (k:=m) hlt;have hn:=Jr hlt;obtain⟨d,hd⟩:=Ze (D.getD m ByteArray.empty);rw[hd] at c1 hn;have HYn:Hid (y++d=⟨(pre ⟨a,b,old,size,S,D⟩++Qq 0 S++QD (D.take (m+1))).toArray⟩):=by
                show _=_
                rw[HYm.out,Qcz,hn,OL,QbQ,LH]
              have hyd:((y++d).size:Int)<=70368744177664:=by
                rw[HYn.out,YL];have h1:=HE.out;have h2:=UW D (m+1);rw[Lg] at h1;rw[Lg];omega
              have HYs:=Qg hyd;have hds:(d.size:Int)<=70368744177664:=by rw[L3] at hyd;omega
              clear hyd hn hd HYm v1 v2;go_wp2
              go_roundg (D.length - (m+1))
              case rel=>go_light;exact⟨m+1,y++d,hlt,rfl,by go_num,rfl,HYs.out,HYn,HI2⟩
              case measure=>go_light;omega
            · obtain hme:m=D.length:=by omega
              have hlt' : ¬(m:Int)<(D.length:Int):=by omega
              have HYe:Hid (y=⟨(pre ⟨a,b,old,size,S,D⟩++Qq 0 S++QD D).toArray⟩):=by
                have:=HYm.out;rw[hme,LY] at this;exact this
              clear HYm hme hlt v1 v2;go_wp2
              go_ret2
              exact⟨by rw[HYe.out,LH];try rfl,HB3.out⟩
    · have d3:((a:Int) == 3)=true:=beq_iff_eq.2 (by omega)
      have d2:((a:Int) == 2)=false:=beq_eq_false_iff_ne.2 (by omega)
      have HM:=HNn.out V old HCH.out.2.2.2.1;have hnl:=Ym (n:=old) (by have:=HCH.out;omega)
      obtain⟨t3,ht3⟩:=Ze (⟨(num old).toArray⟩:BA);have hs3:(t3.size:Int)<=10:=by rw[<-ht3];simp[ByteArray.size];omega
      have hs12:((t1++t2).size:Int)<=12:=by rw[L3];omega
      have HX0:Hid (t1++t2++t3=⟨(pre ⟨a,b,old,size,S,D⟩).toArray⟩):=by
        show _=_
        rw[HT.out,<-ht3,Ux,HP.out,Lm (by omega)]
      rw[ht3] at HM;generalize t1++t2=t12 at *;clear hk ht3 hnl
      go_upto_region 6 with (go_at_call 140;with_reducible refine HM.mono ?_;rintro x V2 ⟨rfl,hb8⟩)
      have hbV2:=Qa hbV hb8;clear hbV hb8 HM e0 e1 e2 e3 e4 e5;obtain⟨k6,kU,kD,kb⟩:=HX.out V2 hbV2;obtain⟨e0,e1,e2,e3,e4,e5⟩:=k6.cells;clear k6 kU kD kb;obtain⟨x0,hx0⟩:=Ze (t12++t3);rw[hx0] at HX0;rw[hx0];clear hx0 hs12 hs3;have hbV:=hbV2
      go_upto_region 8 with (fail)
      have hx1:(x0.size:Int)<=70368744177664:=by
        rw[HX0.out,YL];have h1:=HE.out;rw[Lg,Lg] at h1;omega
      have HV:=Qg hbV;clear e0 e1 e2 e3 e4 e5 d2 d3 hbV;go_wp2
      go_loopg [4,5,6] S.length (fun gk sv i _ wr => ∃(j:Nat) (x:BA),j<=S.length∧gk=S.length - j∧i = .int .i64 (j:Int)∧sv = .string x∧(x.size:Int)<=70368744177664∧Hid (x=⟨(pre ⟨a,b,old,size,S,D⟩++Qq 0 (S.take j)).toArray⟩)∧Hid (Zb W wr))
      case atStart=>go_light;exact⟨0,x0,Ll _,rfl,rfl,rfl,hx1,(show _=_ by rw[HX0.out];simp[Qq]),HV⟩
      case round =>
        obtain⟨j,x,hj,rfl,rfl,rfl,hxs,HXj,HI⟩:=hrel;obtain⟨k6,v1,v2,hbw⟩:=HX.out wr HI.out;obtain⟨_,_,_,_,e4,e5⟩:=k6.cells;have hj0:(0:Int)<=(j:Int):=Lf _;have HBw:=Qg hbw;clear k6 hbw hx1 HX0 HV
        by_cases hlt:j<S.length
        · have hlt':(j:Int)<(S.length:Int):=by omega
          obtain rfl:=v1.ptr (by omega)
          have c1:=v1.at (j:=j) hlt;obtain⟨l1,l2,l3⟩:=Qas HCH.out.1 hlt;have hle:S.getD j 0<=1099511627776:=by have:=HCH.out.2.1;omega
          by_cases j1:j=0
          · have j2 : ¬(0:Int)<(j:Int):=by omega
            rw[Lm j1,I9] at l1;obtain⟨d,hd⟩:=Ze (S.getD j 0);rw[hd] at c1 l1 hle;have HM:=HNn.out wr d hle;have hnl:=Ym (n:=d) (by omega)
            obtain⟨t3,ht3⟩:=Ze (⟨(num d).toArray⟩:BA);have hs3:(t3.size:Int)<=10:=by rw[<-ht3];simp[ByteArray.size];omega
            rw[ht3] at HM;have HXn:Hid (x++t3=⟨(pre ⟨a,b,old,size,S,D⟩++Qq 0 (S.take (j+1))).toArray⟩):=by
              show _=_
              rw[HXj.out,<-ht3,Ux,l1,LH]
            have HXs:Hid (((x++t3).size:Int)<=70368744177664):=by
              show _<=_
              rw[HXn.out,YL];have h1:=HE.out;have h2:=Yi S 0 (j+1);rw[Lg,Lg] at h1;rw[Lg];omega
            clear j1 l1 l2 l3 hd hle hnl ht3 HXj v1 v2
            go_wp2_with (go_at_call 140;with_reducible refine HM.mono ?_;rintro y w9 ⟨rfl,hb9⟩)
            go_roundg (S.length - (j+1))
            case rel=>go_light;exact⟨j+1,x++t3,hlt,rfl,by go_num,rfl,HXs.out,HXn,Qa HI.out hb9⟩
            case measure=>go_light;omega
          · obtain⟨u,rfl⟩ : ∃u,j=u+1:=⟨j - 1,by omega⟩
            have j2:(0:Int)<((u+1:Nat):Int):=by omega
            have c2:=v1.at (j:=u) (by omega)
            have l2':=l2 (by omega)
            rw[Le j1,Nv] at l1;rw[Nv] at l2';obtain⟨p,hp⟩:=Ze (S.getD (u+1) 0);obtain⟨q,hq⟩:=Ze (S.getD u 0);rw[hp] at c1 l1 hle l2';rw[hq] at c2 l1 l2';obtain⟨d,hd⟩:=Ze (p - (q+1));rw[hd] at l1;have HM:=HNn.out wr d (by omega)
            have hnl:=Ym (n:=d) (by omega)
            have ed1:IntKind.u64.wrap ((p:Int) - (q:Int))=(d:Int)+1:=by rw[IntKind.wrap_u64];omega
            have ed2:IntKind.u64.wrap ((d:Int)+1 - 1)=(d:Int):=by rw[IntKind.wrap_u64];omega
            have ed3:IntKind.u64.wrap (d:Int)=(d:Int):=by rw[IntKind.wrap_u64];omega
            have eu:((u+1:Nat):Int) - 1=(u:Int):=by omega
            have eu0:(0:Int)<=(u:Int):=Lf _;have eu1:(u:Int)<(S.length:Int):=by omega
            obtain⟨t3,ht3⟩:=Ze (⟨(num d).toArray⟩:BA);have hs3:(t3.size:Int)<=10:=by rw[<-ht3];simp[ByteArray.size];omega
            rw[ht3] at HM;have HXn:Hid (x++t3=⟨(pre ⟨a,b,old,size,S,D⟩++Qq 0 (S.take (u+1+1))).toArray⟩):=by
              show _=_
              rw[HXj.out,<-ht3,Ux,l1,LH]
            have HXs:Hid (((x++t3).size:Int)<=70368744177664):=by
              show _<=_
              rw[HXn.out,YL];have h1:=HE.out;have h2:=Yi S 0 (u+1+1);rw[Lg,Lg] at h1;rw[Lg];omega
            clear j1 l1 l2 l2' l3 hd hle hnl ht3 HXj v1 v2 hp hq
            go_wp2_with (go_at_call 140;with_reducible refine HM.mono ?_;rintro y w9 ⟨rfl,hb9⟩)
            go_roundg (S.length - (u+1+1))
            case rel=>go_light;exact⟨u+1+1,x++t3,hlt,rfl,by go_num,rfl,HXs.out,HXn,Qa HI.out hb9⟩
            case measure=>go_light;omega
        · obtain hje:j=S.length:=by omega
          have hlt' : ¬(j:Int)<(S.length:Int):=by omega
          have HY0:Hid (x=⟨(pre ⟨a,b,old,size,S,D⟩++Qq 0 S).toArray⟩):=by
            have:=HXj.out;rw[hje,LY] at this;exact this
          clear HXj hje hlt v1 v2;go_wp2;clear hlt' e4 e5
          go_loopg [4,7] D.length (fun gk sv i wr2 => ∃(m:Nat) (y:BA),m<=D.length∧gk=D.length - m∧i = .int .i64 (m:Int)∧sv = .string y∧(y.size:Int)<=70368744177664∧Hid (y=⟨(pre ⟨a,b,old,size,S,D⟩++Qq 0 S++QD (D.take m)).toArray⟩)∧Hid (Zb W wr2))
          case atStart=>go_light;exact⟨0,x,Ll _,rfl,rfl,rfl,hxs,(show _=_ by rw[HY0.out];simp[QD]),HI⟩
          case round =>
            obtain⟨m,y,hm,rfl,rfl,rfl,hys,HYm,HI2⟩:=hrel;obtain⟨k6,v1,v2,hbw⟩:=HX.out _ HI2.out;obtain⟨_,_,_,_,e4,e5⟩:=k6.cells;have hm0:(0:Int)<=(m:Int):=Lf _;have HB3:=Qg hbw;clear k6 hbw HY0 hxs HBw
            by_cases hlt:m<D.length
            · have hlt':(m:Int)<(D.length:Int):=by omega
              obtain rfl:=v2.ptr (by omega)
              have c1:=v2.at (k:=m) hlt;have hn:=Jr hlt;obtain⟨d,hd⟩:=Ze (D.getD m ByteArray.empty);rw[hd] at c1 hn;have HYn:Hid (y++d=⟨(pre ⟨a,b,old,size,S,D⟩++Qq 0 S++QD (D.take (m+1))).toArray⟩):=by
                show _=_
                rw[HYm.out,Qcz,hn,OL,QbQ,LH]
              have hyd:((y++d).size:Int)<=70368744177664:=by
                rw[HYn.out,YL];have h1:=HE.out;have h2:=UW D (m+1);rw[Lg] at h1;rw[Lg];omega
              have HYs:=Qg hyd;have hds:(d.size:Int)<=70368744177664:=by rw[L3] at hyd;omega
              clear hyd hn hd HYm v1 v2;go_wp2
              go_roundg (D.length - (m+1))
              case rel=>go_light;exact⟨m+1,y++d,hlt,rfl,by go_num,rfl,HYs.out,HYn,HI2⟩
              case measure=>go_light;omega
            · obtain hme:m=D.length:=by omega
              have hlt' : ¬(m:Int)<(D.length:Int):=by omega
              have HYe:Hid (y=⟨(pre ⟨a,b,old,size,S,D⟩++Qq 0 S++QD D).toArray⟩):=by
                have:=HYm.out;rw[hme,LY] at this;exact this
              clear HYm hme hlt v1 v2;go_wp2
              go_ret2
              exact⟨by rw[HYe.out,LH];try rfl,HB3.out⟩
end
end
section
open Cv (QT)
def U1(T:BA)(a:Nat):List UInt8:=T.data.toList.drop a
theorem JU(T:BA)(a:Nat):(U1 T a).length=T.size - a:=by rw[U1,Lv,Qn]
theorem Qfl(T:BA)(a k:Nat):U1 T (a+k)=(U1 T a).drop k:=by rw[U1,U1,Wa]
theorem Qbl{T:BA}{a n:Nat}{r:List UInt8}(h:U1 T a=num n++r)(hn:n<2^64):rnb T a 0=(a+(num n).length,0,n)∧U1 T (a+(num n).length)=r:=by
 have hs:=Qct r n 0 0 (by decide) (by simpa using hn) (by decide) (.inl rfl)
 refine⟨?_,by rw[Qfl,h];simp⟩
 refine Qgf ?_
 rw[U1] at h;rw[h,hs];simp
theorem Qbj(T:BA)(a e:Nat)(ha:a<=T.size):(rnb T a e).1<=T.size∧(rnb T a e).2.2<18446744073709551616:=by
 by_cases he:e=0
 ·subst he;obtain⟨n,e',k,hc⟩ : ∃n e' k,Yf (T.data.toList.drop a) 0 0=(n,e',k):=⟨_,_,_,rfl⟩
  by_cases h0:e'=0
  ·subst h0;rw[Qgf hc];obtain⟨m,h1,h2,h3,h4,h5,h6,h7⟩:=QaA _ 0 0 n k (by decide) (by decide) hc
   rw[Lv,Qn] at h5;exact⟨by simp only;omega,h7⟩
  ·rw[Qbk hc h0]
   rcases Qkr (T.data.toList.drop a) 0 0 with h|h|h
   ·rw[hc] at h;exact absurd h h0
   ·rw[hc] at h;cases h;exact⟨ha,by simp only;omega⟩
   ·rw[hc] at h;cases h;exact⟨ha,by simp only;omega⟩
 ·simp[rnb,he,ha]
theorem Qma{T:BA}{a k:Nat}{d:BA}{r:List UInt8}(h:U1 T a=d.data.toList++r)(hk:d.size=k):rtk T a 0 (k:Int)=(a+k,0,d)∧U1 T (a+k)=r:=by
 have hl:=LU List.length h;rw[JU,Lg,Qn,hk] at hl;refine⟨?_,by rw[Qfl,h,NA (by rw[Qn];omega),List.drop_of_length_le (by rw[Qn];omega),Ie]⟩
 rw[rtk,Le (by simp),Le (by omega),IJ]
 have:T.extract a (a+k)=d:=by
  apply Qbu
  have e1:(T.extract a (a+k)).data.toList=(T.data.toList.drop a).take k:=by
   rw[NH,Ig,Ic,Io]
  rw[e1];rw[U1] at h;rw[h,Ns (by rw[Qn];omega),LD (by rw[Qn];omega)]
 rw[this]
end
end Go.Proofs.YtdocjikpcbmcgaaGreatDoor
