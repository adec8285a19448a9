/- Own work. -/
import Derived.Test.YtoblgjledefdbaaGreatDoorQm44
import Derived.Test.YtoblgjledefdbaaGreatDoorQm46
set_option maxRecDepth 100000
set_option maxHeartbeats 8000000
namespace Go.Proofs.YtoblgjledefdbaaGreatDoor
open Go.RowKit
attribute [local go_sem ↓] Go.wp_at_zero Go.wp_at_succ
open Go.Proofs.Tryz
section
open Cv (QI)
def pre(p:PV):List UInt8:=UInt8.ofNat p.kd.toNat::UInt8.ofNat p.k.toNat::(num p.size++(if p.kd=3 then num p.old else if p.kd=2 then num p.S.length else []))
theorem QgR{p:PV}{c:Nat}(h:CntOk p.kd p.k p.old p.size p.S c):enc p=pre p++Qj 0 p.S++Qu p.D:=by
 have h1:=h.kd1;have h3:=h.kd3;rw[enc,pre,mid]
 rcases(show p.kd=1∨p.kd=2∨p.kd=3 by omega) with e|e|e
 ·obtain⟨hl,_⟩:=h.one e;obtain⟨i,hi⟩ : ∃i,p.S=[i]:=by
   match hS:p.S,hl with
   | [i],_=>exact⟨i,rfl⟩
  rw[Lk e,Le (by omega),Le (by omega),hi]
  simp[Qj]
 ·rw[Le (by omega),Lk e,Le (by omega),Lk e]
  simp[List.append_assoc]
 ·rw[Le (by omega),Le (by omega),Lk e,h.three e]
  simp[Qj]
theorem Q0 : ∀(S:List Nat) (x j:Nat),(Qj x (S.take j)).length<=(Qj x S).length:=by
 intro S
 induction S with
 | nil=>intro x j;simp[Qj]
 | cons i S ih =>
  intro x j
  cases j with
  | zero=>simp[Qj]
  | succ j=>rw[Io,Qj,Qj,Lc,Lc];have:=ih (i+1) j;omega
theorem UC(D:LB)(j:Nat):(Qu (D.take j)).length<=(Qu D).length:=by
 have:Qu D=Qu (D.take j)++Qu (D.drop j):=by rw[<-OG,Nj]
 rw[this,Lc];omega
theorem Qb4(a:List UInt8)(d:BA):(⟨a.toArray⟩:BA)++d=⟨(a++d.data.toList).toArray⟩:=by
 apply Ji
 rw[IH,Array.toList_append]
theorem Ja{D:LB}{j:Nat}(h:j<D.length):D.take (j+1)=D.take j++[D.getD j ByteArray.empty]:=by
 rw[NH,Lh h,Ld,Lh h];rfl
theorem Qbp(d:BA):Qu [d]=d.data.toList:=by simp[Qu]
theorem Qap{S:List Nat}{size j:Nat}(hc:QI 0 S size)(hj:j<S.length):Qj 0 (S.take (j+1))=Qj 0 (S.take j)++num (S.getD j 0 - (if j=0 then 0 else S.getD (j - 1) 0+1))∧(0<j->S.getD (j - 1) 0<S.getD j 0)∧S.getD j 0<size:=by
 have hd:=Cv.YQ hc j hj;refine⟨?_,fun h=>hd.2.2 (j - 1) (by omega),hd.1⟩
 rw[YY hj,Qcz]
 cases j with
 | zero=>simp[nxt]
 | succ j =>
  have:S.take (j+1)=S.take j++[S.getD j 0]:=YY (by omega)
  rw[this,Ux,Le (by omega),LP]
section
variable (w:World) (sa:OA) (sb so sc:Nat) (da:OA) (db dO dc:Nat) (P:PV)
theorem Qgd(hp:RdPC w sa sb so sc da db dO dc P)(h : ¬Yk P) :
  Calls prog 114 #[pvP P sa sc da dc] w fun e w'=>e = .returned (.tuple #[.string ⟨#[]⟩,.int .i64 150])∧Below w.heap.size w w':=by
 obtain⟨W,hW,h6,hb,hz⟩:=UB w (.int .i64 P.kd) (.int .i64 P.k) (.int .u64 (P.old:Int)) (.int .u64 (P.size:Int)) (.slice sa P.S.length sc) (.slice da P.D.length dc);obtain⟨e0,e1,e2,e3,e4,e5⟩:=h6.cells;have HC:=QcS W sa sb so sc da db dO dc P (hp.next hb);rw[Ls h] at HC;have HB:=Qg hb;simp only[pvP,pv6] at HC ⊢;clear h6 hb hz hp h;generalize P.S.length=ms at *;generalize P.D.length=md at *
 go_enter func114,ntmps114
 go_wp2_with (go_at_call 194;(try rw[hW]);with_reducible refine HC.mono ?_;rintro x w1 ⟨rfl,xA⟩)
 go_ret2
 exact⟨rfl,Qa HB.out xA⟩
theorem rencode_yes (hp:RdPC w sa sb so sc da db dO dc P) (h:Yk P) :
    Calls prog 114 #[pvP P sa sc da dc] w fun e w'=>e = .returned (.tuple #[.string ⟨(enc P).toArray⟩,.int .i64 0])∧Below w.heap.size w w':=by
  have ho:=Yh h.1;have hel:=QlV h;rw[QgR ho] at hel ⊢;obtain⟨W,hW,h6,hb,_⟩:=UB w (.int .i64 P.kd) (.int .i64 P.k) (.int .u64 (P.old:Int)) (.int .u64 (P.size:Int)) (.slice sa P.S.length sc) (.slice da P.D.length dc);have HC:=QcS W sa sb so sc da db dO dc P (hp.next hb);rw[LA h] at HC;obtain⟨kd,k,old,size,S,D⟩:=P;simp only[pvP,pv6] at HC hW h6 ho ⊢;have HX:Hid (∀F,Below W.heap.size W F->Six F w.heap.size (.int .i64 kd) (.int .i64 k) (.int .u64 (old:Int)) (.int .u64 (size:Int)) (.slice sa S.length sc) (.slice da D.length dc)∧RdU F sa sb so S.length S∧RdS F da db dO D.length D∧Below w.heap.size w F):=fun F hF=>⟨h6.next hF,(hp.next (Qa hb hF)).rs,(hp.next (Qa hb hF)).rd,Qa hb hF⟩
  obtain⟨e0,e1,e2,e3,e4,e5⟩:=h6.cells;have i1:=ho.kd1;have i2:=ho.kd3;have i3:=ho.k1;have i4:=ho.k32;have i5:=ho.hsz;have i6:=ho.hold;have i7:=ho.len;have i8:D.length<=8796093022208:=hp.mD;obtain⟨a,rfl⟩ : ∃a:Nat,kd=(a:Int):=⟨kd.toNat,by omega⟩
  obtain⟨b,rfl⟩ : ∃b:Nat,k=(b:Int):=⟨k.toNat,by omega⟩
  have ha:a<256:=by omega
  have hb':b<256:=by omega
  have hS1:(S.length:Int)<=1099511627776:=by omega
  have hD1:(D.length:Int)<=8796093022208:=by omega
  have eS:IntKind.u64.wrap (S.length:Int)=(S.length:Int):=by rw[IntKind.wrap_u64];omega
  have ea:IntKind.u8.wrap (a:Int)=(a:Int):=by rw[IL];omega
  have eb:IntKind.u8.wrap (b:Int)=(b:Int):=by rw[IL];omega
  have HN:=fun W'=>QbR W' size (by omega)
  have HNn:Hid (∀(W':World) (n:Nat),n<=1099511627776->Calls prog 195 #[.int .u64 (n:Int)] W' fun x w'=>x = .returned (.string ⟨(num n).toArray⟩)∧Below W'.heap.size W' w'):=fun W1 n hn=>QbR W1 n (NT hn (by decide))
  have ht:=fun W'=>Qc1 W' a b ha hb'
  have HP:Hid (pre ⟨a,b,old,size,S,D⟩=[UInt8.ofNat a,UInt8.ofNat b]++num size++(if (a:Int)=3 then num old else if (a:Int)=2 then num S.length else [])):=by
    show _=_
    simp only[pre,List.cons_append,List.nil_append,Int.toNat_natCast]
  have HE:Hid ((pre ⟨a,b,old,size,S,D⟩++Qj 0 S++Qu D).length<=70368744177664):=hel;have HCH:Hid (QI 0 S size∧size<=1099511627776∧(a=1∨a=2∨a=3)∧old<=1099511627776∧S.length<=1099511627776):=⟨ho.chain,i5,by omega,by omega,by omega⟩
  have hnl:=QD (n:=size) (by omega)
  obtain⟨t1,ht1e⟩:=Ze (⟨[UInt8.ofNat a,UInt8.ofNat b].toArray⟩:BA);obtain⟨t2,ht2e⟩:=Ze (⟨(num size).toArray⟩:BA);have hs1:(t1.size:Int)<=2:=by rw[<-ht1e];simp[ByteArray.size]
  have hs2:(t2.size:Int)<=10:=by rw[<-ht2e];simp[ByteArray.size];omega
  have HT:Hid (t1++t2=⟨([UInt8.ofNat a,UInt8.ofNat b]++num size).toArray⟩):=by show _=_;rw[<-ht1e,<-ht2e,Yz]
  have hHA : ∀(V w1:World),Below (V.alloc (.cells #[.int .u8 (a:Int),.int .u8 (b:Int)] 5)).heap.size (V.alloc (.cells #[.int .u8 (a:Int),.int .u8 (b:Int)] 5)) w1->(convert 127 9 (.slice (some ⟨V.heap.size,0,none⟩) 2 2)).run prog w1 = .ok (.string ⟨[UInt8.ofNat a,UInt8.ofNat b].toArray⟩) w1:=fun V w1 hb1=>QgA ha hb' ((hb1.block _ (by simp)).trans (LH V _))
  rw[ht1e] at hHA;simp only[ht1e] at ht;simp only[ht2e] at HN;clear h6 hb hp h ho hel i1 i2 i3 i4 i5 i6 i7 i8 ha hb' hnl ht1e ht2e
  go_enter func114,ntmps114
  go_upto_region 3 with (go_at_call 194;(try rw[hW]);with_reducible refine HC.mono ?_;rintro x Z ⟨rfl,hbZ⟩)
  clear hW HC e0 e1 e2 e3 e4 e5;have hZd:Below W.heap.size W Z.drew:=Qa hbZ ((Lb Z.heap.size Z).drew);have HCc:Hid (∀F,Below W.heap.size W F->F.cell? ⟨w.heap.size,0,none⟩=some (.int .i64 (a:Int))∧F.cell? ⟨w.heap.size,1,none⟩=some (.int .i64 (b:Int))∧F.cell? ⟨w.heap.size,3,none⟩=some (.int .u64 (size:Int))):=fun F hF=>by
    have k:=(HX.out F hF).1.cells;exact⟨k.1,k.2.1,k.2.2.2.1⟩
  obtain⟨V1,hV1⟩:=Ze (Z.drew.alloc (.cells #[.int .u8 (a:Int),.int .u8 (b:Int)] 5));have hbA:Below W.heap.size W V1:=by rw[<-hV1];exact bal hZd _
  have hcv0:(convert 127 9 (.slice (some ⟨Z.heap.size,0,none⟩) 2 2)).run prog V1 = .ok (.string t1) V1:=by rw[<-hV1];exact ht Z.drew
  have HA:Hid (∀w5,Below V1.heap.size V1 w5->(convert 127 9 (.slice (some ⟨Z.heap.size,0,none⟩) 2 2)).run prog w5 = .ok (.string t1) w5):=fun w5 h5=>hHA Z.drew w5 (by rw[hV1];exact h5)
  have hss : ¬(9223372036854775807<t1.size+t2.size):=by omega
  clear hbZ hHA;refine wp_region_noPanic ?_
  refine wp_region_held_drew (S:=fun Y=>Y.cell? ⟨w.heap.size,0,none⟩=some (.int .i64 (a:Int))∧Y.cell? ⟨w.heap.size,1,none⟩=some (.int .i64 (b:Int))∧Y.cell? ⟨w.heap.size,3,none⟩=some (.int .u64 (size:Int))) (by kernel_rfl) ?_ (fun hHeld => ?_)
  · exact HCc.out _ hZd
  refine wpAnyH_take (i:=0) (oi:=({ dst:=some 11,op:=Op.fieldAddr 138 (Operand.tmp 1) 0,type:=0,pos := "ref.go:128",after:=#[],guard:=none } : Oper)) (v := ?v1) rfl (by kernel_rfl) (by kernel_rfl) (by kernel_rfl) (fun _ _ _ h=>h) (Or.inl ⟨by rfl,?y1⟩) (by assumption) ?r1
  case y1=>intro w0 hSw;(try dsimp only at hSw);go_simp <;> (try with_reducible rfl)
  try simp only[Act.put,List.setIfInBounds_toArray,List.set_cons_zero,List.set_cons_succ]
  refine wpAnyH_take (i:=1) (oi:=({ dst:=some 12,op:=Op.load 3 (Operand.tmp 11),type:=3,pos := "ref.go:128",after:=#[{ on:=0,ground:=Ground.data }],guard:=none } : Oper)) (v := ?v2) rfl (by kernel_rfl) (by kernel_rfl) (by kernel_rfl) (fun _ _ _ h=>h) (Or.inl ⟨by rfl,?y2⟩) (by assumption) ?r2
  case y2=>intro w0 hSw;(try dsimp only at hSw);go_simp <;> (try with_reducible rfl)
  try simp only[Act.put,List.setIfInBounds_toArray,List.set_cons_zero,List.set_cons_succ]
  refine wpAnyH_take (i:=2) (oi:=({ dst:=some 13,op:=Op.convert 3 5 (Operand.tmp 12),type:=5,pos := "ref.go:128",after:=#[{ on:=1,ground:=Ground.data }],guard:=none } : Oper)) (v := ?v3) rfl (by kernel_rfl) (by kernel_rfl) (by kernel_rfl) (fun _ _ _ h=>h) (Or.inl ⟨by rfl,?y3⟩) (by assumption) ?r3
  case y3=>intro w0 hSw;(try dsimp only at hSw);go_simp <;> (try with_reducible rfl)
  try simp only[Act.put,List.setIfInBounds_toArray,List.set_cons_zero,List.set_cons_succ]
  refine wpAnyH_take (i:=3) (oi:=({ dst:=some 14,op:=Op.fieldAddr 138 (Operand.tmp 1) 1,type:=0,pos := "ref.go:128",after:=#[],guard:=none } : Oper)) (v := ?v4) rfl (by kernel_rfl) (by kernel_rfl) (by kernel_rfl) (fun _ _ _ h=>h) (Or.inl ⟨by rfl,?y4⟩) (by assumption) ?r4
  case y4=>intro w0 hSw;(try dsimp only at hSw);go_simp <;> (try with_reducible rfl)
  try simp only[Act.put,List.setIfInBounds_toArray,List.set_cons_zero,List.set_cons_succ]
  refine wpAnyH_take (i:=4) (oi:=({ dst:=some 15,op:=Op.load 3 (Operand.tmp 14),type:=3,pos := "ref.go:128",after:=#[{ on:=3,ground:=Ground.data }],guard:=none } : Oper)) (v := ?v5) rfl (by kernel_rfl) (by kernel_rfl) (by kernel_rfl) (fun _ _ _ h=>h) (Or.inl ⟨by rfl,?y5⟩) (by assumption) ?r5
  case y5=>intro w0 hSw;(try dsimp only at hSw);go_simp <;> (try with_reducible rfl)
  try simp only[Act.put,List.setIfInBounds_toArray,List.set_cons_zero,List.set_cons_succ]
  refine wpAnyH_take (i:=5) (oi:=({ dst:=some 16,op:=Op.convert 3 5 (Operand.tmp 15),type:=5,pos := "ref.go:128",after:=#[{ on:=4,ground:=Ground.data }],guard:=none } : Oper)) (v := ?v6) rfl (by kernel_rfl) (by kernel_rfl) (by kernel_rfl) (fun _ _ _ h=>h) (Or.inl ⟨by rfl,?y6⟩) (by assumption) ?r6
  case y6=>intro w0 hSw;(try dsimp only at hSw);go_simp <;> (try with_reducible rfl)
  try simp only[Act.put,List.setIfInBounds_toArray,List.set_cons_zero,List.set_cons_succ]
  refine wpAnyH_take (i:=8) (oi:=({ dst:=some 19,op:=Op.fieldAddr 138 (Operand.tmp 1) 3,type:=0,pos := "ref.go:128",after:=#[],guard:=none } : Oper)) (v := ?v7) rfl (by kernel_rfl) (by kernel_rfl) (by kernel_rfl) (fun _ _ _ h=>h) (Or.inl ⟨by rfl,?y7⟩) (by assumption) ?r7
  case y7=>intro w0 hSw;(try dsimp only at hSw);go_simp <;> (try with_reducible rfl)
  try simp only[Act.put,List.setIfInBounds_toArray,List.set_cons_zero,List.set_cons_succ]
  refine wpAnyH_take (i:=9) (oi:=({ dst:=some 20,op:=Op.load 48 (Operand.tmp 19),type:=48,pos := "ref.go:128",after:=#[{ on:=8,ground:=Ground.data }],guard:=none } : Oper)) (v := ?v8) rfl (by kernel_rfl) (by kernel_rfl) (by kernel_rfl) (fun _ _ _ h=>h) (Or.inl ⟨by rfl,?y8⟩) (by assumption) ?r8
  case y8=>intro w0 hSw;(try dsimp only at hSw);go_simp <;> (try with_reducible rfl)
  try simp only[Act.put,List.setIfInBounds_toArray,List.set_cons_zero,List.set_cons_succ]
  refine wpAnyH_ready (rs:=[6,10]) (by kernel_rfl) (by simp) ?_
  refine AllReadyH.cons (o:=({ dst:=some 17,op:=Op.buildSlice 127 2 #[(0,Operand.tmp 13),(1,Operand.tmp 16)],type:=127,pos := "ref.go:128",after:=#[{ on:=2,ground:=Ground.data },{ on:=5,ground:=Ground.data }],guard:=none } : Oper)) rfl (fun K hK => ?_) ?_
  go_simp
  refine hK.out _ _ ?_ (fun hHeld => ?_)
  · exact HCc.out _ hbA
  clear hK K
  try simp only[Act.put,List.setIfInBounds_toArray,List.set_cons_zero,List.set_cons_succ]
  refine wpAnyH_ready (rs:=[7,10]) (by kernel_rfl) (by simp) ?_
  refine AllReadyH.cons (o:=({ dst:=some 18,op:=Op.convert 127 9 (Operand.tmp 17),type:=9,pos := "ref.go:128",after:=#[{ on:=6,ground:=Ground.data }],guard:=none } : Oper)) rfl (fun K hK => ?_) ?_
  go_simp
  refine hK.out _ _ ?_ (fun hHeld => ?_)
  · exact HCc.out _ hbA
  clear hK K
  try simp only[Act.put,List.setIfInBounds_toArray,List.set_cons_zero,List.set_cons_succ]
  refine wpAnyH_ready (rs:=[10]) (by kernel_rfl) (by simp) ?_
  refine AllReadyH.cons (o:=({ dst:=some 21,op:=Op.call { callee:=Callee.value (Operand.func 195),args:=#[Operand.tmp 20],argTypes:=#[48] },type:=9,pos := "ref.go:128",after:=#[{ on:=9,ground:=Ground.data }],guard:=none } : Oper)) rfl (fun K hK => ?_) ?_
  go_simp
  go_at_call 195
  with_reducible refine(HN _).mono ?_
  rintro x w5 ⟨rfl,hb5⟩;have hb5W:Below W.heap.size W w5:=Qa hbA hb5
  try dsimp only
  refine hK.out _ _ ?_ (fun hHeld => ?_)
  · exact HCc.out _ hb5W
  clear hK K
  try simp only[Act.put,List.setIfInBounds_toArray,List.set_cons_zero,List.set_cons_succ]
  refine wpAnyH_take (i:=11) (oi:=({ dst:=some 22,op:=Op.binOp BinOp.add 9 (Operand.tmp 18) (Operand.tmp 21) 9,type:=9,pos := "ref.go:128",after:=#[{ on:=7,ground:=Ground.data },{ on:=10,ground:=Ground.data }],guard:=none } : Oper)) (v := ?v9) rfl (by kernel_rfl) (by kernel_rfl) (by kernel_rfl) (fun _ _ _ h=>h) (Or.inl ⟨by rfl,?y9⟩) (by assumption) ?r9
  case y9=>intro w0 hSw;(try dsimp only at hSw);go_simp <;> (try with_reducible rfl)
  try simp only[Act.put,List.setIfInBounds_toArray,List.set_cons_zero,List.set_cons_succ]
  refine wpAnyH_take (i:=12) (oi:=({ dst:=some 4,op:=Op.assign (Operand.tmp 22),type:=9,pos := "ref.go:128",after:=#[{ on:=11,ground:=Ground.data },{ on:=10,ground:=Ground.chain },{ on:=0,ground:=Ground.phase },{ on:=1,ground:=Ground.phase },{ on:=2,ground:=Ground.phase },{ on:=3,ground:=Ground.phase },{ on:=4,ground:=Ground.phase },{ on:=5,ground:=Ground.phase },{ on:=6,ground:=Ground.phase },{ on:=7,ground:=Ground.phase },{ on:=8,ground:=Ground.phase },{ on:=9,ground:=Ground.phase },{ on:=10,ground:=Ground.phase },{ on:=11,ground:=Ground.phase }],guard:=none } : Oper)) (v := ?v10) rfl (by kernel_rfl) (by kernel_rfl) (by kernel_rfl) (fun _ _ _ h=>h) (Or.inl ⟨by rfl,?y10⟩) (by assumption) ?r10
  case y10=>intro w0 hSw;(try dsimp only at hSw);go_simp <;> (try with_reducible rfl)
  try simp only[Act.put,List.setIfInBounds_toArray,List.set_cons_zero,List.set_cons_succ]
  refine wpAnyH_done (by kernel_rfl) ?_ _
  refine NoPanic.normal ?_
  rotate_left
  exact AllReadyH.nil;refine AllReadyH.cons (o:=({ dst:=some 21,op:=Op.call { callee:=Callee.value (Operand.func 195),args:=#[Operand.tmp 20],argTypes:=#[48] },type:=9,pos := "ref.go:128",after:=#[{ on:=9,ground:=Ground.data }],guard:=none } : Oper)) rfl (fun K hK => ?_) ?_
  go_simp
  go_at_call 195
  with_reducible refine(HN _).mono ?_
  rintro x w5 ⟨rfl,hb5⟩;have hb5W:Below W.heap.size W w5:=Qa hbA hb5
  try dsimp only
  have hcv:(convert 127 9 (.slice (some ⟨Z.heap.size,0,none⟩) 2 2)).run prog w5 = .ok (.string t1) w5:=HA.out w5 hb5;refine hK.out _ _ ?_ (fun hHeld => ?_)
  · exact HCc.out _ hb5W
  clear hK K
  try simp only[Act.put,List.setIfInBounds_toArray,List.set_cons_zero,List.set_cons_succ]
  refine wpAnyH_ready (rs:=[7]) (by kernel_rfl) (by simp) ?_
  refine AllReadyH.cons (o:=({ dst:=some 18,op:=Op.convert 127 9 (Operand.tmp 17),type:=9,pos := "ref.go:128",after:=#[{ on:=6,ground:=Ground.data }],guard:=none } : Oper)) rfl (fun K hK => ?_) ?_
  go_simp
  refine hK.out _ _ ?_ (fun hHeld => ?_)
  · exact HCc.out _ hb5W
  clear hK K
  try simp only[Act.put,List.setIfInBounds_toArray,List.set_cons_zero,List.set_cons_succ]
  refine wpAnyH_take (i:=11) (oi:=({ dst:=some 22,op:=Op.binOp BinOp.add 9 (Operand.tmp 18) (Operand.tmp 21) 9,type:=9,pos := "ref.go:128",after:=#[{ on:=7,ground:=Ground.data },{ on:=10,ground:=Ground.data }],guard:=none } : Oper)) (v := ?v11) rfl (by kernel_rfl) (by kernel_rfl) (by kernel_rfl) (fun _ _ _ h=>h) (Or.inl ⟨by rfl,?y11⟩) (by assumption) ?r11
  case y11=>intro w0 hSw;(try dsimp only at hSw);go_simp <;> (try with_reducible rfl)
  try simp only[Act.put,List.setIfInBounds_toArray,List.set_cons_zero,List.set_cons_succ]
  refine wpAnyH_take (i:=12) (oi:=({ dst:=some 4,op:=Op.assign (Operand.tmp 22),type:=9,pos := "ref.go:128",after:=#[{ on:=11,ground:=Ground.data },{ on:=10,ground:=Ground.chain },{ on:=0,ground:=Ground.phase },{ on:=1,ground:=Ground.phase },{ on:=2,ground:=Ground.phase },{ on:=3,ground:=Ground.phase },{ on:=4,ground:=Ground.phase },{ on:=5,ground:=Ground.phase },{ on:=6,ground:=Ground.phase },{ on:=7,ground:=Ground.phase },{ on:=8,ground:=Ground.phase },{ on:=9,ground:=Ground.phase },{ on:=10,ground:=Ground.phase },{ on:=11,ground:=Ground.phase }],guard:=none } : Oper)) (v := ?v12) rfl (by kernel_rfl) (by kernel_rfl) (by kernel_rfl) (fun _ _ _ h=>h) (Or.inl ⟨by rfl,?y12⟩) (by assumption) ?r12
  case y12=>intro w0 hSw;(try dsimp only at hSw);go_simp <;> (try with_reducible rfl)
  try simp only[Act.put,List.setIfInBounds_toArray,List.set_cons_zero,List.set_cons_succ]
  refine wpAnyH_done (by kernel_rfl) ?_ _
  refine NoPanic.normal ?_
  rotate_left
  exact AllReadyH.nil;exact AllReadyH.nil;refine AllReadyH.cons (o:=({ dst:=some 21,op:=Op.call { callee:=Callee.value (Operand.func 195),args:=#[Operand.tmp 20],argTypes:=#[48] },type:=9,pos := "ref.go:128",after:=#[{ on:=9,ground:=Ground.data }],guard:=none } : Oper)) rfl (fun K hK => ?_) ?_
  go_simp
  go_at_call 195
  with_reducible refine(HN _).mono ?_
  rintro x w5 ⟨rfl,hb5⟩;have hb5W:Below W.heap.size W w5:=Qa hZd hb5
  try dsimp only
  have hcv:=ht w5;refine hK.out _ _ ?_ (fun hHeld => ?_)
  · exact HCc.out _ hb5W
  clear hK K
  try simp only[Act.put,List.setIfInBounds_toArray,List.set_cons_zero,List.set_cons_succ]
  refine wpAnyH_ready (rs:=[6]) (by kernel_rfl) (by simp) ?_
  refine AllReadyH.cons (o:=({ dst:=some 17,op:=Op.buildSlice 127 2 #[(0,Operand.tmp 13),(1,Operand.tmp 16)],type:=127,pos := "ref.go:128",after:=#[{ on:=2,ground:=Ground.data },{ on:=5,ground:=Ground.data }],guard:=none } : Oper)) rfl (fun K hK => ?_) ?_
  go_simp
  refine hK.out _ _ ?_ (fun hHeld => ?_)
  · exact HCc.out _ (bal hb5W _)
  clear hK K
  try simp only[Act.put,List.setIfInBounds_toArray,List.set_cons_zero,List.set_cons_succ]
  refine wpAnyH_ready (rs:=[7]) (by kernel_rfl) (by simp) ?_
  refine AllReadyH.cons (o:=({ dst:=some 18,op:=Op.convert 127 9 (Operand.tmp 17),type:=9,pos := "ref.go:128",after:=#[{ on:=6,ground:=Ground.data }],guard:=none } : Oper)) rfl (fun K hK => ?_) ?_
  go_simp
  refine hK.out _ _ ?_ (fun hHeld => ?_)
  · exact HCc.out _ (bal hb5W _)
  clear hK K
  try simp only[Act.put,List.setIfInBounds_toArray,List.set_cons_zero,List.set_cons_succ]
  refine wpAnyH_take (i:=11) (oi:=({ dst:=some 22,op:=Op.binOp BinOp.add 9 (Operand.tmp 18) (Operand.tmp 21) 9,type:=9,pos := "ref.go:128",after:=#[{ on:=7,ground:=Ground.data },{ on:=10,ground:=Ground.data }],guard:=none } : Oper)) (v := ?v13) rfl (by kernel_rfl) (by kernel_rfl) (by kernel_rfl) (fun _ _ _ h=>h) (Or.inl ⟨by rfl,?y13⟩) (by assumption) ?r13
  case y13=>intro w0 hSw;(try dsimp only at hSw);go_simp <;> (try with_reducible rfl)
  try simp only[Act.put,List.setIfInBounds_toArray,List.set_cons_zero,List.set_cons_succ]
  refine wpAnyH_take (i:=12) (oi:=({ dst:=some 4,op:=Op.assign (Operand.tmp 22),type:=9,pos := "ref.go:128",after:=#[{ on:=11,ground:=Ground.data },{ on:=10,ground:=Ground.chain },{ on:=0,ground:=Ground.phase },{ on:=1,ground:=Ground.phase },{ on:=2,ground:=Ground.phase },{ on:=3,ground:=Ground.phase },{ on:=4,ground:=Ground.phase },{ on:=5,ground:=Ground.phase },{ on:=6,ground:=Ground.phase },{ on:=7,ground:=Ground.phase },{ on:=8,ground:=Ground.phase },{ on:=9,ground:=Ground.phase },{ on:=10,ground:=Ground.phase },{ on:=11,ground:=Ground.phase }],guard:=none } : Oper)) (v := ?v14) rfl (by kernel_rfl) (by kernel_rfl) (by kernel_rfl) (fun _ _ _ h=>h) (Or.inl ⟨by rfl,?y14⟩) (by assumption) ?r14
  case y14=>intro w0 hSw;(try dsimp only at hSw);go_simp <;> (try with_reducible rfl)
  try simp only[Act.put,List.setIfInBounds_toArray,List.set_cons_zero,List.set_cons_succ]
  refine wpAnyH_done (by kernel_rfl) ?_ _
  refine NoPanic.normal ?_
  rotate_left
  exact AllReadyH.nil;exact AllReadyH.nil;exact AllReadyH.nil
  all_goals
    first
      | (obtain⟨V,hV⟩:=Ze (w5.alloc (.cells #[.int .u8 (a:Int),.int .u8 (b:Int)] 5))
         rw[hV];have hbV:Below W.heap.size W V:=by rw[<-hV];exact bal hb5W _
         clear hV)
      | (obtain⟨V,rfl⟩ : ∃V,V=w5:=⟨_,rfl⟩
         have hbV:=hb5W)
    obtain⟨k6,kU,kD,kb⟩:=HX.out V hbV;obtain⟨e0,e1,e2,e3,e4,e5⟩:=k6.cells;clear k6 kU kD kb hb5 hb5W hZd hbA hcv0 hV1 ht HA HN HCc
    rcases HCH.out.2.2.1 with hk|hk|hk
    · have d3:((a:Int) == 3)=false:=beq_eq_false_iff_ne.2 (by omega)
      have d2:((a:Int) == 2)=false:=beq_eq_false_iff_ne.2 (by omega)
      obtain⟨x0,hx0⟩:=Ze (t1++t2);have HX0:Hid (x0=⟨(pre ⟨a,b,old,size,S,D⟩).toArray⟩):=by
        show _=_
        rw[<-hx0,HT.out,HP.out,Le (by omega),Le (by omega),LS]
      rw[hx0];clear hk hx0
      go_upto_region 8 with (fail)
      have hx1:(x0.size:Int)<=70368744177664:=by
        rw[HX0.out,Yv];have h1:=HE.out;rw[Lc,Lc] at h1;omega
      have HV:=Qg hbV;clear e0 e1 e2 e3 e4 e5 d2 d3 hbV;go_wp2
      go_loopg [4,5,6] S.length (fun gk sv i _ wr => ∃(j:Nat) (x:BA),j<=S.length∧gk=S.length - j∧i = .int .i64 (j:Int)∧sv = .string x∧(x.size:Int)<=70368744177664∧Hid (x=⟨(pre ⟨a,b,old,size,S,D⟩++Qj 0 (S.take j)).toArray⟩)∧Hid (Below W.heap.size W wr))
      case atStart=>go_light;exact⟨0,x0,Ll _,rfl,rfl,rfl,hx1,(show _=_ by rw[HX0.out];simp[Qj]),HV⟩
      case round =>
        obtain⟨j,x,hj,rfl,rfl,rfl,hxs,HXj,HI⟩:=hrel;obtain⟨k6,v1,v2,hbw⟩:=HX.out wr HI.out;obtain⟨_,_,_,_,e4,e5⟩:=k6.cells;have hj0:(0:Int)<=(j:Int):=Lf _;have HBw:=Qg hbw;clear k6 hbw hx1 HX0 HV
        by_cases hlt:j<S.length
        · have hlt':(j:Int)<(S.length:Int):=by omega
          obtain rfl:=v1.ptr (by omega)
          have c1:=v1.at (j:=j) hlt;obtain⟨l1,l2,l3⟩:=Qap HCH.out.1 hlt;have hle:S.getD j 0<=1099511627776:=by have:=HCH.out.2.1;omega
          by_cases j1:j=0
          · have j2 : ¬(0:Int)<(j:Int):=by omega
            rw[Lk j1,I9] at l1;obtain⟨d,hd⟩:=Ze (S.getD j 0);rw[hd] at c1 l1 hle;have HM:=HNn.out wr d hle;have hnl:=QD (n:=d) (by omega)
            obtain⟨t3,ht3⟩:=Ze (⟨(num d).toArray⟩:BA);have hs3:(t3.size:Int)<=10:=by rw[<-ht3];simp[ByteArray.size];omega
            rw[ht3] at HM;have HXn:Hid (x++t3=⟨(pre ⟨a,b,old,size,S,D⟩++Qj 0 (S.take (j+1))).toArray⟩):=by
              show _=_
              rw[HXj.out,<-ht3,Yz,l1,Lq]
            have HXs:Hid (((x++t3).size:Int)<=70368744177664):=by
              show _<=_
              rw[HXn.out,Yv];have h1:=HE.out;have h2:=Q0 S 0 (j+1);rw[Lc,Lc] at h1;rw[Lc];omega
            clear j1 l1 l2 l3 hd hle hnl ht3 HXj v1 v2
            go_wp2_with (go_at_call 195;with_reducible refine HM.mono ?_;rintro y w9 ⟨rfl,hb9⟩)
            go_roundg (S.length - (j+1))
            case rel=>go_light;exact⟨j+1,x++t3,hlt,rfl,by go_num,rfl,HXs.out,HXn,Qa HI.out hb9⟩
            case measure=>go_light;omega
          · obtain⟨u,rfl⟩ : ∃u,j=u+1:=⟨j - 1,by omega⟩
            have j2:(0:Int)<((u+1:Nat):Int):=by omega
            have c2:=v1.at (j:=u) (by omega)
            have l2':=l2 (by omega)
            rw[Le j1,LP] at l1;rw[LP] at l2';obtain⟨p,hp⟩:=Ze (S.getD (u+1) 0);obtain⟨q,hq⟩:=Ze (S.getD u 0);rw[hp] at c1 l1 hle l2';rw[hq] at c2 l1 l2';obtain⟨d,hd⟩:=Ze (p - (q+1));rw[hd] at l1;have HM:=HNn.out wr d (by omega)
            have hnl:=QD (n:=d) (by omega)
            have ed1:IntKind.u64.wrap ((p:Int) - (q:Int))=(d:Int)+1:=by rw[IntKind.wrap_u64];omega
            have ed2:IntKind.u64.wrap ((d:Int)+1 - 1)=(d:Int):=by rw[IntKind.wrap_u64];omega
            have ed3:IntKind.u64.wrap (d:Int)=(d:Int):=by rw[IntKind.wrap_u64];omega
            have eu:((u+1:Nat):Int) - 1=(u:Int):=by omega
            have eu0:(0:Int)<=(u:Int):=Lf _;have eu1:(u:Int)<(S.length:Int):=by omega
            obtain⟨t3,ht3⟩:=Ze (⟨(num d).toArray⟩:BA);have hs3:(t3.size:Int)<=10:=by rw[<-ht3];simp[ByteArray.size];omega
            rw[ht3] at HM;have HXn:Hid (x++t3=⟨(pre ⟨a,b,old,size,S,D⟩++Qj 0 (S.take (u+1+1))).toArray⟩):=by
              show _=_
              rw[HXj.out,<-ht3,Yz,l1,Lq]
            have HXs:Hid (((x++t3).size:Int)<=70368744177664):=by
              show _<=_
              rw[HXn.out,Yv];have h1:=HE.out;have h2:=Q0 S 0 (u+1+1);rw[Lc,Lc] at h1;rw[Lc];omega
            clear j1 l1 l2 l2' l3 hd hle hnl ht3 HXj v1 v2 hp hq
            go_wp2_with (go_at_call 195;with_reducible refine HM.mono ?_;rintro y w9 ⟨rfl,hb9⟩)
            go_roundg (S.length - (u+1+1))
            case rel=>go_light;exact⟨u+1+1,x++t3,hlt,rfl,by go_num,rfl,HXs.out,HXn,Qa HI.out hb9⟩
            case measure=>go_light;omega
        · obtain hje:j=S.length:=by omega
          have hlt' : ¬(j:Int)<(S.length:Int):=by omega
          have HY0:Hid (x=⟨(pre ⟨a,b,old,size,S,D⟩++Qj 0 S).toArray⟩):=by
            have:=HXj.out;rw[hje,L9] at this;exact this
          clear HXj hje hlt v1 v2;go_wp2;clear hlt' e4 e5
          go_loopg [4,7] D.length (fun gk sv i wr2 => ∃(m:Nat) (y:BA),m<=D.length∧gk=D.length - m∧i = .int .i64 (m:Int)∧sv = .string y∧(y.size:Int)<=70368744177664∧Hid (y=⟨(pre ⟨a,b,old,size,S,D⟩++Qj 0 S++Qu (D.take m)).toArray⟩)∧Hid (Below W.heap.size W wr2))
          case atStart=>go_light;exact⟨0,x,Ll _,rfl,rfl,rfl,hxs,(show _=_ by rw[HY0.out];simp[Qu]),HI⟩
          case round =>
            obtain⟨m,y,hm,rfl,rfl,rfl,hys,HYm,HI2⟩:=hrel;obtain⟨k6,v1,v2,hbw⟩:=HX.out _ HI2.out;obtain⟨_,_,_,_,e4,e5⟩:=k6.cells;have hm0:(0:Int)<=(m:Int):=Lf _;have HB3:=Qg hbw;clear k6 hbw HY0 hxs HBw
            by_cases hlt:m<D.length
            · have hlt':(m:Int)<(D.length:Int):=by omega
              obtain rfl:=v2.ptr (by omega)
              have c1:=v2.at (k:=m) hlt;have hn:=Ja hlt;obtain⟨d,hd⟩:=Ze (D.getD m ByteArray.empty);rw[hd] at c1 hn;have HYn:Hid (y++d=⟨(pre ⟨a,b,old,size,S,D⟩++Qj 0 S++Qu (D.take (m+1))).toArray⟩):=by
                show _=_
                rw[HYm.out,Qb4,hn,OG,Qbp,Lq]
              have hyd:((y++d).size:Int)<=70368744177664:=by
                rw[HYn.out,Yv];have h1:=HE.out;have h2:=UC D (m+1);rw[Lc] at h1;rw[Lc];omega
              have HYs:=Qg hyd;have hds:(d.size:Int)<=70368744177664:=by rw[L7] at hyd;omega
              clear hyd hn hd HYm v1 v2;go_wp2
              go_roundg (D.length - (m+1))
              case rel=>go_light;exact⟨m+1,y++d,hlt,rfl,by go_num,rfl,HYs.out,HYn,HI2⟩
              case measure=>go_light;omega
            · obtain hme:m=D.length:=by omega
              have hlt' : ¬(m:Int)<(D.length:Int):=by omega
              have HYe:Hid (y=⟨(pre ⟨a,b,old,size,S,D⟩++Qj 0 S++Qu D).toArray⟩):=by
                have:=HYm.out;rw[hme,L9] at this;exact this
              clear HYm hme hlt v1 v2;go_wp2
              go_ret2
              exact⟨by rw[HYe.out,Lq];try rfl,HB3.out⟩
    · have d3:((a:Int) == 3)=false:=beq_eq_false_iff_ne.2 (by omega)
      have d2:((a:Int) == 2)=true:=beq_iff_eq.2 (by omega)
      have HM:=HNn.out V S.length HCH.out.2.2.2.2;have hnl:=QD (n:=S.length) (by have:=HCH.out;omega)
      obtain⟨t3,ht3⟩:=Ze (⟨(num S.length).toArray⟩:BA);have hs3:(t3.size:Int)<=10:=by rw[<-ht3];simp[ByteArray.size];omega
      have hs12:((t1++t2).size:Int)<=12:=by rw[L7];omega
      have HX0:Hid (t1++t2++t3=⟨(pre ⟨a,b,old,size,S,D⟩).toArray⟩):=by
        show _=_
        rw[HT.out,<-ht3,Yz,HP.out,Le (by omega),Lk (by omega)]
      rw[ht3] at HM;generalize t1++t2=t12 at *;clear hk ht3 hnl
      go_upto_region 8 with (go_at_call 195;with_reducible refine HM.mono ?_;rintro x V2 ⟨rfl,hb8⟩)
      have hbV2:=Qa hbV hb8;clear hbV hb8 HM;obtain⟨x0,hx0⟩:=Ze (t12++t3);rw[hx0] at HX0;rw[hx0];clear hx0 hs12 hs3;have hbV:=hbV2;clear hbV2;have hx1:(x0.size:Int)<=70368744177664:=by
        rw[HX0.out,Yv];have h1:=HE.out;rw[Lc,Lc] at h1;omega
      have HV:=Qg hbV;clear e0 e1 e2 e3 e4 e5 d2 d3 hbV;go_wp2
      go_loopg [4,5,6] S.length (fun gk sv i _ wr => ∃(j:Nat) (x:BA),j<=S.length∧gk=S.length - j∧i = .int .i64 (j:Int)∧sv = .string x∧(x.size:Int)<=70368744177664∧Hid (x=⟨(pre ⟨a,b,old,size,S,D⟩++Qj 0 (S.take j)).toArray⟩)∧Hid (Below W.heap.size W wr))
      case atStart=>go_light;exact⟨0,x0,Ll _,rfl,rfl,rfl,hx1,(show _=_ by rw[HX0.out];simp[Qj]),HV⟩
      case round =>
        obtain⟨j,x,hj,rfl,rfl,rfl,hxs,HXj,HI⟩:=hrel;obtain⟨k6,v1,v2,hbw⟩:=HX.out wr HI.out;obtain⟨_,_,_,_,e4,e5⟩:=k6.cells;have hj0:(0:Int)<=(j:Int):=Lf _;have HBw:=Qg hbw;clear k6 hbw hx1 HX0 HV
        by_cases hlt:j<S.length
        · have hlt':(j:Int)<(S.length:Int):=by omega
          obtain rfl:=v1.ptr (by omega)
          have c1:=v1.at (j:=j) hlt;obtain⟨l1,l2,l3⟩:=Qap HCH.out.1 hlt;have hle:S.getD j 0<=1099511627776:=by have:=HCH.out.2.1;omega
          by_cases j1:j=0
          · have j2 : ¬(0:Int)<(j:Int):=by omega
            rw[Lk j1,I9] at l1;obtain⟨d,hd⟩:=Ze (S.getD j 0);rw[hd] at c1 l1 hle;have HM:=HNn.out wr d hle;have hnl:=QD (n:=d) (by omega)
            obtain⟨t3,ht3⟩:=Ze (⟨(num d).toArray⟩:BA);have hs3:(t3.size:Int)<=10:=by rw[<-ht3];simp[ByteArray.size];omega
            rw[ht3] at HM;have HXn:Hid (x++t3=⟨(pre ⟨a,b,old,size,S,D⟩++Qj 0 (S.take (j+1))).toArray⟩):=by
              show _=_
              rw[HXj.out,<-ht3,Yz,l1,Lq]
            have HXs:Hid (((x++t3).size:Int)<=70368744177664):=by
              show _<=_
              rw[HXn.out,Yv];have h1:=HE.out;have h2:=Q0 S 0 (j+1);rw[Lc,Lc] at h1;rw[Lc];omega
            clear j1 l1 l2 l3 hd hle hnl ht3 HXj v1 v2
            go_wp2_with (go_at_call 195;with_reducible refine HM.mono ?_;rintro y w9 ⟨rfl,hb9⟩)
            go_roundg (S.length - (j+1))
            case rel=>go_light;exact⟨j+1,x++t3,hlt,rfl,by go_num,rfl,HXs.out,HXn,Qa HI.out hb9⟩
            case measure=>go_light;omega
          · obtain⟨u,rfl⟩ : ∃u,j=u+1:=⟨j - 1,by omega⟩
            have j2:(0:Int)<((u+1:Nat):Int):=by omega
            have c2:=v1.at (j:=u) (by omega)
            have l2':=l2 (by omega)
            rw[Le j1,LP] at l1;rw[LP] at l2';obtain⟨p,hp⟩:=Ze (S.getD (u+1) 0);obtain⟨q,hq⟩:=Ze (S.getD u 0);rw[hp] at c1 l1 hle l2';rw[hq] at c2 l1 l2';obtain⟨d,hd⟩:=Ze (p - (q+1));rw[hd] at l1;have HM:=HNn.out wr d (by omega)
            have hnl:=QD (n:=d) (by omega)
            have ed1:IntKind.u64.wrap ((p:Int) - (q:Int))=(d:Int)+1:=by rw[IntKind.wrap_u64];omega
            have ed2:IntKind.u64.wrap ((d:Int)+1 - 1)=(d:Int):=by rw[IntKind.wrap_u64];omega
            have ed3:IntKind.u64.wrap (d:Int)=(d:Int):=by rw[IntKind.wrap_u64];omega
            have eu:((u+1:Nat):Int) - 1=(u:Int):=by omega
            have eu0:(0:Int)<=(u:Int):=Lf _;have eu1:(u:Int)<(S.length:Int):=by omega
            obtain⟨t3,ht3⟩:=Ze (⟨(num d).toArray⟩:BA);have hs3:(t3.size:Int)<=10:=by rw[<-ht3];simp[ByteArray.size];omega
            rw[ht3] at HM;have HXn:Hid (x++t3=⟨(pre ⟨a,b,old,size,S,D⟩++Qj 0 (S.take (u+1+1))).toArray⟩):=by
              show _=_
              rw[HXj.out,<-ht3,Yz,l1,Lq]
            have HXs:Hid (((x++t3).size:Int)<=70368744177664):=by
              show _<=_
              rw[HXn.out,Yv];have h1:=HE.out;have h2:=Q0 S 0 (u+1+1);rw[Lc,Lc] at h1;rw[Lc];omega
            clear j1 l1 l2 l2' l3 hd hle hnl ht3 HXj v1 v2 hp hq
            go_wp2_with (go_at_call 195;with_reducible refine HM.mono ?_;rintro y w9 ⟨rfl,hb9⟩)
            go_roundg (S.length - (u+1+1))
            case rel=>go_light;exact⟨u+1+1,x++t3,hlt,rfl,by go_num,rfl,HXs.out,HXn,Qa HI.out hb9⟩
            case measure=>go_light;omega
        · obtain hje:j=S.length:=by omega
          have hlt' : ¬(j:Int)<(S.length:Int):=by omega
          have HY0:Hid (x=⟨(pre ⟨a,b,old,size,S,D⟩++Qj 0 S).toArray⟩):=by
            have:=HXj.out;rw[hje,L9] at this;exact this
          clear HXj hje hlt v1 v2;go_wp2;clear hlt' e4 e5
          go_loopg [4,7] D.length (fun gk sv i wr2 => ∃(m:Nat) (y:BA),m<=D.length∧gk=D.length - m∧i = .int .i64 (m:Int)∧sv = .string y∧(y.size:Int)<=70368744177664∧Hid (y=⟨(pre ⟨a,b,old,size,S,D⟩++Qj 0 S++Qu (D.take m)).toArray⟩)∧Hid (Below W.heap.size W wr2))
          case atStart=>go_light;exact⟨0,x,Ll _,rfl,rfl,rfl,hxs,(show _=_ by rw[HY0.out];simp[Qu]),HI⟩
          case round =>
            obtain⟨m,y,hm,rfl,rfl,rfl,hys,HYm,HI2⟩:=hrel;obtain⟨k6,v1,v2,hbw⟩:=HX.out _ HI2.out;obtain⟨_,_,_,_,e4,e5⟩:=k6.cells;have hm0:(0:Int)<=(m:Int):=Lf _;have HB3:=Qg hbw;clear k6 hbw HY0 hxs HBw
            by_cases hlt:m<D.length
            · have hlt':(m:Int)<(D.length:Int):=by omega
              obtain rfl:=v2.ptr (by omega)
              have c1:=v2.at (k:=m) hlt;have hn:=Ja hlt;obtain⟨d,hd⟩:=Ze (D.getD m ByteArray.empty);rw[hd] at c1 hn;have HYn:Hid (y++d=⟨(pre ⟨a,b,old,size,S,D⟩++Qj 0 S++Qu (D.take (m+1))).toArray⟩):=by
                show _=_
                rw[HYm.out,Qb4,hn,OG,Qbp,Lq]
              have hyd:((y++d).size:Int)<=70368744177664:=by
                rw[HYn.out,Yv];have h1:=HE.out;have h2:=UC D (m+1);rw[Lc] at h1;rw[Lc];omega
              have HYs:=Qg hyd;have hds:(d.size:Int)<=70368744177664:=by rw[L7] at hyd;omega
              clear hyd hn hd HYm v1 v2;go_wp2
              go_roundg (D.length - (m+1))
              case rel=>go_light;exact⟨m+1,y++d,hlt,rfl,by go_num,rfl,HYs.out,HYn,HI2⟩
              case measure=>go_light;omega
            · obtain hme:m=D.length:=by omega
              have hlt' : ¬(m:Int)<(D.length:Int):=by omega
              have HYe:Hid (y=⟨(pre ⟨a,b,old,size,S,D⟩++Qj 0 S++Qu D).toArray⟩):=by
                have:=HYm.out;rw[hme,L9] at this;exact this
              clear HYm hme hlt v1 v2;go_wp2
              go_ret2
              exact⟨by rw[HYe.out,Lq];try rfl,HB3.out⟩
    · have d3:((a:Int) == 3)=true:=beq_iff_eq.2 (by omega)
      have d2:((a:Int) == 2)=false:=beq_eq_false_iff_ne.2 (by omega)
      have HM:=HNn.out V old HCH.out.2.2.2.1;have hnl:=QD (n:=old) (by have:=HCH.out;omega)
      obtain⟨t3,ht3⟩:=Ze (⟨(num old).toArray⟩:BA);have hs3:(t3.size:Int)<=10:=by rw[<-ht3];simp[ByteArray.size];omega
      have hs12:((t1++t2).size:Int)<=12:=by rw[L7];omega
      have HX0:Hid (t1++t2++t3=⟨(pre ⟨a,b,old,size,S,D⟩).toArray⟩):=by
        show _=_
        rw[HT.out,<-ht3,Yz,HP.out,Lk (by omega)]
      rw[ht3] at HM;generalize t1++t2=t12 at *;clear hk ht3 hnl
      go_upto_region 6 with (go_at_call 195;with_reducible refine HM.mono ?_;rintro x V2 ⟨rfl,hb8⟩)
      have hbV2:=Qa hbV hb8;clear hbV hb8 HM e0 e1 e2 e3 e4 e5;obtain⟨k6,kU,kD,kb⟩:=HX.out V2 hbV2;obtain⟨e0,e1,e2,e3,e4,e5⟩:=k6.cells;clear k6 kU kD kb;obtain⟨x0,hx0⟩:=Ze (t12++t3);rw[hx0] at HX0;rw[hx0];clear hx0 hs12 hs3;have hbV:=hbV2
      go_upto_region 8 with (fail)
      have hx1:(x0.size:Int)<=70368744177664:=by
        rw[HX0.out,Yv];have h1:=HE.out;rw[Lc,Lc] at h1;omega
      have HV:=Qg hbV;clear e0 e1 e2 e3 e4 e5 d2 d3 hbV;go_wp2
      go_loopg [4,5,6] S.length (fun gk sv i _ wr => ∃(j:Nat) (x:BA),j<=S.length∧gk=S.length - j∧i = .int .i64 (j:Int)∧sv = .string x∧(x.size:Int)<=70368744177664∧Hid (x=⟨(pre ⟨a,b,old,size,S,D⟩++Qj 0 (S.take j)).toArray⟩)∧Hid (Below W.heap.size W wr))
      case atStart=>go_light;exact⟨0,x0,Ll _,rfl,rfl,rfl,hx1,(show _=_ by rw[HX0.out];simp[Qj]),HV⟩
      case round =>
        obtain⟨j,x,hj,rfl,rfl,rfl,hxs,HXj,HI⟩:=hrel;obtain⟨k6,v1,v2,hbw⟩:=HX.out wr HI.out;obtain⟨_,_,_,_,e4,e5⟩:=k6.cells;have hj0:(0:Int)<=(j:Int):=Lf _;have HBw:=Qg hbw;clear k6 hbw hx1 HX0 HV
        by_cases hlt:j<S.length
        · have hlt':(j:Int)<(S.length:Int):=by omega
          obtain rfl:=v1.ptr (by omega)
          have c1:=v1.at (j:=j) hlt;obtain⟨l1,l2,l3⟩:=Qap HCH.out.1 hlt;have hle:S.getD j 0<=1099511627776:=by have:=HCH.out.2.1;omega
          by_cases j1:j=0
          · have j2 : ¬(0:Int)<(j:Int):=by omega
            rw[Lk j1,I9] at l1;obtain⟨d,hd⟩:=Ze (S.getD j 0);rw[hd] at c1 l1 hle;have HM:=HNn.out wr d hle;have hnl:=QD (n:=d) (by omega)
            obtain⟨t3,ht3⟩:=Ze (⟨(num d).toArray⟩:BA);have hs3:(t3.size:Int)<=10:=by rw[<-ht3];simp[ByteArray.size];omega
            rw[ht3] at HM;have HXn:Hid (x++t3=⟨(pre ⟨a,b,old,size,S,D⟩++Qj 0 (S.take (j+1))).toArray⟩):=by
              show _=_
              rw[HXj.out,<-ht3,Yz,l1,Lq]
            have HXs:Hid (((x++t3).size:Int)<=70368744177664):=by
              show _<=_
              rw[HXn.out,Yv];have h1:=HE.out;have h2:=Q0 S 0 (j+1);rw[Lc,Lc] at h1;rw[Lc];omega
            clear j1 l1 l2 l3 hd hle hnl ht3 HXj v1 v2
            go_wp2_with (go_at_call 195;with_reducible refine HM.mono ?_;rintro y w9 ⟨rfl,hb9⟩)
            go_roundg (S.length - (j+1))
            case rel=>go_light;exact⟨j+1,x++t3,hlt,rfl,by go_num,rfl,HXs.out,HXn,Qa HI.out hb9⟩
            case measure=>go_light;omega
          · obtain⟨u,rfl⟩ : ∃u,j=u+1:=⟨j - 1,by omega⟩
            have j2:(0:Int)<((u+1:Nat):Int):=by omega
            have c2:=v1.at (j:=u) (by omega)
            have l2':=l2 (by omega)
            rw[Le j1,LP] at l1;rw[LP] at l2';obtain⟨p,hp⟩:=Ze (S.getD (u+1) 0);obtain⟨q,hq⟩:=Ze (S.getD u 0);rw[hp] at c1 l1 hle l2';rw[hq] at c2 l1 l2';obtain⟨d,hd⟩:=Ze (p - (q+1));rw[hd] at l1;have HM:=HNn.out wr d (by omega)
            have hnl:=QD (n:=d) (by omega)
            have ed1:IntKind.u64.wrap ((p:Int) - (q:Int))=(d:Int)+1:=by rw[IntKind.wrap_u64];omega
            have ed2:IntKind.u64.wrap ((d:Int)+1 - 1)=(d:Int):=by rw[IntKind.wrap_u64];omega
            have ed3:IntKind.u64.wrap (d:Int)=(d:Int):=by rw[IntKind.wrap_u64];omega
            have eu:((u+1:Nat):Int) - 1=(u:Int):=by omega
            have eu0:(0:Int)<=(u:Int):=Lf _;have eu1:(u:Int)<(S.length:Int):=by omega
            obtain⟨t3,ht3⟩:=Ze (⟨(num d).toArray⟩:BA);have hs3:(t3.size:Int)<=10:=by rw[<-ht3];simp[ByteArray.size];omega
            rw[ht3] at HM;have HXn:Hid (x++t3=⟨(pre ⟨a,b,old,size,S,D⟩++Qj 0 (S.take (u+1+1))).toArray⟩):=by
              show _=_
              rw[HXj.out,<-ht3,Yz,l1,Lq]
            have HXs:Hid (((x++t3).size:Int)<=70368744177664):=by
              show _<=_
              rw[HXn.out,Yv];have h1:=HE.out;have h2:=Q0 S 0 (u+1+1);rw[Lc,Lc] at h1;rw[Lc];omega
            clear j1 l1 l2 l2' l3 hd hle hnl ht3 HXj v1 v2 hp hq
            go_wp2_with (go_at_call 195;with_reducible refine HM.mono ?_;rintro y w9 ⟨rfl,hb9⟩)
            go_roundg (S.length - (u+1+1))
            case rel=>go_light;exact⟨u+1+1,x++t3,hlt,rfl,by go_num,rfl,HXs.out,HXn,Qa HI.out hb9⟩
            case measure=>go_light;omega
        · obtain hje:j=S.length:=by omega
          have hlt' : ¬(j:Int)<(S.length:Int):=by omega
          have HY0:Hid (x=⟨(pre ⟨a,b,old,size,S,D⟩++Qj 0 S).toArray⟩):=by
            have:=HXj.out;rw[hje,L9] at this;exact this
          clear HXj hje hlt v1 v2;go_wp2;clear hlt' e4 e5
          go_loopg [4,7] D.length (fun gk sv i wr2 => ∃(m:Nat) (y:BA),m<=D.length∧gk=D.length - m∧i = .int .i64 (m:Int)∧sv = .string y∧(y.size:Int)<=70368744177664∧Hid (y=⟨(pre ⟨a,b,old,size,S,D⟩++Qj 0 S++Qu (D.take m)).toArray⟩)∧Hid (Below W.heap.size W wr2))
          case atStart=>go_light;exact⟨0,x,Ll _,rfl,rfl,rfl,hxs,(show _=_ by rw[HY0.out];simp[Qu]),HI⟩
          case round =>
            obtain⟨m,y,hm,rfl,rfl,rfl,hys,HYm,HI2⟩:=hrel;obtain⟨k6,v1,v2,hbw⟩:=HX.out _ HI2.out;obtain⟨_,_,_,_,e4,e5⟩:=k6.cells;have hm0:(0:Int)<=(m:Int):=Lf _;have HB3:=Qg hbw;clear k6 hbw HY0 hxs HBw
            by_cases hlt:m<D.length
            · have hlt':(m:Int)<(D.length:Int):=by omega
              obtain rfl:=v2.ptr (by omega)
              have c1:=v2.at (k:=m) hlt;have hn:=Ja hlt;obtain⟨d,hd⟩:=Ze (D.getD m ByteArray.empty);rw[hd] at c1 hn;have HYn:Hid (y++d=⟨(pre ⟨a,b,old,size,S,D⟩++Qj 0 S++Qu (D.take (m+1))).toArray⟩):=by
                show _=_
                rw[HYm.out,Qb4,hn,OG,Qbp,Lq]
              have hyd:((y++d).size:Int)<=70368744177664:=by
                rw[HYn.out,Yv];have h1:=HE.out;have h2:=UC D (m+1);rw[Lc] at h1;rw[Lc];omega
              have HYs:=Qg hyd;have hds:(d.size:Int)<=70368744177664:=by rw[L7] at hyd;omega
              clear hyd hn hd HYm v1 v2;go_wp2
              go_roundg (D.length - (m+1))
              case rel=>go_light;exact⟨m+1,y++d,hlt,rfl,by go_num,rfl,HYs.out,HYn,HI2⟩
              case measure=>go_light;omega
            · obtain hme:m=D.length:=by omega
              have hlt' : ¬(m:Int)<(D.length:Int):=by omega
              have HYe:Hid (y=⟨(pre ⟨a,b,old,size,S,D⟩++Qj 0 S++Qu D).toArray⟩):=by
                have:=HYm.out;rw[hme,L9] at this;exact this
              clear HYm hme hlt v1 v2;go_wp2
              go_ret2
              exact⟨by rw[HYe.out,Lq];try rfl,HB3.out⟩
end
end
end Go.Proofs.YtoblgjledefdbaaGreatDoor
