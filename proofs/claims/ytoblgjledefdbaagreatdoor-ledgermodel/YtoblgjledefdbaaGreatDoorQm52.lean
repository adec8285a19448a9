/- Own work. -/
import Derived.Test.YtoblgjledefdbaaGreatDoorQm51
set_option maxRecDepth 100000
set_option maxHeartbeats 8000000
namespace Go.Proofs.YtoblgjledefdbaaGreatDoor
open Go.Proofs.Tryz
namespace ledgerModel
open Go.ChangeShapes Go.WideShapes Go.ChangeAt Go.RowKit
theorem QnX:joinedFacts prog 5 Tryz.f5 (OpenSpec.ofChange Rows.ledgerModelSpec).bare Rows.ledgerModelRow=true:=by
 unfold joinedFacts
 repeat' (with_reducible refine Bool.and_eq_true_iff.2 ⟨?_,?_⟩)
 all_goals (as_aux_lemma=>kernel_rfl)
theorem Qo7(f:FuncId)(fn:Func)(hf:Tryz.pinned.checked.prog.funcNamed "massif/massiflaw20.LedgerModel" = some f)(hfn:Tryz.pinned.checked.prog.funcs[f]? = some fn) :
  false=Tryz.pinned.checked.prog.looks [] ∧ ∀(j:Nat) t,fn.params[j]? = some t->Tryz.pinned.checked.prog.wantsStandIn t=false:=by
 obtain rfl:f=5:=Ns ((show prog.funcNamed "massif/massiflaw20.LedgerModel" = some 5 by kernel_rfl).symm.trans hf) |>.symm
 obtain rfl:fn=Tryz.f5:=(Ns (func5.symm.trans hfn)).symm;refine⟨by kernel_rfl,fun j t ht => ?_⟩
 rw[Tryz.params5] at ht;have hj:j<3:=by have:=(Array.getElem?_eq_some_iff.1 ht).1;simpa using this
 match j,hj,ht with
 | 0,_,ht=>have e:some 3=some t:=ht;cases e;exact(show prog.wantsStandIn 3=false by kernel_rfl)
 | 1,_,ht=>have e:some 22=some t:=ht;cases e;exact(show prog.wantsStandIn 22=false by kernel_rfl)
 | 2,_,ht=>have e:some 56=some t:=ht;cases e;exact(show prog.wantsStandIn 56=false by kernel_rfl)
theorem said:Rows.LedgerModelSaid :=
 OpenClaim.holds_of_cond 5 Tryz.f5 rfl rfl rfl rfl rfl rfl rfl ⟨rfl,rfl,rfl,rfl,rfl⟩ rfl rfl rfl rfl rfl (by as_aux_lemma=>kernel_rfl) func5 QnX
  (NK (by as_aux_lemma=>kernel_rfl)) (by unfold Func.isWrapper;first|(rw[Lk (by decide +kernel)];kernel_rfl)|(rw[Le (by decide +kernel)];exact⟨rfl,rfl⟩))
  (fun os started H enc _ F=>by rw[OpenClaim.pre_eq_preRow];exact Qoa os started H enc F)
end ledgerModel
end Go.Proofs.YtoblgjledefdbaaGreatDoor
