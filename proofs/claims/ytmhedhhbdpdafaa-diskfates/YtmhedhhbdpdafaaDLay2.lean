/-
  Lay, of a disk somewhere. Own work.
-/
import Derived.Test.YtmhedhhbdpdafaaDLay
namespace Go.Proofs.Ytmhedhhbdpdafaa
open Go.RowKit
theorem Dsk.lay {w : World} {p : Nat} {S : Nat → Prop} {D : DV} (h : Dsk w p S D) (a k : Int) (ha : a ≤ 9223372036854775807) (ao : Option Addr) (b o c : Nat) (ks : List Bool) (hk : RdL w ao b o ks) (hkl : ks.length ≤ 140737488355328) (hne : 0 < ks.length → ¬ S b) :
    Calls Try.prog 25 #[.pointer (some ⟨p, 0, none⟩), .agg #[.int .i64 a, .int .i64 k, .slice ao ks.length c]] w fun e w' => e = .returned (.tuple #[]) ∧ Mvd w w' p S (layD D a k ks) := by
  obtain ⟨m, R, ka, kb, ko, kc, h1, h2⟩ := h
  refine (lay_any w h1 a k ha ao b o c ks hk hkl (fun h0 e => hne h0 ((h2 b).1 (.inl e)))).mono fun e w' z => ⟨z.1, ?_⟩
  obtain ⟨ka', kb', ko', kc', q1, q2, q3⟩ := z.2
  exact ⟨Foot p m R kb' (layD D a k ks), ⟨m, R, ka', kb', ko', kc', q1, fun _ => Iff.rfl⟩, fun x hx => (q2 x hx).imp (h2 x).1 id, q3.mono (fun x _ q => (h2 x).1 (.inl q))⟩
end Go.Proofs.Ytmhedhhbdpdafaa
