/-
  opened. Own work.
-/
import Derived.Test.YtmhedhhbdpdafabQPair
import Derived.Test.YtmhedhhbdpdafabGKd
import Derived.Test.YtmhedhhbdpdafabGAf
namespace Go.Proofs.Ytmhedhhbdpdafab
open Go.RowKit
/-- What opened comes to: both or none. -/
def OdP (w : World) (n : Nat) (l : List (List UInt8 × List UInt8)) (e : Ending) (w' : World) : Prop := ∃ pa, e = .returned (.tuple #[.pointer (some ⟨pa, 0, none⟩), .bool true]) ∧ Below w.heap.size w w' ∧ w.heap.size ≤ pa ∧
  ((∃ p r, Pq w w' (fun _ => False) pa p r (openD n l) (openR n l) ∧ canL l ∧ byt l ≤ n) ∨ w'.heap[pa]? = some (.cells #[.pointer none, .pointer none] 32))
theorem pq_opened {w w1 w2 : World} {n : Nat} {l : List (List UInt8 × List UInt8)} {p r : Nat} {S T : Nat → Prop} (hr : Rsk w1 r T (openR n l)) (hT : ∀ x, T x → w.heap.size ≤ x) (u1 : Below w.heap.size w w1) (u2 : Below w1.heap.size w1 w2) (hd : Dsk w2 p S (openD n l)) (hS : ∀ x, S x → w1.heap.size ≤ x) :
    Pq w (w2.alloc (.cells #[.pointer (some ⟨p, 0, none⟩), .pointer (some ⟨r, 0, none⟩)] 32)) (fun _ => False) w2.heap.size p r (openD n l) (openR n l) := by
  have ha := bal (Below.refl w2.heap.size w2) (.cells #[.pointer (some ⟨p, 0, none⟩), .pointer (some ⟨r, 0, none⟩)] 32)
  refine ⟨S, T, new1 _ _, hd.next ha, (hr.next u2).next ha, fun x hx hq => ?_, fun q => ?_, fun q => ?_, fun x hx => .inr ?_, fun x hx => .inr (hT x hx), .inr ?_, Upo.of (bal (bnext u1 u2) _)⟩
  · have := hr.lt hq; have := hS x hx; omega
  · exact Nat.lt_irrefl _ (hd.lt q)
  · have := hr.lt q; have := u2.size; omega
  · have := hS x hx; have := u1.size; omega
  · have := u1.size; have := u2.size; omega
attribute [local go_sem ↓] exec_appR
set_option maxRecDepth 100000 in
set_option maxHeartbeats 4000000 in
theorem opened_any (w : World) (room : Int) (n : Nat) (hn : n = room.toNat) (h2 : room ≤ 9223372036854775807) (ao : Option Addr) (b off c : Nat) (l : List (List UInt8 × List UInt8)) (hr : RdF w ao b off l) (hno : ao = none → c = 0) (hs : ∀ x ∈ l, x.1.length ≤ maxLen) (hl : l.length < 1073741824) (hby : byt l ≤ 4611686018427387904) :
    Calls Try.prog 5 #[.int .i64 room, .slice ao l.length c] w (OdP w n l) := by
  have HR := hide (ropen_any w room n hn h2 ao b off c l hr hs hl hby)
  obtain ⟨m, hm⟩ : ∃ m, l.length = m := ⟨_, rfl⟩
  have HD : Hid (∀ W, Below w.heap.size w W → ∃ v4 c4 W', (Builtin.append_ #[23, 23] 23 #[.slice (some ⟨W.heap.size, 0, none⟩) 0 0, .slice ao m c]).run Try.prog (W.alloc (.cells #[] 52)) = .ok (.slice v4 m c4) W' ∧ Below W.heap.size W W' ∧ Calls Try.prog 21 #[.int .i64 room, .slice v4 m c4] W' (OpP W' n l)) := fun W hW => by
    have hb3 : Below W.heap.size W (W.alloc (.cells #[] 52)) := bal (Below.refl _ _) _
    obtain ⟨v4, w4, hrn, o4, g4⟩ := run_all_F (W.alloc (.cells #[] 52)) 23 W.heap.size _ [] (ownF_made W) ao b off c l ((hr.next hW).next hb3) hno (by simp; omega) hb3.size
    rw [List.nil_append] at o4
    have hb4 : Below W.heap.size W w4 := hb3.grown g4 hb3.size (fun k hk => by cases hk; exact Nat.le_refl _)
    obtain ⟨a4, b4, c4, hv, r4, _⟩ := ownF_rd' o4
    rw [hm] at hrn hv
    rw [hv] at hrn
    refine ⟨a4, c4, w4, hrn, hb4, ?_⟩
    rw [← hm]
    exact open_any w4 room n hn h2 a4 b4 0 c4 l r4 hs (by omega)
  rw [hm] at HR ⊢
  clear hr hno hs hl hby hn h2
  go_enter Try.func5, Try.ntmps5
  go_upto_region 2 with (go_at_call 20; (with_reducible refine HR.out.mono ?_); rintro e w1 (⟨hc, rfl, u1⟩ | ⟨hc, hb, rfl, u1⟩ | ⟨hc, hb, u1, r, T, rfl, hr, hT⟩))
  · obtain ⟨v2, c2, w2, hrn, u2, hop⟩ := HD.out w1 u1
    have hap := appR_of hrn
    have HO : Hid (Calls Try.prog 21 #[.int .i64 room, .slice v2 m c2] w2 fun e w' => e = .returned (.tuple #[.pointer none, .int .i64 173]) ∧ Below w2.heap.size w2 w') := hop.mono fun e w' q => by
      rcases q with ⟨_, h1, h2⟩ | ⟨h0, _⟩ | ⟨h0, _⟩
      · exact ⟨h1, h2⟩
      · exact absurd h0 hc
      · exact absurd h0 hc
    clear hop HD HR
    clear hrn
    go_upto_region 3 with (go_at_call 21; (with_reducible refine HO.out.mono ?_); rintro e w3 ⟨rfl, u3⟩)
    all_goals
      clear HO hap
      go_wp2
      go_ret2
      exact ⟨w3.heap.size, rfl, bal (bnext (bnext u1 u2) u3) _, by have := u1.size; have := u2.size; have := u3.size; omega, .inr (new1 _ _)⟩
  · obtain ⟨v2, c2, w2, hrn, u2, hop⟩ := HD.out w1 u1
    have hap := appR_of hrn
    have HO : Hid (Calls Try.prog 21 #[.int .i64 room, .slice v2 m c2] w2 fun e w' => e = .returned (.tuple #[.pointer none, .int .i64 172]) ∧ Below w2.heap.size w2 w') := hop.mono fun e w' q => by
      rcases q with ⟨h0, _⟩ | ⟨_, _, h1, h2⟩ | ⟨_, h0, _⟩
      · exact absurd hc h0
      · exact ⟨h1, h2⟩
      · omega
    clear hop HD HR
    clear hrn
    go_upto_region 3 with (go_at_call 21; (with_reducible refine HO.out.mono ?_); rintro e w3 ⟨rfl, u3⟩)
    all_goals
      clear HO hap
      go_wp2
      go_ret2
      exact ⟨w3.heap.size, rfl, bal (bnext (bnext u1 u2) u3) _, by have := u1.size; have := u2.size; have := u3.size; omega, .inr (new1 _ _)⟩
  · obtain ⟨v2, c2, w2, hrn, u2, hop⟩ := HD.out w1 u1
    have hap := appR_of hrn
    have HO : Hid (Calls Try.prog 21 #[.int .i64 room, .slice v2 m c2] w2 fun e w' => ∃ p S, e = .returned (.tuple #[.pointer (some ⟨p, 0, none⟩), .int .i64 0]) ∧ Dsk w' p S (openD n l) ∧ (∀ x, S x → w2.heap.size ≤ x) ∧ Below w2.heap.size w2 w') := hop.mono fun e w' q => by
      rcases q with ⟨h0, _⟩ | ⟨_, h0, _⟩ | ⟨_, _, h2, p, S, h1, h3, h4⟩
      · exact absurd hc h0
      · omega
      · exact ⟨p, S, h1, h3, h4, h2⟩
    clear hop HD HR
    clear hrn
    go_upto_region 3 with (go_at_call 21; (with_reducible refine HO.out.mono ?_); rintro e w3 ⟨p, S, rfl, hd, hS, u3⟩)
    all_goals
      have HZ := hide (pq_opened hr hT u1 (bnext u2 u3) hd (fun x hx => Nat.le_trans u2.size (hS x hx)))
      clear HO hap hr hd
      go_wp2
      go_ret2
      exact ⟨w3.heap.size, rfl, bal (bnext (bnext u1 u2) u3) _, by have := u1.size; have := u2.size; have := u3.size; omega, .inl ⟨p, r, HZ.out, hc, hb⟩⟩
end Go.Proofs.Ytmhedhhbdpdafab
