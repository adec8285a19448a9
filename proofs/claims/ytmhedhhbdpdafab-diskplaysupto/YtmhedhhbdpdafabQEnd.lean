/-
  DiskPlays' walk, whole. Own work.
-/
import Derived.Test.YtmhedhhbdpdafabQMain
import Derived.Test.YtmhedhhbdpdafabQTel
namespace Go.Proofs.Ytmhedhhbdpdafab
open Go.RowKit
theorem disk_walk (w : World) (x0 x1 : Int) (hx0 : x0 ≤ 9223372036854775807) (hx1 : x1 ≤ 9223372036854775807) (fa : Option Addr) (fb fo fc : Nat) (l : List (List UInt8 × List UInt8)) (hf : RdF w fa fb fo l) (hfn : fa = none → fc = 0) (hfs : ∀ x ∈ l, x.1.length ≤ maxLen) (hfl : l.length ≤ 1048576) (hfb : byt l ≤ 1048576) (sa : Option Addr) (sb so sn sc : Nat) (lo : Nat → OpV) (hs : RdZ w sa sb so sn lo) (hsl : sn ≤ maxLen) :
    Calls Try.prog 3 #[.agg #[.int .i64 x0, .int .i64 x1], .slice fa l.length fc, .slice sa sn sc] w fun e w' => e = .returned (.bool true) ∧ Below w.heap.size w w' :=
  plays_walk_of (fun w0 w pa qa k h => by
    obtain ⟨F, G, p, r, D, V, q, s, E, U, h1, h2, h3, h4, h5, h6, h7, h8⟩ := h
    exact tells_any w h4 h6) w x0 x1 hx0 hx1 fa fb fo fc l hf hfn hfs hfl hfb sa sb so sn sc lo hs hsl
end Go.Proofs.Ytmhedhhbdpdafab
