/-
  DERIVED. GIVEN WITH THE SEED: THE CARDS: each row of YtihcdmnodpknlaaDoorRows.lean that lists a variable, with what it lists TIED to the program's text (the seventh form; the later family's looks); each row that meets fmt, with fmt's text TOLD by the authors' own Lean function (tested against real Go, not proved from fmt's source: count such statements apart). THE CARD IS WHAT COUNTS. Prove the row's statement (the work); the ties are given (YtihcdmnodpknlaaDoorTie.lean); close each card by the builder's one call (the guide's Derived/Test/ToyasCard.lean, 'card_holds'). Laid BY PROGRAM, IN A SANDBOX (cutbox-door.mjs). By AI agents, Wed Nov 11 2026. No macro, syntax, notation, axiom, sorry.
-/
import Derived.Test.YtihcdmnodpknlaaDoorRows
import GoSem.ClaimSeven
namespace Go.Proofs.YtihcdmnodpknlaaDoor
namespace Rows

/-- THE TIED CARD OF 'massiflaw08.PlainBegins'. -/
def plainBeginsCard : Claim7 := { stood := { row := plainBeginsRow, standIns := [], harness := (true, "e58d469a092d0f4814115e180ab322a45b512533a2d9cc5aefc45a645f64662e"), looks := false }, kinds := [], alts := [], laidByText := true, laidKinds := [.data], laidTests := true, laidLooks := .later }
def PlainBeginsCardSaid : Prop := Claim7.holds Tryd.pinned (.plain (OpenSpec.ofChange plainBeginsSpec)) plainBeginsCard

/-- THE TIED CARD OF 'massiflaw08.PlainSplits'. -/
def plainSplitsCard : Claim7 := { stood := { row := plainSplitsRow, standIns := [], harness := (true, "e58d469a092d0f4814115e180ab322a45b512533a2d9cc5aefc45a645f64662e"), looks := false }, kinds := [], alts := [], laidByText := true, laidKinds := [.data], laidTests := true, laidLooks := .later }
def PlainSplitsCardSaid : Prop := Claim7.holds Tryd.pinned (.plain (OpenSpec.ofChange plainSplitsSpec)) plainSplitsCard

/-- THE TIED CARD OF 'massiflaw08.PlainFresh'. -/
def plainFreshCard : Claim7 := { stood := { row := plainFreshRow, standIns := [], harness := (true, "e58d469a092d0f4814115e180ab322a45b512533a2d9cc5aefc45a645f64662e"), looks := false }, kinds := [], alts := [], laidByText := true, laidKinds := [.data, .data, .data], laidTests := true, laidLooks := .later }
def PlainFreshCardSaid : Prop := Claim7.holds Tryd.pinned (.plain (OpenSpec.ofChange plainFreshSpec)) plainFreshCard

/-- THE TIED CARD OF 'massiflaw08.PlainAsks'. -/
def plainAsksCard : Claim7 := { stood := { row := plainAsksRow, standIns := [], harness := (true, "e58d469a092d0f4814115e180ab322a45b512533a2d9cc5aefc45a645f64662e"), looks := false }, kinds := [], alts := [], laidByText := true, laidKinds := [.data, .data, .data], laidTests := true, laidLooks := .later }
def PlainAsksCardSaid : Prop := Claim7.holds Tryd.pinned (.plain (OpenSpec.ofChange plainAsksSpec)) plainAsksCard

/-- THE SECOND FORM's CARD OF 'massiflaw08.PlainBegins'. -/
def plainBeginsUptoCard : Claim7 := { stood := { row := plainBeginsUptoRow, standIns := [], harness := (true, "e58d469a092d0f4814115e180ab322a45b512533a2d9cc5aefc45a645f64662e"), looks := false }, kinds := [], alts := [], laidByText := true, laidKinds := [.data], laidTests := true, laidLooks := .later }
def PlainBeginsUptoCardSaid : Prop := Claim7.holds Tryd.pinned (.plain (OpenSpec.upto plainBeginsSpec)) plainBeginsUptoCard

/-- THE SECOND FORM's CARD OF 'massiflaw08.PlainSplits'. -/
def plainSplitsUptoCard : Claim7 := { stood := { row := plainSplitsUptoRow, standIns := [], harness := (true, "e58d469a092d0f4814115e180ab322a45b512533a2d9cc5aefc45a645f64662e"), looks := false }, kinds := [], alts := [], laidByText := true, laidKinds := [.data], laidTests := true, laidLooks := .later }
def PlainSplitsUptoCardSaid : Prop := Claim7.holds Tryd.pinned (.plain (OpenSpec.upto plainSplitsSpec)) plainSplitsUptoCard

/-- THE SECOND FORM's CARD OF 'massiflaw08.PlainFresh'. -/
def plainFreshUptoCard : Claim7 := { stood := { row := plainFreshUptoRow, standIns := [], harness := (true, "e58d469a092d0f4814115e180ab322a45b512533a2d9cc5aefc45a645f64662e"), looks := false }, kinds := [], alts := [], laidByText := true, laidKinds := [.data, .data, .data], laidTests := true, laidLooks := .later }
def PlainFreshUptoCardSaid : Prop := Claim7.holds Tryd.pinned (.plain (OpenSpec.upto plainFreshSpec)) plainFreshUptoCard

/-- THE SECOND FORM's CARD OF 'massiflaw08.PlainAsks'. -/
def plainAsksUptoCard : Claim7 := { stood := { row := plainAsksUptoRow, standIns := [], harness := (true, "e58d469a092d0f4814115e180ab322a45b512533a2d9cc5aefc45a645f64662e"), looks := false }, kinds := [], alts := [], laidByText := true, laidKinds := [.data, .data, .data], laidTests := true, laidLooks := .later }
def PlainAsksUptoCardSaid : Prop := Claim7.holds Tryd.pinned (.plain (OpenSpec.upto plainAsksSpec)) plainAsksUptoCard
end Rows
end Go.Proofs.YtihcdmnodpknlaaDoor
