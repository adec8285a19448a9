/-
  NARROWER THAN 'FOR EVERY INPUT', by the rows' own cells (each row's printed sentence says how): ForestLong: laid · ForestRow: laid · ForestFresh: laid · ForestPlain: laid · ForestScript: laid.
  DERIVED. THE GIVEN ROWS OF THIS SEAT. 5 by the template 'for every input the law returns true; each argument reads behind the call as it read before'; 0 by the template 'total and deterministic' (their statements: YtabdobdopcfllaaDoorTotals.lean).
  GIVEN WITH THE SEED: the statements are not yours to turn. If you find one false, say at which input.
  Laid BY PROGRAM, IN A SANDBOX (cutbox-rows.mjs): the forced cells as the released guide's own fill.sh prints them over the translation aeede6c0344d76e0… (all of the seat's roots in one cut). By AI agents, Wed Nov 11 2026. No macro, syntax, notation, axiom, sorry.
-/
import Derived.Test.YtabdobdopcfllaaDoorChecked
import GoSem.Claim
import GoSem.ClaimJoined
import GoSem.ClaimMapViews
import Derived.JoinedTies
import Derived.KernelRfl
namespace Go.Proofs.YtabdobdopcfllaaDoor
/- THE CELL 'sum', in the pinned program and in every row, IS THE sha256 OF THE DUMP (.gsa) THAT YtabdobdopcfllaaDoorProg.lean LOADS. Nothing in Lean hashes anything: it is a label: what it is worth is what the hold of that sum in a sandbox is worth. -/
noncomputable def Tryd.pinned : Pinned := { name := "ytabdobdopcfllaadoor", sum := "aeede6c0344d76e075a21ca10ef575ca78eccddf67d720e5f551be9457451770", checked := Tryd.checked }
namespace Rows
def none {H : Type} : Left H := { results := [], args := [] }

/- WHAT THE LISTED PACKAGE-LEVEL VARIABLES READ AS WHEN THE CALL BEGINS. Each datum BY PROGRAM (the guide's laid-datum.mjs) off the statement by which the dump's own 'gosem.cut.vars' lays the variable. In a bare row this is a premise. The card (YtabdobdopcfllaaDoorCards.lean) ties it to the program's text. -/
def laid_massif_sha_rounds {H : Type} : DataW H := .agg [.lit (.int .u32 1116352408), .lit (.int .u32 1899447441), .lit (.int .u32 3049323471), .lit (.int .u32 3921009573), .lit (.int .u32 961987163), .lit (.int .u32 1508970993), .lit (.int .u32 2453635748), .lit (.int .u32 2870763221), .lit (.int .u32 3624381080), .lit (.int .u32 310598401), .lit (.int .u32 607225278), .lit (.int .u32 1426881987), .lit (.int .u32 1925078388), .lit (.int .u32 2162078206), .lit (.int .u32 2614888103), .lit (.int .u32 3248222580), .lit (.int .u32 3835390401), .lit (.int .u32 4022224774), .lit (.int .u32 264347078), .lit (.int .u32 604807628), .lit (.int .u32 770255983), .lit (.int .u32 1249150122), .lit (.int .u32 1555081692), .lit (.int .u32 1996064986), .lit (.int .u32 2554220882), .lit (.int .u32 2821834349), .lit (.int .u32 2952996808), .lit (.int .u32 3210313671), .lit (.int .u32 3336571891), .lit (.int .u32 3584528711), .lit (.int .u32 113926993), .lit (.int .u32 338241895), .lit (.int .u32 666307205), .lit (.int .u32 773529912), .lit (.int .u32 1294757372), .lit (.int .u32 1396182291), .lit (.int .u32 1695183700), .lit (.int .u32 1986661051), .lit (.int .u32 2177026350), .lit (.int .u32 2456956037), .lit (.int .u32 2730485921), .lit (.int .u32 2820302411), .lit (.int .u32 3259730800), .lit (.int .u32 3345764771), .lit (.int .u32 3516065817), .lit (.int .u32 3600352804), .lit (.int .u32 4094571909), .lit (.int .u32 275423344), .lit (.int .u32 430227734), .lit (.int .u32 506948616), .lit (.int .u32 659060556), .lit (.int .u32 883997877), .lit (.int .u32 958139571), .lit (.int .u32 1322822218), .lit (.int .u32 1537002063), .lit (.int .u32 1747873779), .lit (.int .u32 1955562222), .lit (.int .u32 2024104815), .lit (.int .u32 2227730452), .lit (.int .u32 2361852424), .lit (.int .u32 2428436474), .lit (.int .u32 2756734187), .lit (.int .u32 3204031479), .lit (.int .u32 3329325298)]
def laid_massif_massifref01_first {H : Type} : DataW H := .agg [.lit (.int .u32 1779033703), .lit (.int .u32 3144134277), .lit (.int .u32 1013904242), .lit (.int .u32 2773480762), .lit (.int .u32 1359893119), .lit (.int .u32 2600822924), .lit (.int .u32 528734635), .lit (.int .u32 1541459225)]
def laid_massif_massifref01_rounds {H : Type} : DataW H := .agg [.lit (.int .u32 1116352408), .lit (.int .u32 1899447441), .lit (.int .u32 3049323471), .lit (.int .u32 3921009573), .lit (.int .u32 961987163), .lit (.int .u32 1508970993), .lit (.int .u32 2453635748), .lit (.int .u32 2870763221), .lit (.int .u32 3624381080), .lit (.int .u32 310598401), .lit (.int .u32 607225278), .lit (.int .u32 1426881987), .lit (.int .u32 1925078388), .lit (.int .u32 2162078206), .lit (.int .u32 2614888103), .lit (.int .u32 3248222580), .lit (.int .u32 3835390401), .lit (.int .u32 4022224774), .lit (.int .u32 264347078), .lit (.int .u32 604807628), .lit (.int .u32 770255983), .lit (.int .u32 1249150122), .lit (.int .u32 1555081692), .lit (.int .u32 1996064986), .lit (.int .u32 2554220882), .lit (.int .u32 2821834349), .lit (.int .u32 2952996808), .lit (.int .u32 3210313671), .lit (.int .u32 3336571891), .lit (.int .u32 3584528711), .lit (.int .u32 113926993), .lit (.int .u32 338241895), .lit (.int .u32 666307205), .lit (.int .u32 773529912), .lit (.int .u32 1294757372), .lit (.int .u32 1396182291), .lit (.int .u32 1695183700), .lit (.int .u32 1986661051), .lit (.int .u32 2177026350), .lit (.int .u32 2456956037), .lit (.int .u32 2730485921), .lit (.int .u32 2820302411), .lit (.int .u32 3259730800), .lit (.int .u32 3345764771), .lit (.int .u32 3516065817), .lit (.int .u32 3600352804), .lit (.int .u32 4094571909), .lit (.int .u32 275423344), .lit (.int .u32 430227734), .lit (.int .u32 506948616), .lit (.int .u32 659060556), .lit (.int .u32 883997877), .lit (.int .u32 958139571), .lit (.int .u32 1322822218), .lit (.int .u32 1537002063), .lit (.int .u32 1747873779), .lit (.int .u32 1955562222), .lit (.int .u32 2024104815), .lit (.int .u32 2227730452), .lit (.int .u32 2361852424), .lit (.int .u32 2428436474), .lit (.int .u32 2756734187), .lit (.int .u32 3204031479), .lit (.int .u32 3329325298)]

/-- 'massiflaw10.ForestLong': WHATEVER THE INPUT: true; the input reads as it did. -/
def forestLongSpec : ChangeSpec := { name := "forestLong", fn := fun _ => fun
  | [d1, d2, d3] => { results := [.lit (.bool true)], args := [d1, d2, d3] }
  | _ => none }
def forestLongRow : OpenClaim := { program := "ytabdobdopcfllaadoor", sum := "aeede6c0344d76e075a21ca10ef575ca78eccddf67d720e5f551be9457451770", func := "massif/massiflaw10.ForestLong", spec := "forestLong", unfollowed := true, recurses := true, named := ["massif/sha.rounds"], plainKeys := false, apart := false, laid := [("massif/sha.rounds", laid_massif_sha_rounds)] }
def ForestLongSaid : Prop := forestLongRow.holds Tryd.pinned (OpenSpec.ofChange forestLongSpec)

/-- ITS FALSE NEIGHBOUR: 'it returns false'. Refute it at one input. -/
def forestLongWrong : ChangeSpec := { name := "forestLong", fn := fun _ => fun
  | [d1, d2, d3] => { results := [.lit (.bool false)], args := [d1, d2, d3] }
  | _ => none }
def ForestLongWrongFalsely : Prop := forestLongRow.holds Tryd.pinned (OpenSpec.ofChange forestLongWrong)

/-- 'massiflaw10.ForestRow': WHATEVER THE INPUT: true; the input reads as it did. -/
def forestRowSpec : ChangeSpec := { name := "forestRow", fn := fun _ => fun
  | [d1, d2] => { results := [.lit (.bool true)], args := [d1, d2] }
  | _ => none }
def forestRowRow : OpenClaim := { program := "ytabdobdopcfllaadoor", sum := "aeede6c0344d76e075a21ca10ef575ca78eccddf67d720e5f551be9457451770", func := "massif/massiflaw10.ForestRow", spec := "forestRow", unfollowed := true, recurses := true, named := ["massif/sha.rounds"], plainKeys := false, apart := false, laid := [("massif/sha.rounds", laid_massif_sha_rounds)] }
def ForestRowSaid : Prop := forestRowRow.holds Tryd.pinned (OpenSpec.ofChange forestRowSpec)

/-- ITS FALSE NEIGHBOUR: 'it returns false'. Refute it at one input. -/
def forestRowWrong : ChangeSpec := { name := "forestRow", fn := fun _ => fun
  | [d1, d2] => { results := [.lit (.bool false)], args := [d1, d2] }
  | _ => none }
def ForestRowWrongFalsely : Prop := forestRowRow.holds Tryd.pinned (OpenSpec.ofChange forestRowWrong)

/-- 'massiflaw10.ForestFresh': WHATEVER THE INPUT: true; the input reads as it did. -/
def forestFreshSpec : ChangeSpec := { name := "forestFresh", fn := fun _ => fun
  | [d1, d2] => { results := [.lit (.bool true)], args := [d1, d2] }
  | _ => none }
def forestFreshRow : OpenClaim := { program := "ytabdobdopcfllaadoor", sum := "aeede6c0344d76e075a21ca10ef575ca78eccddf67d720e5f551be9457451770", func := "massif/massiflaw10.ForestFresh", spec := "forestFresh", unfollowed := true, recurses := true, named := ["massif/sha.rounds"], plainKeys := false, apart := false, laid := [("massif/sha.rounds", laid_massif_sha_rounds)] }
def ForestFreshSaid : Prop := forestFreshRow.holds Tryd.pinned (OpenSpec.ofChange forestFreshSpec)

/-- ITS FALSE NEIGHBOUR: 'it returns false'. Refute it at one input. -/
def forestFreshWrong : ChangeSpec := { name := "forestFresh", fn := fun _ => fun
  | [d1, d2] => { results := [.lit (.bool false)], args := [d1, d2] }
  | _ => none }
def ForestFreshWrongFalsely : Prop := forestFreshRow.holds Tryd.pinned (OpenSpec.ofChange forestFreshWrong)

/-- 'massiflaw10.ForestPlain': WHATEVER THE INPUT: true; the input reads as it did. -/
def forestPlainSpec : ChangeSpec := { name := "forestPlain", fn := fun _ => fun
  | [d1, d2, d3] => { results := [.lit (.bool true)], args := [d1, d2, d3] }
  | _ => none }
def forestPlainRow : OpenClaim := { program := "ytabdobdopcfllaadoor", sum := "aeede6c0344d76e075a21ca10ef575ca78eccddf67d720e5f551be9457451770", func := "massif/massiflaw10.ForestPlain", spec := "forestPlain", unfollowed := true, recurses := true, named := ["massif/sha.rounds"], plainKeys := false, apart := false, laid := [("massif/sha.rounds", laid_massif_sha_rounds)] }
def ForestPlainSaid : Prop := forestPlainRow.holds Tryd.pinned (OpenSpec.ofChange forestPlainSpec)

/-- ITS FALSE NEIGHBOUR: 'it returns false'. Refute it at one input. -/
def forestPlainWrong : ChangeSpec := { name := "forestPlain", fn := fun _ => fun
  | [d1, d2, d3] => { results := [.lit (.bool false)], args := [d1, d2, d3] }
  | _ => none }
def ForestPlainWrongFalsely : Prop := forestPlainRow.holds Tryd.pinned (OpenSpec.ofChange forestPlainWrong)

/-- 'massiflaw10.ForestScript': WHATEVER THE INPUT: true; the input reads as it did. -/
def forestScriptSpec : ChangeSpec := { name := "forestScript", fn := fun _ => fun
  | [d1, d2] => { results := [.lit (.bool true)], args := [d1, d2] }
  | _ => none }
def forestScriptRow : OpenClaim := { program := "ytabdobdopcfllaadoor", sum := "aeede6c0344d76e075a21ca10ef575ca78eccddf67d720e5f551be9457451770", func := "massif/massiflaw10.ForestScript", spec := "forestScript", unfollowed := true, recurses := true, named := ["massif/sha.rounds", "massif/massifref01.first", "massif/massifref01.rounds"], plainKeys := false, apart := false, laid := [("massif/massifref01.first", laid_massif_massifref01_first), ("massif/massifref01.rounds", laid_massif_massifref01_rounds), ("massif/sha.rounds", laid_massif_sha_rounds)] }
def ForestScriptSaid : Prop := forestScriptRow.holds Tryd.pinned (OpenSpec.ofChange forestScriptSpec)

/-- ITS FALSE NEIGHBOUR: 'it returns false'. Refute it at one input. -/
def forestScriptWrong : ChangeSpec := { name := "forestScript", fn := fun _ => fun
  | [d1, d2] => { results := [.lit (.bool false)], args := [d1, d2] }
  | _ => none }
def ForestScriptWrongFalsely : Prop := forestScriptRow.holds Tryd.pinned (OpenSpec.ofChange forestScriptWrong)

/- THE SECOND FORM. 'bulk': how many values and letters a reading holds, each counted each time it is reached (what is shared counts as often as it is met; a slice's spare places count too). A statement '..UptoSaid' is the law's where the arguments, and the package variables that the reading takes, are together of bulk at most 1048576: NARROWER than '..Said'. Prove '..Said' where nothing that the law and all that it calls make is longer than what came in: it says more and counts as full. Else prove '..UptoSaid'. A law counts once. -/
mutual
def uptoBulk {H : Type} : DataW H → Nat
  | .lit (.string bytes) => bytes.length + 1
  | .lit _ => 1
  | .nil => 1
  | .ptr d => uptoBulk d + 1
  | .slice elems spare => uptoBulkAll elems + uptoBulkAll spare + 1
  | .agg parts => uptoBulkAll parts + 1
  | .iface _ d => uptoBulk d + 1
  | .map entries => uptoBulkEntries entries + 1
  | .held _ => 1
def uptoBulkAll {H : Type} : List (DataW H) → Nat
  | [] => 0
  | d :: r => uptoBulk d + uptoBulkAll r
def uptoBulkEntries {H : Type} : List (Lit × DataW H) → Nat
  | [] => 0
  | x :: r => uptoBulkEntry x + uptoBulkEntries r
def uptoBulkEntry {H : Type} : Lit × DataW H → Nat
  | (.string bytes, d) => bytes.length + uptoBulk d + 1
  | (_, d) => uptoBulk d + 1
 end
def uptoSmall : (H : Type) → List (DataW H) → Bool := fun _ ds => decide (uptoBulkAll ds ≤ 1048576)
def OpenSpec.upto (s : _root_.Go.ChangeSpec) : _root_.Go.OpenSpec := { _root_.Go.OpenSpec.ofChange s with cond := some uptoSmall }

/-- 'massiflaw10.ForestLong', WHERE WHAT IT READS IS OF BULK AT MOST 1048576: true; the input reads as it did. -/
def forestLongUptoRow : OpenClaim := { program := "ytabdobdopcfllaadoor", sum := "aeede6c0344d76e075a21ca10ef575ca78eccddf67d720e5f551be9457451770", func := "massif/massiflaw10.ForestLong", spec := "forestLong", unfollowed := true, recurses := true, named := ["massif/sha.rounds"], plainKeys := false, apart := false, laid := [("massif/sha.rounds", laid_massif_sha_rounds)], narrowed := true }
def ForestLongUptoSaid : Prop := forestLongUptoRow.holds Tryd.pinned (OpenSpec.upto forestLongSpec)

/-- 'massiflaw10.ForestRow', WHERE WHAT IT READS IS OF BULK AT MOST 1048576: true; the input reads as it did. -/
def forestRowUptoRow : OpenClaim := { program := "ytabdobdopcfllaadoor", sum := "aeede6c0344d76e075a21ca10ef575ca78eccddf67d720e5f551be9457451770", func := "massif/massiflaw10.ForestRow", spec := "forestRow", unfollowed := true, recurses := true, named := ["massif/sha.rounds"], plainKeys := false, apart := false, laid := [("massif/sha.rounds", laid_massif_sha_rounds)], narrowed := true }
def ForestRowUptoSaid : Prop := forestRowUptoRow.holds Tryd.pinned (OpenSpec.upto forestRowSpec)

/-- 'massiflaw10.ForestFresh', WHERE WHAT IT READS IS OF BULK AT MOST 1048576: true; the input reads as it did. -/
def forestFreshUptoRow : OpenClaim := { program := "ytabdobdopcfllaadoor", sum := "aeede6c0344d76e075a21ca10ef575ca78eccddf67d720e5f551be9457451770", func := "massif/massiflaw10.ForestFresh", spec := "forestFresh", unfollowed := true, recurses := true, named := ["massif/sha.rounds"], plainKeys := false, apart := false, laid := [("massif/sha.rounds", laid_massif_sha_rounds)], narrowed := true }
def ForestFreshUptoSaid : Prop := forestFreshUptoRow.holds Tryd.pinned (OpenSpec.upto forestFreshSpec)

/-- 'massiflaw10.ForestPlain', WHERE WHAT IT READS IS OF BULK AT MOST 1048576: true; the input reads as it did. -/
def forestPlainUptoRow : OpenClaim := { program := "ytabdobdopcfllaadoor", sum := "aeede6c0344d76e075a21ca10ef575ca78eccddf67d720e5f551be9457451770", func := "massif/massiflaw10.ForestPlain", spec := "forestPlain", unfollowed := true, recurses := true, named := ["massif/sha.rounds"], plainKeys := false, apart := false, laid := [("massif/sha.rounds", laid_massif_sha_rounds)], narrowed := true }
def ForestPlainUptoSaid : Prop := forestPlainUptoRow.holds Tryd.pinned (OpenSpec.upto forestPlainSpec)

/-- 'massiflaw10.ForestScript', WHERE WHAT IT READS IS OF BULK AT MOST 1048576: true; the input reads as it did. -/
def forestScriptUptoRow : OpenClaim := { program := "ytabdobdopcfllaadoor", sum := "aeede6c0344d76e075a21ca10ef575ca78eccddf67d720e5f551be9457451770", func := "massif/massiflaw10.ForestScript", spec := "forestScript", unfollowed := true, recurses := true, named := ["massif/sha.rounds", "massif/massifref01.first", "massif/massifref01.rounds"], plainKeys := false, apart := false, laid := [("massif/massifref01.first", laid_massif_massifref01_first), ("massif/massifref01.rounds", laid_massif_massifref01_rounds), ("massif/sha.rounds", laid_massif_sha_rounds)], narrowed := true }
def ForestScriptUptoSaid : Prop := forestScriptUptoRow.holds Tryd.pinned (OpenSpec.upto forestScriptSpec)

end Rows
end Go.Proofs.YtabdobdopcfllaaDoor
