/-
  No cell of these rows narrows 'for every input' (looked for: loops, veiled, ifaces, maps, wideKeys, modest, calm, conditions, laid).
  DERIVED. THE GIVEN ROWS OF THIS SEAT. 6 by the template 'for every input the law returns true; each argument reads behind the call as it read before'; 0 by the template 'total and deterministic' (their statements: YteiailpmieihnaaTotals.lean).
  GIVEN WITH THE SEED: the statements are not yours to turn. If you find one false, say at which input.
  Laid BY PROGRAM, IN A SANDBOX (cutbox-rows.mjs): the forced cells as the released guide's own fill.sh prints them over the translation 7653d71ea5fc0fca… (all of the seat's roots in one cut). By AI agents, Wed Nov 11 2026. No macro, syntax, notation, axiom, sorry.
-/
import Derived.Test.YteiailpmieihnaaChecked
import GoSem.Claim
import GoSem.ClaimJoined
import GoSem.ClaimMapViews
import Derived.JoinedTies
import Derived.KernelRfl
namespace Go.Proofs.Yteiailpmieihnaa
/- THE CELL 'sum', in the pinned program and in every row, IS THE sha256 OF THE DUMP (.gsa) THAT YteiailpmieihnaaProg.lean LOADS. Nothing in Lean hashes anything: it is a label: what it is worth is what the hold of that sum in a sandbox is worth. -/
noncomputable def Try.pinned : Pinned := { name := "yteiailpmieihnaa", sum := "7653d71ea5fc0fca80f8fd2a07f8c189fabe91a4c14e63c3b91ec6532188b478", checked := Try.checked }
namespace Rows
def none {H : Type} : Left H := { results := [], args := [] }

/-- 'warplaw10.ParseBrackets': WHATEVER THE INPUT: true; the input reads as it did. -/
def parseBracketsSpec : ChangeSpec := { name := "parseBrackets", fn := fun _ => fun
  | [d1, d2] => { results := [.lit (.bool true)], args := [d1, d2] }
  | _ => none }
def parseBracketsRow : OpenClaim := { program := "yteiailpmieihnaa", sum := "7653d71ea5fc0fca80f8fd2a07f8c189fabe91a4c14e63c3b91ec6532188b478", func := "warp/warplaw10.ParseBrackets", spec := "parseBrackets", unfollowed := true, recurses := true, plainKeys := false, apart := false }
def ParseBracketsSaid : Prop := parseBracketsRow.holds Try.pinned (OpenSpec.ofChange parseBracketsSpec)

/-- ITS FALSE NEIGHBOUR: 'it returns false'. Refute it at one input. -/
def parseBracketsWrong : ChangeSpec := { name := "parseBrackets", fn := fun _ => fun
  | [d1, d2] => { results := [.lit (.bool false)], args := [d1, d2] }
  | _ => none }
def ParseBracketsWrongFalsely : Prop := parseBracketsRow.holds Try.pinned (OpenSpec.ofChange parseBracketsWrong)

/-- 'warplaw10.ParseSugar': WHATEVER THE INPUT: true; the input reads as it did. -/
def parseSugarSpec : ChangeSpec := { name := "parseSugar", fn := fun _ => fun
  | [d1, d2] => { results := [.lit (.bool true)], args := [d1, d2] }
  | _ => none }
def parseSugarRow : OpenClaim := { program := "yteiailpmieihnaa", sum := "7653d71ea5fc0fca80f8fd2a07f8c189fabe91a4c14e63c3b91ec6532188b478", func := "warp/warplaw10.ParseSugar", spec := "parseSugar", unfollowed := true, recurses := true, plainKeys := false, apart := false }
def ParseSugarSaid : Prop := parseSugarRow.holds Try.pinned (OpenSpec.ofChange parseSugarSpec)

/-- ITS FALSE NEIGHBOUR: 'it returns false'. Refute it at one input. -/
def parseSugarWrong : ChangeSpec := { name := "parseSugar", fn := fun _ => fun
  | [d1, d2] => { results := [.lit (.bool false)], args := [d1, d2] }
  | _ => none }
def ParseSugarWrongFalsely : Prop := parseSugarRow.holds Try.pinned (OpenSpec.ofChange parseSugarWrong)

/-- 'warplaw10.ParsePlaces': WHATEVER THE INPUT: true; the input reads as it did. -/
def parsePlacesSpec : ChangeSpec := { name := "parsePlaces", fn := fun _ => fun
  | [d1, d2] => { results := [.lit (.bool true)], args := [d1, d2] }
  | _ => none }
def parsePlacesRow : OpenClaim := { program := "yteiailpmieihnaa", sum := "7653d71ea5fc0fca80f8fd2a07f8c189fabe91a4c14e63c3b91ec6532188b478", func := "warp/warplaw10.ParsePlaces", spec := "parsePlaces", unfollowed := true, recurses := true, plainKeys := false, apart := false }
def ParsePlacesSaid : Prop := parsePlacesRow.holds Try.pinned (OpenSpec.ofChange parsePlacesSpec)

/-- ITS FALSE NEIGHBOUR: 'it returns false'. Refute it at one input. -/
def parsePlacesWrong : ChangeSpec := { name := "parsePlaces", fn := fun _ => fun
  | [d1, d2] => { results := [.lit (.bool false)], args := [d1, d2] }
  | _ => none }
def ParsePlacesWrongFalsely : Prop := parsePlacesRow.holds Try.pinned (OpenSpec.ofChange parsePlacesWrong)

/-- 'warplaw10.ParseDeep': WHATEVER THE INPUT: true; the input reads as it did. -/
def parseDeepSpec : ChangeSpec := { name := "parseDeep", fn := fun _ => fun
  | [d1, d2] => { results := [.lit (.bool true)], args := [d1, d2] }
  | _ => none }
def parseDeepRow : OpenClaim := { program := "yteiailpmieihnaa", sum := "7653d71ea5fc0fca80f8fd2a07f8c189fabe91a4c14e63c3b91ec6532188b478", func := "warp/warplaw10.ParseDeep", spec := "parseDeep", unfollowed := true, recurses := true, plainKeys := false, apart := false }
def ParseDeepSaid : Prop := parseDeepRow.holds Try.pinned (OpenSpec.ofChange parseDeepSpec)

/-- ITS FALSE NEIGHBOUR: 'it returns false'. Refute it at one input. -/
def parseDeepWrong : ChangeSpec := { name := "parseDeep", fn := fun _ => fun
  | [d1, d2] => { results := [.lit (.bool false)], args := [d1, d2] }
  | _ => none }
def ParseDeepWrongFalsely : Prop := parseDeepRow.holds Try.pinned (OpenSpec.ofChange parseDeepWrong)

/-- 'warplaw10.ParseTypes': WHATEVER THE INPUT: true; the input reads as it did. -/
def parseTypesSpec : ChangeSpec := { name := "parseTypes", fn := fun _ => fun
  | [d] => { results := [.lit (.bool true)], args := [d] }
  | _ => none }
def parseTypesRow : OpenClaim := { program := "yteiailpmieihnaa", sum := "7653d71ea5fc0fca80f8fd2a07f8c189fabe91a4c14e63c3b91ec6532188b478", func := "warp/warplaw10.ParseTypes", spec := "parseTypes", unfollowed := true, recurses := true, plainKeys := false, apart := false }
def ParseTypesSaid : Prop := parseTypesRow.holds Try.pinned (OpenSpec.ofChange parseTypesSpec)

/-- ITS FALSE NEIGHBOUR: 'it returns false'. Refute it at one input. -/
def parseTypesWrong : ChangeSpec := { name := "parseTypes", fn := fun _ => fun
  | [d] => { results := [.lit (.bool false)], args := [d] }
  | _ => none }
def ParseTypesWrongFalsely : Prop := parseTypesRow.holds Try.pinned (OpenSpec.ofChange parseTypesWrong)

/-- 'warplaw10.ParseJoins': WHATEVER THE INPUT: true; the input reads as it did. -/
def parseJoinsSpec : ChangeSpec := { name := "parseJoins", fn := fun _ => fun
  | [d1, d2] => { results := [.lit (.bool true)], args := [d1, d2] }
  | _ => none }
def parseJoinsRow : OpenClaim := { program := "yteiailpmieihnaa", sum := "7653d71ea5fc0fca80f8fd2a07f8c189fabe91a4c14e63c3b91ec6532188b478", func := "warp/warplaw10.ParseJoins", spec := "parseJoins", unfollowed := true, recurses := true, plainKeys := false, apart := false }
def ParseJoinsSaid : Prop := parseJoinsRow.holds Try.pinned (OpenSpec.ofChange parseJoinsSpec)

/-- ITS FALSE NEIGHBOUR: 'it returns false'. Refute it at one input. -/
def parseJoinsWrong : ChangeSpec := { name := "parseJoins", fn := fun _ => fun
  | [d1, d2] => { results := [.lit (.bool false)], args := [d1, d2] }
  | _ => none }
def ParseJoinsWrongFalsely : Prop := parseJoinsRow.holds Try.pinned (OpenSpec.ofChange parseJoinsWrong)

/- THE SECOND FORM. 'bulk': how many values and letters a reading holds, each counted each time it is reached (what is shared counts as often as it is met; a slice's spare places count too). A statement '..UptoSaid' is the law's where the arguments, and the package variables that the reading takes, are together of bulk at most 1048576: NARROWER than '..Said'. Prove '..Said' where nothing that the law and all that it calls make is longer than what came in: it says more and counts as full. Else prove '..UptoSaid'. A law counts once. -/
mutual
def uptoBulk {H : Type} : DataW H → Nat
  | .lit (.string bytes) => bytes.length + 1
  | .lit _ => 1
  | .nil => 1
  | .ptr d => uptoBulk d + 1
  | .slice elems spare => uptoBulkAll elems + uptoBulkAll spare + 1
  | .agg parts => uptoBulkAll parts + 1
  | .iface _ d => uptoBulk d + 1
  | .map entries => uptoBulkEntries entries + 1
  | .held _ => 1
def uptoBulkAll {H : Type} : List (DataW H) → Nat
  | [] => 0
  | d :: r => uptoBulk d + uptoBulkAll r
def uptoBulkEntries {H : Type} : List (Lit × DataW H) → Nat
  | [] => 0
  | x :: r => uptoBulkEntry x + uptoBulkEntries r
def uptoBulkEntry {H : Type} : Lit × DataW H → Nat
  | (.string bytes, d) => bytes.length + uptoBulk d + 1
  | (_, d) => uptoBulk d + 1
 end
def uptoSmall : (H : Type) → List (DataW H) → Bool := fun _ ds => decide (uptoBulkAll ds ≤ 1048576)
def OpenSpec.upto (s : _root_.Go.ChangeSpec) : _root_.Go.OpenSpec := { _root_.Go.OpenSpec.ofChange s with cond := some uptoSmall }

/-- 'warplaw10.ParseBrackets', WHERE WHAT IT READS IS OF BULK AT MOST 1048576: true; the input reads as it did. -/
def parseBracketsUptoRow : OpenClaim := { program := "yteiailpmieihnaa", sum := "7653d71ea5fc0fca80f8fd2a07f8c189fabe91a4c14e63c3b91ec6532188b478", func := "warp/warplaw10.ParseBrackets", spec := "parseBrackets", unfollowed := true, recurses := true, plainKeys := false, apart := false, narrowed := true }
def ParseBracketsUptoSaid : Prop := parseBracketsUptoRow.holds Try.pinned (OpenSpec.upto parseBracketsSpec)

/-- 'warplaw10.ParseSugar', WHERE WHAT IT READS IS OF BULK AT MOST 1048576: true; the input reads as it did. -/
def parseSugarUptoRow : OpenClaim := { program := "yteiailpmieihnaa", sum := "7653d71ea5fc0fca80f8fd2a07f8c189fabe91a4c14e63c3b91ec6532188b478", func := "warp/warplaw10.ParseSugar", spec := "parseSugar", unfollowed := true, recurses := true, plainKeys := false, apart := false, narrowed := true }
def ParseSugarUptoSaid : Prop := parseSugarUptoRow.holds Try.pinned (OpenSpec.upto parseSugarSpec)

/-- 'warplaw10.ParsePlaces', WHERE WHAT IT READS IS OF BULK AT MOST 1048576: true; the input reads as it did. -/
def parsePlacesUptoRow : OpenClaim := { program := "yteiailpmieihnaa", sum := "7653d71ea5fc0fca80f8fd2a07f8c189fabe91a4c14e63c3b91ec6532188b478", func := "warp/warplaw10.ParsePlaces", spec := "parsePlaces", unfollowed := true, recurses := true, plainKeys := false, apart := false, narrowed := true }
def ParsePlacesUptoSaid : Prop := parsePlacesUptoRow.holds Try.pinned (OpenSpec.upto parsePlacesSpec)

/-- 'warplaw10.ParseDeep', WHERE WHAT IT READS IS OF BULK AT MOST 1048576: true; the input reads as it did. -/
def parseDeepUptoRow : OpenClaim := { program := "yteiailpmieihnaa", sum := "7653d71ea5fc0fca80f8fd2a07f8c189fabe91a4c14e63c3b91ec6532188b478", func := "warp/warplaw10.ParseDeep", spec := "parseDeep", unfollowed := true, recurses := true, plainKeys := false, apart := false, narrowed := true }
def ParseDeepUptoSaid : Prop := parseDeepUptoRow.holds Try.pinned (OpenSpec.upto parseDeepSpec)

/-- 'warplaw10.ParseTypes', WHERE WHAT IT READS IS OF BULK AT MOST 1048576: true; the input reads as it did. -/
def parseTypesUptoRow : OpenClaim := { program := "yteiailpmieihnaa", sum := "7653d71ea5fc0fca80f8fd2a07f8c189fabe91a4c14e63c3b91ec6532188b478", func := "warp/warplaw10.ParseTypes", spec := "parseTypes", unfollowed := true, recurses := true, plainKeys := false, apart := false, narrowed := true }
def ParseTypesUptoSaid : Prop := parseTypesUptoRow.holds Try.pinned (OpenSpec.upto parseTypesSpec)

/-- 'warplaw10.ParseJoins', WHERE WHAT IT READS IS OF BULK AT MOST 1048576: true; the input reads as it did. -/
def parseJoinsUptoRow : OpenClaim := { program := "yteiailpmieihnaa", sum := "7653d71ea5fc0fca80f8fd2a07f8c189fabe91a4c14e63c3b91ec6532188b478", func := "warp/warplaw10.ParseJoins", spec := "parseJoins", unfollowed := true, recurses := true, plainKeys := false, apart := false, narrowed := true }
def ParseJoinsUptoSaid : Prop := parseJoinsUptoRow.holds Try.pinned (OpenSpec.upto parseJoinsSpec)

end Rows
end Go.Proofs.Yteiailpmieihnaa
