/-
  No cell of these rows narrows 'for every input' (looked for: loops, veiled, ifaces, maps, wideKeys, modest, calm, conditions, laid).
  DERIVED. THE GIVEN ROWS OF THIS SEAT. 6 by the template 'for every input the law returns true; each argument reads behind the call as it read before'; 0 by the template 'total and deterministic' (their statements: YtccilgemfkdmkaaTotals.lean).
  GIVEN WITH THE SEED: the statements are not yours to turn. If you find one false, say at which input.
  Laid BY PROGRAM, IN A SANDBOX (cutbox-rows.mjs): the forced cells as the released guide's own fill.sh prints them over the translation 98aa0e52117256b2… (all of the seat's roots in one cut). By AI agents, Wed Nov 11 2026. No macro, syntax, notation, axiom, sorry.
-/
import Derived.Test.YtccilgemfkdmkaaChecked
import GoSem.Claim
import GoSem.ClaimJoined
import GoSem.ClaimMapViews
import Derived.JoinedTies
import Derived.KernelRfl
namespace Go.Proofs.Ytccilgemfkdmkaa
/- THE CELL 'sum', in the pinned program and in every row, IS THE sha256 OF THE DUMP (.gsa) THAT YtccilgemfkdmkaaProg.lean LOADS. Nothing in Lean hashes anything: it is a label: what it is worth is what the hold of that sum in a sandbox is worth. -/
noncomputable def Try.pinned : Pinned := { name := "ytccilgemfkdmkaa", sum := "98aa0e52117256b2e5c291ccd7f1bda3d7427002cd65b48afac5e09ad5cb91eb", checked := Try.checked }
namespace Rows
def none {H : Type} : Left H := { results := [], args := [] }

/-- 'warplaw10.ParseBrackets': WHATEVER THE INPUT: true; the input reads as it did. -/
def parseBracketsSpec : ChangeSpec := { name := "parseBrackets", fn := fun _ => fun
  | [d1, d2] => { results := [.lit (.bool true)], args := [d1, d2] }
  | _ => none }
def parseBracketsRow : OpenClaim := { program := "ytccilgemfkdmkaa", sum := "98aa0e52117256b2e5c291ccd7f1bda3d7427002cd65b48afac5e09ad5cb91eb", func := "warp/warplaw10.ParseBrackets", spec := "parseBrackets", unfollowed := true, recurses := true, plainKeys := false, apart := false }
def ParseBracketsSaid : Prop := parseBracketsRow.holds Try.pinned (OpenSpec.ofChange parseBracketsSpec)

/-- ITS FALSE NEIGHBOUR: 'it returns false'. Refute it at one input. -/
def parseBracketsWrong : ChangeSpec := { name := "parseBrackets", fn := fun _ => fun
  | [d1, d2] => { results := [.lit (.bool false)], args := [d1, d2] }
  | _ => none }
def ParseBracketsWrongFalsely : Prop := parseBracketsRow.holds Try.pinned (OpenSpec.ofChange parseBracketsWrong)

/-- 'warplaw10.ParseSugar': WHATEVER THE INPUT: true; the input reads as it did. -/
def parseSugarSpec : ChangeSpec := { name := "parseSugar", fn := fun _ => fun
  | [d1, d2] => { results := [.lit (.bool true)], args := [d1, d2] }
  | _ => none }
def parseSugarRow : OpenClaim := { program := "ytccilgemfkdmkaa", sum := "98aa0e52117256b2e5c291ccd7f1bda3d7427002cd65b48afac5e09ad5cb91eb", func := "warp/warplaw10.ParseSugar", spec := "parseSugar", unfollowed := true, recurses := true, plainKeys := false, apart := false }
def ParseSugarSaid : Prop := parseSugarRow.holds Try.pinned (OpenSpec.ofChange parseSugarSpec)

/-- ITS FALSE NEIGHBOUR: 'it returns false'. Refute it at one input. -/
def parseSugarWrong : ChangeSpec := { name := "parseSugar", fn := fun _ => fun
  | [d1, d2] => { results := [.lit (.bool false)], args := [d1, d2] }
  | _ => none }
def ParseSugarWrongFalsely : Prop := parseSugarRow.holds Try.pinned (OpenSpec.ofChange parseSugarWrong)

/-- 'warplaw10.ParseJoins': WHATEVER THE INPUT: true; the input reads as it did. -/
def parseJoinsSpec : ChangeSpec := { name := "parseJoins", fn := fun _ => fun
  | [d1, d2] => { results := [.lit (.bool true)], args := [d1, d2] }
  | _ => none }
def parseJoinsRow : OpenClaim := { program := "ytccilgemfkdmkaa", sum := "98aa0e52117256b2e5c291ccd7f1bda3d7427002cd65b48afac5e09ad5cb91eb", func := "warp/warplaw10.ParseJoins", spec := "parseJoins", unfollowed := true, recurses := true, plainKeys := false, apart := false }
def ParseJoinsSaid : Prop := parseJoinsRow.holds Try.pinned (OpenSpec.ofChange parseJoinsSpec)

/-- ITS FALSE NEIGHBOUR: 'it returns false'. Refute it at one input. -/
def parseJoinsWrong : ChangeSpec := { name := "parseJoins", fn := fun _ => fun
  | [d1, d2] => { results := [.lit (.bool false)], args := [d1, d2] }
  | _ => none }
def ParseJoinsWrongFalsely : Prop := parseJoinsRow.holds Try.pinned (OpenSpec.ofChange parseJoinsWrong)

/-- 'warplaw12.DataOrder': WHATEVER THE INPUT: true; the input reads as it did. -/
def dataOrderSpec : ChangeSpec := { name := "dataOrder", fn := fun _ => fun
  | [d1, d2] => { results := [.lit (.bool true)], args := [d1, d2] }
  | _ => none }
def dataOrderRow : OpenClaim := { program := "ytccilgemfkdmkaa", sum := "98aa0e52117256b2e5c291ccd7f1bda3d7427002cd65b48afac5e09ad5cb91eb", func := "warp/warplaw12.DataOrder", spec := "dataOrder", recurses := true, plainKeys := false, apart := false }
def DataOrderSaid : Prop := dataOrderRow.holds Try.pinned (OpenSpec.ofChange dataOrderSpec)

/-- ITS FALSE NEIGHBOUR: 'it returns false'. Refute it at one input. -/
def dataOrderWrong : ChangeSpec := { name := "dataOrder", fn := fun _ => fun
  | [d1, d2] => { results := [.lit (.bool false)], args := [d1, d2] }
  | _ => none }
def DataOrderWrongFalsely : Prop := dataOrderRow.holds Try.pinned (OpenSpec.ofChange dataOrderWrong)

/-- 'warplaw12.DataCons': WHATEVER THE INPUT: true; the input reads as it did. -/
def dataConsSpec : ChangeSpec := { name := "dataCons", fn := fun _ => fun
  | [d1, d2] => { results := [.lit (.bool true)], args := [d1, d2] }
  | _ => none }
def dataConsRow : OpenClaim := { program := "ytccilgemfkdmkaa", sum := "98aa0e52117256b2e5c291ccd7f1bda3d7427002cd65b48afac5e09ad5cb91eb", func := "warp/warplaw12.DataCons", spec := "dataCons", recurses := true, plainKeys := false, apart := false }
def DataConsSaid : Prop := dataConsRow.holds Try.pinned (OpenSpec.ofChange dataConsSpec)

/-- ITS FALSE NEIGHBOUR: 'it returns false'. Refute it at one input. -/
def dataConsWrong : ChangeSpec := { name := "dataCons", fn := fun _ => fun
  | [d1, d2] => { results := [.lit (.bool false)], args := [d1, d2] }
  | _ => none }
def DataConsWrongFalsely : Prop := dataConsRow.holds Try.pinned (OpenSpec.ofChange dataConsWrong)

/-- 'warplaw12.DataWrong': WHATEVER THE INPUT: true; the input reads as it did. -/
def dataWrongSpec : ChangeSpec := { name := "dataWrong", fn := fun _ => fun
  | [d] => { results := [.lit (.bool true)], args := [d] }
  | _ => none }
def dataWrongRow : OpenClaim := { program := "ytccilgemfkdmkaa", sum := "98aa0e52117256b2e5c291ccd7f1bda3d7427002cd65b48afac5e09ad5cb91eb", func := "warp/warplaw12.DataWrong", spec := "dataWrong", recurses := true, plainKeys := false, apart := false }
def DataWrongSaid : Prop := dataWrongRow.holds Try.pinned (OpenSpec.ofChange dataWrongSpec)

/-- ITS FALSE NEIGHBOUR: 'it returns false'. Refute it at one input. -/
def dataWrongWrong : ChangeSpec := { name := "dataWrong", fn := fun _ => fun
  | [d] => { results := [.lit (.bool false)], args := [d] }
  | _ => none }
def DataWrongWrongFalsely : Prop := dataWrongRow.holds Try.pinned (OpenSpec.ofChange dataWrongWrong)

/- THE SECOND FORM. 'bulk': how many values and letters a reading holds, each counted each time it is reached (what is shared counts as often as it is met; a slice's spare places count too). A statement '..UptoSaid' is the law's where the arguments, and the package variables that the reading takes, are together of bulk at most 1048576: NARROWER than '..Said'. Prove '..Said' where nothing that the law and all that it calls make is longer than what came in: it says more and counts as full. Else prove '..UptoSaid'. A law counts once. -/
mutual
def uptoBulk {H : Type} : DataW H → Nat
  | .lit (.string bytes) => bytes.length + 1
  | .lit _ => 1
  | .nil => 1
  | .ptr d => uptoBulk d + 1
  | .slice elems spare => uptoBulkAll elems + uptoBulkAll spare + 1
  | .agg parts => uptoBulkAll parts + 1
  | .iface _ d => uptoBulk d + 1
  | .map entries => uptoBulkEntries entries + 1
  | .held _ => 1
def uptoBulkAll {H : Type} : List (DataW H) → Nat
  | [] => 0
  | d :: r => uptoBulk d + uptoBulkAll r
def uptoBulkEntries {H : Type} : List (Lit × DataW H) → Nat
  | [] => 0
  | x :: r => uptoBulkEntry x + uptoBulkEntries r
def uptoBulkEntry {H : Type} : Lit × DataW H → Nat
  | (.string bytes, d) => bytes.length + uptoBulk d + 1
  | (_, d) => uptoBulk d + 1
 end
def uptoSmall : (H : Type) → List (DataW H) → Bool := fun _ ds => decide (uptoBulkAll ds ≤ 1048576)
def OpenSpec.upto (s : _root_.Go.ChangeSpec) : _root_.Go.OpenSpec := { _root_.Go.OpenSpec.ofChange s with cond := some uptoSmall }

/-- 'warplaw10.ParseBrackets', WHERE WHAT IT READS IS OF BULK AT MOST 1048576: true; the input reads as it did. -/
def parseBracketsUptoRow : OpenClaim := { program := "ytccilgemfkdmkaa", sum := "98aa0e52117256b2e5c291ccd7f1bda3d7427002cd65b48afac5e09ad5cb91eb", func := "warp/warplaw10.ParseBrackets", spec := "parseBrackets", unfollowed := true, recurses := true, plainKeys := false, apart := false, narrowed := true }
def ParseBracketsUptoSaid : Prop := parseBracketsUptoRow.holds Try.pinned (OpenSpec.upto parseBracketsSpec)

/-- 'warplaw10.ParseSugar', WHERE WHAT IT READS IS OF BULK AT MOST 1048576: true; the input reads as it did. -/
def parseSugarUptoRow : OpenClaim := { program := "ytccilgemfkdmkaa", sum := "98aa0e52117256b2e5c291ccd7f1bda3d7427002cd65b48afac5e09ad5cb91eb", func := "warp/warplaw10.ParseSugar", spec := "parseSugar", unfollowed := true, recurses := true, plainKeys := false, apart := false, narrowed := true }
def ParseSugarUptoSaid : Prop := parseSugarUptoRow.holds Try.pinned (OpenSpec.upto parseSugarSpec)

/-- 'warplaw10.ParseJoins', WHERE WHAT IT READS IS OF BULK AT MOST 1048576: true; the input reads as it did. -/
def parseJoinsUptoRow : OpenClaim := { program := "ytccilgemfkdmkaa", sum := "98aa0e52117256b2e5c291ccd7f1bda3d7427002cd65b48afac5e09ad5cb91eb", func := "warp/warplaw10.ParseJoins", spec := "parseJoins", unfollowed := true, recurses := true, plainKeys := false, apart := false, narrowed := true }
def ParseJoinsUptoSaid : Prop := parseJoinsUptoRow.holds Try.pinned (OpenSpec.upto parseJoinsSpec)

/-- 'warplaw12.DataOrder', WHERE WHAT IT READS IS OF BULK AT MOST 1048576: true; the input reads as it did. -/
def dataOrderUptoRow : OpenClaim := { program := "ytccilgemfkdmkaa", sum := "98aa0e52117256b2e5c291ccd7f1bda3d7427002cd65b48afac5e09ad5cb91eb", func := "warp/warplaw12.DataOrder", spec := "dataOrder", recurses := true, plainKeys := false, apart := false, narrowed := true }
def DataOrderUptoSaid : Prop := dataOrderUptoRow.holds Try.pinned (OpenSpec.upto dataOrderSpec)

/-- 'warplaw12.DataCons', WHERE WHAT IT READS IS OF BULK AT MOST 1048576: true; the input reads as it did. -/
def dataConsUptoRow : OpenClaim := { program := "ytccilgemfkdmkaa", sum := "98aa0e52117256b2e5c291ccd7f1bda3d7427002cd65b48afac5e09ad5cb91eb", func := "warp/warplaw12.DataCons", spec := "dataCons", recurses := true, plainKeys := false, apart := false, narrowed := true }
def DataConsUptoSaid : Prop := dataConsUptoRow.holds Try.pinned (OpenSpec.upto dataConsSpec)

/-- 'warplaw12.DataWrong', WHERE WHAT IT READS IS OF BULK AT MOST 1048576: true; the input reads as it did. -/
def dataWrongUptoRow : OpenClaim := { program := "ytccilgemfkdmkaa", sum := "98aa0e52117256b2e5c291ccd7f1bda3d7427002cd65b48afac5e09ad5cb91eb", func := "warp/warplaw12.DataWrong", spec := "dataWrong", recurses := true, plainKeys := false, apart := false, narrowed := true }
def DataWrongUptoSaid : Prop := dataWrongUptoRow.holds Try.pinned (OpenSpec.upto dataWrongSpec)

end Rows
end Go.Proofs.Ytccilgemfkdmkaa
