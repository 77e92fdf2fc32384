/-
  No cell of these rows narrows 'for every input' (looked for: loops, veiled, ifaces, maps, wideKeys, modest, calm, conditions, laid).
  DERIVED. THE GIVEN ROWS OF THIS SEAT. 11 by the template 'for every input the law returns true; each argument reads behind the call as it read before'; 0 by the template 'total and deterministic' (their statements: YtjfogodfpmfhhaaTotals.lean).
  GIVEN WITH THE SEED: the statements are not yours to turn. If you find one false, say at which input.
  Laid BY PROGRAM, IN A SANDBOX (cutbox-rows.mjs): the forced cells as the released guide's own fill.sh prints them over the translation a3bdcdc359bb3608… (all of the seat's roots in one cut). By AI agents, Wed Nov 11 2026. No macro, syntax, notation, axiom, sorry.
-/
import Derived.Test.YtjfogodfpmfhhaaChecked
import GoSem.Claim
import GoSem.ClaimJoined
import GoSem.ClaimMapViews
import Derived.JoinedTies
import Derived.KernelRfl
namespace Go.Proofs.Ytjfogodfpmfhhaa
/- THE CELL 'sum', in the pinned program and in every row, IS THE sha256 OF THE DUMP (.gsa) THAT YtjfogodfpmfhhaaProg.lean LOADS. Nothing in Lean hashes anything: it is a label: what it is worth is what the hold of that sum in a sandbox is worth. -/
noncomputable def Try.pinned : Pinned := { name := "ytjfogodfpmfhhaa", sum := "a3bdcdc359bb3608b0e396c6c5e238b279d0ef925384c88d527f36c2fe2852ac", checked := Try.checked }
namespace Rows
def none {H : Type} : Left H := { results := [], args := [] }

/-- 'warplaw10.ParseBrackets': WHATEVER THE INPUT: true; the input reads as it did. -/
def parseBracketsSpec : ChangeSpec := { name := "parseBrackets", fn := fun _ => fun
  | [d1, d2] => { results := [.lit (.bool true)], args := [d1, d2] }
  | _ => none }
def parseBracketsRow : OpenClaim := { program := "ytjfogodfpmfhhaa", sum := "a3bdcdc359bb3608b0e396c6c5e238b279d0ef925384c88d527f36c2fe2852ac", func := "warp/warplaw10.ParseBrackets", spec := "parseBrackets", unfollowed := true, recurses := true, plainKeys := false, apart := false }
def ParseBracketsSaid : Prop := parseBracketsRow.holds Try.pinned (OpenSpec.ofChange parseBracketsSpec)

/-- ITS FALSE NEIGHBOUR: 'it returns false'. Refute it at one input. -/
def parseBracketsWrong : ChangeSpec := { name := "parseBrackets", fn := fun _ => fun
  | [d1, d2] => { results := [.lit (.bool false)], args := [d1, d2] }
  | _ => none }
def ParseBracketsWrongFalsely : Prop := parseBracketsRow.holds Try.pinned (OpenSpec.ofChange parseBracketsWrong)

/-- 'warplaw10.ParseSugar': WHATEVER THE INPUT: true; the input reads as it did. -/
def parseSugarSpec : ChangeSpec := { name := "parseSugar", fn := fun _ => fun
  | [d1, d2] => { results := [.lit (.bool true)], args := [d1, d2] }
  | _ => none }
def parseSugarRow : OpenClaim := { program := "ytjfogodfpmfhhaa", sum := "a3bdcdc359bb3608b0e396c6c5e238b279d0ef925384c88d527f36c2fe2852ac", func := "warp/warplaw10.ParseSugar", spec := "parseSugar", unfollowed := true, recurses := true, plainKeys := false, apart := false }
def ParseSugarSaid : Prop := parseSugarRow.holds Try.pinned (OpenSpec.ofChange parseSugarSpec)

/-- ITS FALSE NEIGHBOUR: 'it returns false'. Refute it at one input. -/
def parseSugarWrong : ChangeSpec := { name := "parseSugar", fn := fun _ => fun
  | [d1, d2] => { results := [.lit (.bool false)], args := [d1, d2] }
  | _ => none }
def ParseSugarWrongFalsely : Prop := parseSugarRow.holds Try.pinned (OpenSpec.ofChange parseSugarWrong)

/-- 'warplaw10.ParseJoins': WHATEVER THE INPUT: true; the input reads as it did. -/
def parseJoinsSpec : ChangeSpec := { name := "parseJoins", fn := fun _ => fun
  | [d1, d2] => { results := [.lit (.bool true)], args := [d1, d2] }
  | _ => none }
def parseJoinsRow : OpenClaim := { program := "ytjfogodfpmfhhaa", sum := "a3bdcdc359bb3608b0e396c6c5e238b279d0ef925384c88d527f36c2fe2852ac", func := "warp/warplaw10.ParseJoins", spec := "parseJoins", unfollowed := true, recurses := true, plainKeys := false, apart := false }
def ParseJoinsSaid : Prop := parseJoinsRow.holds Try.pinned (OpenSpec.ofChange parseJoinsSpec)

/-- ITS FALSE NEIGHBOUR: 'it returns false'. Refute it at one input. -/
def parseJoinsWrong : ChangeSpec := { name := "parseJoins", fn := fun _ => fun
  | [d1, d2] => { results := [.lit (.bool false)], args := [d1, d2] }
  | _ => none }
def ParseJoinsWrongFalsely : Prop := parseJoinsRow.holds Try.pinned (OpenSpec.ofChange parseJoinsWrong)

/-- 'warplaw12.DataOrder': WHATEVER THE INPUT: true; the input reads as it did. -/
def dataOrderSpec : ChangeSpec := { name := "dataOrder", fn := fun _ => fun
  | [d1, d2] => { results := [.lit (.bool true)], args := [d1, d2] }
  | _ => none }
def dataOrderRow : OpenClaim := { program := "ytjfogodfpmfhhaa", sum := "a3bdcdc359bb3608b0e396c6c5e238b279d0ef925384c88d527f36c2fe2852ac", func := "warp/warplaw12.DataOrder", spec := "dataOrder", recurses := true, plainKeys := false, apart := false }
def DataOrderSaid : Prop := dataOrderRow.holds Try.pinned (OpenSpec.ofChange dataOrderSpec)

/-- ITS FALSE NEIGHBOUR: 'it returns false'. Refute it at one input. -/
def dataOrderWrong : ChangeSpec := { name := "dataOrder", fn := fun _ => fun
  | [d1, d2] => { results := [.lit (.bool false)], args := [d1, d2] }
  | _ => none }
def DataOrderWrongFalsely : Prop := dataOrderRow.holds Try.pinned (OpenSpec.ofChange dataOrderWrong)

/-- 'warplaw12.DataCons': WHATEVER THE INPUT: true; the input reads as it did. -/
def dataConsSpec : ChangeSpec := { name := "dataCons", fn := fun _ => fun
  | [d1, d2] => { results := [.lit (.bool true)], args := [d1, d2] }
  | _ => none }
def dataConsRow : OpenClaim := { program := "ytjfogodfpmfhhaa", sum := "a3bdcdc359bb3608b0e396c6c5e238b279d0ef925384c88d527f36c2fe2852ac", func := "warp/warplaw12.DataCons", spec := "dataCons", recurses := true, plainKeys := false, apart := false }
def DataConsSaid : Prop := dataConsRow.holds Try.pinned (OpenSpec.ofChange dataConsSpec)

/-- ITS FALSE NEIGHBOUR: 'it returns false'. Refute it at one input. -/
def dataConsWrong : ChangeSpec := { name := "dataCons", fn := fun _ => fun
  | [d1, d2] => { results := [.lit (.bool false)], args := [d1, d2] }
  | _ => none }
def DataConsWrongFalsely : Prop := dataConsRow.holds Try.pinned (OpenSpec.ofChange dataConsWrong)

/-- 'warplaw13.ScopeAll': WHATEVER THE INPUT: true; the input reads as it did. -/
def scopeAllSpec : ChangeSpec := { name := "scopeAll", fn := fun _ => fun
  | [d] => { results := [.lit (.bool true)], args := [d] }
  | _ => none }
def scopeAllRow : OpenClaim := { program := "ytjfogodfpmfhhaa", sum := "a3bdcdc359bb3608b0e396c6c5e238b279d0ef925384c88d527f36c2fe2852ac", func := "warp/warplaw13.ScopeAll", spec := "scopeAll", recurses := true, plainKeys := false, apart := false }
def ScopeAllSaid : Prop := scopeAllRow.holds Try.pinned (OpenSpec.ofChange scopeAllSpec)

/-- ITS FALSE NEIGHBOUR: 'it returns false'. Refute it at one input. -/
def scopeAllWrong : ChangeSpec := { name := "scopeAll", fn := fun _ => fun
  | [d] => { results := [.lit (.bool false)], args := [d] }
  | _ => none }
def ScopeAllWrongFalsely : Prop := scopeAllRow.holds Try.pinned (OpenSpec.ofChange scopeAllWrong)

/-- 'warplaw13.ScopeMade': WHATEVER THE INPUT: true; the input reads as it did. -/
def scopeMadeSpec : ChangeSpec := { name := "scopeMade", fn := fun _ => fun
  | [d1, d2] => { results := [.lit (.bool true)], args := [d1, d2] }
  | _ => none }
def scopeMadeRow : OpenClaim := { program := "ytjfogodfpmfhhaa", sum := "a3bdcdc359bb3608b0e396c6c5e238b279d0ef925384c88d527f36c2fe2852ac", func := "warp/warplaw13.ScopeMade", spec := "scopeMade", recurses := true, plainKeys := false, apart := false }
def ScopeMadeSaid : Prop := scopeMadeRow.holds Try.pinned (OpenSpec.ofChange scopeMadeSpec)

/-- ITS FALSE NEIGHBOUR: 'it returns false'. Refute it at one input. -/
def scopeMadeWrong : ChangeSpec := { name := "scopeMade", fn := fun _ => fun
  | [d1, d2] => { results := [.lit (.bool false)], args := [d1, d2] }
  | _ => none }
def ScopeMadeWrongFalsely : Prop := scopeMadeRow.holds Try.pinned (OpenSpec.ofChange scopeMadeWrong)

/-- 'warplaw13.ScopeOrder': WHATEVER THE INPUT: true; the input reads as it did. -/
def scopeOrderSpec : ChangeSpec := { name := "scopeOrder", fn := fun _ => fun
  | [d1, d2] => { results := [.lit (.bool true)], args := [d1, d2] }
  | _ => none }
def scopeOrderRow : OpenClaim := { program := "ytjfogodfpmfhhaa", sum := "a3bdcdc359bb3608b0e396c6c5e238b279d0ef925384c88d527f36c2fe2852ac", func := "warp/warplaw13.ScopeOrder", spec := "scopeOrder", recurses := true, plainKeys := false, apart := false }
def ScopeOrderSaid : Prop := scopeOrderRow.holds Try.pinned (OpenSpec.ofChange scopeOrderSpec)

/-- ITS FALSE NEIGHBOUR: 'it returns false'. Refute it at one input. -/
def scopeOrderWrong : ChangeSpec := { name := "scopeOrder", fn := fun _ => fun
  | [d1, d2] => { results := [.lit (.bool false)], args := [d1, d2] }
  | _ => none }
def ScopeOrderWrongFalsely : Prop := scopeOrderRow.holds Try.pinned (OpenSpec.ofChange scopeOrderWrong)

/-- 'warplaw13.ScopeBound': WHATEVER THE INPUT: true; the input reads as it did. -/
def scopeBoundSpec : ChangeSpec := { name := "scopeBound", fn := fun _ => fun
  | [d] => { results := [.lit (.bool true)], args := [d] }
  | _ => none }
def scopeBoundRow : OpenClaim := { program := "ytjfogodfpmfhhaa", sum := "a3bdcdc359bb3608b0e396c6c5e238b279d0ef925384c88d527f36c2fe2852ac", func := "warp/warplaw13.ScopeBound", spec := "scopeBound", recurses := true, plainKeys := false, apart := false }
def ScopeBoundSaid : Prop := scopeBoundRow.holds Try.pinned (OpenSpec.ofChange scopeBoundSpec)

/-- ITS FALSE NEIGHBOUR: 'it returns false'. Refute it at one input. -/
def scopeBoundWrong : ChangeSpec := { name := "scopeBound", fn := fun _ => fun
  | [d] => { results := [.lit (.bool false)], args := [d] }
  | _ => none }
def ScopeBoundWrongFalsely : Prop := scopeBoundRow.holds Try.pinned (OpenSpec.ofChange scopeBoundWrong)

/-- 'warplaw13.ScopeAlts': WHATEVER THE INPUT: true; the input reads as it did. -/
def scopeAltsSpec : ChangeSpec := { name := "scopeAlts", fn := fun _ => fun
  | [d] => { results := [.lit (.bool true)], args := [d] }
  | _ => none }
def scopeAltsRow : OpenClaim := { program := "ytjfogodfpmfhhaa", sum := "a3bdcdc359bb3608b0e396c6c5e238b279d0ef925384c88d527f36c2fe2852ac", func := "warp/warplaw13.ScopeAlts", spec := "scopeAlts", recurses := true, plainKeys := false, apart := false }
def ScopeAltsSaid : Prop := scopeAltsRow.holds Try.pinned (OpenSpec.ofChange scopeAltsSpec)

/-- ITS FALSE NEIGHBOUR: 'it returns false'. Refute it at one input. -/
def scopeAltsWrong : ChangeSpec := { name := "scopeAlts", fn := fun _ => fun
  | [d] => { results := [.lit (.bool false)], args := [d] }
  | _ => none }
def ScopeAltsWrongFalsely : Prop := scopeAltsRow.holds Try.pinned (OpenSpec.ofChange scopeAltsWrong)

/-- 'warplaw13.ScopeFirst': WHATEVER THE INPUT: true; the input reads as it did. -/
def scopeFirstSpec : ChangeSpec := { name := "scopeFirst", fn := fun _ => fun
  | [d] => { results := [.lit (.bool true)], args := [d] }
  | _ => none }
def scopeFirstRow : OpenClaim := { program := "ytjfogodfpmfhhaa", sum := "a3bdcdc359bb3608b0e396c6c5e238b279d0ef925384c88d527f36c2fe2852ac", func := "warp/warplaw13.ScopeFirst", spec := "scopeFirst", recurses := true, plainKeys := false, apart := false }
def ScopeFirstSaid : Prop := scopeFirstRow.holds Try.pinned (OpenSpec.ofChange scopeFirstSpec)

/-- ITS FALSE NEIGHBOUR: 'it returns false'. Refute it at one input. -/
def scopeFirstWrong : ChangeSpec := { name := "scopeFirst", fn := fun _ => fun
  | [d] => { results := [.lit (.bool false)], args := [d] }
  | _ => none }
def ScopeFirstWrongFalsely : Prop := scopeFirstRow.holds Try.pinned (OpenSpec.ofChange scopeFirstWrong)

/- THE SECOND FORM. 'bulk': how many values and letters a reading holds, each counted each time it is reached (what is shared counts as often as it is met; a slice's spare places count too). A statement '..UptoSaid' is the law's where the arguments, and the package variables that the reading takes, are together of bulk at most 1048576: NARROWER than '..Said'. Prove '..Said' where nothing that the law and all that it calls make is longer than what came in: it says more and counts as full. Else prove '..UptoSaid'. A law counts once. -/
mutual
def uptoBulk {H : Type} : DataW H → Nat
  | .lit (.string bytes) => bytes.length + 1
  | .lit _ => 1
  | .nil => 1
  | .ptr d => uptoBulk d + 1
  | .slice elems spare => uptoBulkAll elems + uptoBulkAll spare + 1
  | .agg parts => uptoBulkAll parts + 1
  | .iface _ d => uptoBulk d + 1
  | .map entries => uptoBulkEntries entries + 1
  | .held _ => 1
def uptoBulkAll {H : Type} : List (DataW H) → Nat
  | [] => 0
  | d :: r => uptoBulk d + uptoBulkAll r
def uptoBulkEntries {H : Type} : List (Lit × DataW H) → Nat
  | [] => 0
  | x :: r => uptoBulkEntry x + uptoBulkEntries r
def uptoBulkEntry {H : Type} : Lit × DataW H → Nat
  | (.string bytes, d) => bytes.length + uptoBulk d + 1
  | (_, d) => uptoBulk d + 1
 end
def uptoSmall : (H : Type) → List (DataW H) → Bool := fun _ ds => decide (uptoBulkAll ds ≤ 1048576)
def OpenSpec.upto (s : _root_.Go.ChangeSpec) : _root_.Go.OpenSpec := { _root_.Go.OpenSpec.ofChange s with cond := some uptoSmall }

/-- 'warplaw10.ParseBrackets', WHERE WHAT IT READS IS OF BULK AT MOST 1048576: true; the input reads as it did. -/
def parseBracketsUptoRow : OpenClaim := { program := "ytjfogodfpmfhhaa", sum := "a3bdcdc359bb3608b0e396c6c5e238b279d0ef925384c88d527f36c2fe2852ac", func := "warp/warplaw10.ParseBrackets", spec := "parseBrackets", unfollowed := true, recurses := true, plainKeys := false, apart := false, narrowed := true }
def ParseBracketsUptoSaid : Prop := parseBracketsUptoRow.holds Try.pinned (OpenSpec.upto parseBracketsSpec)

/-- 'warplaw10.ParseSugar', WHERE WHAT IT READS IS OF BULK AT MOST 1048576: true; the input reads as it did. -/
def parseSugarUptoRow : OpenClaim := { program := "ytjfogodfpmfhhaa", sum := "a3bdcdc359bb3608b0e396c6c5e238b279d0ef925384c88d527f36c2fe2852ac", func := "warp/warplaw10.ParseSugar", spec := "parseSugar", unfollowed := true, recurses := true, plainKeys := false, apart := false, narrowed := true }
def ParseSugarUptoSaid : Prop := parseSugarUptoRow.holds Try.pinned (OpenSpec.upto parseSugarSpec)

/-- 'warplaw10.ParseJoins', WHERE WHAT IT READS IS OF BULK AT MOST 1048576: true; the input reads as it did. -/
def parseJoinsUptoRow : OpenClaim := { program := "ytjfogodfpmfhhaa", sum := "a3bdcdc359bb3608b0e396c6c5e238b279d0ef925384c88d527f36c2fe2852ac", func := "warp/warplaw10.ParseJoins", spec := "parseJoins", unfollowed := true, recurses := true, plainKeys := false, apart := false, narrowed := true }
def ParseJoinsUptoSaid : Prop := parseJoinsUptoRow.holds Try.pinned (OpenSpec.upto parseJoinsSpec)

/-- 'warplaw12.DataOrder', WHERE WHAT IT READS IS OF BULK AT MOST 1048576: true; the input reads as it did. -/
def dataOrderUptoRow : OpenClaim := { program := "ytjfogodfpmfhhaa", sum := "a3bdcdc359bb3608b0e396c6c5e238b279d0ef925384c88d527f36c2fe2852ac", func := "warp/warplaw12.DataOrder", spec := "dataOrder", recurses := true, plainKeys := false, apart := false, narrowed := true }
def DataOrderUptoSaid : Prop := dataOrderUptoRow.holds Try.pinned (OpenSpec.upto dataOrderSpec)

/-- 'warplaw12.DataCons', WHERE WHAT IT READS IS OF BULK AT MOST 1048576: true; the input reads as it did. -/
def dataConsUptoRow : OpenClaim := { program := "ytjfogodfpmfhhaa", sum := "a3bdcdc359bb3608b0e396c6c5e238b279d0ef925384c88d527f36c2fe2852ac", func := "warp/warplaw12.DataCons", spec := "dataCons", recurses := true, plainKeys := false, apart := false, narrowed := true }
def DataConsUptoSaid : Prop := dataConsUptoRow.holds Try.pinned (OpenSpec.upto dataConsSpec)

/-- 'warplaw13.ScopeAll', WHERE WHAT IT READS IS OF BULK AT MOST 1048576: true; the input reads as it did. -/
def scopeAllUptoRow : OpenClaim := { program := "ytjfogodfpmfhhaa", sum := "a3bdcdc359bb3608b0e396c6c5e238b279d0ef925384c88d527f36c2fe2852ac", func := "warp/warplaw13.ScopeAll", spec := "scopeAll", recurses := true, plainKeys := false, apart := false, narrowed := true }
def ScopeAllUptoSaid : Prop := scopeAllUptoRow.holds Try.pinned (OpenSpec.upto scopeAllSpec)

/-- 'warplaw13.ScopeMade', WHERE WHAT IT READS IS OF BULK AT MOST 1048576: true; the input reads as it did. -/
def scopeMadeUptoRow : OpenClaim := { program := "ytjfogodfpmfhhaa", sum := "a3bdcdc359bb3608b0e396c6c5e238b279d0ef925384c88d527f36c2fe2852ac", func := "warp/warplaw13.ScopeMade", spec := "scopeMade", recurses := true, plainKeys := false, apart := false, narrowed := true }
def ScopeMadeUptoSaid : Prop := scopeMadeUptoRow.holds Try.pinned (OpenSpec.upto scopeMadeSpec)

/-- 'warplaw13.ScopeOrder', WHERE WHAT IT READS IS OF BULK AT MOST 1048576: true; the input reads as it did. -/
def scopeOrderUptoRow : OpenClaim := { program := "ytjfogodfpmfhhaa", sum := "a3bdcdc359bb3608b0e396c6c5e238b279d0ef925384c88d527f36c2fe2852ac", func := "warp/warplaw13.ScopeOrder", spec := "scopeOrder", recurses := true, plainKeys := false, apart := false, narrowed := true }
def ScopeOrderUptoSaid : Prop := scopeOrderUptoRow.holds Try.pinned (OpenSpec.upto scopeOrderSpec)

/-- 'warplaw13.ScopeBound', WHERE WHAT IT READS IS OF BULK AT MOST 1048576: true; the input reads as it did. -/
def scopeBoundUptoRow : OpenClaim := { program := "ytjfogodfpmfhhaa", sum := "a3bdcdc359bb3608b0e396c6c5e238b279d0ef925384c88d527f36c2fe2852ac", func := "warp/warplaw13.ScopeBound", spec := "scopeBound", recurses := true, plainKeys := false, apart := false, narrowed := true }
def ScopeBoundUptoSaid : Prop := scopeBoundUptoRow.holds Try.pinned (OpenSpec.upto scopeBoundSpec)

/-- 'warplaw13.ScopeAlts', WHERE WHAT IT READS IS OF BULK AT MOST 1048576: true; the input reads as it did. -/
def scopeAltsUptoRow : OpenClaim := { program := "ytjfogodfpmfhhaa", sum := "a3bdcdc359bb3608b0e396c6c5e238b279d0ef925384c88d527f36c2fe2852ac", func := "warp/warplaw13.ScopeAlts", spec := "scopeAlts", recurses := true, plainKeys := false, apart := false, narrowed := true }
def ScopeAltsUptoSaid : Prop := scopeAltsUptoRow.holds Try.pinned (OpenSpec.upto scopeAltsSpec)

/-- 'warplaw13.ScopeFirst', WHERE WHAT IT READS IS OF BULK AT MOST 1048576: true; the input reads as it did. -/
def scopeFirstUptoRow : OpenClaim := { program := "ytjfogodfpmfhhaa", sum := "a3bdcdc359bb3608b0e396c6c5e238b279d0ef925384c88d527f36c2fe2852ac", func := "warp/warplaw13.ScopeFirst", spec := "scopeFirst", recurses := true, plainKeys := false, apart := false, narrowed := true }
def ScopeFirstUptoSaid : Prop := scopeFirstUptoRow.holds Try.pinned (OpenSpec.upto scopeFirstSpec)

end Rows
end Go.Proofs.Ytjfogodfpmfhhaa
