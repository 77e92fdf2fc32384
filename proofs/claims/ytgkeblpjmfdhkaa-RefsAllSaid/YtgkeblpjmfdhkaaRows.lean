/-
  No cell of these rows narrows 'for every input' (looked for: loops, veiled, ifaces, maps, wideKeys, modest, calm, conditions, laid).
  DERIVED. THE GIVEN ROWS OF THIS SEAT. 11 by the template 'for every input the law returns true; each argument reads behind the call as it read before'; 0 by the template 'total and deterministic' (their statements: YtgkeblpjmfdhkaaTotals.lean).
  GIVEN WITH THE SEED: the statements are not yours to turn. If you find one false, say at which input.
  Laid BY PROGRAM, IN A SANDBOX (cutbox-rows.mjs): the forced cells as the released guide's own fill.sh prints them over the translation c1d619c8af1c5338… (all of the seat's roots in one cut). By AI agents, Wed Nov 11 2026. No macro, syntax, notation, axiom, sorry.
-/
import Derived.Test.YtgkeblpjmfdhkaaChecked
import GoSem.Claim
import GoSem.ClaimJoined
import GoSem.ClaimMapViews
import Derived.JoinedTies
import Derived.KernelRfl
namespace Go.Proofs.Ytgkeblpjmfdhkaa
/- THE CELL 'sum', in the pinned program and in every row, IS THE sha256 OF THE DUMP (.gsa) THAT YtgkeblpjmfdhkaaProg.lean LOADS. Nothing in Lean hashes anything: it is a label: what it is worth is what the hold of that sum in a sandbox is worth. -/
noncomputable def Try.pinned : Pinned := { name := "ytgkeblpjmfdhkaa", sum := "c1d619c8af1c53385be736e79afa1d176fb27318f18701a8a471910157139370", checked := Try.checked }
namespace Rows
def none {H : Type} : Left H := { results := [], args := [] }

/-- 'warplaw10.ParseBrackets': WHATEVER THE INPUT: true; the input reads as it did. -/
def parseBracketsSpec : ChangeSpec := { name := "parseBrackets", fn := fun _ => fun
  | [d1, d2] => { results := [.lit (.bool true)], args := [d1, d2] }
  | _ => none }
def parseBracketsRow : OpenClaim := { program := "ytgkeblpjmfdhkaa", sum := "c1d619c8af1c53385be736e79afa1d176fb27318f18701a8a471910157139370", func := "warp/warplaw10.ParseBrackets", spec := "parseBrackets", unfollowed := true, recurses := true, plainKeys := false, apart := false }
def ParseBracketsSaid : Prop := parseBracketsRow.holds Try.pinned (OpenSpec.ofChange parseBracketsSpec)

/-- ITS FALSE NEIGHBOUR: 'it returns false'. Refute it at one input. -/
def parseBracketsWrong : ChangeSpec := { name := "parseBrackets", fn := fun _ => fun
  | [d1, d2] => { results := [.lit (.bool false)], args := [d1, d2] }
  | _ => none }
def ParseBracketsWrongFalsely : Prop := parseBracketsRow.holds Try.pinned (OpenSpec.ofChange parseBracketsWrong)

/-- 'warplaw10.ParseSugar': WHATEVER THE INPUT: true; the input reads as it did. -/
def parseSugarSpec : ChangeSpec := { name := "parseSugar", fn := fun _ => fun
  | [d1, d2] => { results := [.lit (.bool true)], args := [d1, d2] }
  | _ => none }
def parseSugarRow : OpenClaim := { program := "ytgkeblpjmfdhkaa", sum := "c1d619c8af1c53385be736e79afa1d176fb27318f18701a8a471910157139370", func := "warp/warplaw10.ParseSugar", spec := "parseSugar", unfollowed := true, recurses := true, plainKeys := false, apart := false }
def ParseSugarSaid : Prop := parseSugarRow.holds Try.pinned (OpenSpec.ofChange parseSugarSpec)

/-- ITS FALSE NEIGHBOUR: 'it returns false'. Refute it at one input. -/
def parseSugarWrong : ChangeSpec := { name := "parseSugar", fn := fun _ => fun
  | [d1, d2] => { results := [.lit (.bool false)], args := [d1, d2] }
  | _ => none }
def ParseSugarWrongFalsely : Prop := parseSugarRow.holds Try.pinned (OpenSpec.ofChange parseSugarWrong)

/-- 'warplaw10.ParseJoins': WHATEVER THE INPUT: true; the input reads as it did. -/
def parseJoinsSpec : ChangeSpec := { name := "parseJoins", fn := fun _ => fun
  | [d1, d2] => { results := [.lit (.bool true)], args := [d1, d2] }
  | _ => none }
def parseJoinsRow : OpenClaim := { program := "ytgkeblpjmfdhkaa", sum := "c1d619c8af1c53385be736e79afa1d176fb27318f18701a8a471910157139370", func := "warp/warplaw10.ParseJoins", spec := "parseJoins", unfollowed := true, recurses := true, plainKeys := false, apart := false }
def ParseJoinsSaid : Prop := parseJoinsRow.holds Try.pinned (OpenSpec.ofChange parseJoinsSpec)

/-- ITS FALSE NEIGHBOUR: 'it returns false'. Refute it at one input. -/
def parseJoinsWrong : ChangeSpec := { name := "parseJoins", fn := fun _ => fun
  | [d1, d2] => { results := [.lit (.bool false)], args := [d1, d2] }
  | _ => none }
def ParseJoinsWrongFalsely : Prop := parseJoinsRow.holds Try.pinned (OpenSpec.ofChange parseJoinsWrong)

/-- 'warplaw12.DataOrder': WHATEVER THE INPUT: true; the input reads as it did. -/
def dataOrderSpec : ChangeSpec := { name := "dataOrder", fn := fun _ => fun
  | [d1, d2] => { results := [.lit (.bool true)], args := [d1, d2] }
  | _ => none }
def dataOrderRow : OpenClaim := { program := "ytgkeblpjmfdhkaa", sum := "c1d619c8af1c53385be736e79afa1d176fb27318f18701a8a471910157139370", func := "warp/warplaw12.DataOrder", spec := "dataOrder", recurses := true, plainKeys := false, apart := false }
def DataOrderSaid : Prop := dataOrderRow.holds Try.pinned (OpenSpec.ofChange dataOrderSpec)

/-- ITS FALSE NEIGHBOUR: 'it returns false'. Refute it at one input. -/
def dataOrderWrong : ChangeSpec := { name := "dataOrder", fn := fun _ => fun
  | [d1, d2] => { results := [.lit (.bool false)], args := [d1, d2] }
  | _ => none }
def DataOrderWrongFalsely : Prop := dataOrderRow.holds Try.pinned (OpenSpec.ofChange dataOrderWrong)

/-- 'warplaw13.ScopeAll': WHATEVER THE INPUT: true; the input reads as it did. -/
def scopeAllSpec : ChangeSpec := { name := "scopeAll", fn := fun _ => fun
  | [d] => { results := [.lit (.bool true)], args := [d] }
  | _ => none }
def scopeAllRow : OpenClaim := { program := "ytgkeblpjmfdhkaa", sum := "c1d619c8af1c53385be736e79afa1d176fb27318f18701a8a471910157139370", func := "warp/warplaw13.ScopeAll", spec := "scopeAll", recurses := true, plainKeys := false, apart := false }
def ScopeAllSaid : Prop := scopeAllRow.holds Try.pinned (OpenSpec.ofChange scopeAllSpec)

/-- ITS FALSE NEIGHBOUR: 'it returns false'. Refute it at one input. -/
def scopeAllWrong : ChangeSpec := { name := "scopeAll", fn := fun _ => fun
  | [d] => { results := [.lit (.bool false)], args := [d] }
  | _ => none }
def ScopeAllWrongFalsely : Prop := scopeAllRow.holds Try.pinned (OpenSpec.ofChange scopeAllWrong)

/-- 'warplaw13.ScopeMade': WHATEVER THE INPUT: true; the input reads as it did. -/
def scopeMadeSpec : ChangeSpec := { name := "scopeMade", fn := fun _ => fun
  | [d1, d2] => { results := [.lit (.bool true)], args := [d1, d2] }
  | _ => none }
def scopeMadeRow : OpenClaim := { program := "ytgkeblpjmfdhkaa", sum := "c1d619c8af1c53385be736e79afa1d176fb27318f18701a8a471910157139370", func := "warp/warplaw13.ScopeMade", spec := "scopeMade", recurses := true, plainKeys := false, apart := false }
def ScopeMadeSaid : Prop := scopeMadeRow.holds Try.pinned (OpenSpec.ofChange scopeMadeSpec)

/-- ITS FALSE NEIGHBOUR: 'it returns false'. Refute it at one input. -/
def scopeMadeWrong : ChangeSpec := { name := "scopeMade", fn := fun _ => fun
  | [d1, d2] => { results := [.lit (.bool false)], args := [d1, d2] }
  | _ => none }
def ScopeMadeWrongFalsely : Prop := scopeMadeRow.holds Try.pinned (OpenSpec.ofChange scopeMadeWrong)

/-- 'warplaw14.RefsAll': WHATEVER THE INPUT: true; the input reads as it did. -/
def refsAllSpec : ChangeSpec := { name := "refsAll", fn := fun _ => fun
  | [d] => { results := [.lit (.bool true)], args := [d] }
  | _ => none }
def refsAllRow : OpenClaim := { program := "ytgkeblpjmfdhkaa", sum := "c1d619c8af1c53385be736e79afa1d176fb27318f18701a8a471910157139370", func := "warp/warplaw14.RefsAll", spec := "refsAll", unfollowed := true, recurses := true, plainKeys := false, apart := false }
def RefsAllSaid : Prop := refsAllRow.holds Try.pinned (OpenSpec.ofChange refsAllSpec)

/-- ITS FALSE NEIGHBOUR: 'it returns false'. Refute it at one input. -/
def refsAllWrong : ChangeSpec := { name := "refsAll", fn := fun _ => fun
  | [d] => { results := [.lit (.bool false)], args := [d] }
  | _ => none }
def RefsAllWrongFalsely : Prop := refsAllRow.holds Try.pinned (OpenSpec.ofChange refsAllWrong)

/-- 'warplaw14.RefsMade': WHATEVER THE INPUT: true; the input reads as it did. -/
def refsMadeSpec : ChangeSpec := { name := "refsMade", fn := fun _ => fun
  | [d] => { results := [.lit (.bool true)], args := [d] }
  | _ => none }
def refsMadeRow : OpenClaim := { program := "ytgkeblpjmfdhkaa", sum := "c1d619c8af1c53385be736e79afa1d176fb27318f18701a8a471910157139370", func := "warp/warplaw14.RefsMade", spec := "refsMade", unfollowed := true, recurses := true, plainKeys := false, apart := false }
def RefsMadeSaid : Prop := refsMadeRow.holds Try.pinned (OpenSpec.ofChange refsMadeSpec)

/-- ITS FALSE NEIGHBOUR: 'it returns false'. Refute it at one input. -/
def refsMadeWrong : ChangeSpec := { name := "refsMade", fn := fun _ => fun
  | [d] => { results := [.lit (.bool false)], args := [d] }
  | _ => none }
def RefsMadeWrongFalsely : Prop := refsMadeRow.holds Try.pinned (OpenSpec.ofChange refsMadeWrong)

/-- 'warplaw14.RefsBound': WHATEVER THE INPUT: true; the input reads as it did. -/
def refsBoundSpec : ChangeSpec := { name := "refsBound", fn := fun _ => fun
  | [d1, d2] => { results := [.lit (.bool true)], args := [d1, d2] }
  | _ => none }
def refsBoundRow : OpenClaim := { program := "ytgkeblpjmfdhkaa", sum := "c1d619c8af1c53385be736e79afa1d176fb27318f18701a8a471910157139370", func := "warp/warplaw14.RefsBound", spec := "refsBound", recurses := true, plainKeys := false, apart := false }
def RefsBoundSaid : Prop := refsBoundRow.holds Try.pinned (OpenSpec.ofChange refsBoundSpec)

/-- ITS FALSE NEIGHBOUR: 'it returns false'. Refute it at one input. -/
def refsBoundWrong : ChangeSpec := { name := "refsBound", fn := fun _ => fun
  | [d1, d2] => { results := [.lit (.bool false)], args := [d1, d2] }
  | _ => none }
def RefsBoundWrongFalsely : Prop := refsBoundRow.holds Try.pinned (OpenSpec.ofChange refsBoundWrong)

/-- 'warplaw14.RefsJoins': WHATEVER THE INPUT: true; the input reads as it did. -/
def refsJoinsSpec : ChangeSpec := { name := "refsJoins", fn := fun _ => fun
  | [d1, d2] => { results := [.lit (.bool true)], args := [d1, d2] }
  | _ => none }
def refsJoinsRow : OpenClaim := { program := "ytgkeblpjmfdhkaa", sum := "c1d619c8af1c53385be736e79afa1d176fb27318f18701a8a471910157139370", func := "warp/warplaw14.RefsJoins", spec := "refsJoins", recurses := true, plainKeys := false, apart := false }
def RefsJoinsSaid : Prop := refsJoinsRow.holds Try.pinned (OpenSpec.ofChange refsJoinsSpec)

/-- ITS FALSE NEIGHBOUR: 'it returns false'. Refute it at one input. -/
def refsJoinsWrong : ChangeSpec := { name := "refsJoins", fn := fun _ => fun
  | [d1, d2] => { results := [.lit (.bool false)], args := [d1, d2] }
  | _ => none }
def RefsJoinsWrongFalsely : Prop := refsJoinsRow.holds Try.pinned (OpenSpec.ofChange refsJoinsWrong)

/-- 'warplaw14.RefsGraph': WHATEVER THE INPUT: true; the input reads as it did. -/
def refsGraphSpec : ChangeSpec := { name := "refsGraph", fn := fun _ => fun
  | [d] => { results := [.lit (.bool true)], args := [d] }
  | _ => none }
def refsGraphRow : OpenClaim := { program := "ytgkeblpjmfdhkaa", sum := "c1d619c8af1c53385be736e79afa1d176fb27318f18701a8a471910157139370", func := "warp/warplaw14.RefsGraph", spec := "refsGraph", unfollowed := true, recurses := true, plainKeys := false, apart := false }
def RefsGraphSaid : Prop := refsGraphRow.holds Try.pinned (OpenSpec.ofChange refsGraphSpec)

/-- ITS FALSE NEIGHBOUR: 'it returns false'. Refute it at one input. -/
def refsGraphWrong : ChangeSpec := { name := "refsGraph", fn := fun _ => fun
  | [d] => { results := [.lit (.bool false)], args := [d] }
  | _ => none }
def RefsGraphWrongFalsely : Prop := refsGraphRow.holds Try.pinned (OpenSpec.ofChange refsGraphWrong)

/- THE SECOND FORM. 'bulk': how many values and letters a reading holds, each counted each time it is reached (what is shared counts as often as it is met; a slice's spare places count too). A statement '..UptoSaid' is the law's where the arguments, and the package variables that the reading takes, are together of bulk at most 1048576: NARROWER than '..Said'. Prove '..Said' where nothing that the law and all that it calls make is longer than what came in: it says more and counts as full. Else prove '..UptoSaid'. A law counts once. -/
mutual
def uptoBulk {H : Type} : DataW H → Nat
  | .lit (.string bytes) => bytes.length + 1
  | .lit _ => 1
  | .nil => 1
  | .ptr d => uptoBulk d + 1
  | .slice elems spare => uptoBulkAll elems + uptoBulkAll spare + 1
  | .agg parts => uptoBulkAll parts + 1
  | .iface _ d => uptoBulk d + 1
  | .map entries => uptoBulkEntries entries + 1
  | .held _ => 1
def uptoBulkAll {H : Type} : List (DataW H) → Nat
  | [] => 0
  | d :: r => uptoBulk d + uptoBulkAll r
def uptoBulkEntries {H : Type} : List (Lit × DataW H) → Nat
  | [] => 0
  | x :: r => uptoBulkEntry x + uptoBulkEntries r
def uptoBulkEntry {H : Type} : Lit × DataW H → Nat
  | (.string bytes, d) => bytes.length + uptoBulk d + 1
  | (_, d) => uptoBulk d + 1
 end
def uptoSmall : (H : Type) → List (DataW H) → Bool := fun _ ds => decide (uptoBulkAll ds ≤ 1048576)
def OpenSpec.upto (s : _root_.Go.ChangeSpec) : _root_.Go.OpenSpec := { _root_.Go.OpenSpec.ofChange s with cond := some uptoSmall }

/-- 'warplaw10.ParseBrackets', WHERE WHAT IT READS IS OF BULK AT MOST 1048576: true; the input reads as it did. -/
def parseBracketsUptoRow : OpenClaim := { program := "ytgkeblpjmfdhkaa", sum := "c1d619c8af1c53385be736e79afa1d176fb27318f18701a8a471910157139370", func := "warp/warplaw10.ParseBrackets", spec := "parseBrackets", unfollowed := true, recurses := true, plainKeys := false, apart := false, narrowed := true }
def ParseBracketsUptoSaid : Prop := parseBracketsUptoRow.holds Try.pinned (OpenSpec.upto parseBracketsSpec)

/-- 'warplaw10.ParseSugar', WHERE WHAT IT READS IS OF BULK AT MOST 1048576: true; the input reads as it did. -/
def parseSugarUptoRow : OpenClaim := { program := "ytgkeblpjmfdhkaa", sum := "c1d619c8af1c53385be736e79afa1d176fb27318f18701a8a471910157139370", func := "warp/warplaw10.ParseSugar", spec := "parseSugar", unfollowed := true, recurses := true, plainKeys := false, apart := false, narrowed := true }
def ParseSugarUptoSaid : Prop := parseSugarUptoRow.holds Try.pinned (OpenSpec.upto parseSugarSpec)

/-- 'warplaw10.ParseJoins', WHERE WHAT IT READS IS OF BULK AT MOST 1048576: true; the input reads as it did. -/
def parseJoinsUptoRow : OpenClaim := { program := "ytgkeblpjmfdhkaa", sum := "c1d619c8af1c53385be736e79afa1d176fb27318f18701a8a471910157139370", func := "warp/warplaw10.ParseJoins", spec := "parseJoins", unfollowed := true, recurses := true, plainKeys := false, apart := false, narrowed := true }
def ParseJoinsUptoSaid : Prop := parseJoinsUptoRow.holds Try.pinned (OpenSpec.upto parseJoinsSpec)

/-- 'warplaw12.DataOrder', WHERE WHAT IT READS IS OF BULK AT MOST 1048576: true; the input reads as it did. -/
def dataOrderUptoRow : OpenClaim := { program := "ytgkeblpjmfdhkaa", sum := "c1d619c8af1c53385be736e79afa1d176fb27318f18701a8a471910157139370", func := "warp/warplaw12.DataOrder", spec := "dataOrder", recurses := true, plainKeys := false, apart := false, narrowed := true }
def DataOrderUptoSaid : Prop := dataOrderUptoRow.holds Try.pinned (OpenSpec.upto dataOrderSpec)

/-- 'warplaw13.ScopeAll', WHERE WHAT IT READS IS OF BULK AT MOST 1048576: true; the input reads as it did. -/
def scopeAllUptoRow : OpenClaim := { program := "ytgkeblpjmfdhkaa", sum := "c1d619c8af1c53385be736e79afa1d176fb27318f18701a8a471910157139370", func := "warp/warplaw13.ScopeAll", spec := "scopeAll", recurses := true, plainKeys := false, apart := false, narrowed := true }
def ScopeAllUptoSaid : Prop := scopeAllUptoRow.holds Try.pinned (OpenSpec.upto scopeAllSpec)

/-- 'warplaw13.ScopeMade', WHERE WHAT IT READS IS OF BULK AT MOST 1048576: true; the input reads as it did. -/
def scopeMadeUptoRow : OpenClaim := { program := "ytgkeblpjmfdhkaa", sum := "c1d619c8af1c53385be736e79afa1d176fb27318f18701a8a471910157139370", func := "warp/warplaw13.ScopeMade", spec := "scopeMade", recurses := true, plainKeys := false, apart := false, narrowed := true }
def ScopeMadeUptoSaid : Prop := scopeMadeUptoRow.holds Try.pinned (OpenSpec.upto scopeMadeSpec)

/-- 'warplaw14.RefsAll', WHERE WHAT IT READS IS OF BULK AT MOST 1048576: true; the input reads as it did. -/
def refsAllUptoRow : OpenClaim := { program := "ytgkeblpjmfdhkaa", sum := "c1d619c8af1c53385be736e79afa1d176fb27318f18701a8a471910157139370", func := "warp/warplaw14.RefsAll", spec := "refsAll", unfollowed := true, recurses := true, plainKeys := false, apart := false, narrowed := true }
def RefsAllUptoSaid : Prop := refsAllUptoRow.holds Try.pinned (OpenSpec.upto refsAllSpec)

/-- 'warplaw14.RefsMade', WHERE WHAT IT READS IS OF BULK AT MOST 1048576: true; the input reads as it did. -/
def refsMadeUptoRow : OpenClaim := { program := "ytgkeblpjmfdhkaa", sum := "c1d619c8af1c53385be736e79afa1d176fb27318f18701a8a471910157139370", func := "warp/warplaw14.RefsMade", spec := "refsMade", unfollowed := true, recurses := true, plainKeys := false, apart := false, narrowed := true }
def RefsMadeUptoSaid : Prop := refsMadeUptoRow.holds Try.pinned (OpenSpec.upto refsMadeSpec)

/-- 'warplaw14.RefsBound', WHERE WHAT IT READS IS OF BULK AT MOST 1048576: true; the input reads as it did. -/
def refsBoundUptoRow : OpenClaim := { program := "ytgkeblpjmfdhkaa", sum := "c1d619c8af1c53385be736e79afa1d176fb27318f18701a8a471910157139370", func := "warp/warplaw14.RefsBound", spec := "refsBound", recurses := true, plainKeys := false, apart := false, narrowed := true }
def RefsBoundUptoSaid : Prop := refsBoundUptoRow.holds Try.pinned (OpenSpec.upto refsBoundSpec)

/-- 'warplaw14.RefsJoins', WHERE WHAT IT READS IS OF BULK AT MOST 1048576: true; the input reads as it did. -/
def refsJoinsUptoRow : OpenClaim := { program := "ytgkeblpjmfdhkaa", sum := "c1d619c8af1c53385be736e79afa1d176fb27318f18701a8a471910157139370", func := "warp/warplaw14.RefsJoins", spec := "refsJoins", recurses := true, plainKeys := false, apart := false, narrowed := true }
def RefsJoinsUptoSaid : Prop := refsJoinsUptoRow.holds Try.pinned (OpenSpec.upto refsJoinsSpec)

/-- 'warplaw14.RefsGraph', WHERE WHAT IT READS IS OF BULK AT MOST 1048576: true; the input reads as it did. -/
def refsGraphUptoRow : OpenClaim := { program := "ytgkeblpjmfdhkaa", sum := "c1d619c8af1c53385be736e79afa1d176fb27318f18701a8a471910157139370", func := "warp/warplaw14.RefsGraph", spec := "refsGraph", unfollowed := true, recurses := true, plainKeys := false, apart := false, narrowed := true }
def RefsGraphUptoSaid : Prop := refsGraphUptoRow.holds Try.pinned (OpenSpec.upto refsGraphSpec)

end Rows
end Go.Proofs.Ytgkeblpjmfdhkaa
