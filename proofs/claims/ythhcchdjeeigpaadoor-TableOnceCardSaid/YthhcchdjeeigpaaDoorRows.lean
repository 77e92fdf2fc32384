/-
  NARROWER THAN 'FOR EVERY INPUT', by the rows' own cells (each row's printed sentence says how): PlayAll: laid · PlayMade: laid · PlayEnds: laid · PlayLimits: laid · PlayOne: laid · PlayPicks: laid · TableAll: laid · TableMade: laid · TableOnce: laid · TableAgain: laid · TableOne: laid.
  DERIVED. THE GIVEN ROWS OF THIS SEAT. 11 by the template 'for every input the law returns true; each argument reads behind the call as it read before'; 0 by the template 'total and deterministic' (their statements: YthhcchdjeeigpaaDoorTotals.lean).
  GIVEN WITH THE SEED: the statements are not yours to turn. If you find one false, say at which input.
  Laid BY PROGRAM, IN A SANDBOX (cutbox-rows.mjs): the forced cells as the released guide's own fill.sh prints them over the translation 09c41b379c2eac8c… (all of the seat's roots in one cut). By AI agents, Wed Nov 11 2026. No macro, syntax, notation, axiom, sorry.
-/
import Derived.Test.YthhcchdjeeigpaaDoorChecked
import GoSem.Claim
import GoSem.ClaimJoined
import GoSem.ClaimMapViews
import Derived.JoinedTies
import Derived.KernelRfl
namespace Go.Proofs.YthhcchdjeeigpaaDoor
/- THE CELL 'sum', in the pinned program and in every row, IS THE sha256 OF THE DUMP (.gsa) THAT YthhcchdjeeigpaaDoorProg.lean LOADS. Nothing in Lean hashes anything: it is a label: what it is worth is what the hold of that sum in a sandbox is worth. -/
noncomputable def Tryd.pinned : Pinned := { name := "ythhcchdjeeigpaadoor", sum := "09c41b379c2eac8ceb9faa3283e45aa3f880a7c7865354e50b4df03b29863dae", checked := Tryd.checked }
namespace Rows
def none {H : Type} : Left H := { results := [], args := [] }

/- WHAT THE LISTED PACKAGE-LEVEL VARIABLES READ AS WHEN THE CALL BEGINS. Each datum BY PROGRAM (the guide's laid-datum.mjs) off the statement by which the dump's own 'gosem.cut.vars' lays the variable. In a bare row this is a premise. The card (YthhcchdjeeigpaaDoorCards.lean) ties it to the program's text. -/
def laid_math_bits_deBruijn64tab {H : Type} : DataW H := .agg [.lit (.int .u8 0), .lit (.int .u8 1), .lit (.int .u8 56), .lit (.int .u8 2), .lit (.int .u8 57), .lit (.int .u8 49), .lit (.int .u8 28), .lit (.int .u8 3), .lit (.int .u8 61), .lit (.int .u8 58), .lit (.int .u8 42), .lit (.int .u8 50), .lit (.int .u8 38), .lit (.int .u8 29), .lit (.int .u8 17), .lit (.int .u8 4), .lit (.int .u8 62), .lit (.int .u8 47), .lit (.int .u8 59), .lit (.int .u8 36), .lit (.int .u8 45), .lit (.int .u8 43), .lit (.int .u8 51), .lit (.int .u8 22), .lit (.int .u8 53), .lit (.int .u8 39), .lit (.int .u8 33), .lit (.int .u8 30), .lit (.int .u8 24), .lit (.int .u8 18), .lit (.int .u8 12), .lit (.int .u8 5), .lit (.int .u8 63), .lit (.int .u8 55), .lit (.int .u8 48), .lit (.int .u8 27), .lit (.int .u8 60), .lit (.int .u8 41), .lit (.int .u8 37), .lit (.int .u8 16), .lit (.int .u8 46), .lit (.int .u8 35), .lit (.int .u8 44), .lit (.int .u8 21), .lit (.int .u8 52), .lit (.int .u8 32), .lit (.int .u8 23), .lit (.int .u8 11), .lit (.int .u8 54), .lit (.int .u8 26), .lit (.int .u8 40), .lit (.int .u8 15), .lit (.int .u8 34), .lit (.int .u8 20), .lit (.int .u8 31), .lit (.int .u8 10), .lit (.int .u8 25), .lit (.int .u8 14), .lit (.int .u8 19), .lit (.int .u8 9), .lit (.int .u8 13), .lit (.int .u8 8), .lit (.int .u8 7), .lit (.int .u8 6)]

/-- 'warplaw5.PlayAll': WHATEVER THE INPUT: true; the input reads as it did. -/
def playAllSpec : ChangeSpec := { name := "playAll", fn := fun _ => fun
  | [d1, d2, d3] => { results := [.lit (.bool true)], args := [d1, d2, d3] }
  | _ => none }
def playAllRow : OpenClaim := { program := "ythhcchdjeeigpaadoor", sum := "09c41b379c2eac8ceb9faa3283e45aa3f880a7c7865354e50b4df03b29863dae", func := "warp/warplaw5.PlayAll", spec := "playAll", named := ["math/bits.deBruijn64tab"], plainKeys := false, apart := false, laid := [("math/bits.deBruijn64tab", laid_math_bits_deBruijn64tab)] }
def PlayAllSaid : Prop := playAllRow.holds Tryd.pinned (OpenSpec.ofChange playAllSpec)

/-- ITS FALSE NEIGHBOUR: 'it returns false'. Refute it at one input. -/
def playAllWrong : ChangeSpec := { name := "playAll", fn := fun _ => fun
  | [d1, d2, d3] => { results := [.lit (.bool false)], args := [d1, d2, d3] }
  | _ => none }
def PlayAllWrongFalsely : Prop := playAllRow.holds Tryd.pinned (OpenSpec.ofChange playAllWrong)

/-- 'warplaw5.PlayMade': WHATEVER THE INPUT: true; the input reads as it did. -/
def playMadeSpec : ChangeSpec := { name := "playMade", fn := fun _ => fun
  | [d1, d2, d3] => { results := [.lit (.bool true)], args := [d1, d2, d3] }
  | _ => none }
def playMadeRow : OpenClaim := { program := "ythhcchdjeeigpaadoor", sum := "09c41b379c2eac8ceb9faa3283e45aa3f880a7c7865354e50b4df03b29863dae", func := "warp/warplaw5.PlayMade", spec := "playMade", named := ["math/bits.deBruijn64tab"], plainKeys := false, apart := false, laid := [("math/bits.deBruijn64tab", laid_math_bits_deBruijn64tab)] }
def PlayMadeSaid : Prop := playMadeRow.holds Tryd.pinned (OpenSpec.ofChange playMadeSpec)

/-- ITS FALSE NEIGHBOUR: 'it returns false'. Refute it at one input. -/
def playMadeWrong : ChangeSpec := { name := "playMade", fn := fun _ => fun
  | [d1, d2, d3] => { results := [.lit (.bool false)], args := [d1, d2, d3] }
  | _ => none }
def PlayMadeWrongFalsely : Prop := playMadeRow.holds Tryd.pinned (OpenSpec.ofChange playMadeWrong)

/-- 'warplaw5.PlayEnds': WHATEVER THE INPUT: true; the input reads as it did. -/
def playEndsSpec : ChangeSpec := { name := "playEnds", fn := fun _ => fun
  | [d1, d2, d3] => { results := [.lit (.bool true)], args := [d1, d2, d3] }
  | _ => none }
def playEndsRow : OpenClaim := { program := "ythhcchdjeeigpaadoor", sum := "09c41b379c2eac8ceb9faa3283e45aa3f880a7c7865354e50b4df03b29863dae", func := "warp/warplaw5.PlayEnds", spec := "playEnds", named := ["math/bits.deBruijn64tab"], plainKeys := false, apart := false, laid := [("math/bits.deBruijn64tab", laid_math_bits_deBruijn64tab)] }
def PlayEndsSaid : Prop := playEndsRow.holds Tryd.pinned (OpenSpec.ofChange playEndsSpec)

/-- ITS FALSE NEIGHBOUR: 'it returns false'. Refute it at one input. -/
def playEndsWrong : ChangeSpec := { name := "playEnds", fn := fun _ => fun
  | [d1, d2, d3] => { results := [.lit (.bool false)], args := [d1, d2, d3] }
  | _ => none }
def PlayEndsWrongFalsely : Prop := playEndsRow.holds Tryd.pinned (OpenSpec.ofChange playEndsWrong)

/-- 'warplaw5.PlayLimits': WHATEVER THE INPUT: true; the input reads as it did. -/
def playLimitsSpec : ChangeSpec := { name := "playLimits", fn := fun _ => fun
  | [d1, d2, d3] => { results := [.lit (.bool true)], args := [d1, d2, d3] }
  | _ => none }
def playLimitsRow : OpenClaim := { program := "ythhcchdjeeigpaadoor", sum := "09c41b379c2eac8ceb9faa3283e45aa3f880a7c7865354e50b4df03b29863dae", func := "warp/warplaw5.PlayLimits", spec := "playLimits", named := ["math/bits.deBruijn64tab"], plainKeys := false, apart := false, laid := [("math/bits.deBruijn64tab", laid_math_bits_deBruijn64tab)] }
def PlayLimitsSaid : Prop := playLimitsRow.holds Tryd.pinned (OpenSpec.ofChange playLimitsSpec)

/-- ITS FALSE NEIGHBOUR: 'it returns false'. Refute it at one input. -/
def playLimitsWrong : ChangeSpec := { name := "playLimits", fn := fun _ => fun
  | [d1, d2, d3] => { results := [.lit (.bool false)], args := [d1, d2, d3] }
  | _ => none }
def PlayLimitsWrongFalsely : Prop := playLimitsRow.holds Tryd.pinned (OpenSpec.ofChange playLimitsWrong)

/-- 'warplaw5.PlayOne': WHATEVER THE INPUT: true; the input reads as it did. -/
def playOneSpec : ChangeSpec := { name := "playOne", fn := fun _ => fun
  | [d1, d2, d3] => { results := [.lit (.bool true)], args := [d1, d2, d3] }
  | _ => none }
def playOneRow : OpenClaim := { program := "ythhcchdjeeigpaadoor", sum := "09c41b379c2eac8ceb9faa3283e45aa3f880a7c7865354e50b4df03b29863dae", func := "warp/warplaw5.PlayOne", spec := "playOne", named := ["math/bits.deBruijn64tab"], plainKeys := false, apart := false, laid := [("math/bits.deBruijn64tab", laid_math_bits_deBruijn64tab)] }
def PlayOneSaid : Prop := playOneRow.holds Tryd.pinned (OpenSpec.ofChange playOneSpec)

/-- ITS FALSE NEIGHBOUR: 'it returns false'. Refute it at one input. -/
def playOneWrong : ChangeSpec := { name := "playOne", fn := fun _ => fun
  | [d1, d2, d3] => { results := [.lit (.bool false)], args := [d1, d2, d3] }
  | _ => none }
def PlayOneWrongFalsely : Prop := playOneRow.holds Tryd.pinned (OpenSpec.ofChange playOneWrong)

/-- 'warplaw5.PlayPicks': WHATEVER THE INPUT: true; the input reads as it did. -/
def playPicksSpec : ChangeSpec := { name := "playPicks", fn := fun _ => fun
  | [d1, d2, d3, d4] => { results := [.lit (.bool true)], args := [d1, d2, d3, d4] }
  | _ => none }
def playPicksRow : OpenClaim := { program := "ythhcchdjeeigpaadoor", sum := "09c41b379c2eac8ceb9faa3283e45aa3f880a7c7865354e50b4df03b29863dae", func := "warp/warplaw5.PlayPicks", spec := "playPicks", named := ["math/bits.deBruijn64tab"], plainKeys := false, apart := false, laid := [("math/bits.deBruijn64tab", laid_math_bits_deBruijn64tab)] }
def PlayPicksSaid : Prop := playPicksRow.holds Tryd.pinned (OpenSpec.ofChange playPicksSpec)

/-- ITS FALSE NEIGHBOUR: 'it returns false'. Refute it at one input. -/
def playPicksWrong : ChangeSpec := { name := "playPicks", fn := fun _ => fun
  | [d1, d2, d3, d4] => { results := [.lit (.bool false)], args := [d1, d2, d3, d4] }
  | _ => none }
def PlayPicksWrongFalsely : Prop := playPicksRow.holds Tryd.pinned (OpenSpec.ofChange playPicksWrong)

/-- 'warplaw8.TableAll': WHATEVER THE INPUT: true; the input reads as it did. -/
def tableAllSpec : ChangeSpec := { name := "tableAll", fn := fun _ => fun
  | [d1, d2, d3, d4] => { results := [.lit (.bool true)], args := [d1, d2, d3, d4] }
  | _ => none }
def tableAllRow : OpenClaim := { program := "ythhcchdjeeigpaadoor", sum := "09c41b379c2eac8ceb9faa3283e45aa3f880a7c7865354e50b4df03b29863dae", func := "warp/warplaw8.TableAll", spec := "tableAll", named := ["math/bits.deBruijn64tab"], plainKeys := false, apart := false, laid := [("math/bits.deBruijn64tab", laid_math_bits_deBruijn64tab)] }
def TableAllSaid : Prop := tableAllRow.holds Tryd.pinned (OpenSpec.ofChange tableAllSpec)

/-- ITS FALSE NEIGHBOUR: 'it returns false'. Refute it at one input. -/
def tableAllWrong : ChangeSpec := { name := "tableAll", fn := fun _ => fun
  | [d1, d2, d3, d4] => { results := [.lit (.bool false)], args := [d1, d2, d3, d4] }
  | _ => none }
def TableAllWrongFalsely : Prop := tableAllRow.holds Tryd.pinned (OpenSpec.ofChange tableAllWrong)

/-- 'warplaw8.TableMade': WHATEVER THE INPUT: true; the input reads as it did. -/
def tableMadeSpec : ChangeSpec := { name := "tableMade", fn := fun _ => fun
  | [d1, d2, d3, d4] => { results := [.lit (.bool true)], args := [d1, d2, d3, d4] }
  | _ => none }
def tableMadeRow : OpenClaim := { program := "ythhcchdjeeigpaadoor", sum := "09c41b379c2eac8ceb9faa3283e45aa3f880a7c7865354e50b4df03b29863dae", func := "warp/warplaw8.TableMade", spec := "tableMade", named := ["math/bits.deBruijn64tab"], plainKeys := false, apart := false, laid := [("math/bits.deBruijn64tab", laid_math_bits_deBruijn64tab)] }
def TableMadeSaid : Prop := tableMadeRow.holds Tryd.pinned (OpenSpec.ofChange tableMadeSpec)

/-- ITS FALSE NEIGHBOUR: 'it returns false'. Refute it at one input. -/
def tableMadeWrong : ChangeSpec := { name := "tableMade", fn := fun _ => fun
  | [d1, d2, d3, d4] => { results := [.lit (.bool false)], args := [d1, d2, d3, d4] }
  | _ => none }
def TableMadeWrongFalsely : Prop := tableMadeRow.holds Tryd.pinned (OpenSpec.ofChange tableMadeWrong)

/-- 'warplaw8.TableOnce': WHATEVER THE INPUT: true; the input reads as it did. -/
def tableOnceSpec : ChangeSpec := { name := "tableOnce", fn := fun _ => fun
  | [d1, d2, d3, d4] => { results := [.lit (.bool true)], args := [d1, d2, d3, d4] }
  | _ => none }
def tableOnceRow : OpenClaim := { program := "ythhcchdjeeigpaadoor", sum := "09c41b379c2eac8ceb9faa3283e45aa3f880a7c7865354e50b4df03b29863dae", func := "warp/warplaw8.TableOnce", spec := "tableOnce", named := ["math/bits.deBruijn64tab"], plainKeys := false, apart := false, laid := [("math/bits.deBruijn64tab", laid_math_bits_deBruijn64tab)] }
def TableOnceSaid : Prop := tableOnceRow.holds Tryd.pinned (OpenSpec.ofChange tableOnceSpec)

/-- ITS FALSE NEIGHBOUR: 'it returns false'. Refute it at one input. -/
def tableOnceWrong : ChangeSpec := { name := "tableOnce", fn := fun _ => fun
  | [d1, d2, d3, d4] => { results := [.lit (.bool false)], args := [d1, d2, d3, d4] }
  | _ => none }
def TableOnceWrongFalsely : Prop := tableOnceRow.holds Tryd.pinned (OpenSpec.ofChange tableOnceWrong)

/-- 'warplaw8.TableAgain': WHATEVER THE INPUT: true; the input reads as it did. -/
def tableAgainSpec : ChangeSpec := { name := "tableAgain", fn := fun _ => fun
  | [d1, d2, d3, d4, d5] => { results := [.lit (.bool true)], args := [d1, d2, d3, d4, d5] }
  | _ => none }
def tableAgainRow : OpenClaim := { program := "ythhcchdjeeigpaadoor", sum := "09c41b379c2eac8ceb9faa3283e45aa3f880a7c7865354e50b4df03b29863dae", func := "warp/warplaw8.TableAgain", spec := "tableAgain", named := ["math/bits.deBruijn64tab"], plainKeys := false, apart := false, laid := [("math/bits.deBruijn64tab", laid_math_bits_deBruijn64tab)] }
def TableAgainSaid : Prop := tableAgainRow.holds Tryd.pinned (OpenSpec.ofChange tableAgainSpec)

/-- ITS FALSE NEIGHBOUR: 'it returns false'. Refute it at one input. -/
def tableAgainWrong : ChangeSpec := { name := "tableAgain", fn := fun _ => fun
  | [d1, d2, d3, d4, d5] => { results := [.lit (.bool false)], args := [d1, d2, d3, d4, d5] }
  | _ => none }
def TableAgainWrongFalsely : Prop := tableAgainRow.holds Tryd.pinned (OpenSpec.ofChange tableAgainWrong)

/-- 'warplaw8.TableOne': WHATEVER THE INPUT: true; the input reads as it did. -/
def tableOneSpec : ChangeSpec := { name := "tableOne", fn := fun _ => fun
  | [d1, d2, d3] => { results := [.lit (.bool true)], args := [d1, d2, d3] }
  | _ => none }
def tableOneRow : OpenClaim := { program := "ythhcchdjeeigpaadoor", sum := "09c41b379c2eac8ceb9faa3283e45aa3f880a7c7865354e50b4df03b29863dae", func := "warp/warplaw8.TableOne", spec := "tableOne", named := ["math/bits.deBruijn64tab"], plainKeys := false, apart := false, laid := [("math/bits.deBruijn64tab", laid_math_bits_deBruijn64tab)] }
def TableOneSaid : Prop := tableOneRow.holds Tryd.pinned (OpenSpec.ofChange tableOneSpec)

/-- ITS FALSE NEIGHBOUR: 'it returns false'. Refute it at one input. -/
def tableOneWrong : ChangeSpec := { name := "tableOne", fn := fun _ => fun
  | [d1, d2, d3] => { results := [.lit (.bool false)], args := [d1, d2, d3] }
  | _ => none }
def TableOneWrongFalsely : Prop := tableOneRow.holds Tryd.pinned (OpenSpec.ofChange tableOneWrong)

/- THE SECOND FORM. 'bulk': how many values and letters a reading holds, each counted each time it is reached (what is shared counts as often as it is met; a slice's spare places count too). A statement '..UptoSaid' is the law's where the arguments, and the package variables that the reading takes, are together of bulk at most 1048576: NARROWER than '..Said'. Prove '..Said' where nothing that the law and all that it calls make is longer than what came in: it says more and counts as full. Else prove '..UptoSaid'. A law counts once. -/
mutual
def uptoBulk {H : Type} : DataW H → Nat
  | .lit (.string bytes) => bytes.length + 1
  | .lit _ => 1
  | .nil => 1
  | .ptr d => uptoBulk d + 1
  | .slice elems spare => uptoBulkAll elems + uptoBulkAll spare + 1
  | .agg parts => uptoBulkAll parts + 1
  | .iface _ d => uptoBulk d + 1
  | .map entries => uptoBulkEntries entries + 1
  | .held _ => 1
def uptoBulkAll {H : Type} : List (DataW H) → Nat
  | [] => 0
  | d :: r => uptoBulk d + uptoBulkAll r
def uptoBulkEntries {H : Type} : List (Lit × DataW H) → Nat
  | [] => 0
  | x :: r => uptoBulkEntry x + uptoBulkEntries r
def uptoBulkEntry {H : Type} : Lit × DataW H → Nat
  | (.string bytes, d) => bytes.length + uptoBulk d + 1
  | (_, d) => uptoBulk d + 1
 end
def uptoSmall : (H : Type) → List (DataW H) → Bool := fun _ ds => decide (uptoBulkAll ds ≤ 1048576)
def OpenSpec.upto (s : _root_.Go.ChangeSpec) : _root_.Go.OpenSpec := { _root_.Go.OpenSpec.ofChange s with cond := some uptoSmall }

/-- 'warplaw5.PlayAll', WHERE WHAT IT READS IS OF BULK AT MOST 1048576: true; the input reads as it did. -/
def playAllUptoRow : OpenClaim := { program := "ythhcchdjeeigpaadoor", sum := "09c41b379c2eac8ceb9faa3283e45aa3f880a7c7865354e50b4df03b29863dae", func := "warp/warplaw5.PlayAll", spec := "playAll", named := ["math/bits.deBruijn64tab"], plainKeys := false, apart := false, laid := [("math/bits.deBruijn64tab", laid_math_bits_deBruijn64tab)], narrowed := true }
def PlayAllUptoSaid : Prop := playAllUptoRow.holds Tryd.pinned (OpenSpec.upto playAllSpec)

/-- 'warplaw5.PlayMade', WHERE WHAT IT READS IS OF BULK AT MOST 1048576: true; the input reads as it did. -/
def playMadeUptoRow : OpenClaim := { program := "ythhcchdjeeigpaadoor", sum := "09c41b379c2eac8ceb9faa3283e45aa3f880a7c7865354e50b4df03b29863dae", func := "warp/warplaw5.PlayMade", spec := "playMade", named := ["math/bits.deBruijn64tab"], plainKeys := false, apart := false, laid := [("math/bits.deBruijn64tab", laid_math_bits_deBruijn64tab)], narrowed := true }
def PlayMadeUptoSaid : Prop := playMadeUptoRow.holds Tryd.pinned (OpenSpec.upto playMadeSpec)

/-- 'warplaw5.PlayEnds', WHERE WHAT IT READS IS OF BULK AT MOST 1048576: true; the input reads as it did. -/
def playEndsUptoRow : OpenClaim := { program := "ythhcchdjeeigpaadoor", sum := "09c41b379c2eac8ceb9faa3283e45aa3f880a7c7865354e50b4df03b29863dae", func := "warp/warplaw5.PlayEnds", spec := "playEnds", named := ["math/bits.deBruijn64tab"], plainKeys := false, apart := false, laid := [("math/bits.deBruijn64tab", laid_math_bits_deBruijn64tab)], narrowed := true }
def PlayEndsUptoSaid : Prop := playEndsUptoRow.holds Tryd.pinned (OpenSpec.upto playEndsSpec)

/-- 'warplaw5.PlayLimits', WHERE WHAT IT READS IS OF BULK AT MOST 1048576: true; the input reads as it did. -/
def playLimitsUptoRow : OpenClaim := { program := "ythhcchdjeeigpaadoor", sum := "09c41b379c2eac8ceb9faa3283e45aa3f880a7c7865354e50b4df03b29863dae", func := "warp/warplaw5.PlayLimits", spec := "playLimits", named := ["math/bits.deBruijn64tab"], plainKeys := false, apart := false, laid := [("math/bits.deBruijn64tab", laid_math_bits_deBruijn64tab)], narrowed := true }
def PlayLimitsUptoSaid : Prop := playLimitsUptoRow.holds Tryd.pinned (OpenSpec.upto playLimitsSpec)

/-- 'warplaw5.PlayOne', WHERE WHAT IT READS IS OF BULK AT MOST 1048576: true; the input reads as it did. -/
def playOneUptoRow : OpenClaim := { program := "ythhcchdjeeigpaadoor", sum := "09c41b379c2eac8ceb9faa3283e45aa3f880a7c7865354e50b4df03b29863dae", func := "warp/warplaw5.PlayOne", spec := "playOne", named := ["math/bits.deBruijn64tab"], plainKeys := false, apart := false, laid := [("math/bits.deBruijn64tab", laid_math_bits_deBruijn64tab)], narrowed := true }
def PlayOneUptoSaid : Prop := playOneUptoRow.holds Tryd.pinned (OpenSpec.upto playOneSpec)

/-- 'warplaw5.PlayPicks', WHERE WHAT IT READS IS OF BULK AT MOST 1048576: true; the input reads as it did. -/
def playPicksUptoRow : OpenClaim := { program := "ythhcchdjeeigpaadoor", sum := "09c41b379c2eac8ceb9faa3283e45aa3f880a7c7865354e50b4df03b29863dae", func := "warp/warplaw5.PlayPicks", spec := "playPicks", named := ["math/bits.deBruijn64tab"], plainKeys := false, apart := false, laid := [("math/bits.deBruijn64tab", laid_math_bits_deBruijn64tab)], narrowed := true }
def PlayPicksUptoSaid : Prop := playPicksUptoRow.holds Tryd.pinned (OpenSpec.upto playPicksSpec)

/-- 'warplaw8.TableAll', WHERE WHAT IT READS IS OF BULK AT MOST 1048576: true; the input reads as it did. -/
def tableAllUptoRow : OpenClaim := { program := "ythhcchdjeeigpaadoor", sum := "09c41b379c2eac8ceb9faa3283e45aa3f880a7c7865354e50b4df03b29863dae", func := "warp/warplaw8.TableAll", spec := "tableAll", named := ["math/bits.deBruijn64tab"], plainKeys := false, apart := false, laid := [("math/bits.deBruijn64tab", laid_math_bits_deBruijn64tab)], narrowed := true }
def TableAllUptoSaid : Prop := tableAllUptoRow.holds Tryd.pinned (OpenSpec.upto tableAllSpec)

/-- 'warplaw8.TableMade', WHERE WHAT IT READS IS OF BULK AT MOST 1048576: true; the input reads as it did. -/
def tableMadeUptoRow : OpenClaim := { program := "ythhcchdjeeigpaadoor", sum := "09c41b379c2eac8ceb9faa3283e45aa3f880a7c7865354e50b4df03b29863dae", func := "warp/warplaw8.TableMade", spec := "tableMade", named := ["math/bits.deBruijn64tab"], plainKeys := false, apart := false, laid := [("math/bits.deBruijn64tab", laid_math_bits_deBruijn64tab)], narrowed := true }
def TableMadeUptoSaid : Prop := tableMadeUptoRow.holds Tryd.pinned (OpenSpec.upto tableMadeSpec)

/-- 'warplaw8.TableOnce', WHERE WHAT IT READS IS OF BULK AT MOST 1048576: true; the input reads as it did. -/
def tableOnceUptoRow : OpenClaim := { program := "ythhcchdjeeigpaadoor", sum := "09c41b379c2eac8ceb9faa3283e45aa3f880a7c7865354e50b4df03b29863dae", func := "warp/warplaw8.TableOnce", spec := "tableOnce", named := ["math/bits.deBruijn64tab"], plainKeys := false, apart := false, laid := [("math/bits.deBruijn64tab", laid_math_bits_deBruijn64tab)], narrowed := true }
def TableOnceUptoSaid : Prop := tableOnceUptoRow.holds Tryd.pinned (OpenSpec.upto tableOnceSpec)

/-- 'warplaw8.TableAgain', WHERE WHAT IT READS IS OF BULK AT MOST 1048576: true; the input reads as it did. -/
def tableAgainUptoRow : OpenClaim := { program := "ythhcchdjeeigpaadoor", sum := "09c41b379c2eac8ceb9faa3283e45aa3f880a7c7865354e50b4df03b29863dae", func := "warp/warplaw8.TableAgain", spec := "tableAgain", named := ["math/bits.deBruijn64tab"], plainKeys := false, apart := false, laid := [("math/bits.deBruijn64tab", laid_math_bits_deBruijn64tab)], narrowed := true }
def TableAgainUptoSaid : Prop := tableAgainUptoRow.holds Tryd.pinned (OpenSpec.upto tableAgainSpec)

/-- 'warplaw8.TableOne', WHERE WHAT IT READS IS OF BULK AT MOST 1048576: true; the input reads as it did. -/
def tableOneUptoRow : OpenClaim := { program := "ythhcchdjeeigpaadoor", sum := "09c41b379c2eac8ceb9faa3283e45aa3f880a7c7865354e50b4df03b29863dae", func := "warp/warplaw8.TableOne", spec := "tableOne", named := ["math/bits.deBruijn64tab"], plainKeys := false, apart := false, laid := [("math/bits.deBruijn64tab", laid_math_bits_deBruijn64tab)], narrowed := true }
def TableOneUptoSaid : Prop := tableOneUptoRow.holds Tryd.pinned (OpenSpec.upto tableOneSpec)

end Rows
end Go.Proofs.YthhcchdjeeigpaaDoor
