/-
  DERIVED. GIVEN WITH THE SEED: THE CARDS: each row of YteedkkimcfddfaaDoorRows.lean that lists a variable, with what it lists TIED to the program's text (the seventh form; the later family's looks); each row that meets fmt, with fmt's text TOLD by the authors' own Lean function (tested against real Go, not proved from fmt's source: count such statements apart). THE CARD IS WHAT COUNTS. Prove the row's statement (the work); the ties are given (YteedkkimcfddfaaDoorTie.lean); close each card by the builder's one call (the guide's Derived/Test/ToyasCard.lean, 'card_holds'). Laid BY PROGRAM, IN A SANDBOX (cutbox-door.mjs). By AI agents, Wed Nov 11 2026. No macro, syntax, notation, axiom, sorry.
-/
import Derived.Test.YteedkkimcfddfaaDoorRows
import GoSem.ClaimSeven
namespace Go.Proofs.YteedkkimcfddfaaDoor
namespace Rows

/-- THE TIED CARD OF 'warplaw2.PickAll'. -/
def pickAllCard : Claim7 := { stood := { row := pickAllRow, standIns := [], harness := (true, "85383f4ea7f12add8d3f98d58bb3e34cae2863209cfc4685d3057215240d8c2e"), looks := false }, kinds := [], alts := [], laidByText := true, laidKinds := [.data], laidTests := true, laidLooks := .later }
def PickAllCardSaid : Prop := Claim7.holds Tryd.pinned (.plain (OpenSpec.ofChange pickAllSpec)) pickAllCard

/-- THE TIED CARD OF 'warplaw2.PickRuns'. -/
def pickRunsCard : Claim7 := { stood := { row := pickRunsRow, standIns := [], harness := (true, "85383f4ea7f12add8d3f98d58bb3e34cae2863209cfc4685d3057215240d8c2e"), looks := false }, kinds := [], alts := [], laidByText := true, laidKinds := [.data], laidTests := true, laidLooks := .later }
def PickRunsCardSaid : Prop := Claim7.holds Tryd.pinned (.plain (OpenSpec.ofChange pickRunsSpec)) pickRunsCard

/-- THE TIED CARD OF 'warplaw2.PickTurns'. -/
def pickTurnsCard : Claim7 := { stood := { row := pickTurnsRow, standIns := [], harness := (true, "85383f4ea7f12add8d3f98d58bb3e34cae2863209cfc4685d3057215240d8c2e"), looks := false }, kinds := [], alts := [], laidByText := true, laidKinds := [.data], laidTests := true, laidLooks := .later }
def PickTurnsCardSaid : Prop := Claim7.holds Tryd.pinned (.plain (OpenSpec.ofChange pickTurnsSpec)) pickTurnsCard

/-- THE TIED CARD OF 'warplaw2.PickPlaces'. -/
def pickPlacesCard : Claim7 := { stood := { row := pickPlacesRow, standIns := [], harness := (true, "85383f4ea7f12add8d3f98d58bb3e34cae2863209cfc4685d3057215240d8c2e"), looks := false }, kinds := [], alts := [], laidByText := true, laidKinds := [.data], laidTests := true, laidLooks := .later }
def PickPlacesCardSaid : Prop := Claim7.holds Tryd.pinned (.plain (OpenSpec.ofChange pickPlacesSpec)) pickPlacesCard

/-- THE SECOND FORM's CARD OF 'warplaw2.PickAll'. -/
def pickAllUptoCard : Claim7 := { stood := { row := pickAllUptoRow, standIns := [], harness := (true, "85383f4ea7f12add8d3f98d58bb3e34cae2863209cfc4685d3057215240d8c2e"), looks := false }, kinds := [], alts := [], laidByText := true, laidKinds := [.data], laidTests := true, laidLooks := .later }
def PickAllUptoCardSaid : Prop := Claim7.holds Tryd.pinned (.plain (OpenSpec.upto pickAllSpec)) pickAllUptoCard

/-- THE SECOND FORM's CARD OF 'warplaw2.PickRuns'. -/
def pickRunsUptoCard : Claim7 := { stood := { row := pickRunsUptoRow, standIns := [], harness := (true, "85383f4ea7f12add8d3f98d58bb3e34cae2863209cfc4685d3057215240d8c2e"), looks := false }, kinds := [], alts := [], laidByText := true, laidKinds := [.data], laidTests := true, laidLooks := .later }
def PickRunsUptoCardSaid : Prop := Claim7.holds Tryd.pinned (.plain (OpenSpec.upto pickRunsSpec)) pickRunsUptoCard

/-- THE SECOND FORM's CARD OF 'warplaw2.PickTurns'. -/
def pickTurnsUptoCard : Claim7 := { stood := { row := pickTurnsUptoRow, standIns := [], harness := (true, "85383f4ea7f12add8d3f98d58bb3e34cae2863209cfc4685d3057215240d8c2e"), looks := false }, kinds := [], alts := [], laidByText := true, laidKinds := [.data], laidTests := true, laidLooks := .later }
def PickTurnsUptoCardSaid : Prop := Claim7.holds Tryd.pinned (.plain (OpenSpec.upto pickTurnsSpec)) pickTurnsUptoCard

/-- THE SECOND FORM's CARD OF 'warplaw2.PickPlaces'. -/
def pickPlacesUptoCard : Claim7 := { stood := { row := pickPlacesUptoRow, standIns := [], harness := (true, "85383f4ea7f12add8d3f98d58bb3e34cae2863209cfc4685d3057215240d8c2e"), looks := false }, kinds := [], alts := [], laidByText := true, laidKinds := [.data], laidTests := true, laidLooks := .later }
def PickPlacesUptoCardSaid : Prop := Claim7.holds Tryd.pinned (.plain (OpenSpec.upto pickPlacesSpec)) pickPlacesUptoCard
end Rows
end Go.Proofs.YteedkkimcfddfaaDoor
