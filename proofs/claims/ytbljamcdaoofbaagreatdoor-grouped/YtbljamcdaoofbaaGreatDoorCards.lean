/-
  DERIVED. GIVEN WITH THE SEED: THE CARDS: each row of YtbljamcdaoofbaaGreatDoorRows.lean that lists a variable, with what it lists TIED to the program's text (the seventh form; the later family's looks); each row that meets fmt, with fmt's text TOLD by the authors' own Lean function (tested against real Go, not proved from fmt's source: count such statements apart). THE CARD IS WHAT COUNTS. Prove the row's statement (the work); the ties are given (YtbljamcdaoofbaaGreatDoorTie.lean); close each card by the builder's one call (the guide's Derived/Test/ToyasCard.lean, 'card_holds'). Laid BY PROGRAM, IN A SANDBOX (cutbox-door.mjs). By AI agents, Wed Nov 11 2026. No macro, syntax, notation, axiom, sorry.
-/
import Derived.Test.YtbljamcdaoofbaaGreatDoorRows
import GoSem.ClaimSeven
namespace Go.Proofs.YtbljamcdaoofbaaGreatDoor
namespace Rows

/-- THE TIED CARD OF 'loamlaw.Pushes'. -/
def pushesCard : Claim7 := { stood := { row := pushesRow, standIns := [], harness := (true, "deaedc2050cbd04da81c7766fd052dfa3bdc855ce7fef5e788fa63e82c25f3a1"), looks := true }, kinds := [], alts := [], laidByText := true, laidKinds := [.data, .data, .data, .data, .sentinel, .sentinel, .pinned], laidTests := true, laidLooks := .later }
def PushesCardSaid : Prop := Claim7.holds Tryz.pinned (.plain (OpenSpec.ofChange pushesSpec)) pushesCard

/-- THE TIED CARD OF 'loamlaw.Selects'. -/
def selectsCard : Claim7 := { stood := { row := selectsRow, standIns := [], harness := (true, "deaedc2050cbd04da81c7766fd052dfa3bdc855ce7fef5e788fa63e82c25f3a1"), looks := true }, kinds := [], alts := [], laidByText := true, laidKinds := [.data, .data, .data, .data, .sentinel, .sentinel, .pinned], laidTests := true, laidLooks := .later }
def SelectsCardSaid : Prop := Claim7.holds Tryz.pinned (.plain (OpenSpec.ofChange selectsSpec)) selectsCard

/-- THE TIED CARD OF 'loamkeep.Kept'. -/
def keptCard : Claim7 := { stood := { row := keptRow, standIns := [], harness := (true, "deaedc2050cbd04da81c7766fd052dfa3bdc855ce7fef5e788fa63e82c25f3a1"), looks := true }, kinds := [], alts := [], laidByText := true, laidKinds := [.data, .data, .data, .data, .sentinel, .sentinel, .pinned], laidTests := true, laidLooks := .later }
def KeptCardSaid : Prop := Claim7.holds Tryz.pinned (.plain (OpenSpec.ofChange keptSpec)) keptCard

/-- THE TIED CARD OF 'loamkeep.Turned'. -/
def turnedCard : Claim7 := { stood := { row := turnedRow, standIns := [], harness := (true, "deaedc2050cbd04da81c7766fd052dfa3bdc855ce7fef5e788fa63e82c25f3a1"), looks := true }, kinds := [], alts := [], laidByText := true, laidKinds := [.data, .data, .data, .data, .sentinel, .sentinel, .pinned], laidTests := true, laidLooks := .later }
def TurnedCardSaid : Prop := Claim7.holds Tryz.pinned (.plain (OpenSpec.ofChange turnedSpec)) turnedCard

/-- THE TIED CARD OF 'loamkeep.Dropped'. -/
def droppedCard : Claim7 := { stood := { row := droppedRow, standIns := [], harness := (true, "deaedc2050cbd04da81c7766fd052dfa3bdc855ce7fef5e788fa63e82c25f3a1"), looks := true }, kinds := [], alts := [], laidByText := true, laidKinds := [.data, .data, .data, .data, .sentinel, .sentinel, .pinned], laidTests := true, laidLooks := .later }
def DroppedCardSaid : Prop := Claim7.holds Tryz.pinned (.plain (OpenSpec.ofChange droppedSpec)) droppedCard

/-- THE TIED CARD OF 'loamlaw.All'. -/
def allCard : Claim7 := { stood := { row := allRow, standIns := [], harness := (true, "deaedc2050cbd04da81c7766fd052dfa3bdc855ce7fef5e788fa63e82c25f3a1"), looks := true }, kinds := [], alts := [], laidByText := true, laidKinds := [.data, .data, .data, .data, .sentinel, .sentinel, .pinned], laidTests := true, laidLooks := .later }
def AllCardSaid : Prop := Claim7.holds Tryz.pinned (.plain (OpenSpec.ofChange allSpec)) allCard

/-- THE TIED CARD OF 'loamkeep.Parted'. -/
def partedCard : Claim7 := { stood := { row := partedRow, standIns := [], harness := (true, "deaedc2050cbd04da81c7766fd052dfa3bdc855ce7fef5e788fa63e82c25f3a1"), looks := true }, kinds := [], alts := [], laidByText := true, laidKinds := [.data, .data, .data, .data, .sentinel, .sentinel, .pinned], laidTests := true, laidLooks := .later }
def PartedCardSaid : Prop := Claim7.holds Tryz.pinned (.plain (OpenSpec.ofChange partedSpec)) partedCard

/-- THE TIED CARD OF 'loamkeep.Grouped'. -/
def groupedCard : Claim7 := { stood := { row := groupedRow, standIns := [], harness := (true, "deaedc2050cbd04da81c7766fd052dfa3bdc855ce7fef5e788fa63e82c25f3a1"), looks := true }, kinds := [], alts := [], laidByText := true, laidKinds := [.data, .data, .data, .data, .sentinel, .sentinel, .pinned], laidTests := true, laidLooks := .later }
def GroupedCardSaid : Prop := Claim7.holds Tryz.pinned (.plain (OpenSpec.ofChange groupedSpec)) groupedCard

/-- THE TIED CARD OF 'loamkeep.Means'. -/
def meansCard : Claim7 := { stood := { row := meansRow, standIns := [], harness := (true, "deaedc2050cbd04da81c7766fd052dfa3bdc855ce7fef5e788fa63e82c25f3a1"), looks := true }, kinds := [], alts := [], laidByText := true, laidKinds := [.data, .data, .data, .data, .sentinel, .sentinel, .pinned], laidTests := true, laidLooks := .later }
def MeansCardSaid : Prop := Claim7.holds Tryz.pinned (.plain (OpenSpec.ofChange meansSpec)) meansCard

/-- THE SECOND FORM's CARD OF 'loamlaw.Pushes'. -/
def pushesUptoCard : Claim7 := { stood := { row := pushesUptoRow, standIns := [], harness := (true, "deaedc2050cbd04da81c7766fd052dfa3bdc855ce7fef5e788fa63e82c25f3a1"), looks := true }, kinds := [], alts := [], laidByText := true, laidKinds := [.data, .data, .data, .data, .sentinel, .sentinel, .pinned], laidTests := true, laidLooks := .later }
def PushesUptoCardSaid : Prop := Claim7.holds Tryz.pinned (.plain (OpenSpec.upto pushesSpec)) pushesUptoCard

/-- THE SECOND FORM's CARD OF 'loamlaw.Selects'. -/
def selectsUptoCard : Claim7 := { stood := { row := selectsUptoRow, standIns := [], harness := (true, "deaedc2050cbd04da81c7766fd052dfa3bdc855ce7fef5e788fa63e82c25f3a1"), looks := true }, kinds := [], alts := [], laidByText := true, laidKinds := [.data, .data, .data, .data, .sentinel, .sentinel, .pinned], laidTests := true, laidLooks := .later }
def SelectsUptoCardSaid : Prop := Claim7.holds Tryz.pinned (.plain (OpenSpec.upto selectsSpec)) selectsUptoCard

/-- THE SECOND FORM's CARD OF 'loamkeep.Kept'. -/
def keptUptoCard : Claim7 := { stood := { row := keptUptoRow, standIns := [], harness := (true, "deaedc2050cbd04da81c7766fd052dfa3bdc855ce7fef5e788fa63e82c25f3a1"), looks := true }, kinds := [], alts := [], laidByText := true, laidKinds := [.data, .data, .data, .data, .sentinel, .sentinel, .pinned], laidTests := true, laidLooks := .later }
def KeptUptoCardSaid : Prop := Claim7.holds Tryz.pinned (.plain (OpenSpec.upto keptSpec)) keptUptoCard

/-- THE SECOND FORM's CARD OF 'loamkeep.Turned'. -/
def turnedUptoCard : Claim7 := { stood := { row := turnedUptoRow, standIns := [], harness := (true, "deaedc2050cbd04da81c7766fd052dfa3bdc855ce7fef5e788fa63e82c25f3a1"), looks := true }, kinds := [], alts := [], laidByText := true, laidKinds := [.data, .data, .data, .data, .sentinel, .sentinel, .pinned], laidTests := true, laidLooks := .later }
def TurnedUptoCardSaid : Prop := Claim7.holds Tryz.pinned (.plain (OpenSpec.upto turnedSpec)) turnedUptoCard

/-- THE SECOND FORM's CARD OF 'loamkeep.Dropped'. -/
def droppedUptoCard : Claim7 := { stood := { row := droppedUptoRow, standIns := [], harness := (true, "deaedc2050cbd04da81c7766fd052dfa3bdc855ce7fef5e788fa63e82c25f3a1"), looks := true }, kinds := [], alts := [], laidByText := true, laidKinds := [.data, .data, .data, .data, .sentinel, .sentinel, .pinned], laidTests := true, laidLooks := .later }
def DroppedUptoCardSaid : Prop := Claim7.holds Tryz.pinned (.plain (OpenSpec.upto droppedSpec)) droppedUptoCard

/-- THE SECOND FORM's CARD OF 'loamlaw.All'. -/
def allUptoCard : Claim7 := { stood := { row := allUptoRow, standIns := [], harness := (true, "deaedc2050cbd04da81c7766fd052dfa3bdc855ce7fef5e788fa63e82c25f3a1"), looks := true }, kinds := [], alts := [], laidByText := true, laidKinds := [.data, .data, .data, .data, .sentinel, .sentinel, .pinned], laidTests := true, laidLooks := .later }
def AllUptoCardSaid : Prop := Claim7.holds Tryz.pinned (.plain (OpenSpec.upto allSpec)) allUptoCard

/-- THE SECOND FORM's CARD OF 'loamkeep.Parted'. -/
def partedUptoCard : Claim7 := { stood := { row := partedUptoRow, standIns := [], harness := (true, "deaedc2050cbd04da81c7766fd052dfa3bdc855ce7fef5e788fa63e82c25f3a1"), looks := true }, kinds := [], alts := [], laidByText := true, laidKinds := [.data, .data, .data, .data, .sentinel, .sentinel, .pinned], laidTests := true, laidLooks := .later }
def PartedUptoCardSaid : Prop := Claim7.holds Tryz.pinned (.plain (OpenSpec.upto partedSpec)) partedUptoCard

/-- THE SECOND FORM's CARD OF 'loamkeep.Grouped'. -/
def groupedUptoCard : Claim7 := { stood := { row := groupedUptoRow, standIns := [], harness := (true, "deaedc2050cbd04da81c7766fd052dfa3bdc855ce7fef5e788fa63e82c25f3a1"), looks := true }, kinds := [], alts := [], laidByText := true, laidKinds := [.data, .data, .data, .data, .sentinel, .sentinel, .pinned], laidTests := true, laidLooks := .later }
def GroupedUptoCardSaid : Prop := Claim7.holds Tryz.pinned (.plain (OpenSpec.upto groupedSpec)) groupedUptoCard

/-- THE SECOND FORM's CARD OF 'loamkeep.Means'. -/
def meansUptoCard : Claim7 := { stood := { row := meansUptoRow, standIns := [], harness := (true, "deaedc2050cbd04da81c7766fd052dfa3bdc855ce7fef5e788fa63e82c25f3a1"), looks := true }, kinds := [], alts := [], laidByText := true, laidKinds := [.data, .data, .data, .data, .sentinel, .sentinel, .pinned], laidTests := true, laidLooks := .later }
def MeansUptoCardSaid : Prop := Claim7.holds Tryz.pinned (.plain (OpenSpec.upto meansSpec)) meansUptoCard
end Rows
end Go.Proofs.YtbljamcdaoofbaaGreatDoor
