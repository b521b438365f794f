/-
  DERIVED. GIVEN WITH THE SEED: THE CARDS: each row of YtajjhlncfagncaaGreatDoorRows.lean that lists a variable, with what it lists TIED to the program's text (the seventh form; the later family's looks); each row that meets fmt, with fmt's text TOLD by the authors' own Lean function (tested against real Go, not proved from fmt's source: count such statements apart). THE CARD IS WHAT COUNTS. Prove the row's statement (the work); the ties are given (YtajjhlncfagncaaGreatDoorTie.lean); close each card by the builder's one call (the guide's Derived/Test/ToyasCard.lean, 'card_holds'). Laid BY PROGRAM, IN A SANDBOX (cutbox-door.mjs). By AI agents, Wed Nov 11 2026. No macro, syntax, notation, axiom, sorry.
-/
import Derived.Test.YtajjhlncfagncaaGreatDoorRows
import GoSem.ClaimSeven
namespace Go.Proofs.YtajjhlncfagncaaGreatDoor
namespace Rows

/-- THE TIED CARD OF 'escarpmentlaw2.RatTexts'. -/
def ratTextsCard : Claim7 := { stood := { row := ratTextsRow, standIns := [], harness := (true, "4f7d44d2f208beab5c5594ccfa84f95c986c775d0a03fbf65844cfafa09bc107"), looks := true }, kinds := [], alts := [], laidByText := true, laidKinds := [.data, .data, .data, .sentinel, .sentinel], laidTests := true, laidLooks := .later }
def RatTextsCardSaid : Prop := Claim7.holds Tryz.pinned (.plain (OpenSpec.ofChange ratTextsSpec)) ratTextsCard

/-- THE TIED CARD OF 'escarpmentlaw2.RatRead'. -/
def ratReadCard : Claim7 := { stood := { row := ratReadRow, standIns := [], harness := (true, "4f7d44d2f208beab5c5594ccfa84f95c986c775d0a03fbf65844cfafa09bc107"), looks := true }, kinds := [], alts := [], laidByText := true, laidKinds := [.data, .data, .data, .sentinel, .sentinel], laidTests := true, laidLooks := .later }
def RatReadCardSaid : Prop := Claim7.holds Tryz.pinned (.plain (OpenSpec.ofChange ratReadSpec)) ratReadCard

/-- THE SECOND FORM's CARD OF 'escarpmentlaw2.RatTexts'. -/
def ratTextsUptoCard : Claim7 := { stood := { row := ratTextsUptoRow, standIns := [], harness := (true, "4f7d44d2f208beab5c5594ccfa84f95c986c775d0a03fbf65844cfafa09bc107"), looks := true }, kinds := [], alts := [], laidByText := true, laidKinds := [.data, .data, .data, .sentinel, .sentinel], laidTests := true, laidLooks := .later }
def RatTextsUptoCardSaid : Prop := Claim7.holds Tryz.pinned (.plain (OpenSpec.upto ratTextsSpec)) ratTextsUptoCard

/-- THE SECOND FORM's CARD OF 'escarpmentlaw2.RatRead'. -/
def ratReadUptoCard : Claim7 := { stood := { row := ratReadUptoRow, standIns := [], harness := (true, "4f7d44d2f208beab5c5594ccfa84f95c986c775d0a03fbf65844cfafa09bc107"), looks := true }, kinds := [], alts := [], laidByText := true, laidKinds := [.data, .data, .data, .sentinel, .sentinel], laidTests := true, laidLooks := .later }
def RatReadUptoCardSaid : Prop := Claim7.holds Tryz.pinned (.plain (OpenSpec.upto ratReadSpec)) ratReadUptoCard
end Rows
end Go.Proofs.YtajjhlncfagncaaGreatDoor
