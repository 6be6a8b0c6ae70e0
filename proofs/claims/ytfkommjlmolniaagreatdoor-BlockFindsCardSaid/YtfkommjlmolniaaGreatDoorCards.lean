/-
  DERIVED. GIVEN WITH THE SEED: THE CARDS: each row of YtfkommjlmolniaaGreatDoorRows.lean that lists a variable, with what it lists TIED to the program's text (the seventh form; the later family's looks); each row that meets fmt, with fmt's text TOLD by the authors' own Lean function (tested against real Go, not proved from fmt's source: count such statements apart). THE CARD IS WHAT COUNTS. Prove the row's statement (the work); the ties are given (YtfkommjlmolniaaGreatDoorTie.lean); close each card by the builder's one call (the guide's Derived/Test/ToyasCard.lean, 'card_holds'). Laid BY PROGRAM, IN A SANDBOX (cutbox-door.mjs). By AI agents, Wed Nov 11 2026. No macro, syntax, notation, axiom, sorry.
-/
import Derived.Test.YtfkommjlmolniaaGreatDoorRows
import GoSem.ClaimSeven
namespace Go.Proofs.YtfkommjlmolniaaGreatDoor
namespace Rows

/-- THE TIED CARD OF 'wharfagelaw15.BlockCounts'. -/
def blockCountsCard : Claim7 := { stood := { row := blockCountsRow, standIns := [], harness := (true, "6834de69650d624bd7e89db6dcae1b2cd53ff52388fdef6eefa796c9b50a5df1"), looks := true }, kinds := [], alts := [], laidByText := true, laidKinds := [.data], laidTests := true, laidLooks := .later }
def BlockCountsCardSaid : Prop := Claim7.holds Tryz.pinned (.plain (OpenSpec.ofChange blockCountsSpec)) blockCountsCard

/-- THE TIED CARD OF 'wharfagelaw15.BlockFinds'. -/
def blockFindsCard : Claim7 := { stood := { row := blockFindsRow, standIns := [], harness := (true, "6834de69650d624bd7e89db6dcae1b2cd53ff52388fdef6eefa796c9b50a5df1"), looks := true }, kinds := [], alts := [], laidByText := true, laidKinds := [.data], laidTests := true, laidLooks := .later }
def BlockFindsCardSaid : Prop := Claim7.holds Tryz.pinned (.plain (OpenSpec.ofChange blockFindsSpec)) blockFindsCard

/-- THE TIED CARD OF 'wharfagelaw15.BlockNone'. -/
def blockNoneCard : Claim7 := { stood := { row := blockNoneRow, standIns := [], harness := (true, "6834de69650d624bd7e89db6dcae1b2cd53ff52388fdef6eefa796c9b50a5df1"), looks := true }, kinds := [], alts := [], laidByText := true, laidKinds := [.data], laidTests := true, laidLooks := .later }
def BlockNoneCardSaid : Prop := Claim7.holds Tryz.pinned (.plain (OpenSpec.ofChange blockNoneSpec)) blockNoneCard

/-- THE TIED CARD OF 'wharfagelaw15.BlockLess'. -/
def blockLessCard : Claim7 := { stood := { row := blockLessRow, standIns := [], harness := (true, "6834de69650d624bd7e89db6dcae1b2cd53ff52388fdef6eefa796c9b50a5df1"), looks := true }, kinds := [], alts := [], laidByText := true, laidKinds := [.data], laidTests := true, laidLooks := .later }
def BlockLessCardSaid : Prop := Claim7.holds Tryz.pinned (.plain (OpenSpec.ofChange blockLessSpec)) blockLessCard

/-- THE SECOND FORM's CARD OF 'wharfagelaw15.BlockCounts'. -/
def blockCountsUptoCard : Claim7 := { stood := { row := blockCountsUptoRow, standIns := [], harness := (true, "6834de69650d624bd7e89db6dcae1b2cd53ff52388fdef6eefa796c9b50a5df1"), looks := true }, kinds := [], alts := [], laidByText := true, laidKinds := [.data], laidTests := true, laidLooks := .later }
def BlockCountsUptoCardSaid : Prop := Claim7.holds Tryz.pinned (.plain (OpenSpec.upto blockCountsSpec)) blockCountsUptoCard

/-- THE SECOND FORM's CARD OF 'wharfagelaw15.BlockFinds'. -/
def blockFindsUptoCard : Claim7 := { stood := { row := blockFindsUptoRow, standIns := [], harness := (true, "6834de69650d624bd7e89db6dcae1b2cd53ff52388fdef6eefa796c9b50a5df1"), looks := true }, kinds := [], alts := [], laidByText := true, laidKinds := [.data], laidTests := true, laidLooks := .later }
def BlockFindsUptoCardSaid : Prop := Claim7.holds Tryz.pinned (.plain (OpenSpec.upto blockFindsSpec)) blockFindsUptoCard

/-- THE SECOND FORM's CARD OF 'wharfagelaw15.BlockNone'. -/
def blockNoneUptoCard : Claim7 := { stood := { row := blockNoneUptoRow, standIns := [], harness := (true, "6834de69650d624bd7e89db6dcae1b2cd53ff52388fdef6eefa796c9b50a5df1"), looks := true }, kinds := [], alts := [], laidByText := true, laidKinds := [.data], laidTests := true, laidLooks := .later }
def BlockNoneUptoCardSaid : Prop := Claim7.holds Tryz.pinned (.plain (OpenSpec.upto blockNoneSpec)) blockNoneUptoCard

/-- THE SECOND FORM's CARD OF 'wharfagelaw15.BlockLess'. -/
def blockLessUptoCard : Claim7 := { stood := { row := blockLessUptoRow, standIns := [], harness := (true, "6834de69650d624bd7e89db6dcae1b2cd53ff52388fdef6eefa796c9b50a5df1"), looks := true }, kinds := [], alts := [], laidByText := true, laidKinds := [.data], laidTests := true, laidLooks := .later }
def BlockLessUptoCardSaid : Prop := Claim7.holds Tryz.pinned (.plain (OpenSpec.upto blockLessSpec)) blockLessUptoCard
end Rows
end Go.Proofs.YtfkommjlmolniaaGreatDoor
