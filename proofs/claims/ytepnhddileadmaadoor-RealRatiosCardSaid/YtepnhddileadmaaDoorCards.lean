/-
  DERIVED. GIVEN WITH THE SEED: THE CARDS: each row of YtepnhddileadmaaDoorRows.lean that lists a variable, with what it lists TIED to the program's text (the seventh form; the later family's looks); each row that meets fmt, with fmt's text TOLD by the authors' own Lean function (tested against real Go, not proved from fmt's source: count such statements apart). THE CARD IS WHAT COUNTS. Prove the row's statement (the work); the ties are given (YtepnhddileadmaaDoorTie.lean); close each card by the builder's one call (the guide's Derived/Test/ToyasCard.lean, 'card_holds'). Laid BY PROGRAM, IN A SANDBOX (cutbox-door.mjs). By AI agents, Wed Nov 11 2026. No macro, syntax, notation, axiom, sorry.
-/
import Derived.Test.YtepnhddileadmaaDoorRows
import GoSem.ClaimSeven
namespace Go.Proofs.YtepnhddileadmaaDoor
namespace Rows

/-- THE TIED CARD OF 'wharfagelaw02.RealKinds'. -/
def realKindsCard : Claim7 := { stood := { row := realKindsRow, standIns := [], harness := (true, "ec8aec59906055e88dcdab7cc3a830c032069e54a0d716fdd0e92e4ef0ac88d4"), looks := false }, kinds := [], alts := [], laidByText := true, laidKinds := [.data, .data, .data], laidTests := true, laidLooks := .later }
def RealKindsCardSaid : Prop := Claim7.holds Tryd.pinned (.plain (OpenSpec.ofChange realKindsSpec)) realKindsCard

/-- THE TIED CARD OF 'wharfagelaw02.RealLess'. -/
def realLessCard : Claim7 := { stood := { row := realLessRow, standIns := [], harness := (true, "ec8aec59906055e88dcdab7cc3a830c032069e54a0d716fdd0e92e4ef0ac88d4"), looks := false }, kinds := [], alts := [], laidByText := true, laidKinds := [.data, .data, .data], laidTests := true, laidLooks := .later }
def RealLessCardSaid : Prop := Claim7.holds Tryd.pinned (.plain (OpenSpec.ofChange realLessSpec)) realLessCard

/-- THE TIED CARD OF 'wharfagelaw02.RealFirsts'. -/
def realFirstsCard : Claim7 := { stood := { row := realFirstsRow, standIns := [], harness := (true, "ec8aec59906055e88dcdab7cc3a830c032069e54a0d716fdd0e92e4ef0ac88d4"), looks := false }, kinds := [], alts := [], laidByText := true, laidKinds := [.data, .data, .data], laidTests := true, laidLooks := .later }
def RealFirstsCardSaid : Prop := Claim7.holds Tryd.pinned (.plain (OpenSpec.ofChange realFirstsSpec)) realFirstsCard

/-- THE TIED CARD OF 'wharfagelaw02.RealRatios'. -/
def realRatiosCard : Claim7 := { stood := { row := realRatiosRow, standIns := [], harness := (true, "ec8aec59906055e88dcdab7cc3a830c032069e54a0d716fdd0e92e4ef0ac88d4"), looks := false }, kinds := [], alts := [], laidByText := true, laidKinds := [.data, .data, .data], laidTests := true, laidLooks := .later }
def RealRatiosCardSaid : Prop := Claim7.holds Tryd.pinned (.plain (OpenSpec.ofChange realRatiosSpec)) realRatiosCard

/-- THE TIED CARD OF 'wharfagelaw02.RealCools'. -/
def realCoolsCard : Claim7 := { stood := { row := realCoolsRow, standIns := [], harness := (true, "ec8aec59906055e88dcdab7cc3a830c032069e54a0d716fdd0e92e4ef0ac88d4"), looks := false }, kinds := [], alts := [], laidByText := true, laidKinds := [.data, .data, .data], laidTests := true, laidLooks := .later }
def RealCoolsCardSaid : Prop := Claim7.holds Tryd.pinned (.plain (OpenSpec.ofChange realCoolsSpec)) realCoolsCard

/-- THE TIED CARD OF 'wharfagelaw02.RealAccepts'. -/
def realAcceptsCard : Claim7 := { stood := { row := realAcceptsRow, standIns := [], harness := (true, "ec8aec59906055e88dcdab7cc3a830c032069e54a0d716fdd0e92e4ef0ac88d4"), looks := false }, kinds := [], alts := [], laidByText := true, laidKinds := [.data, .data, .data], laidTests := true, laidLooks := .later }
def RealAcceptsCardSaid : Prop := Claim7.holds Tryd.pinned (.plain (OpenSpec.ofChange realAcceptsSpec)) realAcceptsCard

/-- THE TIED CARD OF 'wharfagelaw02.RealFairer'. -/
def realFairerCard : Claim7 := { stood := { row := realFairerRow, standIns := [], harness := (true, "ec8aec59906055e88dcdab7cc3a830c032069e54a0d716fdd0e92e4ef0ac88d4"), looks := false }, kinds := [], alts := [], laidByText := true, laidKinds := [.data, .data, .data], laidTests := true, laidLooks := .later }
def RealFairerCardSaid : Prop := Claim7.holds Tryd.pinned (.plain (OpenSpec.ofChange realFairerSpec)) realFairerCard

/-- THE TIED CARD OF 'wharfagelaw02.RealTexts'. -/
def realTextsCard : Claim7 := { stood := { row := realTextsRow, standIns := [], harness := (true, "ec8aec59906055e88dcdab7cc3a830c032069e54a0d716fdd0e92e4ef0ac88d4"), looks := false }, kinds := [], alts := [], laidByText := true, laidKinds := [.data, .data, .data], laidTests := true, laidLooks := .later }
def RealTextsCardSaid : Prop := Claim7.holds Tryd.pinned (.plain (OpenSpec.ofChange realTextsSpec)) realTextsCard

/-- THE SECOND FORM's CARD OF 'wharfagelaw02.RealKinds'. -/
def realKindsUptoCard : Claim7 := { stood := { row := realKindsUptoRow, standIns := [], harness := (true, "ec8aec59906055e88dcdab7cc3a830c032069e54a0d716fdd0e92e4ef0ac88d4"), looks := false }, kinds := [], alts := [], laidByText := true, laidKinds := [.data, .data, .data], laidTests := true, laidLooks := .later }
def RealKindsUptoCardSaid : Prop := Claim7.holds Tryd.pinned (.plain (OpenSpec.upto realKindsSpec)) realKindsUptoCard

/-- THE SECOND FORM's CARD OF 'wharfagelaw02.RealLess'. -/
def realLessUptoCard : Claim7 := { stood := { row := realLessUptoRow, standIns := [], harness := (true, "ec8aec59906055e88dcdab7cc3a830c032069e54a0d716fdd0e92e4ef0ac88d4"), looks := false }, kinds := [], alts := [], laidByText := true, laidKinds := [.data, .data, .data], laidTests := true, laidLooks := .later }
def RealLessUptoCardSaid : Prop := Claim7.holds Tryd.pinned (.plain (OpenSpec.upto realLessSpec)) realLessUptoCard

/-- THE SECOND FORM's CARD OF 'wharfagelaw02.RealFirsts'. -/
def realFirstsUptoCard : Claim7 := { stood := { row := realFirstsUptoRow, standIns := [], harness := (true, "ec8aec59906055e88dcdab7cc3a830c032069e54a0d716fdd0e92e4ef0ac88d4"), looks := false }, kinds := [], alts := [], laidByText := true, laidKinds := [.data, .data, .data], laidTests := true, laidLooks := .later }
def RealFirstsUptoCardSaid : Prop := Claim7.holds Tryd.pinned (.plain (OpenSpec.upto realFirstsSpec)) realFirstsUptoCard

/-- THE SECOND FORM's CARD OF 'wharfagelaw02.RealRatios'. -/
def realRatiosUptoCard : Claim7 := { stood := { row := realRatiosUptoRow, standIns := [], harness := (true, "ec8aec59906055e88dcdab7cc3a830c032069e54a0d716fdd0e92e4ef0ac88d4"), looks := false }, kinds := [], alts := [], laidByText := true, laidKinds := [.data, .data, .data], laidTests := true, laidLooks := .later }
def RealRatiosUptoCardSaid : Prop := Claim7.holds Tryd.pinned (.plain (OpenSpec.upto realRatiosSpec)) realRatiosUptoCard

/-- THE SECOND FORM's CARD OF 'wharfagelaw02.RealCools'. -/
def realCoolsUptoCard : Claim7 := { stood := { row := realCoolsUptoRow, standIns := [], harness := (true, "ec8aec59906055e88dcdab7cc3a830c032069e54a0d716fdd0e92e4ef0ac88d4"), looks := false }, kinds := [], alts := [], laidByText := true, laidKinds := [.data, .data, .data], laidTests := true, laidLooks := .later }
def RealCoolsUptoCardSaid : Prop := Claim7.holds Tryd.pinned (.plain (OpenSpec.upto realCoolsSpec)) realCoolsUptoCard

/-- THE SECOND FORM's CARD OF 'wharfagelaw02.RealAccepts'. -/
def realAcceptsUptoCard : Claim7 := { stood := { row := realAcceptsUptoRow, standIns := [], harness := (true, "ec8aec59906055e88dcdab7cc3a830c032069e54a0d716fdd0e92e4ef0ac88d4"), looks := false }, kinds := [], alts := [], laidByText := true, laidKinds := [.data, .data, .data], laidTests := true, laidLooks := .later }
def RealAcceptsUptoCardSaid : Prop := Claim7.holds Tryd.pinned (.plain (OpenSpec.upto realAcceptsSpec)) realAcceptsUptoCard

/-- THE SECOND FORM's CARD OF 'wharfagelaw02.RealFairer'. -/
def realFairerUptoCard : Claim7 := { stood := { row := realFairerUptoRow, standIns := [], harness := (true, "ec8aec59906055e88dcdab7cc3a830c032069e54a0d716fdd0e92e4ef0ac88d4"), looks := false }, kinds := [], alts := [], laidByText := true, laidKinds := [.data, .data, .data], laidTests := true, laidLooks := .later }
def RealFairerUptoCardSaid : Prop := Claim7.holds Tryd.pinned (.plain (OpenSpec.upto realFairerSpec)) realFairerUptoCard

/-- THE SECOND FORM's CARD OF 'wharfagelaw02.RealTexts'. -/
def realTextsUptoCard : Claim7 := { stood := { row := realTextsUptoRow, standIns := [], harness := (true, "ec8aec59906055e88dcdab7cc3a830c032069e54a0d716fdd0e92e4ef0ac88d4"), looks := false }, kinds := [], alts := [], laidByText := true, laidKinds := [.data, .data, .data], laidTests := true, laidLooks := .later }
def RealTextsUptoCardSaid : Prop := Claim7.holds Tryd.pinned (.plain (OpenSpec.upto realTextsSpec)) realTextsUptoCard
end Rows
end Go.Proofs.YtepnhddileadmaaDoor
