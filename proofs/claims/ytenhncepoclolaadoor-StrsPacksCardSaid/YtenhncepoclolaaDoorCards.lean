/-
  DERIVED. GIVEN WITH THE SEED: THE CARDS: each row of YtenhncepoclolaaDoorRows.lean that lists a variable, with what it lists TIED to the program's text (the seventh form; the later family's looks); each row that meets fmt, with fmt's text TOLD by the authors' own Lean function (tested against real Go, not proved from fmt's source: count such statements apart). THE CARD IS WHAT COUNTS. Prove the row's statement (the work); the ties are given (YtenhncepoclolaaDoorTie.lean); close each card by the builder's one call (the guide's Derived/Test/ToyasCard.lean, 'card_holds'). Laid BY PROGRAM, IN A SANDBOX (cutbox-door.mjs). By AI agents, Wed Nov 11 2026. No macro, syntax, notation, axiom, sorry.
-/
import Derived.Test.YtenhncepoclolaaDoorRows
import GoSem.ClaimSeven
namespace Go.Proofs.YtenhncepoclolaaDoor
namespace Rows

/-- THE TIED CARD OF 'selvagelaw03.StrsPacks'. -/
def strsPacksCard : Claim7 := { stood := { row := strsPacksRow, standIns := [], harness := (true, "5019301010bb22d85634f114e1bae1b6e98df7c3e4eb895cf5e275e1d06d085b"), looks := false }, kinds := [], alts := [], laidByText := true, laidKinds := [.data], laidTests := true, laidLooks := .later }
def StrsPacksCardSaid : Prop := Claim7.holds Tryd.pinned (.plain (OpenSpec.ofChange strsPacksSpec)) strsPacksCard

/-- THE TIED CARD OF 'selvagelaw03.StrsUnpacks'. -/
def strsUnpacksCard : Claim7 := { stood := { row := strsUnpacksRow, standIns := [], harness := (true, "5019301010bb22d85634f114e1bae1b6e98df7c3e4eb895cf5e275e1d06d085b"), looks := false }, kinds := [], alts := [], laidByText := true, laidKinds := [.data], laidTests := true, laidLooks := .later }
def StrsUnpacksCardSaid : Prop := Claim7.holds Tryd.pinned (.plain (OpenSpec.ofChange strsUnpacksSpec)) strsUnpacksCard

/-- THE TIED CARD OF 'selvagelaw03.StrsRound'. -/
def strsRoundCard : Claim7 := { stood := { row := strsRoundRow, standIns := [], harness := (true, "5019301010bb22d85634f114e1bae1b6e98df7c3e4eb895cf5e275e1d06d085b"), looks := false }, kinds := [], alts := [], laidByText := true, laidKinds := [.data], laidTests := true, laidLooks := .later }
def StrsRoundCardSaid : Prop := Claim7.holds Tryd.pinned (.plain (OpenSpec.ofChange strsRoundSpec)) strsRoundCard

/-- THE TIED CARD OF 'selvagelaw03.StrsJoins'. -/
def strsJoinsCard : Claim7 := { stood := { row := strsJoinsRow, standIns := [], harness := (true, "5019301010bb22d85634f114e1bae1b6e98df7c3e4eb895cf5e275e1d06d085b"), looks := false }, kinds := [], alts := [], laidByText := true, laidKinds := [.data], laidTests := true, laidLooks := .later }
def StrsJoinsCardSaid : Prop := Claim7.holds Tryd.pinned (.plain (OpenSpec.ofChange strsJoinsSpec)) strsJoinsCard

/-- THE TIED CARD OF 'selvagelaw03.StrsQuotes'. -/
def strsQuotesCard : Claim7 := { stood := { row := strsQuotesRow, standIns := [], harness := (true, "5019301010bb22d85634f114e1bae1b6e98df7c3e4eb895cf5e275e1d06d085b"), looks := false }, kinds := [], alts := [], laidByText := true, laidKinds := [.data], laidTests := true, laidLooks := .later }
def StrsQuotesCardSaid : Prop := Claim7.holds Tryd.pinned (.plain (OpenSpec.ofChange strsQuotesSpec)) strsQuotesCard

/-- THE TIED CARD OF 'selvagelaw03.StrsReads'. -/
def strsReadsCard : Claim7 := { stood := { row := strsReadsRow, standIns := [], harness := (true, "5019301010bb22d85634f114e1bae1b6e98df7c3e4eb895cf5e275e1d06d085b"), looks := false }, kinds := [], alts := [], laidByText := true, laidKinds := [.data], laidTests := true, laidLooks := .later }
def StrsReadsCardSaid : Prop := Claim7.holds Tryd.pinned (.plain (OpenSpec.ofChange strsReadsSpec)) strsReadsCard

/-- THE TIED CARD OF 'selvagelaw03.StrsBack'. -/
def strsBackCard : Claim7 := { stood := { row := strsBackRow, standIns := [], harness := (true, "5019301010bb22d85634f114e1bae1b6e98df7c3e4eb895cf5e275e1d06d085b"), looks := false }, kinds := [], alts := [], laidByText := true, laidKinds := [.data], laidTests := true, laidLooks := .later }
def StrsBackCardSaid : Prop := Claim7.holds Tryd.pinned (.plain (OpenSpec.ofChange strsBackSpec)) strsBackCard

/-- THE TIED CARD OF 'selvagelaw03.StrsLengths'. -/
def strsLengthsCard : Claim7 := { stood := { row := strsLengthsRow, standIns := [], harness := (true, "5019301010bb22d85634f114e1bae1b6e98df7c3e4eb895cf5e275e1d06d085b"), looks := false }, kinds := [], alts := [], laidByText := true, laidKinds := [.data], laidTests := true, laidLooks := .later }
def StrsLengthsCardSaid : Prop := Claim7.holds Tryd.pinned (.plain (OpenSpec.ofChange strsLengthsSpec)) strsLengthsCard

/-- THE TIED CARD OF 'selvagelaw03.StrsPlain'. -/
def strsPlainCard : Claim7 := { stood := { row := strsPlainRow, standIns := [], harness := (true, "5019301010bb22d85634f114e1bae1b6e98df7c3e4eb895cf5e275e1d06d085b"), looks := false }, kinds := [], alts := [], laidByText := true, laidKinds := [.data], laidTests := true, laidLooks := .later }
def StrsPlainCardSaid : Prop := Claim7.holds Tryd.pinned (.plain (OpenSpec.ofChange strsPlainSpec)) strsPlainCard

/-- THE SECOND FORM's CARD OF 'selvagelaw03.StrsPacks'. -/
def strsPacksUptoCard : Claim7 := { stood := { row := strsPacksUptoRow, standIns := [], harness := (true, "5019301010bb22d85634f114e1bae1b6e98df7c3e4eb895cf5e275e1d06d085b"), looks := false }, kinds := [], alts := [], laidByText := true, laidKinds := [.data], laidTests := true, laidLooks := .later }
def StrsPacksUptoCardSaid : Prop := Claim7.holds Tryd.pinned (.plain (OpenSpec.upto strsPacksSpec)) strsPacksUptoCard

/-- THE SECOND FORM's CARD OF 'selvagelaw03.StrsUnpacks'. -/
def strsUnpacksUptoCard : Claim7 := { stood := { row := strsUnpacksUptoRow, standIns := [], harness := (true, "5019301010bb22d85634f114e1bae1b6e98df7c3e4eb895cf5e275e1d06d085b"), looks := false }, kinds := [], alts := [], laidByText := true, laidKinds := [.data], laidTests := true, laidLooks := .later }
def StrsUnpacksUptoCardSaid : Prop := Claim7.holds Tryd.pinned (.plain (OpenSpec.upto strsUnpacksSpec)) strsUnpacksUptoCard

/-- THE SECOND FORM's CARD OF 'selvagelaw03.StrsRound'. -/
def strsRoundUptoCard : Claim7 := { stood := { row := strsRoundUptoRow, standIns := [], harness := (true, "5019301010bb22d85634f114e1bae1b6e98df7c3e4eb895cf5e275e1d06d085b"), looks := false }, kinds := [], alts := [], laidByText := true, laidKinds := [.data], laidTests := true, laidLooks := .later }
def StrsRoundUptoCardSaid : Prop := Claim7.holds Tryd.pinned (.plain (OpenSpec.upto strsRoundSpec)) strsRoundUptoCard

/-- THE SECOND FORM's CARD OF 'selvagelaw03.StrsJoins'. -/
def strsJoinsUptoCard : Claim7 := { stood := { row := strsJoinsUptoRow, standIns := [], harness := (true, "5019301010bb22d85634f114e1bae1b6e98df7c3e4eb895cf5e275e1d06d085b"), looks := false }, kinds := [], alts := [], laidByText := true, laidKinds := [.data], laidTests := true, laidLooks := .later }
def StrsJoinsUptoCardSaid : Prop := Claim7.holds Tryd.pinned (.plain (OpenSpec.upto strsJoinsSpec)) strsJoinsUptoCard

/-- THE SECOND FORM's CARD OF 'selvagelaw03.StrsQuotes'. -/
def strsQuotesUptoCard : Claim7 := { stood := { row := strsQuotesUptoRow, standIns := [], harness := (true, "5019301010bb22d85634f114e1bae1b6e98df7c3e4eb895cf5e275e1d06d085b"), looks := false }, kinds := [], alts := [], laidByText := true, laidKinds := [.data], laidTests := true, laidLooks := .later }
def StrsQuotesUptoCardSaid : Prop := Claim7.holds Tryd.pinned (.plain (OpenSpec.upto strsQuotesSpec)) strsQuotesUptoCard

/-- THE SECOND FORM's CARD OF 'selvagelaw03.StrsReads'. -/
def strsReadsUptoCard : Claim7 := { stood := { row := strsReadsUptoRow, standIns := [], harness := (true, "5019301010bb22d85634f114e1bae1b6e98df7c3e4eb895cf5e275e1d06d085b"), looks := false }, kinds := [], alts := [], laidByText := true, laidKinds := [.data], laidTests := true, laidLooks := .later }
def StrsReadsUptoCardSaid : Prop := Claim7.holds Tryd.pinned (.plain (OpenSpec.upto strsReadsSpec)) strsReadsUptoCard

/-- THE SECOND FORM's CARD OF 'selvagelaw03.StrsBack'. -/
def strsBackUptoCard : Claim7 := { stood := { row := strsBackUptoRow, standIns := [], harness := (true, "5019301010bb22d85634f114e1bae1b6e98df7c3e4eb895cf5e275e1d06d085b"), looks := false }, kinds := [], alts := [], laidByText := true, laidKinds := [.data], laidTests := true, laidLooks := .later }
def StrsBackUptoCardSaid : Prop := Claim7.holds Tryd.pinned (.plain (OpenSpec.upto strsBackSpec)) strsBackUptoCard

/-- THE SECOND FORM's CARD OF 'selvagelaw03.StrsLengths'. -/
def strsLengthsUptoCard : Claim7 := { stood := { row := strsLengthsUptoRow, standIns := [], harness := (true, "5019301010bb22d85634f114e1bae1b6e98df7c3e4eb895cf5e275e1d06d085b"), looks := false }, kinds := [], alts := [], laidByText := true, laidKinds := [.data], laidTests := true, laidLooks := .later }
def StrsLengthsUptoCardSaid : Prop := Claim7.holds Tryd.pinned (.plain (OpenSpec.upto strsLengthsSpec)) strsLengthsUptoCard

/-- THE SECOND FORM's CARD OF 'selvagelaw03.StrsPlain'. -/
def strsPlainUptoCard : Claim7 := { stood := { row := strsPlainUptoRow, standIns := [], harness := (true, "5019301010bb22d85634f114e1bae1b6e98df7c3e4eb895cf5e275e1d06d085b"), looks := false }, kinds := [], alts := [], laidByText := true, laidKinds := [.data], laidTests := true, laidLooks := .later }
def StrsPlainUptoCardSaid : Prop := Claim7.holds Tryd.pinned (.plain (OpenSpec.upto strsPlainSpec)) strsPlainUptoCard
end Rows
end Go.Proofs.YtenhncepoclolaaDoor
