/-
  DERIVED. GIVEN WITH THE SEED: THE CARDS: each row of YtphebogjmbaboaaDoorRows.lean that lists a variable, with what it lists TIED to the program's text (the seventh form; the later family's looks); each row that meets fmt, with fmt's text TOLD by the authors' own Lean function (tested against real Go, not proved from fmt's source: count such statements apart). THE CARD IS WHAT COUNTS. Prove the row's statement (the work); the ties are given (YtphebogjmbaboaaDoorTie.lean); close each card by the builder's one call (the guide's Derived/Test/ToyasCard.lean, 'card_holds'). Laid BY PROGRAM, IN A SANDBOX (cutbox-door.mjs). By AI agents, Wed Nov 11 2026. No macro, syntax, notation, axiom, sorry.
-/
import Derived.Test.YtphebogjmbaboaaDoorRows
import GoSem.ClaimSeven
namespace Go.Proofs.YtphebogjmbaboaaDoor
namespace Rows

/-- THE TIED CARD OF 'selvagelaw16.PrimsMake'. -/
def primsMakeCard : Claim7 := { stood := { row := primsMakeRow, standIns := [], harness := (true, "74a81f3f61481e719957963412bde1791090d50a6c2a6c3cc3a95e513a12f8f1"), looks := false }, kinds := [], alts := [], laidByText := true, laidKinds := [.data], laidTests := true, laidLooks := .later }
def PrimsMakeCardSaid : Prop := Claim7.holds Tryd.pinned (.plain (OpenSpec.ofChange primsMakeSpec)) primsMakeCard

/-- THE TIED CARD OF 'selvagelaw16.PrimsTold'. -/
def primsToldCard : Claim7 := { stood := { row := primsToldRow, standIns := [], harness := (true, "74a81f3f61481e719957963412bde1791090d50a6c2a6c3cc3a95e513a12f8f1"), looks := false }, kinds := [], alts := [], laidByText := true, laidKinds := [.data], laidTests := true, laidLooks := .later }
def PrimsToldCardSaid : Prop := Claim7.holds Tryd.pinned (.plain (OpenSpec.ofChange primsToldSpec)) primsToldCard

/-- THE TIED CARD OF 'selvagelaw16.PrimsSum'. -/
def primsSumCard : Claim7 := { stood := { row := primsSumRow, standIns := [], harness := (true, "74a81f3f61481e719957963412bde1791090d50a6c2a6c3cc3a95e513a12f8f1"), looks := false }, kinds := [], alts := [], laidByText := true, laidKinds := [.data], laidTests := true, laidLooks := .later }
def PrimsSumCardSaid : Prop := Claim7.holds Tryd.pinned (.plain (OpenSpec.ofChange primsSumSpec)) primsSumCard

/-- THE TIED CARD OF 'selvagelaw16.PrimsKeep'. -/
def primsKeepCard : Claim7 := { stood := { row := primsKeepRow, standIns := [], harness := (true, "74a81f3f61481e719957963412bde1791090d50a6c2a6c3cc3a95e513a12f8f1"), looks := false }, kinds := [], alts := [], laidByText := true, laidKinds := [.data], laidTests := true, laidLooks := .later }
def PrimsKeepCardSaid : Prop := Claim7.holds Tryd.pinned (.plain (OpenSpec.ofChange primsKeepSpec)) primsKeepCard

/-- THE TIED CARD OF 'selvagelaw16.PrimsJoin'. -/
def primsJoinCard : Claim7 := { stood := { row := primsJoinRow, standIns := [], harness := (true, "74a81f3f61481e719957963412bde1791090d50a6c2a6c3cc3a95e513a12f8f1"), looks := false }, kinds := [], alts := [], laidByText := true, laidKinds := [.data], laidTests := true, laidLooks := .later }
def PrimsJoinCardSaid : Prop := Claim7.holds Tryd.pinned (.plain (OpenSpec.ofChange primsJoinSpec)) primsJoinCard

/-- THE TIED CARD OF 'selvagelaw16.PrimsTags'. -/
def primsTagsCard : Claim7 := { stood := { row := primsTagsRow, standIns := [], harness := (true, "74a81f3f61481e719957963412bde1791090d50a6c2a6c3cc3a95e513a12f8f1"), looks := false }, kinds := [], alts := [], laidByText := true, laidKinds := [.data], laidTests := true, laidLooks := .later }
def PrimsTagsCardSaid : Prop := Claim7.holds Tryd.pinned (.plain (OpenSpec.ofChange primsTagsSpec)) primsTagsCard

/-- THE SECOND FORM's CARD OF 'selvagelaw16.PrimsMake'. -/
def primsMakeUptoCard : Claim7 := { stood := { row := primsMakeUptoRow, standIns := [], harness := (true, "74a81f3f61481e719957963412bde1791090d50a6c2a6c3cc3a95e513a12f8f1"), looks := false }, kinds := [], alts := [], laidByText := true, laidKinds := [.data], laidTests := true, laidLooks := .later }
def PrimsMakeUptoCardSaid : Prop := Claim7.holds Tryd.pinned (.plain (OpenSpec.upto primsMakeSpec)) primsMakeUptoCard

/-- THE SECOND FORM's CARD OF 'selvagelaw16.PrimsTold'. -/
def primsToldUptoCard : Claim7 := { stood := { row := primsToldUptoRow, standIns := [], harness := (true, "74a81f3f61481e719957963412bde1791090d50a6c2a6c3cc3a95e513a12f8f1"), looks := false }, kinds := [], alts := [], laidByText := true, laidKinds := [.data], laidTests := true, laidLooks := .later }
def PrimsToldUptoCardSaid : Prop := Claim7.holds Tryd.pinned (.plain (OpenSpec.upto primsToldSpec)) primsToldUptoCard

/-- THE SECOND FORM's CARD OF 'selvagelaw16.PrimsSum'. -/
def primsSumUptoCard : Claim7 := { stood := { row := primsSumUptoRow, standIns := [], harness := (true, "74a81f3f61481e719957963412bde1791090d50a6c2a6c3cc3a95e513a12f8f1"), looks := false }, kinds := [], alts := [], laidByText := true, laidKinds := [.data], laidTests := true, laidLooks := .later }
def PrimsSumUptoCardSaid : Prop := Claim7.holds Tryd.pinned (.plain (OpenSpec.upto primsSumSpec)) primsSumUptoCard

/-- THE SECOND FORM's CARD OF 'selvagelaw16.PrimsKeep'. -/
def primsKeepUptoCard : Claim7 := { stood := { row := primsKeepUptoRow, standIns := [], harness := (true, "74a81f3f61481e719957963412bde1791090d50a6c2a6c3cc3a95e513a12f8f1"), looks := false }, kinds := [], alts := [], laidByText := true, laidKinds := [.data], laidTests := true, laidLooks := .later }
def PrimsKeepUptoCardSaid : Prop := Claim7.holds Tryd.pinned (.plain (OpenSpec.upto primsKeepSpec)) primsKeepUptoCard

/-- THE SECOND FORM's CARD OF 'selvagelaw16.PrimsJoin'. -/
def primsJoinUptoCard : Claim7 := { stood := { row := primsJoinUptoRow, standIns := [], harness := (true, "74a81f3f61481e719957963412bde1791090d50a6c2a6c3cc3a95e513a12f8f1"), looks := false }, kinds := [], alts := [], laidByText := true, laidKinds := [.data], laidTests := true, laidLooks := .later }
def PrimsJoinUptoCardSaid : Prop := Claim7.holds Tryd.pinned (.plain (OpenSpec.upto primsJoinSpec)) primsJoinUptoCard

/-- THE SECOND FORM's CARD OF 'selvagelaw16.PrimsTags'. -/
def primsTagsUptoCard : Claim7 := { stood := { row := primsTagsUptoRow, standIns := [], harness := (true, "74a81f3f61481e719957963412bde1791090d50a6c2a6c3cc3a95e513a12f8f1"), looks := false }, kinds := [], alts := [], laidByText := true, laidKinds := [.data], laidTests := true, laidLooks := .later }
def PrimsTagsUptoCardSaid : Prop := Claim7.holds Tryd.pinned (.plain (OpenSpec.upto primsTagsSpec)) primsTagsUptoCard
end Rows
end Go.Proofs.YtphebogjmbaboaaDoor
