/-
  NARROWER THAN 'FOR EVERY INPUT', by the rows' own cells (each row's printed sentence says how): PrimsMake: laid · PrimsTold: laid · PrimsSum: laid · PrimsKeep: laid · PrimsJoin: laid · PrimsTags: laid.
  DERIVED. THE GIVEN ROWS OF THIS SEAT. 6 by the template 'for every input the law returns true; each argument reads behind the call as it read before'; 0 by the template 'total and deterministic' (their statements: YtphebogjmbaboaaDoorTotals.lean).
  GIVEN WITH THE SEED: the statements are not yours to turn. If you find one false, say at which input.
  Laid BY PROGRAM, IN A SANDBOX (cutbox-rows.mjs): the forced cells as the released guide's own fill.sh prints them over the translation 2cdf295270041993… (all of the seat's roots in one cut). By AI agents, Wed Nov 11 2026. No macro, syntax, notation, axiom, sorry.
-/
import Derived.Test.YtphebogjmbaboaaDoorChecked
import GoSem.Claim
import GoSem.ClaimJoined
import GoSem.ClaimMapViews
import Derived.JoinedTies
import Derived.KernelRfl
namespace Go.Proofs.YtphebogjmbaboaaDoor
/- THE CELL 'sum', in the pinned program and in every row, IS THE sha256 OF THE DUMP (.gsa) THAT YtphebogjmbaboaaDoorProg.lean LOADS. Nothing in Lean hashes anything: it is a label: what it is worth is what the hold of that sum in a sandbox is worth. -/
noncomputable def Tryd.pinned : Pinned := { name := "ytphebogjmbaboaadoor", sum := "2cdf2952700419933c566741438d87589e57ac57379b9e82c1402833cfb81b54", checked := Tryd.checked }
namespace Rows
def none {H : Type} : Left H := { results := [], args := [] }

/- WHAT THE LISTED PACKAGE-LEVEL VARIABLES READ AS WHEN THE CALL BEGINS. Each datum BY PROGRAM (the guide's laid-datum.mjs) off the statement by which the dump's own 'gosem.cut.vars' lays the variable. In a bare row this is a premise. The card (YtphebogjmbaboaaDoorCards.lean) ties it to the program's text. -/
def laid_selvage_prims_signs {H : Type} : DataW H := .agg [.lit (.string [43]), .lit (.string [45]), .lit (.string [42]), .lit (.string [47]), .lit (.string [37]), .lit (.string [61]), .lit (.string [60])]

/-- 'selvagelaw16.PrimsMake': WHATEVER THE INPUT: true; the input reads as it did. -/
def primsMakeSpec : ChangeSpec := { name := "primsMake", fn := fun _ => fun
  | [d] => { results := [.lit (.bool true)], args := [d] }
  | _ => none }
def primsMakeRow : OpenClaim := { program := "ytphebogjmbaboaadoor", sum := "2cdf2952700419933c566741438d87589e57ac57379b9e82c1402833cfb81b54", func := "selvage/selvagelaw16.PrimsMake", spec := "primsMake", named := ["selvage/prims.signs"], apart := false, laid := [("selvage/prims.signs", laid_selvage_prims_signs)] }
def PrimsMakeSaid : Prop := primsMakeRow.holds Tryd.pinned (OpenSpec.ofChange primsMakeSpec)

/-- ITS FALSE NEIGHBOUR: 'it returns false'. Refute it at one input. -/
def primsMakeWrong : ChangeSpec := { name := "primsMake", fn := fun _ => fun
  | [d] => { results := [.lit (.bool false)], args := [d] }
  | _ => none }
def PrimsMakeWrongFalsely : Prop := primsMakeRow.holds Tryd.pinned (OpenSpec.ofChange primsMakeWrong)

/-- 'selvagelaw16.PrimsTold': WHATEVER THE INPUT: true; the input reads as it did. -/
def primsToldSpec : ChangeSpec := { name := "primsTold", fn := fun _ => fun
  | [d1, d2] => { results := [.lit (.bool true)], args := [d1, d2] }
  | _ => none }
def primsToldRow : OpenClaim := { program := "ytphebogjmbaboaadoor", sum := "2cdf2952700419933c566741438d87589e57ac57379b9e82c1402833cfb81b54", func := "selvage/selvagelaw16.PrimsTold", spec := "primsTold", named := ["selvage/prims.signs"], apart := false, laid := [("selvage/prims.signs", laid_selvage_prims_signs)] }
def PrimsToldSaid : Prop := primsToldRow.holds Tryd.pinned (OpenSpec.ofChange primsToldSpec)

/-- ITS FALSE NEIGHBOUR: 'it returns false'. Refute it at one input. -/
def primsToldWrong : ChangeSpec := { name := "primsTold", fn := fun _ => fun
  | [d1, d2] => { results := [.lit (.bool false)], args := [d1, d2] }
  | _ => none }
def PrimsToldWrongFalsely : Prop := primsToldRow.holds Tryd.pinned (OpenSpec.ofChange primsToldWrong)

/-- 'selvagelaw16.PrimsSum': WHATEVER THE INPUT: true; the input reads as it did. -/
def primsSumSpec : ChangeSpec := { name := "primsSum", fn := fun _ => fun
  | [d1, d2, d3] => { results := [.lit (.bool true)], args := [d1, d2, d3] }
  | _ => none }
def primsSumRow : OpenClaim := { program := "ytphebogjmbaboaadoor", sum := "2cdf2952700419933c566741438d87589e57ac57379b9e82c1402833cfb81b54", func := "selvage/selvagelaw16.PrimsSum", spec := "primsSum", named := ["selvage/prims.signs"], apart := false, laid := [("selvage/prims.signs", laid_selvage_prims_signs)] }
def PrimsSumSaid : Prop := primsSumRow.holds Tryd.pinned (OpenSpec.ofChange primsSumSpec)

/-- ITS FALSE NEIGHBOUR: 'it returns false'. Refute it at one input. -/
def primsSumWrong : ChangeSpec := { name := "primsSum", fn := fun _ => fun
  | [d1, d2, d3] => { results := [.lit (.bool false)], args := [d1, d2, d3] }
  | _ => none }
def PrimsSumWrongFalsely : Prop := primsSumRow.holds Tryd.pinned (OpenSpec.ofChange primsSumWrong)

/-- 'selvagelaw16.PrimsKeep': WHATEVER THE INPUT: true; the input reads as it did. -/
def primsKeepSpec : ChangeSpec := { name := "primsKeep", fn := fun _ => fun
  | [d1, d2, d3] => { results := [.lit (.bool true)], args := [d1, d2, d3] }
  | _ => none }
def primsKeepRow : OpenClaim := { program := "ytphebogjmbaboaadoor", sum := "2cdf2952700419933c566741438d87589e57ac57379b9e82c1402833cfb81b54", func := "selvage/selvagelaw16.PrimsKeep", spec := "primsKeep", unfollowed := true, recurses := true, named := ["selvage/prims.signs"], apart := false, laid := [("selvage/prims.signs", laid_selvage_prims_signs)] }
def PrimsKeepSaid : Prop := primsKeepRow.holds Tryd.pinned (OpenSpec.ofChange primsKeepSpec)

/-- ITS FALSE NEIGHBOUR: 'it returns false'. Refute it at one input. -/
def primsKeepWrong : ChangeSpec := { name := "primsKeep", fn := fun _ => fun
  | [d1, d2, d3] => { results := [.lit (.bool false)], args := [d1, d2, d3] }
  | _ => none }
def PrimsKeepWrongFalsely : Prop := primsKeepRow.holds Tryd.pinned (OpenSpec.ofChange primsKeepWrong)

/-- 'selvagelaw16.PrimsJoin': WHATEVER THE INPUT: true; the input reads as it did. -/
def primsJoinSpec : ChangeSpec := { name := "primsJoin", fn := fun _ => fun
  | [d1, d2] => { results := [.lit (.bool true)], args := [d1, d2] }
  | _ => none }
def primsJoinRow : OpenClaim := { program := "ytphebogjmbaboaadoor", sum := "2cdf2952700419933c566741438d87589e57ac57379b9e82c1402833cfb81b54", func := "selvage/selvagelaw16.PrimsJoin", spec := "primsJoin", named := ["selvage/prims.signs"], apart := false, laid := [("selvage/prims.signs", laid_selvage_prims_signs)] }
def PrimsJoinSaid : Prop := primsJoinRow.holds Tryd.pinned (OpenSpec.ofChange primsJoinSpec)

/-- ITS FALSE NEIGHBOUR: 'it returns false'. Refute it at one input. -/
def primsJoinWrong : ChangeSpec := { name := "primsJoin", fn := fun _ => fun
  | [d1, d2] => { results := [.lit (.bool false)], args := [d1, d2] }
  | _ => none }
def PrimsJoinWrongFalsely : Prop := primsJoinRow.holds Tryd.pinned (OpenSpec.ofChange primsJoinWrong)

/-- 'selvagelaw16.PrimsTags': WHATEVER THE INPUT: true; the input reads as it did. -/
def primsTagsSpec : ChangeSpec := { name := "primsTags", fn := fun _ => fun
  | [d1, d2, d3] => { results := [.lit (.bool true)], args := [d1, d2, d3] }
  | _ => none }
def primsTagsRow : OpenClaim := { program := "ytphebogjmbaboaadoor", sum := "2cdf2952700419933c566741438d87589e57ac57379b9e82c1402833cfb81b54", func := "selvage/selvagelaw16.PrimsTags", spec := "primsTags", named := ["selvage/prims.signs"], apart := false, laid := [("selvage/prims.signs", laid_selvage_prims_signs)] }
def PrimsTagsSaid : Prop := primsTagsRow.holds Tryd.pinned (OpenSpec.ofChange primsTagsSpec)

/-- ITS FALSE NEIGHBOUR: 'it returns false'. Refute it at one input. -/
def primsTagsWrong : ChangeSpec := { name := "primsTags", fn := fun _ => fun
  | [d1, d2, d3] => { results := [.lit (.bool false)], args := [d1, d2, d3] }
  | _ => none }
def PrimsTagsWrongFalsely : Prop := primsTagsRow.holds Tryd.pinned (OpenSpec.ofChange primsTagsWrong)

/- THE SECOND FORM. 'bulk': how many values and letters a reading holds, each counted each time it is reached (what is shared counts as often as it is met; a slice's spare places count too). A statement '..UptoSaid' is the law's where the arguments, and the package variables that the reading takes, are together of bulk at most 1048576: NARROWER than '..Said'. Prove '..Said' where nothing that the law and all that it calls make is longer than what came in: it says more and counts as full. Else prove '..UptoSaid'. A law counts once. -/
mutual
def uptoBulk {H : Type} : DataW H → Nat
  | .lit (.string bytes) => bytes.length + 1
  | .lit _ => 1
  | .nil => 1
  | .ptr d => uptoBulk d + 1
  | .slice elems spare => uptoBulkAll elems + uptoBulkAll spare + 1
  | .agg parts => uptoBulkAll parts + 1
  | .iface _ d => uptoBulk d + 1
  | .map entries => uptoBulkEntries entries + 1
  | .held _ => 1
def uptoBulkAll {H : Type} : List (DataW H) → Nat
  | [] => 0
  | d :: r => uptoBulk d + uptoBulkAll r
def uptoBulkEntries {H : Type} : List (Lit × DataW H) → Nat
  | [] => 0
  | x :: r => uptoBulkEntry x + uptoBulkEntries r
def uptoBulkEntry {H : Type} : Lit × DataW H → Nat
  | (.string bytes, d) => bytes.length + uptoBulk d + 1
  | (_, d) => uptoBulk d + 1
 end
def uptoSmall : (H : Type) → List (DataW H) → Bool := fun _ ds => decide (uptoBulkAll ds ≤ 1048576)
def OpenSpec.upto (s : _root_.Go.ChangeSpec) : _root_.Go.OpenSpec := { _root_.Go.OpenSpec.ofChange s with cond := some uptoSmall }

/-- 'selvagelaw16.PrimsMake', WHERE WHAT IT READS IS OF BULK AT MOST 1048576: true; the input reads as it did. -/
def primsMakeUptoRow : OpenClaim := { program := "ytphebogjmbaboaadoor", sum := "2cdf2952700419933c566741438d87589e57ac57379b9e82c1402833cfb81b54", func := "selvage/selvagelaw16.PrimsMake", spec := "primsMake", named := ["selvage/prims.signs"], apart := false, laid := [("selvage/prims.signs", laid_selvage_prims_signs)], narrowed := true }
def PrimsMakeUptoSaid : Prop := primsMakeUptoRow.holds Tryd.pinned (OpenSpec.upto primsMakeSpec)

/-- 'selvagelaw16.PrimsTold', WHERE WHAT IT READS IS OF BULK AT MOST 1048576: true; the input reads as it did. -/
def primsToldUptoRow : OpenClaim := { program := "ytphebogjmbaboaadoor", sum := "2cdf2952700419933c566741438d87589e57ac57379b9e82c1402833cfb81b54", func := "selvage/selvagelaw16.PrimsTold", spec := "primsTold", named := ["selvage/prims.signs"], apart := false, laid := [("selvage/prims.signs", laid_selvage_prims_signs)], narrowed := true }
def PrimsToldUptoSaid : Prop := primsToldUptoRow.holds Tryd.pinned (OpenSpec.upto primsToldSpec)

/-- 'selvagelaw16.PrimsSum', WHERE WHAT IT READS IS OF BULK AT MOST 1048576: true; the input reads as it did. -/
def primsSumUptoRow : OpenClaim := { program := "ytphebogjmbaboaadoor", sum := "2cdf2952700419933c566741438d87589e57ac57379b9e82c1402833cfb81b54", func := "selvage/selvagelaw16.PrimsSum", spec := "primsSum", named := ["selvage/prims.signs"], apart := false, laid := [("selvage/prims.signs", laid_selvage_prims_signs)], narrowed := true }
def PrimsSumUptoSaid : Prop := primsSumUptoRow.holds Tryd.pinned (OpenSpec.upto primsSumSpec)

/-- 'selvagelaw16.PrimsKeep', WHERE WHAT IT READS IS OF BULK AT MOST 1048576: true; the input reads as it did. -/
def primsKeepUptoRow : OpenClaim := { program := "ytphebogjmbaboaadoor", sum := "2cdf2952700419933c566741438d87589e57ac57379b9e82c1402833cfb81b54", func := "selvage/selvagelaw16.PrimsKeep", spec := "primsKeep", unfollowed := true, recurses := true, named := ["selvage/prims.signs"], apart := false, laid := [("selvage/prims.signs", laid_selvage_prims_signs)], narrowed := true }
def PrimsKeepUptoSaid : Prop := primsKeepUptoRow.holds Tryd.pinned (OpenSpec.upto primsKeepSpec)

/-- 'selvagelaw16.PrimsJoin', WHERE WHAT IT READS IS OF BULK AT MOST 1048576: true; the input reads as it did. -/
def primsJoinUptoRow : OpenClaim := { program := "ytphebogjmbaboaadoor", sum := "2cdf2952700419933c566741438d87589e57ac57379b9e82c1402833cfb81b54", func := "selvage/selvagelaw16.PrimsJoin", spec := "primsJoin", named := ["selvage/prims.signs"], apart := false, laid := [("selvage/prims.signs", laid_selvage_prims_signs)], narrowed := true }
def PrimsJoinUptoSaid : Prop := primsJoinUptoRow.holds Tryd.pinned (OpenSpec.upto primsJoinSpec)

/-- 'selvagelaw16.PrimsTags', WHERE WHAT IT READS IS OF BULK AT MOST 1048576: true; the input reads as it did. -/
def primsTagsUptoRow : OpenClaim := { program := "ytphebogjmbaboaadoor", sum := "2cdf2952700419933c566741438d87589e57ac57379b9e82c1402833cfb81b54", func := "selvage/selvagelaw16.PrimsTags", spec := "primsTags", named := ["selvage/prims.signs"], apart := false, laid := [("selvage/prims.signs", laid_selvage_prims_signs)], narrowed := true }
def PrimsTagsUptoSaid : Prop := primsTagsUptoRow.holds Tryd.pinned (OpenSpec.upto primsTagsSpec)

end Rows
end Go.Proofs.YtphebogjmbaboaaDoor
