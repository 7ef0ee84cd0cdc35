/- The document's examples: true, whenever the digits' table is as it was laid. -/
import Derived.Test.YtenhncepoclolaaDoorE
import Derived.Test.YtenhncepoclolaaDoorV
import Derived.Test.YtenhncepoclolaaDoorK
import Derived.Test.YtenhncepoclolaaDoorI
namespace Go.Proofs.YtenhncepoclolaaDoor.L
open Go.RowKit Go.Maps Go.Proofs.YtenhncepoclolaaDoor.P Go.Proofs.YtenhncepoclolaaDoor.A Go.Proofs.YtenhncepoclolaaDoor.E Go.Proofs.YtenhncepoclolaaDoor.V Go.Proofs.YtenhncepoclolaaDoor.K Go.Proofs.YtenhncepoclolaaDoor.I Go.Proofs.YtenhncepoclolaaDoor.Q Go.Proofs.YtenhncepoclolaaDoor.O
set_option linter.unusedVariables false

theorem un7 : unq (⟨#[34, 92, 120, 52, 49, 34, 122]⟩ : ByteArray).data.toList = ([65], 6, 0) := by decide
theorem qu3 : quoteL (⟨#[97, 10, 34]⟩ : ByteArray).data.toList = [34, 97, 92, 110, 92, 34, 34] := by decide

theorem lives_any (w : World) (hd : Dig w) :
    Calls Tryd.prog 16 #[] w fun e w' => e = .returned (.bool true) ∧ Below w.heap.size w w' := by
  go_enter Tryd.func16, Tryd.ntmps16
  go_wp2_with (first
    | (go_at_call 13; go_loud (refine (pack_short ⟨#[97, 98]⟩ _ (by decide)).mono ?_); rintro e w1 ⟨⟨m, rfl, rfl, hown1⟩, hb1⟩; have hd1 := hd.below hb1)
    | (go_at_call 15; go_loud (refine (same_any _ _ [2, 25185] [2, 25185] _ (own_has (hown1.alloc _)) (own_has (World.ownsRow_lit _ _ _ (Nat.zero_le _) (by decide) rfl)) (by decide)).mono ?_); rintro e w2 ⟨rfl, hb2⟩)
    | (go_at_call 22; refine (unquote_any ⟨#[34, 92, 120, 52, 49, 34, 122]⟩ _ (by decide) ((hd1.below ((Below.refl _ _).alloc (Nat.le_refl _) _)).below hb2)).mono ?_; rw [un7]; rintro e w3 ⟨rfl, hb3⟩; have hd3 := ((hd1.below ((Below.refl _ _).alloc (Nat.le_refl _) _)).below hb2).below hb3)
    | (go_at_call 20; go_loud (refine (quote_any ⟨#[97, 10, 34]⟩ _ (by decide) hd3).mono ?_; rw [qu3]; rintro e w4 ⟨rfl, hb4⟩)))
  go_ret
  refine ⟨rfl, ?_⟩
  have s1 := hb1.size
  have s2 := hb2.size
  have s3 := hb3.size
  have hb2' := hb2.mono (B' := w.heap.size) (by simp; omega)
  have hb12 := (hb1.alloc s1 _).trans hb2'
  have s12 := hb12.size
  exact (hb12.trans (hb3.mono s12)).trans (hb4.mono (by omega))
end Go.Proofs.YtenhncepoclolaaDoor.L
