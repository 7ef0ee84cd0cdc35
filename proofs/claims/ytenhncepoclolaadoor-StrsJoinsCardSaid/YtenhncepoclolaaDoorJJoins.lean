/- StrsJoins: the walk. -/
import Derived.Test.YtenhncepoclolaaDoorL
import Derived.Test.YtenhncepoclolaaDoorD
import Derived.Test.YtenhncepoclolaaDoorC
namespace Go.Proofs.YtenhncepoclolaaDoor.strsJoins
open Go.RowKit Go.Maps
open Go.Proofs.YtenhncepoclolaaDoor.P Go.Proofs.YtenhncepoclolaaDoor.A Go.Proofs.YtenhncepoclolaaDoor.L Go.Proofs.YtenhncepoclolaaDoor.D Go.Proofs.YtenhncepoclolaaDoor.C
set_option linter.unusedVariables false

theorem walk (w : World) (a0 : ByteArray) (w0 : a0.size ≤ maxLen) (a1 : ByteArray) (w1 : a1.size ≤ maxLen) (hd : Dig w) :
    Calls Tryd.prog 6 #[.string a0, .string a1] w fun e w' => e = .returned (.bool true) ∧ Below w.heap.size w w' := by
  go_enter Tryd.func6, Tryd.ntmps6
  go_wp2_with fail
  refine (few_any a0 _).mono ?_
  rintro e w1 ⟨⟨s, hs, rfl⟩, rfl⟩
  go_wp2_with fail
  refine (few_any a1 _).mono ?_
  rintro e w1 ⟨⟨t, ht, rfl⟩, rfl⟩
  by_cases h : s.size + t.size ≤ 60
  · go_wp2_with (first
      | (go_at_call 19; refine (join_short s t _ h).mono ?_; rintro e w1 ⟨rfl, hb1⟩)
      | (go_at_call 16; refine (lives_any _ (hd.below hb1)).mono ?_; rintro e w4 ⟨rfl, hb4⟩))
    go_ret
    exact ⟨rfl, bnext hb1 hb4⟩
  · go_wp2_with (first
      | (go_at_call 19; refine (join_long s t _ (by omega) (by omega) (by omega)).mono ?_; rintro e w1 ⟨rfl, rfl⟩)
      | (go_at_call 16; refine (lives_any _ hd).mono ?_; rintro e w4 ⟨rfl, hb4⟩))
    go_ret
    exact ⟨rfl, hb4⟩

end Go.Proofs.YtenhncepoclolaaDoor.strsJoins
