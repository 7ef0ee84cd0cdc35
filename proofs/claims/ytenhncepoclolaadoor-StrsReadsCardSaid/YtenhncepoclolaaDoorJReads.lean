/- StrsReads: the walk. -/
import Derived.Test.YtenhncepoclolaaDoorL
import Derived.Test.YtenhncepoclolaaDoorD
import Derived.Test.YtenhncepoclolaaDoorRU
namespace Go.Proofs.YtenhncepoclolaaDoor.strsReads
open Go.RowKit Go.Maps
open Go.Proofs.YtenhncepoclolaaDoor.P Go.Proofs.YtenhncepoclolaaDoor.A Go.Proofs.YtenhncepoclolaaDoor.V Go.Proofs.YtenhncepoclolaaDoor.L Go.Proofs.YtenhncepoclolaaDoor.D Go.Proofs.YtenhncepoclolaaDoor.RU Go.Proofs.YtenhncepoclolaaDoor.Q
set_option linter.unusedVariables false

theorem walk (w : World) (a0 : ByteArray) (w0 : a0.size ≤ maxLen) (hd : Dig w) :
    Calls Tryd.prog 8 #[.string a0] w fun e w' => e = .returned (.bool true) ∧ Below w.heap.size w w' := by
  go_enter Tryd.func8, Tryd.ntmps8
  go_wp2_with fail
  refine (few_any a0 _).mono ?_
  rintro e w1 ⟨⟨s, hs, rfl⟩, rfl⟩
  obtain ⟨r, hr⟩ : ∃ r, Hid (r = unq s.data.toList) := ⟨_, rfl⟩
  have e1 := fun w hd => unquote_any s w (by omega) hd
  have e2 := fun w => runq_any s w (by omega)
  rw [← hr.out] at e1 e2
  go_wp2_with (first
    | (go_at_call 22; refine (e1 _ hd).mono ?_; rintro e w2 ⟨rfl, hb2⟩)
    | (go_at_call 23; refine (e2 _).mono ?_; rintro e w3 ⟨rfl, hb3⟩)
    | (go_at_call 16; refine (lives_any _ (hd.next hb2 hb3)).mono ?_; rintro e w4 ⟨rfl, hb4⟩))
  go_ret
  exact ⟨rfl, bnext (bnext hb2 hb3) hb4⟩

end Go.Proofs.YtenhncepoclolaaDoor.strsReads
