/- StrsPacks: the walk. -/
import Derived.Test.YtenhncepoclolaaDoorL
import Derived.Test.YtenhncepoclolaaDoorD
import Derived.Test.YtenhncepoclolaaDoorK
import Derived.Test.YtenhncepoclolaaDoorRP
namespace Go.Proofs.YtenhncepoclolaaDoor.strsPacks
open Go.RowKit Go.Maps
open Go.Proofs.YtenhncepoclolaaDoor.P Go.Proofs.YtenhncepoclolaaDoor.A Go.Proofs.YtenhncepoclolaaDoor.L Go.Proofs.YtenhncepoclolaaDoor.D Go.Proofs.YtenhncepoclolaaDoor.K Go.Proofs.YtenhncepoclolaaDoor.O Go.Proofs.YtenhncepoclolaaDoor.RP Go.Proofs.YtenhncepoclolaaDoor.I
set_option linter.unusedVariables false

theorem size_list (s : ByteArray) : s.data.toList.length = s.size := by simp
theorem pack_len (s : ByteArray) (hs : s.size ≤ 60) : (packL s.data.toList).length ≤ 1000 := by
  unfold packL; rw [pk_len, size_list]; omega
theorem has_none (w : World) : HasI w (.slice none 0 0) [] := ⟨none, 0, rfl, Nat.le_refl _, .inl rfl⟩
theorem none_same : decide (([] : List Int) = []) = true := by simp
theorem self_same (l : List Int) : decide (l = l) = true := by simp

set_option maxHeartbeats 800000 in
theorem walk (w : World) (a0 : ByteArray) (w0 : a0.size ≤ maxLen) (hd : Dig w) :
    Calls Tryd.prog 3 #[.string a0] w fun e w' => e = .returned (.bool true) ∧ Below w.heap.size w w' := by
  go_enter Tryd.func3, Tryd.ntmps3
  go_wp2_with fail
  refine (few_any a0 _).mono ?_
  rintro e w1 ⟨⟨s, hs, rfl⟩, rfl⟩
  go_wp2_with fail
  by_cases hs60 : s.size ≤ 60
  · refine (pack_short s _ hs60).mono ?_
    rintro e w1 ⟨⟨m1, hm1, rfl, hown1⟩, hb1⟩
    clear hm1
    have h1 := own_has hown1
    have hlen := pack_len s hs60
    clear hown1
    go_wp2_with fail
    refine (rpack_any s _ hs60).mono ?_
    rintro e w2 ⟨⟨v, rfl, h2⟩, hb2⟩
    have h1' := h1.below hb2 (Nat.le_refl _)
    go_wp2_with fail
    refine (same_any _ _ _ _ _ h1' h2 hlen).mono ?_
    rw [self_same (packL s.data.toList)]
    rintro e w3 ⟨rfl, hb3⟩
    have hb13 := bnext (bnext hb1 hb2) hb3
    go_wp2_with (first
      | (go_at_call 16; refine (lives_any _ (hd.below hb13)).mono ?_; rintro e w5 ⟨rfl, hb5⟩))
    go_ret
    exact ⟨rfl, bnext hb13 hb5⟩
  · refine (pack_long s _ (by omega)).mono ?_
    rintro e w1 ⟨rfl, rfl⟩
    go_wp2_with fail
    refine (rpack_long s _ (by omega)).mono ?_
    rintro e w1 ⟨rfl, rfl⟩
    go_wp2_with fail
    refine (same_any _ _ _ _ _ (has_none _) (has_none _) (Nat.zero_le _)).mono ?_
    rw [none_same]
    rintro e w3 ⟨rfl, hb3⟩
    go_wp2_with (first
      | (go_at_call 16; refine (lives_any _ (hd.below hb3)).mono ?_; rintro e w5 ⟨rfl, hb5⟩))
    go_ret
    exact ⟨rfl, bnext hb3 hb5⟩

end Go.Proofs.YtenhncepoclolaaDoor.strsPacks
