/- LexTokens: the walk. -/
import Derived.Test.YtaioniaadpgmkaaDoorYV
import Derived.Test.YtaioniaadpgmkaaDoorD
import Derived.Test.YtaioniaadpgmkaaDoorYM
namespace Go.Proofs.YtaioniaadpgmkaaDoor.lexTokens
open Go.RowKit Go.Maps
open Go.Proofs.YtaioniaadpgmkaaDoor.P Go.Proofs.YtaioniaadpgmkaaDoor.A Go.Proofs.YtaioniaadpgmkaaDoor.YT Go.Proofs.YtaioniaadpgmkaaDoor.YV Go.Proofs.YtaioniaadpgmkaaDoor.YF Go.Proofs.YtaioniaadpgmkaaDoor.YM Go.Proofs.YtaioniaadpgmkaaDoor.TK Go.Proofs.YtaioniaadpgmkaaDoor.TO Go.Proofs.YtaioniaadpgmkaaDoor.D
set_option linter.unusedVariables false

set_option maxRecDepth 100000 in
set_option maxHeartbeats 2000000 in
theorem walk (w : World) (a0 : ByteArray) (w0 : a0.size ≤ maxLen) (hd : Dig w) :
    Calls Tryd.prog 3 #[.string a0] w fun e w' => e = .returned (.bool true) ∧ Below w.heap.size w w' := by
  have HD := Lib.hid hd
  clear hd
  go_enter Tryd.func3, Tryd.ntmps3
  go_wp2_with fail
  refine (few_any a0 _).mono ?_
  rintro x w1 ⟨⟨s, hs, rfl⟩, rfl⟩
  have T1 := tokens_short s w (by omega) HD.out
  have T2 := fun W => rtokens_short s W (by omega)
  have hmost := toks_most s.data.toList (by simp; omega)
  generalize toks s.data.toList = L at *
  obtain ⟨ts, p, e⟩ := L
  simp only at hmost
  go_wp2_with fail
  refine T1.mono ?_
  intro x w2 h2
  obtain ⟨v2, rfl, hv2, B2⟩ := h2
  have HB2 := Lib.hid B2
  have HD2 := Lib.hid (HD.out.below B2)
  have HV2 := Lib.hid hv2
  clear B2 hv2 T1
  go_wp2_with fail
  refine (T2 _).mono ?_
  intro x w3 h3
  obtain ⟨v3, rfl, hv3, B3⟩ := h3
  have HB3 := Lib.hid B3
  have HD3 := Lib.hid (HD2.out.below B3)
  have HV3 := Lib.hid hv3
  have HV23 := Lib.hid (HV2.out.below B3 (Nat.le_refl _))
  clear B3 hv3 T2
  go_wp2_with (first
    | (go_at_call 13; refine (same_any ts v2 v3 _ hmost HV23.out HV3.out).mono ?_; rintro x w4 ⟨rfl, hb4⟩; have HB4 := Lib.hid hb4; have HD4 := Lib.hid (HD3.out.below hb4); clear hb4)
    | (go_at_call 14; refine (lives_any _ HD4.out).mono ?_; rintro x w9 ⟨rfl, hb9⟩; have HB9 := Lib.hid hb9; clear hb9))
  go_ret
  exact ⟨rfl, bnext (bnext HB2.out HB3.out) (bnext HB4.out HB9.out)⟩

end Go.Proofs.YtaioniaadpgmkaaDoor.lexTokens
