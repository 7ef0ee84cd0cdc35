/- StrsLengths: the walk. -/
import Derived.Test.YtenhncepoclolaaDoorL
import Derived.Test.YtenhncepoclolaaDoorD
namespace Go.Proofs.YtenhncepoclolaaDoor.strsLengths
open Go.RowKit Go.Maps
open Go.Proofs.YtenhncepoclolaaDoor.P Go.Proofs.YtenhncepoclolaaDoor.A Go.Proofs.YtenhncepoclolaaDoor.L Go.Proofs.YtenhncepoclolaaDoor.D Go.Proofs.YtenhncepoclolaaDoor.K Go.Proofs.YtenhncepoclolaaDoor.O
set_option linter.unusedVariables false

theorem core (s : ByteArray) (w : World) (hs : s.size ≤ 60) :
    Calls Tryd.prog 13 #[.string s] w fun e w' => (∃ m : Nat, m = 1 + (s.size + 6) / 7 ∧ e = .returned (.tuple #[.slice (some ⟨w.heap.size, 0, none⟩) m m, .int .i64 0]) ∧
      w'.cell? ⟨w.heap.size, 0, none⟩ = some (.int .i64 (s.size : Int)) ∧ ∀ j, j < m → ∃ z : Int, 0 ≤ z ∧ z < 72057594037927936 ∧ w'.cell? ⟨w.heap.size, j, none⟩ = some (.int .i64 z)) ∧ w.heap.size < w'.heap.size ∧ Below w.heap.size w w' := by
  refine (pack_short s w hs).mono ?_
  rintro e w' ⟨⟨m, hm, rfl, hown⟩, hb⟩
  have hl : s.data.toList.length = s.size := by simp
  have hml : m = 1 + (s.size + 6) / 7 := by rw [hm]; unfold packL; rw [pk_len, hl]; omega
  obtain ⟨_, cap, hv, _, h⟩ := own_has hown
  rcases h with h | ⟨b, off, ha, hlt, hc⟩
  · simp [packL, pk] at h
  · injection hv with hv1 _ _
    rw [ha] at hv1
    injection hv1 with hv1
    injection hv1 with e1 e2 _
    subst e1
    subst e2
    have hc' : ∀ j (h : j < (packL s.data.toList).length), w'.cell? ⟨w.heap.size, j, none⟩ = some (.int .i64 (packL s.data.toList)[j]) := fun j h => by
      have := hc j h
      rwa [Nat.zero_add] at this
    refine ⟨⟨m, hml, rfl, ?_, ?_⟩, hlt, hb⟩
    · rw [hc' 0 (by omega)]
      show some (Value.int .i64 ((s.data.toList.length : Nat) : Int)) = _
      rw [hl]
    · intro j hj
      refine ⟨_, ?_, ?_, hc' j (by omega)⟩
      · rcases j with _ | j
        · show (0 : Int) ≤ ((s.data.toList.length : Nat) : Int); omega
        · have := pk_at ((s.data.toList.length + 6) / 7) s.data.toList.length s.data.toList j (by omega)
          simp only [Nat.add_comm 1 j] at this
          show 0 ≤ (pk _ _ _)[j + 1]
          rw [this]; omega
      · rcases j with _ | j
        · show ((s.data.toList.length : Nat) : Int) < _; omega
        · have := pk_at ((s.data.toList.length + 6) / 7) s.data.toList.length s.data.toList j (by omega)
          simp only [Nat.add_comm 1 j] at this
          have hg := grp_lt s.data.toList j
          show (pk _ _ _)[j + 1] < _
          rw [this]; omega

theorem walk (w : World) (a0 : ByteArray) (w0 : a0.size ≤ maxLen) (hd : Dig w) :
    Calls Tryd.prog 10 #[.string a0] w fun e w' => e = .returned (.bool true) ∧ Below w.heap.size w w' := by
  obtain ⟨t, ht, hcut⟩ : ∃ t : ByteArray, t.size ≤ 60 ∧ ((60 < a0.size ∧ t = a0.extract 0 60) ∨ (a0.size ≤ 60 ∧ t = a0)) := by
    by_cases h : a0.size ≤ 60
    · exact ⟨a0, h, .inr ⟨h, rfl⟩⟩
    · exact ⟨a0.extract 0 60, by simp; omega, .inl ⟨by omega, rfl⟩⟩
  go_enter Tryd.func10, Tryd.ntmps10
  rcases hcut with ⟨hc, hc2⟩ | ⟨hc, hc2⟩
  all_goals
    have HC := Lib.hid hc2
    go_wp2_with (first
      | (go_at_call 13; rw [← HC.out]; clear hc2 hc; refine (core t _ ht).mono ?_; rintro e w1 ⟨⟨m, hm, rfl, h0, hall⟩, hlt1, hb1⟩; have hm := Lib.hid hm))
  all_goals
    have hmb := hm.out
    go_loopw [5] (fun i wr => ∃ k : Nat, k ≤ m ∧ i = .int .i64 (k : Int) ∧ wr = w1) (fun i _ => m - (intOf i).toNat)
    case atStart => exact ⟨0, Nat.zero_le _, rfl, rfl⟩
    case round =>
      obtain ⟨k, hk, rfl, rfl⟩ := hrel
      by_cases hlt : k < m
      · obtain ⟨z, z0, z1, hz⟩ := hall k hlt
        clear hall
        go_wp2
        go_roundw
        case rel => exact ⟨k + 1, by omega, by go_num, trivial⟩
        case measure => simp [intOf]; omega
      · clear hall
        go_wp2_with (first | (go_at_call 16; refine (lives_any _ (hd.below hb1)).mono ?_; rintro e w4 ⟨rfl, hb4⟩))
        go_ret
        exact ⟨rfl, bnext hb1 hb4⟩

end Go.Proofs.YtenhncepoclolaaDoor.strsLengths
