/- StrsPlain: the walk. -/
import Derived.Test.YtenhncepoclolaaDoorL
import Derived.Test.YtenhncepoclolaaDoorD
import Derived.Test.YtenhncepoclolaaDoorB
import Derived.Test.YtenhncepoclolaaDoorB2
import Derived.Test.YtenhncepoclolaaDoorV
namespace Go.Proofs.YtenhncepoclolaaDoor.strsPlain
open Go.RowKit Go.Maps
open Go.Proofs.YtenhncepoclolaaDoor.P Go.Proofs.YtenhncepoclolaaDoor.A Go.Proofs.YtenhncepoclolaaDoor.E Go.Proofs.YtenhncepoclolaaDoor.L Go.Proofs.YtenhncepoclolaaDoor.D Go.Proofs.YtenhncepoclolaaDoor.B Go.Proofs.YtenhncepoclolaaDoor.B2 Go.Proofs.YtenhncepoclolaaDoor.V
set_option linter.unusedVariables false

theorem quote_q (t : ByteArray) (ht : t.size ≤ 150) (w : World) (hd : Dig w) :
    Calls Tryd.prog 20 #[.string t] w fun e w' => (∃ q : ByteArray, q.data.toList = quoteL t.data.toList ∧ e = .returned (.string q)) ∧ Below w.heap.size w w' := by
  refine (quote_any t w (by omega) hd).mono ?_
  rintro e w' ⟨rfl, hb⟩
  exact ⟨⟨_, rfl, rfl⟩, hb⟩

set_option maxHeartbeats 800000 in
theorem walk (w : World) (a0 : ByteArray) (w0 : a0.size ≤ maxLen) (hd : Dig w) :
    Calls Tryd.prog 11 #[.string a0] w fun e w' => e = .returned (.bool true) ∧ Below w.heap.size w w' := by
  go_enter Tryd.func11, Tryd.ntmps11
  go_wp2_with fail
  refine (few_any a0 _).mono ?_
  rintro e w1 ⟨⟨s, hs, rfl⟩, rfl⟩
  go_wp2_with fail
  refine (quote_q s hs _ hd).mono ?_
  rintro e w2 ⟨⟨q, hq, rfl⟩, hb2⟩
  obtain ⟨hqs, hq0, hq1⟩ := ends hq
  have hql := qs_len s.data.toList
  have hsl : s.data.toList.length = s.size := by simp
  have e0 : ∀ h : 0 < q.size, ((q[0].toNat : Int) != 34) = false := fun h => by rw [hq0 h]; rfl
  have e1 : ∀ h : q.size - 1 < q.size, ((q[q.size - 1].toNat : Int) != 34) = false := fun h => by rw [hq1 h]; rfl
  have hp0 : 0 < q.size := by omega
  have hp1 : q.size - 1 < q.size := by omega
  have e0' := e0 hp0
  have e1' := e1 hp1
  have hsz : 2 ≤ q.size ∧ s.size + 2 ≤ q.size ∧ q.size ≤ 4 * s.size + 2 := by omega
  have HQ := Lib.hid hq
  have HS := Lib.hid hqs
  have t1 : ((q.size : Int) - 1).toNat = q.size - 1 := by omega
  clear hq hq0 hq1 e0 e1 hql hqs hsl
  go_wp2_with fail
  go_loopw [4, 5] (fun t i wr => ∃ (k : Nat) (b : Bool), 1 ≤ k ∧ k + 1 ≤ q.size ∧ i = .int .i64 (k : Int) ∧ t = .bool b ∧ Hid (chk ((qs s.data.toList).drop (k - 1)) b = some false) ∧ wr = w2) (fun _ i _ => q.size - (intOf i).toNat)
  case atStart => exact ⟨1, false, Nat.le_refl _, by omega, rfl, rfl, chk_qs _, rfl⟩
  case round =>
    obtain ⟨k, b, hk1, hk, rfl, rfl, HC, rfl⟩ := hrel
    by_cases hlt : k + 1 < q.size
    · have hkq : k < q.size := by omega
      obtain ⟨h32, h126, h34, hn⟩ := chk_at HQ.out hk1 hlt HC.out
      have H34 := Lib.hid h34
      have HN := Lib.hid hn
      clear h34 hn HC
      cases b with
      | false =>
        have t34 : ((q[k].toNat : Int) == 34) = false := byte_ne (n := 34) (by decide) (fun e => Bool.noConfusion (H34.out e))
        by_cases h92 : q[k] = 92
        · have t92 : ((q[k].toNat : Int) == 92) = true := byte_eq (n := 92) (by decide) h92
          have HD : Hid (chk ((qs s.data.toList).drop (k + 1 - 1)) true = some false) := by
            have := HN.out
            rw [decide_eq_true h92] at this
            exact this
          clear h92
          go_wp2
          go_roundw
          case rel => exact ⟨k + 1, true, by omega, by omega, by go_num, rfl, HD, trivial⟩
          case measure => simp [intOf]; omega
        · have t92 : ((q[k].toNat : Int) == 92) = false := byte_ne (n := 92) (by decide) h92
          have HD : Hid (chk ((qs s.data.toList).drop (k + 1 - 1)) false = some false) := by
            have := HN.out
            rw [decide_eq_false h92] at this
            exact this
          clear h92
          go_wp2
          go_roundw
          case rel => exact ⟨k + 1, false, by omega, by omega, by go_num, rfl, HD, trivial⟩
          case measure => simp [intOf]; omega
      | true =>
        have HD : Hid (chk ((qs s.data.toList).drop (k + 1 - 1)) false = some false) := by
          have := HN.out
          rw [Bool.not_true, Bool.and_false] at this
          exact this
        cases t34 : ((q[k].toNat : Int) == 34) with
        | true =>
          cases t92 : ((q[k].toNat : Int) == 92) with
          | true =>
            go_wp2
            go_roundw
            case rel => exact ⟨k + 1, false, by omega, by omega, by go_num, rfl, HD, trivial⟩
            case measure => simp [intOf]; omega
          | false =>
            go_wp2
            go_roundw
            case rel => exact ⟨k + 1, false, by omega, by omega, by go_num, rfl, HD, trivial⟩
            case measure => simp [intOf]; omega
        | false =>
          cases t92 : ((q[k].toNat : Int) == 92) with
          | true =>
            go_wp2
            go_roundw
            case rel => exact ⟨k + 1, false, by omega, by omega, by go_num, rfl, HD, trivial⟩
            case measure => simp [intOf]; omega
          | false =>
            go_wp2
            go_roundw
            case rel => exact ⟨k + 1, false, by omega, by omega, by go_num, rfl, HD, trivial⟩
            case measure => simp [intOf]; omega
    · have hb : b = false := by
        have := HC.out
        have hs := HS.out
        rw [List.drop_eq_nil_of_le (by omega)] at this
        exact Option.some.inj this
      subst hb
      clear HC
      go_wp2_with (first | (go_at_call 16; refine (lives_any _ (hd.below hb2)).mono ?_; rintro e w4 ⟨rfl, hb4⟩))
      go_ret
      exact ⟨rfl, bnext hb2 hb4⟩

end Go.Proofs.YtenhncepoclolaaDoor.strsPlain
