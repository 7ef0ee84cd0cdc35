/- The document's token: digits. -/
import Derived.Test.YtaioniaadpgmkaaDoorYH
import Derived.Outline
namespace Go.Proofs.YtaioniaadpgmkaaDoor.YO
open Go.RowKit Go.Proofs.YtaioniaadpgmkaaDoor.P Go.Proofs.YtaioniaadpgmkaaDoor.A Go.Proofs.YtaioniaadpgmkaaDoor.Q Go.Proofs.YtaioniaadpgmkaaDoor.V Go.Proofs.YtaioniaadpgmkaaDoor.TK Go.Proofs.YtaioniaadpgmkaaDoor.YC Go.Proofs.YtaioniaadpgmkaaDoor.YK Go.Proofs.YtaioniaadpgmkaaDoor.YL Go.Proofs.YtaioniaadpgmkaaDoor.YW Go.Proofs.YtaioniaadpgmkaaDoor.YE Go.Proofs.YtaioniaadpgmkaaDoor.YD Go.Proofs.YtaioniaadpgmkaaDoor.YH Go.Proofs.YtaioniaadpgmkaaDoor.U
set_option linter.unusedVariables false

theorem val_next (s : ByteArray) (k : Nat) (h : k < s.size) : val (s.data.toList.take (k + 1)) = 10 * val (s.data.toList.take k) + (s[k].toNat - 48) := by
  rw [take_next s k h]; exact R.val_snoc _ _
theorem takeWhile_is (s : ByteArray) (p : UInt8 → Bool) : s.data.toList.takeWhile p = s.data.toList.take (lasts p s 0) := by
  unfold lasts; rw [List.drop_zero, takeWhile_take]
theorem val_le (l : List UInt8) (k : Nat) : val (l.take k) ≤ val l := R.val_take_le l k

set_option maxRecDepth 100000 in
set_option maxHeartbeats 2000000 in
theorem rtok_digits (s : ByteArray) (w : World) (h0 : 0 < s.size) (hs : s.size ≤ 2000) (hD : isD s[0] = true) (q : (Nat × List UInt8 × Nat) × Nat × Nat)
    (hq : (if val (s.data.toList.takeWhile isD) ≤ 4611686018427387903 then ((1, [], val (s.data.toList.takeWhile isD)), (s.data.toList.takeWhile isD).length, 0) else ((0, [], 0), 0, 13)) = q) :
    Calls Tryd.prog 20 #[.string s] w fun e w' => e = .returned (tokr q) ∧ Below w.heap.size w w' := by
  have c1 := fun W => YC.rdigit_any s[0] W
  rw [hD] at c1
  have hN0 : 0 + 1 + lasts isD s (0 + 1) = lasts isD s 0 := by rw [lasts_yes h0 hD]; omega
  have hNle := lasts_le (p := isD) (Nat.zero_le s.size)
  have hlen : (s.data.toList.takeWhile isD).length = lasts isD s 0 := by unfold lasts; rw [List.drop_zero]
  rw [takeWhile_is s isD] at hq
  rw [show (s.data.toList.take (lasts isD s 0)).length = lasts isD s 0 from by rw [← takeWhile_is, hlen]] at hq
  generalize lasts isD s 0 = N at *
  have HQ := Lib.hid hq
  have HN := Lib.hid hN0
  have HD : Hid (isD s[0] = true) := hD
  clear hD hN0 hlen hq
  go_enter Tryd.func20, Tryd.ntmps20
  go_wp2_with (first | (go_at_call 32; refine (c1 _).mono ?_; rintro e w0 ⟨rfl, rfl⟩))
  go_loop [6] (fun v => ∃ k : Nat, 1 ≤ k ∧ k ≤ s.size ∧ v = .int .i64 (k : Int) ∧ Hid (k + lasts isD s k = N) ∧ Hid (∀ j (h : j < s.size), j < k → isD s[j] = true)) (fun v => s.size - (intOf v).toNat)
  case atStart => exact ⟨1, Nat.le_refl _, h0, rfl, HN, fun j h hj => by obtain rfl : j = 0 := by omega
                                                                         exact HD.out⟩
  case round =>
    obtain ⟨k, hk1, hk, rfl, HK, HA⟩ := hrel
    by_cases hmore : k < s.size ∧ ∃ h : k < s.size, isD s[k] = true
    · obtain ⟨hlt, _, hd⟩ := hmore
      have c2 := fun W => YC.rdigit_any s[k] W
      rw [hd] at c2
      have HK2 : Hid (k + 1 + lasts isD s (k + 1) = N) := by show _ = _; rw [← HK.out, lasts_yes hlt hd]; omega
      have HA2 : Hid (∀ j (h : j < s.size), j < k + 1 → isD s[j] = true) := fun j h hj => by
        by_cases e : j = k
        · subst e; exact hd
        · exact HA.out j h (by omega)
      clear hd
      go_wp2_with (first | (go_at_call 32; refine (c2 _).mono ?_; rintro e w0 ⟨rfl, rfl⟩))
      go_round
      case rel => exact ⟨k + 1, by omega, by omega, by go_num, HK2, HA2⟩
      case measure => simp [intOf]; omega
    · have hkN : k = N := by
        by_cases hlt : k < s.size
        · have hd : isD s[k] = false := by
            cases hx : isD s[k] with
            | true => exact absurd ⟨hlt, hlt, hx⟩ hmore
            | false => rfl
          have := HK.out; rw [lasts_no hlt hd] at this; omega
        · have := HK.out; rw [lasts_out (by omega)] at this; omega
      by_cases hlt : k < s.size
      · have hd : isD s[k] = false := by
          cases hx : isD s[k] with
          | true => exact absurd ⟨hlt, hlt, hx⟩ hmore
          | false => rfl
        have c2 := fun W => YC.rdigit_any s[k] W
        rw [hd] at c2
        subst hkN
        clear hd hmore HK HN
        go_wp2_with (first | (go_at_call 32; refine (c2 _).mono ?_; rintro e w0 ⟨rfl, rfl⟩))
        go_loop [7, 8] (fun v i => ∃ j : Nat, j ≤ k ∧ i = .int .i64 (j : Int) ∧ v = .int .i64 (val (s.data.toList.take j) : Int) ∧ val (s.data.toList.take j) ≤ 4611686018427387903) (fun _ i => k - (intOf i).toNat)
        case atStart => exact ⟨0, Nat.zero_le _, rfl, rfl, by rw [List.take_zero]; decide⟩
        case round =>
          obtain ⟨j, hj, rfl, rfl, hv⟩ := hrel
          by_cases hjk : j < k
          · have hjs : j < s.size := by omega
            have hdj := HA.out j hjs hjk
            have hd1 : 48 ≤ s[j].toNat ∧ s[j].toNat ≤ 57 := by unfold isD at hdj; simpa using hdj
            obtain ⟨hd1, hd2⟩ := hd1
            have hvn := val_next s j hjs
            have hvle := val_le (s.data.toList.take k) (j + 1)
            rw [List.take_take, Nat.min_eq_left (by omega : j + 1 ≤ k)] at hvle
            generalize hV : val (s.data.toList.take j) = V at *
            have HVn := Lib.hid hvn
            clear hdj hV hvn
            by_cases hf : 10 * V + (s[j].toNat - 48) ≤ 4611686018427387903
            · have hz : ¬ (4611686018427387903 - ((s[j].toNat : Int) - 48)) / 10 < (V : Int) := by omega
              clear hvle
              go_wp2
              go_round
              case rel => exact ⟨j + 1, by omega, by go_num, by rw [HVn.out]; congr 1; omega, by rw [HVn.out]; exact hf⟩
              case measure => simp [intOf]; omega
            · have hz : (4611686018427387903 - ((s[j].toNat : Int) - 48)) / 10 < (V : Int) := by omega
              have hbad : ¬ val (s.data.toList.take k) ≤ 4611686018427387903 := by rw [HVn.out] at hvle; omega
              have HB : Hid (q = ((0, [], 0), 0, 13)) := by
                show q = _
                rw [← HQ.out, if_neg hbad]
              clear hvle hbad
              go_wp2
              exact bodyPost_ret (v := tokr ((0, [], 0), 0, 13)) (by simp [results, Tryd.results20, go_sem]) rfl ⟨by rw [HB.out], (Below.refl _ _).alloc (Nat.le_refl _) _⟩
          · obtain rfl : j = k := by omega
            have HB : Hid (q = ((1, [], val (s.data.toList.take j)), j, 0)) := by
              show q = _
              rw [← HQ.out, if_pos hv]
            generalize val (s.data.toList.take j) = V at *
            go_wp2
            exact bodyPost_ret (v := tokr ((1, [], V), j, 0)) (by simp [results, Tryd.results20, go_sem]) rfl ⟨by rw [HB.out], (Below.refl _ _).alloc (Nat.le_refl _) _⟩
      · subst hkN
        clear hmore HK HN
        go_wp2_with fail
        go_loop [7, 8] (fun v i => ∃ j : Nat, j ≤ k ∧ i = .int .i64 (j : Int) ∧ v = .int .i64 (val (s.data.toList.take j) : Int) ∧ val (s.data.toList.take j) ≤ 4611686018427387903) (fun _ i => k - (intOf i).toNat)
        case atStart => exact ⟨0, Nat.zero_le _, rfl, rfl, by rw [List.take_zero]; decide⟩
        case round =>
          obtain ⟨j, hj, rfl, rfl, hv⟩ := hrel
          by_cases hjk : j < k
          · have hjs : j < s.size := by omega
            have hdj := HA.out j hjs hjk
            have hd1 : 48 ≤ s[j].toNat ∧ s[j].toNat ≤ 57 := by unfold isD at hdj; simpa using hdj
            obtain ⟨hd1, hd2⟩ := hd1
            have hvn := val_next s j hjs
            have hvle := val_le (s.data.toList.take k) (j + 1)
            rw [List.take_take, Nat.min_eq_left (by omega : j + 1 ≤ k)] at hvle
            generalize hV : val (s.data.toList.take j) = V at *
            have HVn := Lib.hid hvn
            clear hdj hV hvn
            by_cases hf : 10 * V + (s[j].toNat - 48) ≤ 4611686018427387903
            · have hz : ¬ (4611686018427387903 - ((s[j].toNat : Int) - 48)) / 10 < (V : Int) := by omega
              clear hvle
              go_wp2
              go_round
              case rel => exact ⟨j + 1, by omega, by go_num, by rw [HVn.out]; congr 1; omega, by rw [HVn.out]; exact hf⟩
              case measure => simp [intOf]; omega
            · have hz : (4611686018427387903 - ((s[j].toNat : Int) - 48)) / 10 < (V : Int) := by omega
              have hbad : ¬ val (s.data.toList.take k) ≤ 4611686018427387903 := by rw [HVn.out] at hvle; omega
              have HB : Hid (q = ((0, [], 0), 0, 13)) := by
                show q = _
                rw [← HQ.out, if_neg hbad]
              clear hvle hbad
              go_wp2
              exact bodyPost_ret (v := tokr ((0, [], 0), 0, 13)) (by simp [results, Tryd.results20, go_sem]) rfl ⟨by rw [HB.out], (Below.refl _ _).alloc (Nat.le_refl _) _⟩
          · obtain rfl : j = k := by omega
            have HB : Hid (q = ((1, [], val (s.data.toList.take j)), j, 0)) := by
              show q = _
              rw [← HQ.out, if_pos hv]
            generalize val (s.data.toList.take j) = V at *
            go_wp2
            exact bodyPost_ret (v := tokr ((1, [], V), j, 0)) (by simp [results, Tryd.results20, go_sem]) rfl ⟨by rw [HB.out], (Below.refl _ _).alloc (Nat.le_refl _) _⟩
end Go.Proofs.YtaioniaadpgmkaaDoor.YO
