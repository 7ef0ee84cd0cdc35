/- How the program reads a text as a number. -/
import Derived.Test.YtlcapkgbbgpdmaaGreatDoorK2
import Derived.Test.YtlcapkgbbgpdmaaGreatDoorR
import Derived.WalkSpells
namespace Go.Proofs.YtlcapkgbbgpdmaaGreatDoor.K7
open Go.ChangeShapes Go.WideShapes Go.ChangeAt Go.RowKit
open Go.Proofs.YtlcapkgbbgpdmaaGreatDoor.M Go.Proofs.YtlcapkgbbgpdmaaGreatDoor.K1 Go.Proofs.YtlcapkgbbgpdmaaGreatDoor.S Go.Proofs.YtlcapkgbbgpdmaaGreatDoor.R
set_option linter.unusedVariables false
set_option maxRecDepth 100000

theorem at_list (s : ByteArray) (k : Nat) (h : k < s.size) : s.data.toList[k]'(by simpa using h) = s[k] := rfl
theorem len_list (s : ByteArray) : s.data.toList.length = s.size := by simp
theorem size_zero {s : ByteArray} (h : s.size = 0) : s = ⟨#[]⟩ := by
  apply ByteArray.ext
  exact Array.eq_empty_of_size_eq_zero h
theorem head_list (s : ByteArray) (h : 0 < s.size) : s.data.toList.head? = some s[0] := by
  rw [List.head?_eq_getElem?, List.getElem?_eq_getElem (by simpa using h)]; rfl
theorem some_list (s : ByteArray) (h : 0 < s.size) : ¬ s.toList = [] := by
  rw [ByteArray.toList_eq]
  intro c
  have := congrArg List.length c
  rw [len_list] at this
  simp only [List.length_nil] at this
  omega
theorem take_next (s : ByteArray) (k : Nat) (h : k < s.size) : s.data.toList.take (k + 1) = s.data.toList.take k ++ [s[k]] := by
  rw [take_snoc _ k (by rw [len_list]; exact h)]; rfl
theorem all_next (s : ByteArray) (k : Nat) (h : k < s.size) (h1 : (s.data.toList.take k).all isD = true) (h2 : isD s[k] = true) : (s.data.toList.take (k + 1)).all isD = true := by
  rw [take_next s k h, List.all_append, h1]; simp [h2]
theorem all_not (s : ByteArray) (k : Nat) (h : k < s.size) (h2 : isD s[k] = false) : s.data.toList.all isD = false := by
  rw [List.all_eq_false]
  exact ⟨s[k], by rw [← at_list s k h]; exact List.getElem_mem _, by rw [h2]; decide⟩
theorem all_at (s : ByteArray) (k : Nat) (h : k < s.size) (h2 : s.data.toList.all isD = true) : isD s[k] = true := by
  rw [List.all_eq_true] at h2
  exact h2 s[k] (by rw [← at_list s k h]; exact List.getElem_mem _)
theorem take_all (s : ByteArray) (k : Nat) (h : s.size ≤ k) : s.data.toList.take k = s.data.toList := List.take_of_length_le (by rw [len_list]; exact h)

def allD (l : List UInt8) : Bool := l.all isD

theorem are_empty (w : World) :
    Calls Tryz.prog 148 #[.string ⟨#[]⟩] w fun e w' => e = .returned (.bool false) ∧ w = w' := by
  go_enter Tryz.func148, Tryz.ntmps148
  go_wp2
  go_ret
  exact ⟨rfl, rfl⟩
theorem are_nought (s : ByteArray) (w : World) (h1 : 1 < s.size) (h : s[0] = 48) :
    Calls Tryz.prog 148 #[.string s] w fun e w' => e = .returned (.bool false) ∧ w = w' := by
  have e0 := some_list s (by omega)
  have e1 : s.toList.isEmpty = false := by rw [List.isEmpty_eq_false_iff]; exact e0
  have e2 : ((s[0].toNat : Int) == 48) = true := by rw [h]; rfl
  clear h
  go_enter Tryz.func148, Tryz.ntmps148
  go_wp2
  go_ret
  exact ⟨rfl, rfl⟩
theorem are_one (s : ByteArray) (w : World) (h0 : 0 < s.size) (h1 : s.size ≤ 1) :
    Calls Tryz.prog 148 #[.string s] w fun e w' => e = .returned (.bool (allD s.data.toList)) ∧ w = w' := by
  have e0 := some_list s (by omega)
  have e1 : s.toList.isEmpty = false := by rw [List.isEmpty_eq_false_iff]; exact e0
  go_enter Tryz.func148, Tryz.ntmps148
  go_wp2
  go_loop [18] (fun t => ∃ k : Nat, k ≤ s.size ∧ (s.data.toList.take k).all isD = true ∧ t = .int .i64 (k : Int)) (fun t => s.size - (intOf t).toNat)
  case atStart => exact ⟨0, Nat.zero_le _, rfl, rfl⟩
  case round =>
    obtain ⟨k, hk, hall, rfl⟩ := hrel
    have HALL := Lib.hid hall
    clear hall
    by_cases hlt : k < s.size
    · cases hd : isD s[k] with
      | true =>
        have HN := Lib.hid (all_next s k hlt HALL.out hd)
        obtain ⟨d0, d1⟩ := (isD_iff _).1 hd
        clear hd
        go_wp2
        go_round
        case rel => exact ⟨k + 1, by omega, HN.out, by go_num⟩
        case measure => simp [intOf]; omega
      | false =>
        have HN : Hid (allD s.data.toList = false) := all_not s k hlt hd
        have hc : s[k].toNat < 48 ∨ (48 ≤ s[k].toNat ∧ 57 < s[k].toNat) := by
          simp [isD] at hd
          omega
        clear hd
        rcases hc with hc | ⟨hc, hc'⟩
        all_goals
          go_wp2
          go_ret
          exact ⟨ret_bool (by rw [HN.out]), rfl⟩
    · have HE : Hid (allD s.data.toList = true) := by have h := HALL.out; rw [take_all s k (by omega)] at h; exact h
      go_wp2
      go_ret
      exact ⟨ret_bool (by rw [HE.out]), rfl⟩
theorem are_more (s : ByteArray) (w : World) (hs : s.size ≤ maxLen) (h1 : 1 < s.size) (h : s[0] ≠ 48) :
    Calls Tryz.prog 148 #[.string s] w fun e w' => e = .returned (.bool (allD s.data.toList)) ∧ w = w' := by
  unfold maxLen at hs
  have e0 := some_list s (by omega)
  have e1 : s.toList.isEmpty = false := by rw [List.isEmpty_eq_false_iff]; exact e0
  have e2 : ((s[0].toNat : Int) == 48) = false := by rw [beq_eq_false_iff_ne]; intro e; exact h (UInt8.toNat_inj.1 (by simpa using Int.ofNat_inj.1 e))
  clear h
  go_enter Tryz.func148, Tryz.ntmps148
  go_wp2
  go_loop [18] (fun t => ∃ k : Nat, k ≤ s.size ∧ (s.data.toList.take k).all isD = true ∧ t = .int .i64 (k : Int)) (fun t => s.size - (intOf t).toNat)
  case atStart => exact ⟨0, Nat.zero_le _, rfl, rfl⟩
  case round =>
    obtain ⟨k, hk, hall, rfl⟩ := hrel
    have HALL := Lib.hid hall
    clear hall
    by_cases hlt : k < s.size
    · cases hd : isD s[k] with
      | true =>
        have HN := Lib.hid (all_next s k hlt HALL.out hd)
        obtain ⟨d0, d1⟩ := (isD_iff _).1 hd
        clear hd
        go_wp2
        go_round
        case rel => exact ⟨k + 1, by omega, HN.out, by go_num⟩
        case measure => simp [intOf]; omega
      | false =>
        have HN : Hid (allD s.data.toList = false) := all_not s k hlt hd
        have hc : s[k].toNat < 48 ∨ (48 ≤ s[k].toNat ∧ 57 < s[k].toNat) := by
          simp [isD] at hd
          omega
        clear hd
        rcases hc with hc | ⟨hc, hc'⟩
        all_goals
          go_wp2
          go_ret
          exact ⟨ret_bool (by rw [HN.out]), rfl⟩
    · have HE : Hid (allD s.data.toList = true) := by have h := HALL.out; rw [take_all s k (by omega)] at h; exact h
      go_wp2
      go_ret
      exact ⟨ret_bool (by rw [HE.out]), rfl⟩
theorem are_any (s : ByteArray) (w : World) (hs : s.size ≤ maxLen) :
    Calls Tryz.prog 148 #[.string s] w fun e w' => e = .returned (.bool (okD s.data.toList)) ∧ w = w' := by
  by_cases h0 : s.size = 0
  · obtain rfl := size_zero h0
    exact are_empty w
  · by_cases h1 : s.size = 1
    · have e : okD s.data.toList = allD s.data.toList := by
        unfold okD allD
        have a : s.data.toList.isEmpty = false := by rw [List.isEmpty_eq_false_iff, ← ByteArray.toList_eq]; exact some_list s (by omega)
        rw [a, len_list, h1]; simp
      rw [e]
      exact are_one s w (by omega) (by omega)
    · have h2 : 1 < s.size := by omega
      have a : s.data.toList.isEmpty = false := by rw [List.isEmpty_eq_false_iff, ← ByteArray.toList_eq]; exact some_list s (by omega)
      by_cases h48 : s[0] = 48
      · have e : okD s.data.toList = false := by
          unfold okD
          rw [a, len_list, head_list s (by omega), h48, decide_eq_true h2]; rfl
        rw [e]
        exact are_nought s w h2 h48
      · have e : okD s.data.toList = s.data.toList.all isD := by
          unfold okD
          rw [a, len_list, head_list s (by omega), decide_eq_true h2]
          simp [h48]
        rw [e]
        exact are_more s w hs h2 h48

/-- What is counted so far, and what is still to come. -/
theorem count_any (s : ByteArray) (most : Int) (w : World) (hs : s.size ≤ maxLen) (m0 : 10 ≤ most) (m1 : most ≤ 4611686018427387904) (hall : s.data.toList.all isD = true) :
    Calls Tryz.prog 149 #[.string s, .int .i64 most] w fun e w' => e = .returned (if (val s.data.toList : Int) ≤ most then .tuple #[.int .i64 (val s.data.toList : Int), .int .i64 0] else .tuple #[.int .i64 0, .int .i64 13]) ∧ w = w' := by
  unfold maxLen at hs
  have HALL := Lib.hid hall
  clear hall
  obtain ⟨R, HR⟩ : ∃ R, Hid (R = if (val s.data.toList : Int) ≤ most then Value.tuple #[.int .i64 (val s.data.toList : Int), .int .i64 0] else .tuple #[.int .i64 0, .int .i64 13]) := ⟨_, rfl⟩
  rw [← HR.out]
  go_enter Tryz.func149, Tryz.ntmps149
  go_wp2
  go_loop [6, 11] (fun x t => ∃ k n : Nat, k ≤ s.size ∧ Hid (n = val (s.data.toList.take k)) ∧ (n : Int) ≤ most ∧ x = .int .i64 (n : Int) ∧ t = .int .i64 (k : Int)) (fun _ t => s.size - (intOf t).toNat)
  case atStart => exact ⟨0, 0, Nat.zero_le _, rfl, by omega, rfl, rfl⟩
  case round =>
    obtain ⟨k, n, hk, HV, hn, rfl, rfl⟩ := hrel
    by_cases hlt : k < s.size
    · obtain ⟨d0, d1⟩ := (isD_iff _).1 (all_at s k hlt HALL.out)
      have HS : Hid (val (s.data.toList.take (k + 1)) = 10 * n + (s[k].toNat - 48)) := by
        unfold Hid
        rw [take_next s k hlt, val_snoc, ← HV.out]
      have HT := Lib.hid (val_take_le s.data.toList (k + 1))
      by_cases hb : (n : Int) * 10 + ((s[k].toNat : Int) - 48) ≤ most
      · have hq : (n : Int) ≤ (most - ((s[k].toNat : Int) - 48)) / 10 := by omega
        go_wp2
        go_round
        case rel => exact ⟨k + 1, 10 * n + (s[k].toNat - 48), by omega, by unfold Hid; rw [HS.out], by omega, by go_num, by go_num⟩
        case measure => simp [intOf]; omega
      · have hq : (most - ((s[k].toNat : Int) - 48)) / 10 < (n : Int) := by omega
        have HF : Hid (R = .tuple #[.int .i64 0, .int .i64 13]) := by
          have a := HR.out
          have b := HS.out
          have c := HT.out
          rw [if_neg (by omega)] at a
          exact a
        go_wp2
        go_ret2
        exact ⟨by rw [HF.out]; rfl, rfl⟩
    · have HF : Hid (R = .tuple #[.int .i64 (n : Int), .int .i64 0]) := by
        have a := HR.out
        have b := HV.out
        rw [take_all s k (by omega)] at b
        rw [← b, if_pos hn] at a
        exact a
      go_wp2
      go_ret2
      exact ⟨by rw [HF.out]; rfl, rfl⟩
end Go.Proofs.YtlcapkgbbgpdmaaGreatDoor.K7
