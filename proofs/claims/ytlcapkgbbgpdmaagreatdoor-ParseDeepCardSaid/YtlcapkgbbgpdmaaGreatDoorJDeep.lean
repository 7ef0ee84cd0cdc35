/- ParseDeep: the walk. -/
import Derived.Test.YtlcapkgbbgpdmaaGreatDoorZF
import Derived.Test.YtlcapkgbbgpdmaaGreatDoorDQ
namespace Go.Proofs.YtlcapkgbbgpdmaaGreatDoor.parseDeep
open Go.RowKit Go.Maps
open Go.Proofs.YtlcapkgbbgpdmaaGreatDoor.P Go.Proofs.YtlcapkgbbgpdmaaGreatDoor.A Go.Proofs.YtlcapkgbbgpdmaaGreatDoor.PS Go.Proofs.YtlcapkgbbgpdmaaGreatDoor.QE Go.Proofs.YtlcapkgbbgpdmaaGreatDoor.DP Go.Proofs.YtlcapkgbbgpdmaaGreatDoor.DQ Go.Proofs.YtlcapkgbbgpdmaaGreatDoor.GR
set_option linter.unusedVariables false
set_option maxRecDepth 100000

theorem neg_mod (n k : Int) (h : n < 0) (hk : 0 < k) : ∃ m : Nat, -(n + 1).tmod k = (m : Int) ∧ (m : Int) < k := by
  have e : (n + 1).tmod k = -((-(n + 1)) % k) := by
    conv => lhs; rw [← Int.neg_neg (n + 1), Int.neg_tmod, Int.tmod_eq_emod_of_nonneg (by omega)]
  have h1 := Int.emod_nonneg (-(n + 1)) (show k ≠ 0 by omega)
  have h2 := Int.emod_lt_of_pos (-(n + 1)) hk
  exact ⟨((-(n + 1)) % k).toNat, by rw [e]; omega, by omega⟩
theorem pos_mod (n k : Int) (h : 0 ≤ n) (hk : 0 < k) : ∃ m : Nat, n % k = (m : Int) ∧ (m : Int) < k := by
  have h1 := Int.emod_nonneg n (show k ≠ 0 by omega)
  have h2 := Int.emod_lt_of_pos n hk
  exact ⟨(n % k).toNat, by omega, by omega⟩
theorem opens_snoc (o : List UInt8) : ∀ n, opens o (n + 1) = opens o n ++ o
  | 0 => by simp [opens]
  | n + 1 => by
    show o ++ opens o (n + 1) = (o ++ opens o n) ++ o
    rw [opens_snoc o n, List.append_assoc]
theorem more_s (s : ByteArray) (o a : List UInt8) (k : Nat) (h : s.data.toList = a ++ opens o k) : (s ++ (⟨o.toArray⟩ : ByteArray)).data.toList = a ++ opens o (k + 1) := by
  rw [ByteArray.data_append, Array.toList_append, h, opens_snoc, List.append_assoc]
theorem len_s {s : ByteArray} {o a : List UInt8} {k : Nat} (h : s.data.toList = a ++ opens o k) : s.size = a.length + k * o.length := by
  have : s.size = s.data.toList.length := by simp
  rw [this, h, List.length_append, opens_len]
theorem whole_s {s t : ByteArray} {o c : List UInt8} {k : Nat} (h : s.data.toList = ahead3 ++ opens o k) (h2 : t.data.toList = [] ++ opens c k) : (s ++ (⟨#[55]⟩ : ByteArray) ++ t).data.toList = ahead3 ++ (opens o k ++ 55 :: opens c k) := by
  rw [ByteArray.data_append, ByteArray.data_append, Array.toList_append, Array.toList_append, h, h2]
  simp
theorem two (w : World) (o1 o2 : Obj) : Below w.heap.size w ((w.alloc o1).alloc o2) := ((Below.refl w.heap.size w).alloc (Nat.le_refl _) o1).alloc (by simp) o2
/-- An answer whose node is not looked at. -/
theorem out_node {w : World} {x : Ending} {w' : World} {t : Tree} {p e : Nat} (P E : Int) (hP : (p : Int) = P) (hE : (e : Int) = E) (h : ROut w (t, p, e) x w') :
    ∃ v0 v1 v2 v3 a4 l4 c4 a5 l5 c5, x = .returned (.tuple #[.agg #[.int .i64 v0, .string v1, .int .i64 v2, .int .i64 v3, .slice a4 l4 c4, .slice a5 l5 c5], .int .i64 P, .int .i64 E]) ∧ Below w.heap.size w w' := by
  subst hP; subst hE
  obtain ⟨ao, ac, bo, bc, rfl, hb, hn⟩ := h
  exact ⟨_, _, _, _, _, _, _, _, _, _, rfl, hb⟩

set_option maxRecDepth 100000 in
set_option maxHeartbeats 8000000 in
theorem walk (w : World) (n0 : Int) (l0 : -9223372036854775808 ≤ n0) (u0 : n0 ≤ 9223372036854775807) (n1 : Int) (l1 : -9223372036854775808 ≤ n1) (u1 : n1 ≤ 9223372036854775807) (hd : Dig w) :
    Calls Tryz.prog 5 #[.int .i64 n0, .int .i64 n1] w fun e w' => e = .returned (.bool true) ∧ Below w.heap.size w w' := by
  have HD := Lib.hid hd
  clear hd
  by_cases h0 : n0 < 0
  · obtain ⟨m, hm, hml⟩ := neg_mod n0 61 h0 (by decide)
    by_cases h1 : n1 < 0
    · obtain ⟨q, hq, hql⟩ := neg_mod n1 3 h1 (by decide)
      have hq3 : q = 0 ∨ q = 1 ∨ q = 2 := by omega
      rcases hq3 with rfl | rfl | rfl
      · have hq : -(n1 + 1).tmod 3 = (0 : Int) := hq
        go_enter Tryz.func5, Tryz.ntmps5
        go_wp2
        clear hm hq
        go_loop [8, 9, 10] (fun s t i => ∃ (k : Nat) (S T : ByteArray), k ≤ m ∧ s = .string S ∧ t = .string T ∧ i = .int .i64 (k : Int) ∧ Hid (S.data.toList = ahead3 ++ opens [40] k) ∧ Hid (T.data.toList = [] ++ opens [41] k)) (fun _ _ i => m - (intOf i).toNat)
        case atStart => exact ⟨0, ⟨#[100, 111, 32]⟩, ⟨#[]⟩, Nat.zero_le _, rfl, rfl, rfl, by rfl, by rfl⟩
        case round =>
          obtain ⟨k, S, T, hk, rfl, rfl, rfl, HS, HT⟩ := hrel
          have s1 : S.size ≤ 3 + k * 1 := Nat.le_of_eq (len_s HS.out)
          have s2 : T.size ≤ 0 + k * 1 := Nat.le_of_eq (len_s HT.out)
          by_cases hlt : k < m
          · have HS1 := Lib.hid (more_s S [40] ahead3 k HS.out)
            have HT1 := Lib.hid (more_s T [41] [] k HT.out)
            go_wp2
            go_round
            case rel => exact ⟨k + 1, _, _, by omega, rfl, rfl, by go_num, HS1, HT1⟩
            case measure => simp [intOf]; omega
          · obtain rfl : k = m := by omega
            have hsrc : (S ++ (⟨#[55]⟩ : ByteArray) ++ T).data.toList = src 0 k := whole_s HS.out HT.out
            have hsz : (S ++ (⟨#[55]⟩ : ByteArray) ++ T).size ≤ maxLen := by rw [ByteArray.size_append, ByteArray.size_append]; show S.size + 1 + T.size ≤ _; unfold maxLen; omega
            have TP := fun W (hW : Dig W) => QG.program_is (S ++ (⟨#[55]⟩ : ByteArray) ++ T) W hsz hW
            rw [hsrc] at TP
            clear hsrc hsz HS HT
            by_cases h40 : k < 40
            · obtain ⟨t, ht⟩ := src_fine 0 k (by decide) h40
              rw [ht] at TP
              clear ht
              go_wp2_with fail
              refine (TP _ (HD.out.below (two w _ _))).mono ?_
              intro x w2 h2
              obtain ⟨v0, v1, v2, v3, a4, l4, c4, a5, l5, c5, rfl, B2⟩ := out_node 0 0 rfl rfl h2
              have HB2 := Lib.hid ((two w _ _).trans (B2.mono (by simp; omega)))
              clear h2 TP B2
              have HD2 := Lib.hid (HD.out.below (HB2.out.alloc HB2.out.size (.cells #[.int .i64 v0, .string v1, .int .i64 v2, .int .i64 v3, .slice a4 l4 c4, .slice a5 l5 c5] 25)))
              go_wp2_with (first | (go_at_call 19; refine (QH.lives_any _ HD2.out).mono ?_; rintro e w4 ⟨rfl, hb4⟩; have HB4 := Lib.hid hb4; clear hb4))
              go_ret
              exact ⟨rfl, bnext (HB2.out.alloc HB2.out.size _) HB4.out⟩
            · obtain ⟨p, hp, ht⟩ := src_deep 0 k (by decide) (by omega) (by omega)
              rw [ht] at TP
              clear ht
              go_wp2_with fail
              refine (TP _ (HD.out.below (two w _ _))).mono ?_
              intro x w2 h2
              obtain ⟨v0, v1, v2, v3, a4, l4, c4, a5, l5, c5, rfl, B2⟩ := out_node (p : Int) 15 rfl rfl h2
              have HB2 := Lib.hid ((two w _ _).trans (B2.mono (by simp; omega)))
              have hp2 : (0 : Int) < (p : Int) := by omega
              clear h2 TP B2
              have HD2 := Lib.hid (HD.out.below (HB2.out.alloc HB2.out.size (.cells #[.int .i64 v0, .string v1, .int .i64 v2, .int .i64 v3, .slice a4 l4 c4, .slice a5 l5 c5] 25)))
              go_wp2_with (first | (go_at_call 19; refine (QH.lives_any _ HD2.out).mono ?_; rintro e w4 ⟨rfl, hb4⟩; have HB4 := Lib.hid hb4; clear hb4))
              go_ret
              exact ⟨rfl, bnext (HB2.out.alloc HB2.out.size _) HB4.out⟩
      · have hq : -(n1 + 1).tmod 3 = (1 : Int) := hq
        go_enter Tryz.func5, Tryz.ntmps5
        go_wp2
        clear hm hq
        go_loop [8, 9, 10] (fun s t i => ∃ (k : Nat) (S T : ByteArray), k ≤ m ∧ s = .string S ∧ t = .string T ∧ i = .int .i64 (k : Int) ∧ Hid (S.data.toList = ahead3 ++ opens [102, 117, 110, 32, 120, 32, 45, 62, 32] k) ∧ Hid (T.data.toList = [] ++ opens [] k)) (fun _ _ i => m - (intOf i).toNat)
        case atStart => exact ⟨0, ⟨#[100, 111, 32]⟩, ⟨#[]⟩, Nat.zero_le _, rfl, rfl, rfl, by rfl, by rfl⟩
        case round =>
          obtain ⟨k, S, T, hk, rfl, rfl, rfl, HS, HT⟩ := hrel
          have s1 : S.size ≤ 3 + k * 9 := Nat.le_of_eq (len_s HS.out)
          have s2 : T.size ≤ 0 + k * 0 := Nat.le_of_eq (len_s HT.out)
          by_cases hlt : k < m
          · have HS1 := Lib.hid (more_s S [102, 117, 110, 32, 120, 32, 45, 62, 32] ahead3 k HS.out)
            have HT1 := Lib.hid (more_s T [] [] k HT.out)
            go_wp2
            go_round
            case rel => exact ⟨k + 1, _, _, by omega, rfl, rfl, by go_num, HS1, HT1⟩
            case measure => simp [intOf]; omega
          · obtain rfl : k = m := by omega
            have hsrc : (S ++ (⟨#[55]⟩ : ByteArray) ++ T).data.toList = src 1 k := whole_s HS.out HT.out
            have hsz : (S ++ (⟨#[55]⟩ : ByteArray) ++ T).size ≤ maxLen := by rw [ByteArray.size_append, ByteArray.size_append]; show S.size + 1 + T.size ≤ _; unfold maxLen; omega
            have TP := fun W (hW : Dig W) => QG.program_is (S ++ (⟨#[55]⟩ : ByteArray) ++ T) W hsz hW
            rw [hsrc] at TP
            clear hsrc hsz HS HT
            by_cases h40 : k < 40
            · obtain ⟨t, ht⟩ := src_fine 1 k (by decide) h40
              rw [ht] at TP
              clear ht
              go_wp2_with fail
              refine (TP _ (HD.out.below (two w _ _))).mono ?_
              intro x w2 h2
              obtain ⟨v0, v1, v2, v3, a4, l4, c4, a5, l5, c5, rfl, B2⟩ := out_node 0 0 rfl rfl h2
              have HB2 := Lib.hid ((two w _ _).trans (B2.mono (by simp; omega)))
              clear h2 TP B2
              have HD2 := Lib.hid (HD.out.below (HB2.out.alloc HB2.out.size (.cells #[.int .i64 v0, .string v1, .int .i64 v2, .int .i64 v3, .slice a4 l4 c4, .slice a5 l5 c5] 25)))
              go_wp2_with (first | (go_at_call 19; refine (QH.lives_any _ HD2.out).mono ?_; rintro e w4 ⟨rfl, hb4⟩; have HB4 := Lib.hid hb4; clear hb4))
              go_ret
              exact ⟨rfl, bnext (HB2.out.alloc HB2.out.size _) HB4.out⟩
            · obtain ⟨p, hp, ht⟩ := src_deep 1 k (by decide) (by omega) (by omega)
              rw [ht] at TP
              clear ht
              go_wp2_with fail
              refine (TP _ (HD.out.below (two w _ _))).mono ?_
              intro x w2 h2
              obtain ⟨v0, v1, v2, v3, a4, l4, c4, a5, l5, c5, rfl, B2⟩ := out_node (p : Int) 15 rfl rfl h2
              have HB2 := Lib.hid ((two w _ _).trans (B2.mono (by simp; omega)))
              have hp2 : (0 : Int) < (p : Int) := by omega
              clear h2 TP B2
              have HD2 := Lib.hid (HD.out.below (HB2.out.alloc HB2.out.size (.cells #[.int .i64 v0, .string v1, .int .i64 v2, .int .i64 v3, .slice a4 l4 c4, .slice a5 l5 c5] 25)))
              go_wp2_with (first | (go_at_call 19; refine (QH.lives_any _ HD2.out).mono ?_; rintro e w4 ⟨rfl, hb4⟩; have HB4 := Lib.hid hb4; clear hb4))
              go_ret
              exact ⟨rfl, bnext (HB2.out.alloc HB2.out.size _) HB4.out⟩
      · have hq : -(n1 + 1).tmod 3 = (2 : Int) := hq
        go_enter Tryz.func5, Tryz.ntmps5
        go_wp2
        clear hm hq
        go_loop [8, 9, 10] (fun s t i => ∃ (k : Nat) (S T : ByteArray), k ≤ m ∧ s = .string S ∧ t = .string T ∧ i = .int .i64 (k : Int) ∧ Hid (S.data.toList = ahead3 ++ opens [109, 97, 116, 99, 104, 32, 49, 32, 119, 105, 116, 104, 32, 124, 32, 95, 32, 45, 62, 32] k) ∧ Hid (T.data.toList = [] ++ opens [32, 101, 110, 100] k)) (fun _ _ i => m - (intOf i).toNat)
        case atStart => exact ⟨0, ⟨#[100, 111, 32]⟩, ⟨#[]⟩, Nat.zero_le _, rfl, rfl, rfl, by rfl, by rfl⟩
        case round =>
          obtain ⟨k, S, T, hk, rfl, rfl, rfl, HS, HT⟩ := hrel
          have s1 : S.size ≤ 3 + k * 20 := Nat.le_of_eq (len_s HS.out)
          have s2 : T.size ≤ 0 + k * 4 := Nat.le_of_eq (len_s HT.out)
          by_cases hlt : k < m
          · have HS1 := Lib.hid (more_s S [109, 97, 116, 99, 104, 32, 49, 32, 119, 105, 116, 104, 32, 124, 32, 95, 32, 45, 62, 32] ahead3 k HS.out)
            have HT1 := Lib.hid (more_s T [32, 101, 110, 100] [] k HT.out)
            go_wp2
            go_round
            case rel => exact ⟨k + 1, _, _, by omega, rfl, rfl, by go_num, HS1, HT1⟩
            case measure => simp [intOf]; omega
          · obtain rfl : k = m := by omega
            have hsrc : (S ++ (⟨#[55]⟩ : ByteArray) ++ T).data.toList = src 2 k := whole_s HS.out HT.out
            have hsz : (S ++ (⟨#[55]⟩ : ByteArray) ++ T).size ≤ maxLen := by rw [ByteArray.size_append, ByteArray.size_append]; show S.size + 1 + T.size ≤ _; unfold maxLen; omega
            have TP := fun W (hW : Dig W) => QG.program_is (S ++ (⟨#[55]⟩ : ByteArray) ++ T) W hsz hW
            rw [hsrc] at TP
            clear hsrc hsz HS HT
            by_cases h40 : k < 40
            · obtain ⟨t, ht⟩ := src_fine 2 k (by decide) h40
              rw [ht] at TP
              clear ht
              go_wp2_with fail
              refine (TP _ (HD.out.below (two w _ _))).mono ?_
              intro x w2 h2
              obtain ⟨v0, v1, v2, v3, a4, l4, c4, a5, l5, c5, rfl, B2⟩ := out_node 0 0 rfl rfl h2
              have HB2 := Lib.hid ((two w _ _).trans (B2.mono (by simp; omega)))
              clear h2 TP B2
              have HD2 := Lib.hid (HD.out.below (HB2.out.alloc HB2.out.size (.cells #[.int .i64 v0, .string v1, .int .i64 v2, .int .i64 v3, .slice a4 l4 c4, .slice a5 l5 c5] 25)))
              go_wp2_with (first | (go_at_call 19; refine (QH.lives_any _ HD2.out).mono ?_; rintro e w4 ⟨rfl, hb4⟩; have HB4 := Lib.hid hb4; clear hb4))
              go_ret
              exact ⟨rfl, bnext (HB2.out.alloc HB2.out.size _) HB4.out⟩
            · obtain ⟨p, hp, ht⟩ := src_deep 2 k (by decide) (by omega) (by omega)
              rw [ht] at TP
              clear ht
              go_wp2_with fail
              refine (TP _ (HD.out.below (two w _ _))).mono ?_
              intro x w2 h2
              obtain ⟨v0, v1, v2, v3, a4, l4, c4, a5, l5, c5, rfl, B2⟩ := out_node (p : Int) 15 rfl rfl h2
              have HB2 := Lib.hid ((two w _ _).trans (B2.mono (by simp; omega)))
              have hp2 : (0 : Int) < (p : Int) := by omega
              clear h2 TP B2
              have HD2 := Lib.hid (HD.out.below (HB2.out.alloc HB2.out.size (.cells #[.int .i64 v0, .string v1, .int .i64 v2, .int .i64 v3, .slice a4 l4 c4, .slice a5 l5 c5] 25)))
              go_wp2_with (first | (go_at_call 19; refine (QH.lives_any _ HD2.out).mono ?_; rintro e w4 ⟨rfl, hb4⟩; have HB4 := Lib.hid hb4; clear hb4))
              go_ret
              exact ⟨rfl, bnext (HB2.out.alloc HB2.out.size _) HB4.out⟩
    · obtain ⟨q, hq, hql⟩ := pos_mod n1 3 (by omega) (by decide)
      have hq3 : q = 0 ∨ q = 1 ∨ q = 2 := by omega
      rcases hq3 with rfl | rfl | rfl
      · have hq : n1 % 3 = (0 : Int) := hq
        go_enter Tryz.func5, Tryz.ntmps5
        go_wp2
        clear hm hq
        go_loop [8, 9, 10] (fun s t i => ∃ (k : Nat) (S T : ByteArray), k ≤ m ∧ s = .string S ∧ t = .string T ∧ i = .int .i64 (k : Int) ∧ Hid (S.data.toList = ahead3 ++ opens [40] k) ∧ Hid (T.data.toList = [] ++ opens [41] k)) (fun _ _ i => m - (intOf i).toNat)
        case atStart => exact ⟨0, ⟨#[100, 111, 32]⟩, ⟨#[]⟩, Nat.zero_le _, rfl, rfl, rfl, by rfl, by rfl⟩
        case round =>
          obtain ⟨k, S, T, hk, rfl, rfl, rfl, HS, HT⟩ := hrel
          have s1 : S.size ≤ 3 + k * 1 := Nat.le_of_eq (len_s HS.out)
          have s2 : T.size ≤ 0 + k * 1 := Nat.le_of_eq (len_s HT.out)
          by_cases hlt : k < m
          · have HS1 := Lib.hid (more_s S [40] ahead3 k HS.out)
            have HT1 := Lib.hid (more_s T [41] [] k HT.out)
            go_wp2
            go_round
            case rel => exact ⟨k + 1, _, _, by omega, rfl, rfl, by go_num, HS1, HT1⟩
            case measure => simp [intOf]; omega
          · obtain rfl : k = m := by omega
            have hsrc : (S ++ (⟨#[55]⟩ : ByteArray) ++ T).data.toList = src 0 k := whole_s HS.out HT.out
            have hsz : (S ++ (⟨#[55]⟩ : ByteArray) ++ T).size ≤ maxLen := by rw [ByteArray.size_append, ByteArray.size_append]; show S.size + 1 + T.size ≤ _; unfold maxLen; omega
            have TP := fun W (hW : Dig W) => QG.program_is (S ++ (⟨#[55]⟩ : ByteArray) ++ T) W hsz hW
            rw [hsrc] at TP
            clear hsrc hsz HS HT
            by_cases h40 : k < 40
            · obtain ⟨t, ht⟩ := src_fine 0 k (by decide) h40
              rw [ht] at TP
              clear ht
              go_wp2_with fail
              refine (TP _ (HD.out.below (two w _ _))).mono ?_
              intro x w2 h2
              obtain ⟨v0, v1, v2, v3, a4, l4, c4, a5, l5, c5, rfl, B2⟩ := out_node 0 0 rfl rfl h2
              have HB2 := Lib.hid ((two w _ _).trans (B2.mono (by simp; omega)))
              clear h2 TP B2
              have HD2 := Lib.hid (HD.out.below (HB2.out.alloc HB2.out.size (.cells #[.int .i64 v0, .string v1, .int .i64 v2, .int .i64 v3, .slice a4 l4 c4, .slice a5 l5 c5] 25)))
              go_wp2_with (first | (go_at_call 19; refine (QH.lives_any _ HD2.out).mono ?_; rintro e w4 ⟨rfl, hb4⟩; have HB4 := Lib.hid hb4; clear hb4))
              go_ret
              exact ⟨rfl, bnext (HB2.out.alloc HB2.out.size _) HB4.out⟩
            · obtain ⟨p, hp, ht⟩ := src_deep 0 k (by decide) (by omega) (by omega)
              rw [ht] at TP
              clear ht
              go_wp2_with fail
              refine (TP _ (HD.out.below (two w _ _))).mono ?_
              intro x w2 h2
              obtain ⟨v0, v1, v2, v3, a4, l4, c4, a5, l5, c5, rfl, B2⟩ := out_node (p : Int) 15 rfl rfl h2
              have HB2 := Lib.hid ((two w _ _).trans (B2.mono (by simp; omega)))
              have hp2 : (0 : Int) < (p : Int) := by omega
              clear h2 TP B2
              have HD2 := Lib.hid (HD.out.below (HB2.out.alloc HB2.out.size (.cells #[.int .i64 v0, .string v1, .int .i64 v2, .int .i64 v3, .slice a4 l4 c4, .slice a5 l5 c5] 25)))
              go_wp2_with (first | (go_at_call 19; refine (QH.lives_any _ HD2.out).mono ?_; rintro e w4 ⟨rfl, hb4⟩; have HB4 := Lib.hid hb4; clear hb4))
              go_ret
              exact ⟨rfl, bnext (HB2.out.alloc HB2.out.size _) HB4.out⟩
      · have hq : n1 % 3 = (1 : Int) := hq
        go_enter Tryz.func5, Tryz.ntmps5
        go_wp2
        clear hm hq
        go_loop [8, 9, 10] (fun s t i => ∃ (k : Nat) (S T : ByteArray), k ≤ m ∧ s = .string S ∧ t = .string T ∧ i = .int .i64 (k : Int) ∧ Hid (S.data.toList = ahead3 ++ opens [102, 117, 110, 32, 120, 32, 45, 62, 32] k) ∧ Hid (T.data.toList = [] ++ opens [] k)) (fun _ _ i => m - (intOf i).toNat)
        case atStart => exact ⟨0, ⟨#[100, 111, 32]⟩, ⟨#[]⟩, Nat.zero_le _, rfl, rfl, rfl, by rfl, by rfl⟩
        case round =>
          obtain ⟨k, S, T, hk, rfl, rfl, rfl, HS, HT⟩ := hrel
          have s1 : S.size ≤ 3 + k * 9 := Nat.le_of_eq (len_s HS.out)
          have s2 : T.size ≤ 0 + k * 0 := Nat.le_of_eq (len_s HT.out)
          by_cases hlt : k < m
          · have HS1 := Lib.hid (more_s S [102, 117, 110, 32, 120, 32, 45, 62, 32] ahead3 k HS.out)
            have HT1 := Lib.hid (more_s T [] [] k HT.out)
            go_wp2
            go_round
            case rel => exact ⟨k + 1, _, _, by omega, rfl, rfl, by go_num, HS1, HT1⟩
            case measure => simp [intOf]; omega
          · obtain rfl : k = m := by omega
            have hsrc : (S ++ (⟨#[55]⟩ : ByteArray) ++ T).data.toList = src 1 k := whole_s HS.out HT.out
            have hsz : (S ++ (⟨#[55]⟩ : ByteArray) ++ T).size ≤ maxLen := by rw [ByteArray.size_append, ByteArray.size_append]; show S.size + 1 + T.size ≤ _; unfold maxLen; omega
            have TP := fun W (hW : Dig W) => QG.program_is (S ++ (⟨#[55]⟩ : ByteArray) ++ T) W hsz hW
            rw [hsrc] at TP
            clear hsrc hsz HS HT
            by_cases h40 : k < 40
            · obtain ⟨t, ht⟩ := src_fine 1 k (by decide) h40
              rw [ht] at TP
              clear ht
              go_wp2_with fail
              refine (TP _ (HD.out.below (two w _ _))).mono ?_
              intro x w2 h2
              obtain ⟨v0, v1, v2, v3, a4, l4, c4, a5, l5, c5, rfl, B2⟩ := out_node 0 0 rfl rfl h2
              have HB2 := Lib.hid ((two w _ _).trans (B2.mono (by simp; omega)))
              clear h2 TP B2
              have HD2 := Lib.hid (HD.out.below (HB2.out.alloc HB2.out.size (.cells #[.int .i64 v0, .string v1, .int .i64 v2, .int .i64 v3, .slice a4 l4 c4, .slice a5 l5 c5] 25)))
              go_wp2_with (first | (go_at_call 19; refine (QH.lives_any _ HD2.out).mono ?_; rintro e w4 ⟨rfl, hb4⟩; have HB4 := Lib.hid hb4; clear hb4))
              go_ret
              exact ⟨rfl, bnext (HB2.out.alloc HB2.out.size _) HB4.out⟩
            · obtain ⟨p, hp, ht⟩ := src_deep 1 k (by decide) (by omega) (by omega)
              rw [ht] at TP
              clear ht
              go_wp2_with fail
              refine (TP _ (HD.out.below (two w _ _))).mono ?_
              intro x w2 h2
              obtain ⟨v0, v1, v2, v3, a4, l4, c4, a5, l5, c5, rfl, B2⟩ := out_node (p : Int) 15 rfl rfl h2
              have HB2 := Lib.hid ((two w _ _).trans (B2.mono (by simp; omega)))
              have hp2 : (0 : Int) < (p : Int) := by omega
              clear h2 TP B2
              have HD2 := Lib.hid (HD.out.below (HB2.out.alloc HB2.out.size (.cells #[.int .i64 v0, .string v1, .int .i64 v2, .int .i64 v3, .slice a4 l4 c4, .slice a5 l5 c5] 25)))
              go_wp2_with (first | (go_at_call 19; refine (QH.lives_any _ HD2.out).mono ?_; rintro e w4 ⟨rfl, hb4⟩; have HB4 := Lib.hid hb4; clear hb4))
              go_ret
              exact ⟨rfl, bnext (HB2.out.alloc HB2.out.size _) HB4.out⟩
      · have hq : n1 % 3 = (2 : Int) := hq
        go_enter Tryz.func5, Tryz.ntmps5
        go_wp2
        clear hm hq
        go_loop [8, 9, 10] (fun s t i => ∃ (k : Nat) (S T : ByteArray), k ≤ m ∧ s = .string S ∧ t = .string T ∧ i = .int .i64 (k : Int) ∧ Hid (S.data.toList = ahead3 ++ opens [109, 97, 116, 99, 104, 32, 49, 32, 119, 105, 116, 104, 32, 124, 32, 95, 32, 45, 62, 32] k) ∧ Hid (T.data.toList = [] ++ opens [32, 101, 110, 100] k)) (fun _ _ i => m - (intOf i).toNat)
        case atStart => exact ⟨0, ⟨#[100, 111, 32]⟩, ⟨#[]⟩, Nat.zero_le _, rfl, rfl, rfl, by rfl, by rfl⟩
        case round =>
          obtain ⟨k, S, T, hk, rfl, rfl, rfl, HS, HT⟩ := hrel
          have s1 : S.size ≤ 3 + k * 20 := Nat.le_of_eq (len_s HS.out)
          have s2 : T.size ≤ 0 + k * 4 := Nat.le_of_eq (len_s HT.out)
          by_cases hlt : k < m
          · have HS1 := Lib.hid (more_s S [109, 97, 116, 99, 104, 32, 49, 32, 119, 105, 116, 104, 32, 124, 32, 95, 32, 45, 62, 32] ahead3 k HS.out)
            have HT1 := Lib.hid (more_s T [32, 101, 110, 100] [] k HT.out)
            go_wp2
            go_round
            case rel => exact ⟨k + 1, _, _, by omega, rfl, rfl, by go_num, HS1, HT1⟩
            case measure => simp [intOf]; omega
          · obtain rfl : k = m := by omega
            have hsrc : (S ++ (⟨#[55]⟩ : ByteArray) ++ T).data.toList = src 2 k := whole_s HS.out HT.out
            have hsz : (S ++ (⟨#[55]⟩ : ByteArray) ++ T).size ≤ maxLen := by rw [ByteArray.size_append, ByteArray.size_append]; show S.size + 1 + T.size ≤ _; unfold maxLen; omega
            have TP := fun W (hW : Dig W) => QG.program_is (S ++ (⟨#[55]⟩ : ByteArray) ++ T) W hsz hW
            rw [hsrc] at TP
            clear hsrc hsz HS HT
            by_cases h40 : k < 40
            · obtain ⟨t, ht⟩ := src_fine 2 k (by decide) h40
              rw [ht] at TP
              clear ht
              go_wp2_with fail
              refine (TP _ (HD.out.below (two w _ _))).mono ?_
              intro x w2 h2
              obtain ⟨v0, v1, v2, v3, a4, l4, c4, a5, l5, c5, rfl, B2⟩ := out_node 0 0 rfl rfl h2
              have HB2 := Lib.hid ((two w _ _).trans (B2.mono (by simp; omega)))
              clear h2 TP B2
              have HD2 := Lib.hid (HD.out.below (HB2.out.alloc HB2.out.size (.cells #[.int .i64 v0, .string v1, .int .i64 v2, .int .i64 v3, .slice a4 l4 c4, .slice a5 l5 c5] 25)))
              go_wp2_with (first | (go_at_call 19; refine (QH.lives_any _ HD2.out).mono ?_; rintro e w4 ⟨rfl, hb4⟩; have HB4 := Lib.hid hb4; clear hb4))
              go_ret
              exact ⟨rfl, bnext (HB2.out.alloc HB2.out.size _) HB4.out⟩
            · obtain ⟨p, hp, ht⟩ := src_deep 2 k (by decide) (by omega) (by omega)
              rw [ht] at TP
              clear ht
              go_wp2_with fail
              refine (TP _ (HD.out.below (two w _ _))).mono ?_
              intro x w2 h2
              obtain ⟨v0, v1, v2, v3, a4, l4, c4, a5, l5, c5, rfl, B2⟩ := out_node (p : Int) 15 rfl rfl h2
              have HB2 := Lib.hid ((two w _ _).trans (B2.mono (by simp; omega)))
              have hp2 : (0 : Int) < (p : Int) := by omega
              clear h2 TP B2
              have HD2 := Lib.hid (HD.out.below (HB2.out.alloc HB2.out.size (.cells #[.int .i64 v0, .string v1, .int .i64 v2, .int .i64 v3, .slice a4 l4 c4, .slice a5 l5 c5] 25)))
              go_wp2_with (first | (go_at_call 19; refine (QH.lives_any _ HD2.out).mono ?_; rintro e w4 ⟨rfl, hb4⟩; have HB4 := Lib.hid hb4; clear hb4))
              go_ret
              exact ⟨rfl, bnext (HB2.out.alloc HB2.out.size _) HB4.out⟩
  · obtain ⟨m, hm, hml⟩ := pos_mod n0 61 (by omega) (by decide)
    by_cases h1 : n1 < 0
    · obtain ⟨q, hq, hql⟩ := neg_mod n1 3 h1 (by decide)
      have hq3 : q = 0 ∨ q = 1 ∨ q = 2 := by omega
      rcases hq3 with rfl | rfl | rfl
      · have hq : -(n1 + 1).tmod 3 = (0 : Int) := hq
        go_enter Tryz.func5, Tryz.ntmps5
        go_wp2
        clear hm hq
        go_loop [8, 9, 10] (fun s t i => ∃ (k : Nat) (S T : ByteArray), k ≤ m ∧ s = .string S ∧ t = .string T ∧ i = .int .i64 (k : Int) ∧ Hid (S.data.toList = ahead3 ++ opens [40] k) ∧ Hid (T.data.toList = [] ++ opens [41] k)) (fun _ _ i => m - (intOf i).toNat)
        case atStart => exact ⟨0, ⟨#[100, 111, 32]⟩, ⟨#[]⟩, Nat.zero_le _, rfl, rfl, rfl, by rfl, by rfl⟩
        case round =>
          obtain ⟨k, S, T, hk, rfl, rfl, rfl, HS, HT⟩ := hrel
          have s1 : S.size ≤ 3 + k * 1 := Nat.le_of_eq (len_s HS.out)
          have s2 : T.size ≤ 0 + k * 1 := Nat.le_of_eq (len_s HT.out)
          by_cases hlt : k < m
          · have HS1 := Lib.hid (more_s S [40] ahead3 k HS.out)
            have HT1 := Lib.hid (more_s T [41] [] k HT.out)
            go_wp2
            go_round
            case rel => exact ⟨k + 1, _, _, by omega, rfl, rfl, by go_num, HS1, HT1⟩
            case measure => simp [intOf]; omega
          · obtain rfl : k = m := by omega
            have hsrc : (S ++ (⟨#[55]⟩ : ByteArray) ++ T).data.toList = src 0 k := whole_s HS.out HT.out
            have hsz : (S ++ (⟨#[55]⟩ : ByteArray) ++ T).size ≤ maxLen := by rw [ByteArray.size_append, ByteArray.size_append]; show S.size + 1 + T.size ≤ _; unfold maxLen; omega
            have TP := fun W (hW : Dig W) => QG.program_is (S ++ (⟨#[55]⟩ : ByteArray) ++ T) W hsz hW
            rw [hsrc] at TP
            clear hsrc hsz HS HT
            by_cases h40 : k < 40
            · obtain ⟨t, ht⟩ := src_fine 0 k (by decide) h40
              rw [ht] at TP
              clear ht
              go_wp2_with fail
              refine (TP _ (HD.out.below (two w _ _))).mono ?_
              intro x w2 h2
              obtain ⟨v0, v1, v2, v3, a4, l4, c4, a5, l5, c5, rfl, B2⟩ := out_node 0 0 rfl rfl h2
              have HB2 := Lib.hid ((two w _ _).trans (B2.mono (by simp; omega)))
              clear h2 TP B2
              have HD2 := Lib.hid (HD.out.below (HB2.out.alloc HB2.out.size (.cells #[.int .i64 v0, .string v1, .int .i64 v2, .int .i64 v3, .slice a4 l4 c4, .slice a5 l5 c5] 25)))
              go_wp2_with (first | (go_at_call 19; refine (QH.lives_any _ HD2.out).mono ?_; rintro e w4 ⟨rfl, hb4⟩; have HB4 := Lib.hid hb4; clear hb4))
              go_ret
              exact ⟨rfl, bnext (HB2.out.alloc HB2.out.size _) HB4.out⟩
            · obtain ⟨p, hp, ht⟩ := src_deep 0 k (by decide) (by omega) (by omega)
              rw [ht] at TP
              clear ht
              go_wp2_with fail
              refine (TP _ (HD.out.below (two w _ _))).mono ?_
              intro x w2 h2
              obtain ⟨v0, v1, v2, v3, a4, l4, c4, a5, l5, c5, rfl, B2⟩ := out_node (p : Int) 15 rfl rfl h2
              have HB2 := Lib.hid ((two w _ _).trans (B2.mono (by simp; omega)))
              have hp2 : (0 : Int) < (p : Int) := by omega
              clear h2 TP B2
              have HD2 := Lib.hid (HD.out.below (HB2.out.alloc HB2.out.size (.cells #[.int .i64 v0, .string v1, .int .i64 v2, .int .i64 v3, .slice a4 l4 c4, .slice a5 l5 c5] 25)))
              go_wp2_with (first | (go_at_call 19; refine (QH.lives_any _ HD2.out).mono ?_; rintro e w4 ⟨rfl, hb4⟩; have HB4 := Lib.hid hb4; clear hb4))
              go_ret
              exact ⟨rfl, bnext (HB2.out.alloc HB2.out.size _) HB4.out⟩
      · have hq : -(n1 + 1).tmod 3 = (1 : Int) := hq
        go_enter Tryz.func5, Tryz.ntmps5
        go_wp2
        clear hm hq
        go_loop [8, 9, 10] (fun s t i => ∃ (k : Nat) (S T : ByteArray), k ≤ m ∧ s = .string S ∧ t = .string T ∧ i = .int .i64 (k : Int) ∧ Hid (S.data.toList = ahead3 ++ opens [102, 117, 110, 32, 120, 32, 45, 62, 32] k) ∧ Hid (T.data.toList = [] ++ opens [] k)) (fun _ _ i => m - (intOf i).toNat)
        case atStart => exact ⟨0, ⟨#[100, 111, 32]⟩, ⟨#[]⟩, Nat.zero_le _, rfl, rfl, rfl, by rfl, by rfl⟩
        case round =>
          obtain ⟨k, S, T, hk, rfl, rfl, rfl, HS, HT⟩ := hrel
          have s1 : S.size ≤ 3 + k * 9 := Nat.le_of_eq (len_s HS.out)
          have s2 : T.size ≤ 0 + k * 0 := Nat.le_of_eq (len_s HT.out)
          by_cases hlt : k < m
          · have HS1 := Lib.hid (more_s S [102, 117, 110, 32, 120, 32, 45, 62, 32] ahead3 k HS.out)
            have HT1 := Lib.hid (more_s T [] [] k HT.out)
            go_wp2
            go_round
            case rel => exact ⟨k + 1, _, _, by omega, rfl, rfl, by go_num, HS1, HT1⟩
            case measure => simp [intOf]; omega
          · obtain rfl : k = m := by omega
            have hsrc : (S ++ (⟨#[55]⟩ : ByteArray) ++ T).data.toList = src 1 k := whole_s HS.out HT.out
            have hsz : (S ++ (⟨#[55]⟩ : ByteArray) ++ T).size ≤ maxLen := by rw [ByteArray.size_append, ByteArray.size_append]; show S.size + 1 + T.size ≤ _; unfold maxLen; omega
            have TP := fun W (hW : Dig W) => QG.program_is (S ++ (⟨#[55]⟩ : ByteArray) ++ T) W hsz hW
            rw [hsrc] at TP
            clear hsrc hsz HS HT
            by_cases h40 : k < 40
            · obtain ⟨t, ht⟩ := src_fine 1 k (by decide) h40
              rw [ht] at TP
              clear ht
              go_wp2_with fail
              refine (TP _ (HD.out.below (two w _ _))).mono ?_
              intro x w2 h2
              obtain ⟨v0, v1, v2, v3, a4, l4, c4, a5, l5, c5, rfl, B2⟩ := out_node 0 0 rfl rfl h2
              have HB2 := Lib.hid ((two w _ _).trans (B2.mono (by simp; omega)))
              clear h2 TP B2
              have HD2 := Lib.hid (HD.out.below (HB2.out.alloc HB2.out.size (.cells #[.int .i64 v0, .string v1, .int .i64 v2, .int .i64 v3, .slice a4 l4 c4, .slice a5 l5 c5] 25)))
              go_wp2_with (first | (go_at_call 19; refine (QH.lives_any _ HD2.out).mono ?_; rintro e w4 ⟨rfl, hb4⟩; have HB4 := Lib.hid hb4; clear hb4))
              go_ret
              exact ⟨rfl, bnext (HB2.out.alloc HB2.out.size _) HB4.out⟩
            · obtain ⟨p, hp, ht⟩ := src_deep 1 k (by decide) (by omega) (by omega)
              rw [ht] at TP
              clear ht
              go_wp2_with fail
              refine (TP _ (HD.out.below (two w _ _))).mono ?_
              intro x w2 h2
              obtain ⟨v0, v1, v2, v3, a4, l4, c4, a5, l5, c5, rfl, B2⟩ := out_node (p : Int) 15 rfl rfl h2
              have HB2 := Lib.hid ((two w _ _).trans (B2.mono (by simp; omega)))
              have hp2 : (0 : Int) < (p : Int) := by omega
              clear h2 TP B2
              have HD2 := Lib.hid (HD.out.below (HB2.out.alloc HB2.out.size (.cells #[.int .i64 v0, .string v1, .int .i64 v2, .int .i64 v3, .slice a4 l4 c4, .slice a5 l5 c5] 25)))
              go_wp2_with (first | (go_at_call 19; refine (QH.lives_any _ HD2.out).mono ?_; rintro e w4 ⟨rfl, hb4⟩; have HB4 := Lib.hid hb4; clear hb4))
              go_ret
              exact ⟨rfl, bnext (HB2.out.alloc HB2.out.size _) HB4.out⟩
      · have hq : -(n1 + 1).tmod 3 = (2 : Int) := hq
        go_enter Tryz.func5, Tryz.ntmps5
        go_wp2
        clear hm hq
        go_loop [8, 9, 10] (fun s t i => ∃ (k : Nat) (S T : ByteArray), k ≤ m ∧ s = .string S ∧ t = .string T ∧ i = .int .i64 (k : Int) ∧ Hid (S.data.toList = ahead3 ++ opens [109, 97, 116, 99, 104, 32, 49, 32, 119, 105, 116, 104, 32, 124, 32, 95, 32, 45, 62, 32] k) ∧ Hid (T.data.toList = [] ++ opens [32, 101, 110, 100] k)) (fun _ _ i => m - (intOf i).toNat)
        case atStart => exact ⟨0, ⟨#[100, 111, 32]⟩, ⟨#[]⟩, Nat.zero_le _, rfl, rfl, rfl, by rfl, by rfl⟩
        case round =>
          obtain ⟨k, S, T, hk, rfl, rfl, rfl, HS, HT⟩ := hrel
          have s1 : S.size ≤ 3 + k * 20 := Nat.le_of_eq (len_s HS.out)
          have s2 : T.size ≤ 0 + k * 4 := Nat.le_of_eq (len_s HT.out)
          by_cases hlt : k < m
          · have HS1 := Lib.hid (more_s S [109, 97, 116, 99, 104, 32, 49, 32, 119, 105, 116, 104, 32, 124, 32, 95, 32, 45, 62, 32] ahead3 k HS.out)
            have HT1 := Lib.hid (more_s T [32, 101, 110, 100] [] k HT.out)
            go_wp2
            go_round
            case rel => exact ⟨k + 1, _, _, by omega, rfl, rfl, by go_num, HS1, HT1⟩
            case measure => simp [intOf]; omega
          · obtain rfl : k = m := by omega
            have hsrc : (S ++ (⟨#[55]⟩ : ByteArray) ++ T).data.toList = src 2 k := whole_s HS.out HT.out
            have hsz : (S ++ (⟨#[55]⟩ : ByteArray) ++ T).size ≤ maxLen := by rw [ByteArray.size_append, ByteArray.size_append]; show S.size + 1 + T.size ≤ _; unfold maxLen; omega
            have TP := fun W (hW : Dig W) => QG.program_is (S ++ (⟨#[55]⟩ : ByteArray) ++ T) W hsz hW
            rw [hsrc] at TP
            clear hsrc hsz HS HT
            by_cases h40 : k < 40
            · obtain ⟨t, ht⟩ := src_fine 2 k (by decide) h40
              rw [ht] at TP
              clear ht
              go_wp2_with fail
              refine (TP _ (HD.out.below (two w _ _))).mono ?_
              intro x w2 h2
              obtain ⟨v0, v1, v2, v3, a4, l4, c4, a5, l5, c5, rfl, B2⟩ := out_node 0 0 rfl rfl h2
              have HB2 := Lib.hid ((two w _ _).trans (B2.mono (by simp; omega)))
              clear h2 TP B2
              have HD2 := Lib.hid (HD.out.below (HB2.out.alloc HB2.out.size (.cells #[.int .i64 v0, .string v1, .int .i64 v2, .int .i64 v3, .slice a4 l4 c4, .slice a5 l5 c5] 25)))
              go_wp2_with (first | (go_at_call 19; refine (QH.lives_any _ HD2.out).mono ?_; rintro e w4 ⟨rfl, hb4⟩; have HB4 := Lib.hid hb4; clear hb4))
              go_ret
              exact ⟨rfl, bnext (HB2.out.alloc HB2.out.size _) HB4.out⟩
            · obtain ⟨p, hp, ht⟩ := src_deep 2 k (by decide) (by omega) (by omega)
              rw [ht] at TP
              clear ht
              go_wp2_with fail
              refine (TP _ (HD.out.below (two w _ _))).mono ?_
              intro x w2 h2
              obtain ⟨v0, v1, v2, v3, a4, l4, c4, a5, l5, c5, rfl, B2⟩ := out_node (p : Int) 15 rfl rfl h2
              have HB2 := Lib.hid ((two w _ _).trans (B2.mono (by simp; omega)))
              have hp2 : (0 : Int) < (p : Int) := by omega
              clear h2 TP B2
              have HD2 := Lib.hid (HD.out.below (HB2.out.alloc HB2.out.size (.cells #[.int .i64 v0, .string v1, .int .i64 v2, .int .i64 v3, .slice a4 l4 c4, .slice a5 l5 c5] 25)))
              go_wp2_with (first | (go_at_call 19; refine (QH.lives_any _ HD2.out).mono ?_; rintro e w4 ⟨rfl, hb4⟩; have HB4 := Lib.hid hb4; clear hb4))
              go_ret
              exact ⟨rfl, bnext (HB2.out.alloc HB2.out.size _) HB4.out⟩
    · obtain ⟨q, hq, hql⟩ := pos_mod n1 3 (by omega) (by decide)
      have hq3 : q = 0 ∨ q = 1 ∨ q = 2 := by omega
      rcases hq3 with rfl | rfl | rfl
      · have hq : n1 % 3 = (0 : Int) := hq
        go_enter Tryz.func5, Tryz.ntmps5
        go_wp2
        clear hm hq
        go_loop [8, 9, 10] (fun s t i => ∃ (k : Nat) (S T : ByteArray), k ≤ m ∧ s = .string S ∧ t = .string T ∧ i = .int .i64 (k : Int) ∧ Hid (S.data.toList = ahead3 ++ opens [40] k) ∧ Hid (T.data.toList = [] ++ opens [41] k)) (fun _ _ i => m - (intOf i).toNat)
        case atStart => exact ⟨0, ⟨#[100, 111, 32]⟩, ⟨#[]⟩, Nat.zero_le _, rfl, rfl, rfl, by rfl, by rfl⟩
        case round =>
          obtain ⟨k, S, T, hk, rfl, rfl, rfl, HS, HT⟩ := hrel
          have s1 : S.size ≤ 3 + k * 1 := Nat.le_of_eq (len_s HS.out)
          have s2 : T.size ≤ 0 + k * 1 := Nat.le_of_eq (len_s HT.out)
          by_cases hlt : k < m
          · have HS1 := Lib.hid (more_s S [40] ahead3 k HS.out)
            have HT1 := Lib.hid (more_s T [41] [] k HT.out)
            go_wp2
            go_round
            case rel => exact ⟨k + 1, _, _, by omega, rfl, rfl, by go_num, HS1, HT1⟩
            case measure => simp [intOf]; omega
          · obtain rfl : k = m := by omega
            have hsrc : (S ++ (⟨#[55]⟩ : ByteArray) ++ T).data.toList = src 0 k := whole_s HS.out HT.out
            have hsz : (S ++ (⟨#[55]⟩ : ByteArray) ++ T).size ≤ maxLen := by rw [ByteArray.size_append, ByteArray.size_append]; show S.size + 1 + T.size ≤ _; unfold maxLen; omega
            have TP := fun W (hW : Dig W) => QG.program_is (S ++ (⟨#[55]⟩ : ByteArray) ++ T) W hsz hW
            rw [hsrc] at TP
            clear hsrc hsz HS HT
            by_cases h40 : k < 40
            · obtain ⟨t, ht⟩ := src_fine 0 k (by decide) h40
              rw [ht] at TP
              clear ht
              go_wp2_with fail
              refine (TP _ (HD.out.below (two w _ _))).mono ?_
              intro x w2 h2
              obtain ⟨v0, v1, v2, v3, a4, l4, c4, a5, l5, c5, rfl, B2⟩ := out_node 0 0 rfl rfl h2
              have HB2 := Lib.hid ((two w _ _).trans (B2.mono (by simp; omega)))
              clear h2 TP B2
              have HD2 := Lib.hid (HD.out.below (HB2.out.alloc HB2.out.size (.cells #[.int .i64 v0, .string v1, .int .i64 v2, .int .i64 v3, .slice a4 l4 c4, .slice a5 l5 c5] 25)))
              go_wp2_with (first | (go_at_call 19; refine (QH.lives_any _ HD2.out).mono ?_; rintro e w4 ⟨rfl, hb4⟩; have HB4 := Lib.hid hb4; clear hb4))
              go_ret
              exact ⟨rfl, bnext (HB2.out.alloc HB2.out.size _) HB4.out⟩
            · obtain ⟨p, hp, ht⟩ := src_deep 0 k (by decide) (by omega) (by omega)
              rw [ht] at TP
              clear ht
              go_wp2_with fail
              refine (TP _ (HD.out.below (two w _ _))).mono ?_
              intro x w2 h2
              obtain ⟨v0, v1, v2, v3, a4, l4, c4, a5, l5, c5, rfl, B2⟩ := out_node (p : Int) 15 rfl rfl h2
              have HB2 := Lib.hid ((two w _ _).trans (B2.mono (by simp; omega)))
              have hp2 : (0 : Int) < (p : Int) := by omega
              clear h2 TP B2
              have HD2 := Lib.hid (HD.out.below (HB2.out.alloc HB2.out.size (.cells #[.int .i64 v0, .string v1, .int .i64 v2, .int .i64 v3, .slice a4 l4 c4, .slice a5 l5 c5] 25)))
              go_wp2_with (first | (go_at_call 19; refine (QH.lives_any _ HD2.out).mono ?_; rintro e w4 ⟨rfl, hb4⟩; have HB4 := Lib.hid hb4; clear hb4))
              go_ret
              exact ⟨rfl, bnext (HB2.out.alloc HB2.out.size _) HB4.out⟩
      · have hq : n1 % 3 = (1 : Int) := hq
        go_enter Tryz.func5, Tryz.ntmps5
        go_wp2
        clear hm hq
        go_loop [8, 9, 10] (fun s t i => ∃ (k : Nat) (S T : ByteArray), k ≤ m ∧ s = .string S ∧ t = .string T ∧ i = .int .i64 (k : Int) ∧ Hid (S.data.toList = ahead3 ++ opens [102, 117, 110, 32, 120, 32, 45, 62, 32] k) ∧ Hid (T.data.toList = [] ++ opens [] k)) (fun _ _ i => m - (intOf i).toNat)
        case atStart => exact ⟨0, ⟨#[100, 111, 32]⟩, ⟨#[]⟩, Nat.zero_le _, rfl, rfl, rfl, by rfl, by rfl⟩
        case round =>
          obtain ⟨k, S, T, hk, rfl, rfl, rfl, HS, HT⟩ := hrel
          have s1 : S.size ≤ 3 + k * 9 := Nat.le_of_eq (len_s HS.out)
          have s2 : T.size ≤ 0 + k * 0 := Nat.le_of_eq (len_s HT.out)
          by_cases hlt : k < m
          · have HS1 := Lib.hid (more_s S [102, 117, 110, 32, 120, 32, 45, 62, 32] ahead3 k HS.out)
            have HT1 := Lib.hid (more_s T [] [] k HT.out)
            go_wp2
            go_round
            case rel => exact ⟨k + 1, _, _, by omega, rfl, rfl, by go_num, HS1, HT1⟩
            case measure => simp [intOf]; omega
          · obtain rfl : k = m := by omega
            have hsrc : (S ++ (⟨#[55]⟩ : ByteArray) ++ T).data.toList = src 1 k := whole_s HS.out HT.out
            have hsz : (S ++ (⟨#[55]⟩ : ByteArray) ++ T).size ≤ maxLen := by rw [ByteArray.size_append, ByteArray.size_append]; show S.size + 1 + T.size ≤ _; unfold maxLen; omega
            have TP := fun W (hW : Dig W) => QG.program_is (S ++ (⟨#[55]⟩ : ByteArray) ++ T) W hsz hW
            rw [hsrc] at TP
            clear hsrc hsz HS HT
            by_cases h40 : k < 40
            · obtain ⟨t, ht⟩ := src_fine 1 k (by decide) h40
              rw [ht] at TP
              clear ht
              go_wp2_with fail
              refine (TP _ (HD.out.below (two w _ _))).mono ?_
              intro x w2 h2
              obtain ⟨v0, v1, v2, v3, a4, l4, c4, a5, l5, c5, rfl, B2⟩ := out_node 0 0 rfl rfl h2
              have HB2 := Lib.hid ((two w _ _).trans (B2.mono (by simp; omega)))
              clear h2 TP B2
              have HD2 := Lib.hid (HD.out.below (HB2.out.alloc HB2.out.size (.cells #[.int .i64 v0, .string v1, .int .i64 v2, .int .i64 v3, .slice a4 l4 c4, .slice a5 l5 c5] 25)))
              go_wp2_with (first | (go_at_call 19; refine (QH.lives_any _ HD2.out).mono ?_; rintro e w4 ⟨rfl, hb4⟩; have HB4 := Lib.hid hb4; clear hb4))
              go_ret
              exact ⟨rfl, bnext (HB2.out.alloc HB2.out.size _) HB4.out⟩
            · obtain ⟨p, hp, ht⟩ := src_deep 1 k (by decide) (by omega) (by omega)
              rw [ht] at TP
              clear ht
              go_wp2_with fail
              refine (TP _ (HD.out.below (two w _ _))).mono ?_
              intro x w2 h2
              obtain ⟨v0, v1, v2, v3, a4, l4, c4, a5, l5, c5, rfl, B2⟩ := out_node (p : Int) 15 rfl rfl h2
              have HB2 := Lib.hid ((two w _ _).trans (B2.mono (by simp; omega)))
              have hp2 : (0 : Int) < (p : Int) := by omega
              clear h2 TP B2
              have HD2 := Lib.hid (HD.out.below (HB2.out.alloc HB2.out.size (.cells #[.int .i64 v0, .string v1, .int .i64 v2, .int .i64 v3, .slice a4 l4 c4, .slice a5 l5 c5] 25)))
              go_wp2_with (first | (go_at_call 19; refine (QH.lives_any _ HD2.out).mono ?_; rintro e w4 ⟨rfl, hb4⟩; have HB4 := Lib.hid hb4; clear hb4))
              go_ret
              exact ⟨rfl, bnext (HB2.out.alloc HB2.out.size _) HB4.out⟩
      · have hq : n1 % 3 = (2 : Int) := hq
        go_enter Tryz.func5, Tryz.ntmps5
        go_wp2
        clear hm hq
        go_loop [8, 9, 10] (fun s t i => ∃ (k : Nat) (S T : ByteArray), k ≤ m ∧ s = .string S ∧ t = .string T ∧ i = .int .i64 (k : Int) ∧ Hid (S.data.toList = ahead3 ++ opens [109, 97, 116, 99, 104, 32, 49, 32, 119, 105, 116, 104, 32, 124, 32, 95, 32, 45, 62, 32] k) ∧ Hid (T.data.toList = [] ++ opens [32, 101, 110, 100] k)) (fun _ _ i => m - (intOf i).toNat)
        case atStart => exact ⟨0, ⟨#[100, 111, 32]⟩, ⟨#[]⟩, Nat.zero_le _, rfl, rfl, rfl, by rfl, by rfl⟩
        case round =>
          obtain ⟨k, S, T, hk, rfl, rfl, rfl, HS, HT⟩ := hrel
          have s1 : S.size ≤ 3 + k * 20 := Nat.le_of_eq (len_s HS.out)
          have s2 : T.size ≤ 0 + k * 4 := Nat.le_of_eq (len_s HT.out)
          by_cases hlt : k < m
          · have HS1 := Lib.hid (more_s S [109, 97, 116, 99, 104, 32, 49, 32, 119, 105, 116, 104, 32, 124, 32, 95, 32, 45, 62, 32] ahead3 k HS.out)
            have HT1 := Lib.hid (more_s T [32, 101, 110, 100] [] k HT.out)
            go_wp2
            go_round
            case rel => exact ⟨k + 1, _, _, by omega, rfl, rfl, by go_num, HS1, HT1⟩
            case measure => simp [intOf]; omega
          · obtain rfl : k = m := by omega
            have hsrc : (S ++ (⟨#[55]⟩ : ByteArray) ++ T).data.toList = src 2 k := whole_s HS.out HT.out
            have hsz : (S ++ (⟨#[55]⟩ : ByteArray) ++ T).size ≤ maxLen := by rw [ByteArray.size_append, ByteArray.size_append]; show S.size + 1 + T.size ≤ _; unfold maxLen; omega
            have TP := fun W (hW : Dig W) => QG.program_is (S ++ (⟨#[55]⟩ : ByteArray) ++ T) W hsz hW
            rw [hsrc] at TP
            clear hsrc hsz HS HT
            by_cases h40 : k < 40
            · obtain ⟨t, ht⟩ := src_fine 2 k (by decide) h40
              rw [ht] at TP
              clear ht
              go_wp2_with fail
              refine (TP _ (HD.out.below (two w _ _))).mono ?_
              intro x w2 h2
              obtain ⟨v0, v1, v2, v3, a4, l4, c4, a5, l5, c5, rfl, B2⟩ := out_node 0 0 rfl rfl h2
              have HB2 := Lib.hid ((two w _ _).trans (B2.mono (by simp; omega)))
              clear h2 TP B2
              have HD2 := Lib.hid (HD.out.below (HB2.out.alloc HB2.out.size (.cells #[.int .i64 v0, .string v1, .int .i64 v2, .int .i64 v3, .slice a4 l4 c4, .slice a5 l5 c5] 25)))
              go_wp2_with (first | (go_at_call 19; refine (QH.lives_any _ HD2.out).mono ?_; rintro e w4 ⟨rfl, hb4⟩; have HB4 := Lib.hid hb4; clear hb4))
              go_ret
              exact ⟨rfl, bnext (HB2.out.alloc HB2.out.size _) HB4.out⟩
            · obtain ⟨p, hp, ht⟩ := src_deep 2 k (by decide) (by omega) (by omega)
              rw [ht] at TP
              clear ht
              go_wp2_with fail
              refine (TP _ (HD.out.below (two w _ _))).mono ?_
              intro x w2 h2
              obtain ⟨v0, v1, v2, v3, a4, l4, c4, a5, l5, c5, rfl, B2⟩ := out_node (p : Int) 15 rfl rfl h2
              have HB2 := Lib.hid ((two w _ _).trans (B2.mono (by simp; omega)))
              have hp2 : (0 : Int) < (p : Int) := by omega
              clear h2 TP B2
              have HD2 := Lib.hid (HD.out.below (HB2.out.alloc HB2.out.size (.cells #[.int .i64 v0, .string v1, .int .i64 v2, .int .i64 v3, .slice a4 l4 c4, .slice a5 l5 c5] 25)))
              go_wp2_with (first | (go_at_call 19; refine (QH.lives_any _ HD2.out).mono ?_; rintro e w4 ⟨rfl, hb4⟩; have HB4 := Lib.hid hb4; clear hb4))
              go_ret
              exact ⟨rfl, bnext (HB2.out.alloc HB2.out.size _) HB4.out⟩

end Go.Proofs.YtlcapkgbbgpdmaaGreatDoor.parseDeep
