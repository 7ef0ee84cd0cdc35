/- The document's own digits: one digit after the other, from the lowest on, put ahead of the text. -/
import Derived.Test.YtaioniaadpgmkaaDoorK3
namespace Go.Proofs.YtaioniaadpgmkaaDoor.K6
open Go.ChangeShapes Go.WideShapes Go.ChangeAt Go.RowKit
open Go.Proofs.YtaioniaadpgmkaaDoor.M Go.Proofs.YtaioniaadpgmkaaDoor.K1 Go.Proofs.YtaioniaadpgmkaaDoor.K3 Go.Proofs.YtaioniaadpgmkaaDoor.S
set_option linter.unusedVariables false

theorem conv_one (w : World) (x : Int) (c : UInt8) (h : x = (c.toNat : Int)) :
    (convert 34 9 (.slice (some ⟨w.heap.size, 0, none⟩) 1 1)).run Tryd.prog (w.alloc (.cells #[.int .u8 x] 5)) = .ok (.string ⟨#[c]⟩) (w.alloc (.cells #[.int .u8 x] 5)) := by
  subst h
  refine run_convert_bytes_back (P := Tryd.prog) _ 34 9 5 _ 1 [c] Tryd.underlying34 Tryd.underlying5 Tryd.underlying9 ?_
  intro j hj
  have : j = 0 := by simp at hj; omega
  subst this
  rw [Go.Proofs.YtaioniaadpgmkaaDoor.K3.add_plain, World.cell?_alloc_at _ _ _ _ rfl]
  rfl
theorem dig_byte (m k : Nat) : 48 + ((m / 10 ^ k : Nat) : Int) % 10 = ((UInt8.ofNat (dig m k)).toNat : Int) := by
  have h := dig_lt m k
  have e : (UInt8.ofNat (dig m k)).toNat = dig m k := by simp; omega
  rw [e]; unfold dig; omega
theorem ahead (m k : Nat) : (ByteArray.mk #[UInt8.ofNat (dig m k)] ++ ByteArray.mk (digs m k).toArray) = ByteArray.mk (digs m (k + 1)).toArray := by
  rw [digs_succ]
  exact ByteArray.mk_append_mk [UInt8.ofNat (dig m k)] (digs m k)
theorem ahead45 (m k : Nat) : (ByteArray.mk #[45] ++ ByteArray.mk (digs m k).toArray) = ByteArray.mk (45 :: digs m k).toArray :=
  ByteArray.mk_append_mk [45] (digs m k)
theorem ret_bytes {a b : ByteArray} (h : a = b) : Ending.returned (.string a) = .returned (.string b) := by rw [h]

theorem isLen_of {m k L : Nat} (hL : m / 10 ^ k = L) (hm : 1 ≤ m) (hz : L = 0) (hp : k = 0 ∨ 0 < m / 10 ^ (k - 1)) : IsLen m k := by
  subst hz
  have hk : k ≠ 0 := fun h => by subst h; simp at hL; omega
  exact ⟨by omega, hL, .inr (hp.elim (fun h => absurd h hk) id)⟩

theorem rshow_zero (n : Int) (hm : w63 n = 0) (w : World) (h0 : -9223372036854775808 ≤ n) (h1 : n ≤ 9223372036854775807) :
    Calls Tryd.prog 17 #[.int .i64 n] w fun e w' => e = .returned (.string ⟨#[48]⟩) ∧ Below w.heap.size w w' := by
  go_enter Tryd.func17, Tryd.ntmps17
  go_wp2_with (go_at_call 21; refine (rwrap_any _ _ (by omega) (by omega)).mono ?_; rintro e w' ⟨rfl, rfl⟩)
  go_ret
  exact ⟨rfl, Below.refl _ _⟩

theorem rshow_pos (n : Int) (m : Nat) (hm : w63 n = m) (hm1 : 1 ≤ m) (w : World) (h0 : -9223372036854775808 ≤ n) (h1 : n ≤ 9223372036854775807) :
    Calls Tryd.prog 17 #[.int .i64 n] w fun e w' => e = .returned (.string ⟨(digs m (nd m)).toArray⟩) ∧ Below w.heap.size w w' := by
  have u : m ≤ 4611686018427387904 := by have := w63_hi n; omega
  have u2 : m < 10 ^ 31 := by omega
  have e0 : ((m : Int) == 0) = false := by rw [beq_eq_false_iff_ne]; omega
  have e1 : decide ((m : Int) < 0) = false := by simp
  go_enter Tryd.func17, Tryd.ntmps17
  go_wp2_with (go_at_call 21; refine (rwrap_any _ _ (by omega) (by omega)).mono ?_; rintro e w' ⟨rfl, rfl⟩)
  clear hm h0 h1
  go_loopw [0, 3, 5] (fun x s d wr => ∃ k : Nat, k ≤ 19 ∧ (k = 0 ∨ 0 < m / 10 ^ (k - 1)) ∧ x = .int .i64 ((m / 10 ^ k : Nat) : Int) ∧ s = .string ⟨(digs m k).toArray⟩ ∧ Below w.heap.size w wr) (fun x _ _ _ => (intOf x).natAbs)
  case atStart => exact ⟨0, by omega, .inl rfl, by simp, rfl, Below.refl _ _⟩
  case round =>
    obtain ⟨k, hk, hpos, rfl, rfl, hbel⟩ := hrel
    have hlen : (digs m k).length ≤ 19 := by rw [digs_length]; exact hk
    have HA := Lib.hid (ahead m k)
    have HG := Lib.hid (dig_byte m k)
    have HD := Lib.hid (div_step m k)
    have HP := Lib.hid hpos
    have HT := Lib.hid (fun h : 0 < m / 10 ^ k => k_lt m k u h)
    clear hpos
    generalize hLe : m / 10 ^ k = L at *
    have HL := Lib.hid hLe
    clear hLe
    by_cases hz : L = 0
    · have hb : ((L : Int) != 0) = false := by rw [bne_eq_false_iff_eq]; omega
      have hi : IsLen m k := isLen_of HL.out hm1 hz HP.out
      have hN := Lib.hid (nd_of hi u2)
      clear hi u2 hz
      go_wp2
      go_ret
      exact ⟨ret_bytes (by rw [hN.out]), hbel⟩
    · have hb : ((L : Int) != 0) = true := by rw [bne_iff_ne]; omega
      have hk2 : k ≤ 18 := HT.out (by omega)
      have hbk := conv_one wr (48 + (L : Int) % 10) (UInt8.ofNat (dig m k)) HG.out
      have hLb : L ≤ 4611686018427387904 := by have := HL.out; have := Nat.div_le_self m (10 ^ k); omega
      go_wp2
      go_roundw
      case rel =>
        refine ⟨k + 1, by omega, .inr (by rw [Nat.add_sub_cancel, HL.out]; omega), ?_, ?_, (hbel.alloc hbel.size _)⟩
        · rw [← HD.out]; go_num
        · rw [HA.out]
      case measure => simp [intOf]; omega

theorem rshow_neg (n : Int) (m : Nat) (hm : w63 n = -(m : Int)) (hm1 : 1 ≤ m) (w : World) (h0 : -9223372036854775808 ≤ n) (h1 : n ≤ 9223372036854775807) :
    Calls Tryd.prog 17 #[.int .i64 n] w fun e w' => e = .returned (.string ⟨(45 :: digs m (nd m)).toArray⟩) ∧ Below w.heap.size w w' := by
  have u : m ≤ 4611686018427387904 := by have := w63_lo n; omega
  have u2 : m < 10 ^ 31 := by omega
  have e0 : (-(m : Int) == 0) = false := by rw [beq_eq_false_iff_ne]; omega
  have e1 : decide (-(m : Int) < 0) = true := by simp; omega
  go_enter Tryd.func17, Tryd.ntmps17
  go_wp2_with (go_at_call 21; refine (rwrap_any _ _ (by omega) (by omega)).mono ?_; rintro e w' ⟨rfl, rfl⟩)
  clear hm h0 h1
  go_loopw [0, 3, 5] (fun x s d wr => ∃ k : Nat, k ≤ 19 ∧ (k = 0 ∨ 0 < m / 10 ^ (k - 1)) ∧ x = .int .i64 (-((m / 10 ^ k : Nat) : Int)) ∧ s = .string ⟨(digs m k).toArray⟩ ∧ Below w.heap.size w wr) (fun x _ _ _ => (intOf x).natAbs)
  case atStart => exact ⟨0, by omega, .inl rfl, by simp, rfl, Below.refl _ _⟩
  case round =>
    obtain ⟨k, hk, hpos, rfl, rfl, hbel⟩ := hrel
    have hlen : (digs m k).length ≤ 19 := by rw [digs_length]; exact hk
    have HA := Lib.hid (ahead m k)
    have HG := Lib.hid (dig_byte m k)
    have HD := Lib.hid (div_step m k)
    have HP := Lib.hid hpos
    have HT := Lib.hid (fun h : 0 < m / 10 ^ k => k_lt m k u h)
    clear hpos
    generalize hLe : m / 10 ^ k = L at *
    have HL := Lib.hid hLe
    clear hLe
    by_cases hz : L = 0
    · have hb : (-(L : Int) != 0) = false := by rw [bne_eq_false_iff_eq]; omega
      have hi : IsLen m k := isLen_of HL.out hm1 hz HP.out
      have hN := Lib.hid (nd_of hi u2)
      clear hi u2 hz
      have H45 := Lib.hid (ahead45 m k)
      go_wp2
      go_ret
      exact ⟨ret_bytes (by rw [hN.out]; exact H45.out), hbel⟩
    · have hb : (-(L : Int) != 0) = true := by rw [bne_iff_ne]; omega
      have hk2 : k ≤ 18 := HT.out (by omega)
      have hbk := conv_one wr (48 + (L : Int) % 10) (UInt8.ofNat (dig m k)) HG.out
      have ht : (-(L : Int)).tmod 10 = -((L : Int) % 10) := by rw [tmod_neg_l, tmod_pos _ _ (by omega)]
      have hq : (-(L : Int)).tdiv 10 = -((L : Int) / 10) := by rw [tdiv_neg_l, tdiv_pos _ _ (by omega)]
      have hLb : L ≤ 4611686018427387904 := by have := HL.out; have := Nat.div_le_self m (10 ^ k); omega
      by_cases hd : (L : Int) % 10 = 0
      · rw [hd, Int.neg_zero] at ht
        rw [hd, Int.add_zero] at hbk
        clear hd
        go_wp2
        go_roundw
        case rel =>
          refine ⟨k + 1, by omega, .inr (by rw [Nat.add_sub_cancel, HL.out]; omega), ?_, ?_, (hbel.alloc hbel.size _)⟩
          · rw [← HD.out]; go_num
          · rw [HA.out]
        case measure => simp [intOf]; omega
      · have hd2 : 0 < (L : Int) % 10 := by omega
        clear hd
        go_wp2
        go_roundw
        case rel =>
          refine ⟨k + 1, by omega, .inr (by rw [Nat.add_sub_cancel, HL.out]; omega), ?_, ?_, (hbel.alloc hbel.size _)⟩
          · rw [← HD.out]; go_num
          · rw [HA.out]
        case measure => simp [intOf]; omega

theorem rshow_any (n : Int) (w : World) (h0 : -9223372036854775808 ≤ n) (h1 : n ≤ 9223372036854775807) :
    Calls Tryd.prog 17 #[.int .i64 n] w fun e w' => e = .returned (.string ⟨(showL (w63 n)).toArray⟩) ∧ Below w.heap.size w w' := by
  unfold showL
  by_cases h : w63 n < 0
  · rw [if_pos h]
    exact rshow_neg n (w63 n).natAbs (by omega) (by omega) w h0 h1
  · rw [if_neg h]
    by_cases hz : w63 n = 0
    · rw [hz]; exact rshow_zero n hz w h0 h1
    · exact rshow_pos n (w63 n).natAbs (by omega) (by omega) w h0 h1
end Go.Proofs.YtaioniaadpgmkaaDoor.K6
