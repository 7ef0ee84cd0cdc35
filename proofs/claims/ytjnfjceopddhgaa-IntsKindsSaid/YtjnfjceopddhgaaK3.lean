/- What Show gives: the number's digits, put into an array from its end on. -/
import Derived.Test.YtjnfjceopddhgaaK2
import Derived.Test.YtjnfjceopddhgaaS
import Derived.Laws.IdiomStrings
namespace Go.Proofs.Ytjnfjceopddhgaa.K3
open Go.ChangeShapes Go.WideShapes Go.ChangeAt Go.RowKit
open Go.Proofs.Ytjnfjceopddhgaa.M Go.Proofs.Ytjnfjceopddhgaa.K1 Go.Proofs.Ytjnfjceopddhgaa.S
set_option linter.unusedVariables false

theorem add_plain (b o j : Nat) : (⟨b, o, none⟩ : Addr).add j = ⟨b, o + j, none⟩ := by unfold Addr.add; split <;> simp_all

theorem conv_tail (w : World) (A : Array Value) (l : List UInt8) (o : Nat) (h : ∀ j (hj : j < l.length), A[o + j]? = some (.int .u8 (l[j].toNat : Int))) :
    (convert 41 9 (.slice (some ⟨w.heap.size, o, none⟩) l.length l.length)).run Try.prog (w.alloc (.cells A 40)) = .ok (.string ⟨l.toArray⟩) (w.alloc (.cells A 40)) := by
  refine run_convert_bytes_back (P := Try.prog) _ 41 9 5 _ _ l Try.underlying41 Try.underlying5 Try.underlying9 ?_
  intro j hj
  rw [add_plain, World.cell?_alloc_at _ _ _ _ rfl]
  exact h j hj

theorem len20 : Try.prog.arrayLen 40 = 20 := by kernel_rfl

theorem under20 : Try.prog.underlying 40 = some (.array (Try.prog.arrayLen 40) (Try.prog.elem 40)) := by kernel_rfl
theorem size20 (w : World) : (sizeOf (Try.prog.elem 40)).run Try.prog w = .ok 1 w := by kernel_rfl

theorem slice_text (b : Nat) (i : Int) (o k : Nat) (hi : i = o) (hk : o + k = 20) (h1 : 1 ≤ k) (w : World) :
    (Instr.sliceAt 40 (.pointer (some ⟨b, 0, none⟩)) (some (.int .i64 i)) none none).run Try.prog w = .ok (.slice (some ⟨b, o, none⟩) k k) w := by
  subst hi
  rw [run_sliceAt_array_l w _ _ under20 _ _ (by omega) (by rw [len20]; omega), size20, len20]
  have e : 20 - o = k := by omega
  simp only [Result.andThen, slicedAt, Int.toNat_natCast, e]
  rw [if_neg (by omega), add_plain]
  simp

theorem ret_str {a b : List UInt8} (h : a = b) : Ending.returned (.string ⟨a.toArray⟩) = .returned (.string ⟨b.toArray⟩) := by rw [h]

/-- The same with the sign ahead. -/
theorem neg_tail (m k o : Nat) (hk : k ≤ 19) (ho : o + k = 19) (j : Nat) (hj : j < (45 :: digs m k).length) :
    ((buf m k).setIfInBounds o (.int .u8 45))[o + j]? = some (.int .u8 (((45 :: digs m k)[j]).toNat : Int)) := by
  rw [Array.getElem?_setIfInBounds]
  cases j with
  | zero => rw [if_pos (by omega), if_pos (by rw [buf_size]; omega)]; rfl
  | succ j =>
    rw [List.length_cons, digs_length] at hj
    rw [if_neg (by omega), show o + (j + 1) = 20 - k + j from by omega, buf_tail m k j (by omega) (by omega)]
    rfl

theorem show_pos (n : Int) (m : Nat) (hm : w63 n = m) (w : World) (h0 : -9223372036854775808 ≤ n) (h1 : n ≤ 9223372036854775807) :
    Calls Try.prog 23 #[.int .i64 n] w fun e w' => e = .returned (.string ⟨(digs m (nd m)).toArray⟩) ∧ Below w.heap.size w w' := by
  have u : m ≤ 4611686018427387904 := by have := w63_hi n; omega
  have u2 : m < 10 ^ 31 := by omega
  go_enter Try.func23, Try.ntmps23
  go_wp2_with (go_at_call 16; refine (wrap_any _ _ (by omega) (by omega)).mono ?_; rintro e w' ⟨rfl, rfl⟩)
  clear hm h0 h1
  go_loopw [3, 5] (fun l t wr => ∃ k : Nat, k ≤ 18 ∧ (k = 0 ∨ 0 < m / 10 ^ k) ∧ l = .int .i64 ((m / 10 ^ k : Nat) : Int) ∧ t = .int .i64 (20 - (k : Int)) ∧ wr = w.alloc (.cells (buf m k) 40)) (fun _ t _ => (intOf t).toNat)
  case atStart => exact ⟨0, by omega, .inl rfl, by simp, rfl, rfl⟩
  case round =>
    obtain ⟨k, hk, hpos, rfl, rfl, rfl⟩ := hrel
    have HD := Lib.hid (div_step m k)
    have HS := Lib.hid (buf_set m k (by omega))
    have hc : (buf m k)[20 - k - 1]? = _ := buf_get m k (20 - k - 1) (by omega)
    have hL := Nat.div_le_self m (10 ^ k)
    have HG : Hid (48 + ((m / 10 ^ k : Nat) : Int) % 10 = (dig m k : Int)) := by unfold Hid dig; omega
    have HP := Lib.hid hpos
    clear hpos
    generalize hLe : m / 10 ^ k = L at *
    have HL := Lib.hid hLe
    clear hLe
    by_cases hz : L < 10
    · have hb : ((L : Int) / 10 == 0) = true := by rw [beq_iff_eq]; omega
      have hsl := fun wx => slice_text w.heap.size (20 - (k : Int) - 1) (20 - k - 1) (k + 1) (by omega) (by omega) (by omega) wx
      have hlen : IsLen m (k + 1) := ⟨by omega, by rw [← HD.out]; omega, by rw [Nat.add_sub_cancel, HL.out]; rcases HP.out with h | h <;> omega⟩
      have hbk : (convert 41 9 (.slice (some ⟨w.heap.size, 20 - k - 1, none⟩) (k + 1) (k + 1))).run Try.prog (w.alloc (.cells ((buf m k).setIfInBounds (20 - k - 1) (.int .u8 (48 + (L : Int) % 10))) 40)) = .ok (.string ⟨(digs m (k + 1)).toArray⟩) (w.alloc (.cells ((buf m k).setIfInBounds (20 - k - 1) (.int .u8 (48 + (L : Int) % 10))) 40)) := by
        rw [HG.out, show 20 - k - 1 = 19 - k from by omega, HS.out, show 19 - k = 20 - (k + 1) from by omega]
        have := conv_tail w (buf m (k + 1)) (digs m (k + 1)) (20 - (k + 1)) (fun j hj => buf_tail m (k + 1) j (by omega) (by rw [digs_length] at hj; exact hj))
        rw [digs_length] at this
        exact this
      have hN := Lib.hid (nd_of hlen u2)
      clear hlen u2
      go_wp2
      go_ret
      exact ⟨ret_str (by rw [hN.out]), (Below.refl _ _).alloc (Nat.le_refl _) _⟩
    · have hb : ((L : Int) / 10 == 0) = false := by rw [beq_eq_false_iff_ne]; omega
      have hk2 : k + 1 ≤ 18 := k_lt m (k + 1) u (by rw [← HD.out]; omega)
      go_wp2
      go_roundw
      case rel =>
        refine ⟨k + 1, hk2, .inr (by rw [← HD.out]; omega), ?_, ?_, ?_⟩
        · rw [← HD.out]; go_num
        · go_num
        · rw [HG.out, show 20 - k - 1 = 19 - k from by omega, HS.out]
      case measure => simp [intOf]; omega

theorem show_neg (n : Int) (m : Nat) (hm : w63 n = -(m : Int)) (hm1 : 1 ≤ m) (w : World) (h0 : -9223372036854775808 ≤ n) (h1 : n ≤ 9223372036854775807) :
    Calls Try.prog 23 #[.int .i64 n] w fun e w' => e = .returned (.string ⟨(45 :: digs m (nd m)).toArray⟩) ∧ Below w.heap.size w w' := by
  have u : m ≤ 4611686018427387904 := by have := w63_lo n; omega
  have u2 : m < 10 ^ 31 := by omega
  go_enter Try.func23, Try.ntmps23
  go_wp2_with (go_at_call 16; refine (wrap_any _ _ (by omega) (by omega)).mono ?_; rintro e w' ⟨rfl, rfl⟩)
  clear hm h0 h1
  go_loopw [3, 5] (fun l t wr => ∃ k : Nat, k ≤ 18 ∧ (k = 0 ∨ 0 < m / 10 ^ k) ∧ l = .int .i64 ((m / 10 ^ k : Nat) : Int) ∧ t = .int .i64 (20 - (k : Int)) ∧ wr = w.alloc (.cells (buf m k) 40)) (fun _ t _ => (intOf t).toNat)
  case atStart => exact ⟨0, by omega, .inl rfl, by simp, rfl, rfl⟩
  case round =>
    obtain ⟨k, hk, hpos, rfl, rfl, rfl⟩ := hrel
    have HD := Lib.hid (div_step m k)
    have HS := Lib.hid (buf_set m k (by omega))
    have hc : (buf m k)[20 - k - 1]? = _ := buf_get m k (20 - k - 1) (by omega)
    have hL := Nat.div_le_self m (10 ^ k)
    have HG : Hid (48 + ((m / 10 ^ k : Nat) : Int) % 10 = (dig m k : Int)) := by unfold Hid dig; omega
    have HP := Lib.hid hpos
    clear hpos
    generalize hLe : m / 10 ^ k = L at *
    have HL := Lib.hid hLe
    clear hLe
    by_cases hz : L < 10
    · have hb : ((L : Int) / 10 == 0) = true := by rw [beq_iff_eq]; omega
      have hc2 : (buf m (k + 1))[20 - k - 1 - 1]? = _ := buf_get m (k + 1) (20 - k - 1 - 1) (by omega)
      have hcs : ((buf m k).setIfInBounds (20 - k - 1) (.int .u8 (48 + (L : Int) % 10)))[20 - k - 1 - 1]? = (buf m (k + 1))[20 - k - 1 - 1]? := by rw [HG.out, show 20 - k - 1 = 19 - k from by omega, HS.out]
      have hc3 := hcs.trans hc2
      clear hc2 hcs
      have hsl := fun wx => slice_text w.heap.size (20 - (k : Int) - 1 - 1) (20 - k - 1 - 1) (k + 2) (by omega) (by omega) (by omega) wx
      have hlen : IsLen m (k + 1) := ⟨by omega, by rw [← HD.out]; omega, by rw [Nat.add_sub_cancel, HL.out]; rcases HP.out with h | h <;> omega⟩
      have hbk : (convert 41 9 (.slice (some ⟨w.heap.size, 20 - k - 1 - 1, none⟩) (k + 2) (k + 2))).run Try.prog (w.alloc (.cells (((buf m k).setIfInBounds (20 - k - 1) (.int .u8 (48 + (L : Int) % 10))).setIfInBounds (20 - k - 1 - 1) (.int .u8 45)) 40)) = .ok (.string ⟨(45 :: digs m (k + 1)).toArray⟩) (w.alloc (.cells (((buf m k).setIfInBounds (20 - k - 1) (.int .u8 (48 + (L : Int) % 10))).setIfInBounds (20 - k - 1 - 1) (.int .u8 45)) 40)) := by
        rw [HG.out, show 20 - k - 1 = 19 - k from by omega, HS.out]
        have := conv_tail w ((buf m (k + 1)).setIfInBounds (19 - k - 1) (.int .u8 45)) (45 :: digs m (k + 1)) (19 - k - 1) (fun j hj => neg_tail m (k + 1) (19 - k - 1) (by omega) (by omega) j hj)
        rw [List.length_cons, digs_length] at this
        exact this
      have hN := Lib.hid (nd_of hlen u2)
      clear hlen u2
      go_wp2
      go_ret
      exact ⟨ret_str (by rw [hN.out]), (Below.refl _ _).alloc (Nat.le_refl _) _⟩
    · have hb : ((L : Int) / 10 == 0) = false := by rw [beq_eq_false_iff_ne]; omega
      have hk2 : k + 1 ≤ 18 := k_lt m (k + 1) u (by rw [← HD.out]; omega)
      go_wp2
      go_roundw
      case rel =>
        refine ⟨k + 1, hk2, .inr (by rw [← HD.out]; omega), ?_, ?_, ?_⟩
        · rw [← HD.out]; go_num
        · go_num
        · rw [HG.out, show 20 - k - 1 = 19 - k from by omega, HS.out]
      case measure => simp [intOf]; omega

theorem show_any (n : Int) (w : World) (h0 : -9223372036854775808 ≤ n) (h1 : n ≤ 9223372036854775807) :
    Calls Try.prog 23 #[.int .i64 n] w fun e w' => e = .returned (.string ⟨(showL (w63 n)).toArray⟩) ∧ Below w.heap.size w w' := by
  unfold showL
  by_cases h : w63 n < 0
  · rw [if_pos h]
    exact show_neg n (w63 n).natAbs (by omega) (by omega) w h0 h1
  · rw [if_neg h]
    exact show_pos n (w63 n).natAbs (by omega) w h0 h1

end Go.Proofs.Ytjnfjceopddhgaa.K3
