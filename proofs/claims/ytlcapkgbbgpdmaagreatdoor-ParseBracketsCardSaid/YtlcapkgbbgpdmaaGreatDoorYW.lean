/- The reader takes all bytes of a kind; and a word of them. -/
import Derived.Test.YtlcapkgbbgpdmaaGreatDoorYR
namespace Go.Proofs.YtlcapkgbbgpdmaaGreatDoor.YW
open Go.RowKit Go.Proofs.YtlcapkgbbgpdmaaGreatDoor.P Go.Proofs.YtlcapkgbbgpdmaaGreatDoor.A Go.Proofs.YtlcapkgbbgpdmaaGreatDoor.TK Go.Proofs.YtlcapkgbbgpdmaaGreatDoor.YC Go.Proofs.YtlcapkgbbgpdmaaGreatDoor.YK Go.Proofs.YtlcapkgbbgpdmaaGreatDoor.YL Go.Proofs.YtlcapkgbbgpdmaaGreatDoor.YR Go.Proofs.YtlcapkgbbgpdmaaGreatDoor.U
set_option linter.unusedVariables false
set_option maxRecDepth 100000

theorem drop_at {s : ByteArray} {k : Nat} (h : k < s.size) : s.data.toList.drop k = s[k] :: s.data.toList.drop (k + 1) := by
  have hl : k < s.data.toList.length := by simpa using h
  rw [List.drop_eq_getElem_cons hl]; rfl
theorem drop_out {s : ByteArray} {k : Nat} (h : s.size ≤ k) : s.data.toList.drop k = [] := List.drop_eq_nil_of_le (by simpa using h)
/-- How many bytes of a kind stand from a place on. -/
def lasts (p : UInt8 → Bool) (s : ByteArray) (k : Nat) : Nat := ((s.data.toList.drop k).takeWhile p).length
theorem lasts_out {p : UInt8 → Bool} {s : ByteArray} {k : Nat} (h : s.size ≤ k) : lasts p s k = 0 := by unfold lasts; rw [drop_out h]; rfl
theorem lasts_yes {p : UInt8 → Bool} {s : ByteArray} {k : Nat} (h : k < s.size) (hp : p s[k] = true) : lasts p s k = lasts p s (k + 1) + 1 := by
  unfold lasts; rw [drop_at h, List.takeWhile_cons, if_pos hp]; rfl
theorem lasts_no {p : UInt8 → Bool} {s : ByteArray} {k : Nat} (h : k < s.size) (hp : p s[k] = false) : lasts p s k = 0 := by
  unfold lasts; rw [drop_at h, List.takeWhile_cons, if_neg (by rw [hp]; decide)]; rfl
theorem lasts_le {p : UInt8 → Bool} {s : ByteArray} {k : Nat} (h : k ≤ s.size) : k + lasts p s k ≤ s.size := by
  have := takeWhile_le p (s.data.toList.drop k)
  unfold lasts
  simp at this
  omega
theorem takeWhile_take (p : UInt8 → Bool) : ∀ l : List UInt8, l.take (l.takeWhile p).length = l.takeWhile p
  | [] => rfl
  | c :: l => by
    rw [List.takeWhile_cons]
    cases p c
    · rfl
    · show (c :: l).take ((l.takeWhile p).length + 1) = c :: l.takeWhile p
      rw [List.take_succ_cons, takeWhile_take p l]
theorem lasts_text (p : UInt8 → Bool) (s : ByteArray) (i : Nat) (hi : i ≤ s.size) : s.extract i (i + lasts p s i) = ⟨((s.data.toList.drop i).takeWhile p).toArray⟩ := by
  apply mk_of
  rw [ByteArray.data_extract, Array.toList_extract, List.extract_eq_take_drop, Nat.add_sub_cancel_left]
  exact takeWhile_take p _

theorem run_digits (w : World) (r : Nat) (s : ByteArray) (i : Nat) (h : RD w r s i) (hs : s.size ≤ 2100) (hi : i ≤ s.size) :
    Calls Tryz.prog 120 #[.pointer (some ⟨r, 0, none⟩), .func (.func 87) #[] #[]] w fun e w' => e = .returned (.string ⟨((s.data.toList.drop i).takeWhile isD).toArray⟩) ∧ RD w' r s (i + lasts isD s i) ∧ Gr r w w' := by
  have h0 := h.c0
  have h1 := h.c1
  have HH := Lib.hid h
  have HX0 := lasts_text isD s i hi
  have HL0 := lasts_le (p := isD) hi
  obtain ⟨n, hn⟩ : ∃ n, lasts isD s i = n := ⟨_, rfl⟩
  rw [hn] at HX0 HL0 ⊢
  have HX := Lib.hid HX0
  have HL := Lib.hid HL0
  have HN0 := Lib.hid hn
  clear h HX0 HL0 hn
  go_enter Tryz.func120, Tryz.ntmps120
  go_wp2
  go_loop [5] (fun v => ∃ k : Nat, k ≤ s.size ∧ v = .int .i64 (k : Int) ∧ i ≤ k ∧ Hid (k + lasts isD s k = i + n)) (fun v => s.size - (intOf v).toNat)
  case atStart => exact ⟨i, hi, rfl, Nat.le_refl _, (by rw [HN0.out] : _ = _)⟩
  case round =>
    obtain ⟨k, hk, rfl, hik, HA⟩ := hrel
    by_cases hlt : k < s.size
    · cases hd : isD s[k] with
      | true =>
        have HN : Hid (k + 1 + lasts isD s (k + 1) = i + n) := by
          show _ = _
          rw [← HA.out, lasts_yes hlt hd]; omega
        have c := digit_any s[k]
        rw [hd] at c
        clear hd
        go_wp2_with (first | (go_at_call 87; refine (c _).mono ?_; rintro e w0 ⟨rfl, rfl⟩))
        go_round
        case rel => exact ⟨k + 1, by omega, by go_num, by omega, HN⟩
        case measure => simp [intOf]; omega
      | false =>
        have hkn : k = i + n := by have := HA.out; rw [lasts_no hlt hd] at this; omega
        subst hkn
        have c := digit_any s[i + n]
        rw [hd] at c
        clear hd HA
        go_wp2_with (first | (go_at_call 87; refine (c _).mono ?_; rintro e w0 ⟨rfl, rfl⟩) | (go_at_call 128; refine (take_as _ r s i n _ HH.out hs HL.out (by omega)).mono ?_; rintro e w1 ⟨rfl, hr1, hg1⟩))
        go_ret
        exact ⟨ret_str HX.out, hr1, hg1⟩
    · have hkn : k = i + n := by have := HA.out; rw [lasts_out (by omega)] at this; omega
      subst hkn
      clear HA
      go_wp2_with (first | (go_at_call 128; refine (take_as _ r s i n _ HH.out hs HL.out (by omega)).mono ?_; rintro e w1 ⟨rfl, hr1, hg1⟩))
      go_ret
      exact ⟨ret_str HX.out, hr1, hg1⟩

theorem run_names (w : World) (r : Nat) (s : ByteArray) (i : Nat) (h : RD w r s i) (hs : s.size ≤ 2100) (hi : i ≤ s.size) :
    Calls Tryz.prog 120 #[.pointer (some ⟨r, 0, none⟩), .func (.func 157) #[] #[]] w fun e w' => e = .returned (.string ⟨((s.data.toList.drop i).takeWhile isN).toArray⟩) ∧ RD w' r s (i + lasts isN s i) ∧ Gr r w w' := by
  have h0 := h.c0
  have h1 := h.c1
  have HH := Lib.hid h
  have HX0 := lasts_text isN s i hi
  have HL0 := lasts_le (p := isN) hi
  obtain ⟨n, hn⟩ : ∃ n, lasts isN s i = n := ⟨_, rfl⟩
  rw [hn] at HX0 HL0 ⊢
  have HX := Lib.hid HX0
  have HL := Lib.hid HL0
  have HN0 := Lib.hid hn
  clear h HX0 HL0 hn
  go_enter Tryz.func120, Tryz.ntmps120
  go_wp2
  go_loop [5] (fun v => ∃ k : Nat, k ≤ s.size ∧ v = .int .i64 (k : Int) ∧ i ≤ k ∧ Hid (k + lasts isN s k = i + n)) (fun v => s.size - (intOf v).toNat)
  case atStart => exact ⟨i, hi, rfl, Nat.le_refl _, (by rw [HN0.out] : _ = _)⟩
  case round =>
    obtain ⟨k, hk, rfl, hik, HA⟩ := hrel
    by_cases hlt : k < s.size
    · cases hd : isN s[k] with
      | true =>
        have HN : Hid (k + 1 + lasts isN s (k + 1) = i + n) := by
          show _ = _
          rw [← HA.out, lasts_yes hlt hd]; omega
        have c := mayName_any s[k]
        rw [hd] at c
        clear hd
        go_wp2_with (first | (go_at_call 157; refine (c _).mono ?_; rintro e w0 ⟨rfl, rfl⟩))
        go_round
        case rel => exact ⟨k + 1, by omega, by go_num, by omega, HN⟩
        case measure => simp [intOf]; omega
      | false =>
        have hkn : k = i + n := by have := HA.out; rw [lasts_no hlt hd] at this; omega
        subst hkn
        have c := mayName_any s[i + n]
        rw [hd] at c
        clear hd HA
        go_wp2_with (first | (go_at_call 157; refine (c _).mono ?_; rintro e w0 ⟨rfl, rfl⟩) | (go_at_call 128; refine (take_as _ r s i n _ HH.out hs HL.out (by omega)).mono ?_; rintro e w1 ⟨rfl, hr1, hg1⟩))
        go_ret
        exact ⟨ret_str HX.out, hr1, hg1⟩
    · have hkn : k = i + n := by have := HA.out; rw [lasts_out (by omega)] at this; omega
      subst hkn
      clear HA
      go_wp2_with (first | (go_at_call 128; refine (take_as _ r s i n _ HH.out hs HL.out (by omega)).mono ?_; rintro e w1 ⟨rfl, hr1, hg1⟩))
      go_ret
      exact ⟨ret_str HX.out, hr1, hg1⟩

end Go.Proofs.YtlcapkgbbgpdmaaGreatDoor.YW
