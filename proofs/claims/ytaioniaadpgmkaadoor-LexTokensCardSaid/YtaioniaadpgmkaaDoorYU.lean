/- The document's token: names. -/
import Derived.Test.YtaioniaadpgmkaaDoorYO
import Derived.Outline
namespace Go.Proofs.YtaioniaadpgmkaaDoor.YU
open Go.RowKit Go.Proofs.YtaioniaadpgmkaaDoor.P Go.Proofs.YtaioniaadpgmkaaDoor.A Go.Proofs.YtaioniaadpgmkaaDoor.Q Go.Proofs.YtaioniaadpgmkaaDoor.V Go.Proofs.YtaioniaadpgmkaaDoor.TK Go.Proofs.YtaioniaadpgmkaaDoor.YC Go.Proofs.YtaioniaadpgmkaaDoor.YK Go.Proofs.YtaioniaadpgmkaaDoor.YL Go.Proofs.YtaioniaadpgmkaaDoor.YW Go.Proofs.YtaioniaadpgmkaaDoor.YE Go.Proofs.YtaioniaadpgmkaaDoor.YD Go.Proofs.YtaioniaadpgmkaaDoor.YH Go.Proofs.YtaioniaadpgmkaaDoor.YO Go.Proofs.YtaioniaadpgmkaaDoor.U
set_option linter.unusedVariables false

theorem name_text (s : ByteArray) (n : Nat) (h : lasts isN s 0 = n) : s.extract 0 n = ⟨(s.data.toList.takeWhile isN).toArray⟩ := by
  subst h
  have := lasts_text isN s 0 (Nat.zero_le _)
  rw [Nat.zero_add, List.drop_zero] at this
  exact this

set_option maxRecDepth 100000 in
set_option maxHeartbeats 4000000 in
theorem rtok_name (s : ByteArray) (w : World) (h0 : 0 < s.size) (hs : s.size ≤ 2000) (hD : isD s[0] = false) (hQ : s[0] ≠ 34) (bS bL : Bool) (hS : isS s[0] = bS) (hL : isL s[0] = bL) (hSL : bS = true ∧ bL = false ∨ bS = false ∧ bL = true) (q : (Nat × List UInt8 × Nat) × Nat × Nat)
    (hq : (if (s.data.toList.takeWhile isN).length ≤ 16 then ((if bL = true then 4 else if isKey (s.data.toList.takeWhile isN) = true then 6 else 3, s.data.toList.takeWhile isN, 0), (s.data.toList.takeWhile isN).length, 0) else ((0, [], 0), 0, 12)) = q) :
    Calls Tryd.prog 20 #[.string s] w fun e w' => e = .returned (tokr q) ∧ Below w.heap.size w w' := by
  have c1 := fun W => YC.rdigit_any s[0] W
  rw [hD] at c1
  have t34 : ((s[0].toNat : Int) == 34) = false := byte_ne (n := 34) (by decide) hQ
  have c2 := fun W => rsmall_any s[0] W
  rw [hS] at c2
  have c3 := fun W => rlarge_any s[0] W
  rw [hL] at c3
  have hn0 : isN s[0] = true := isN_of (by rw [hS, hL]; rcases hSL with ⟨rfl, rfl⟩ | ⟨rfl, rfl⟩ <;> rfl)
  have hN0 : 0 + 1 + lasts isN s (0 + 1) = lasts isN s 0 := by rw [lasts_yes h0 hn0]; omega
  have hNle := lasts_le (p := isN) (Nat.zero_le s.size)
  have hlen : (s.data.toList.takeWhile isN).length = lasts isN s 0 := by unfold lasts; rw [List.drop_zero]
  have htx := name_text s _ rfl
  rw [hlen] at hq
  generalize lasts isN s 0 = N at *
  generalize s.data.toList.takeWhile isN = T at *
  have HQ := Lib.hid hq
  have HN := Lib.hid hN0
  have HT : Hid (T.length = N) := hlen
  have HX := Lib.hid htx
  have HS := Lib.hid hSL
  clear hN0 hlen hq htx hn0 hD hQ hS hL hSL
  rcases HS.out with ⟨rfl, rfl⟩ | ⟨rfl, rfl⟩
  · go_enter Tryd.func20, Tryd.ntmps20
    go_wp2_with (first | (go_at_call 32; refine (c1 _).mono ?_; rintro e w0 ⟨rfl, rfl⟩) | (go_at_call 34; refine (c2 _).mono ?_; rintro e w0 ⟨rfl, rfl⟩) | (go_at_call 35; refine (c3 _).mono ?_; rintro e w0 ⟨rfl, rfl⟩))
    go_loop [6] (fun v => ∃ k : Nat, 1 ≤ k ∧ k ≤ s.size ∧ v = .int .i64 (k : Int) ∧ Hid (k + lasts isN s k = N)) (fun v => s.size - (intOf v).toNat)
    case atStart => exact ⟨1, Nat.le_refl _, h0, rfl, HN⟩
    case round =>
      obtain ⟨k, hk1, hk, rfl, HK⟩ := hrel
      by_cases hlt : k < s.size
      · have d2 := fun W => rsmall_any s[k] W
        have d3 := fun W => rlarge_any s[k] W
        have d1 := fun W => YC.rdigit_any s[k] W
        by_cases hyes : isN s[k] = true
        · have HK2 : Hid (k + 1 + lasts isN s (k + 1) = N) := by show _ = _; rw [← HK.out, lasts_yes hlt hyes]; omega
          cases e2 : isS s[k] with
          | true =>
            rw [e2] at d2
            clear hyes e2 d1 d3
            go_wp2_with (first | (go_at_call 34; refine (d2 _).mono ?_; rintro e w0 ⟨rfl, rfl⟩))
            go_round
            case rel => exact ⟨k + 1, by omega, by omega, by go_num, HK2⟩
            case measure => simp [intOf]; omega
          | false =>
            cases e3 : isL s[k] with
            | true =>
              rw [e2] at d2
              rw [e3] at d3
              clear hyes e2 e3 d1
              go_wp2_with (first | (go_at_call 34; refine (d2 _).mono ?_; rintro e w0 ⟨rfl, rfl⟩) | (go_at_call 35; refine (d3 _).mono ?_; rintro e w0 ⟨rfl, rfl⟩))
              go_round
              case rel => exact ⟨k + 1, by omega, by omega, by go_num, HK2⟩
              case measure => simp [intOf]; omega
            | false =>
              cases e1 : isD s[k] with
              | true =>
                rw [e2] at d2
                rw [e3] at d3
                rw [e1] at d1
                clear hyes e1 e2 e3
                go_wp2_with (first | (go_at_call 34; refine (d2 _).mono ?_; rintro e w0 ⟨rfl, rfl⟩) | (go_at_call 35; refine (d3 _).mono ?_; rintro e w0 ⟨rfl, rfl⟩) | (go_at_call 32; refine (d1 _).mono ?_; rintro e w0 ⟨rfl, rfl⟩))
                go_round
                case rel => exact ⟨k + 1, by omega, by omega, by go_num, HK2⟩
                case measure => simp [intOf]; omega
              | false =>
                have h95 : s[k] = 95 := by unfold isN at hyes; rw [e1, e2, e3] at hyes; simpa using hyes
                have t95 : ((s[k].toNat : Int) == 95) = true := byte_eq (n := 95) (by decide) h95
                rw [e2] at d2
                rw [e3] at d3
                rw [e1] at d1
                clear hyes e1 e2 e3 h95
                go_wp2_with (first | (go_at_call 34; refine (d2 _).mono ?_; rintro e w0 ⟨rfl, rfl⟩) | (go_at_call 35; refine (d3 _).mono ?_; rintro e w0 ⟨rfl, rfl⟩) | (go_at_call 32; refine (d1 _).mono ?_; rintro e w0 ⟨rfl, rfl⟩))
                go_round
                case rel => exact ⟨k + 1, by omega, by omega, by go_num, HK2⟩
                case measure => simp [intOf]; omega
        · have hno : isN s[k] = false := by simpa using hyes
          obtain rfl : k = N := by have := HK.out; rw [lasts_no hlt hno] at this; omega
          have e2 : isS s[k] = false := by unfold isN at hno; simp at hno; simp [hno]
          have e3 : isL s[k] = false := by unfold isN at hno; simp at hno; simp [hno]
          have e1 : isD s[k] = false := by unfold isN at hno; simp at hno; simp [hno]
          have h95 : s[k] ≠ 95 := by unfold isN at hno; simp at hno; simp [hno]
          have t95 : ((s[k].toNat : Int) == 95) = false := byte_ne (n := 95) (by decide) h95
          rw [e2] at d2
          rw [e3] at d3
          rw [e1] at d1
          clear hyes hno e1 e2 e3 h95 HK HN
          by_cases h16 : k ≤ 16
          · have hx := HX.out
            have HKY0 := fun W => rkey_any ⟨T.toArray⟩ W
            cases hky : isKey T with
            | true =>
              have HQ2 : Hid (q = ((6, T, 0), k, 0)) := by show q = _; rw [← HQ.out, if_pos h16, if_neg (by decide), if_pos hky]
              have HKY : ∀ W : World, Calls Tryd.prog 16 #[.string ⟨T.toArray⟩] W fun e w' => e = .returned (.bool true) ∧ Below W.heap.size W w' := fun W => by have := HKY0 W; rw [show isKey (⟨T.toArray⟩ : ByteArray).data.toList = true from hky] at this; exact this
              clear HKY0 hky
              go_wp2_with (first | (go_at_call 34; refine (d2 _).mono ?_; rintro e w0 ⟨rfl, rfl⟩) | (go_at_call 35; refine (d3 _).mono ?_; rintro e w0 ⟨rfl, rfl⟩) | (go_at_call 32; refine (d1 _).mono ?_; rintro e w0 ⟨rfl, rfl⟩) | (go_at_call 35; refine (c3 _).mono ?_; rintro e w0 ⟨rfl, rfl⟩) | (go_at_call 16; refine (HKY _).mono ?_; rintro e w1 ⟨rfl, hb1⟩; obtain ⟨hc, hf⟩ := bcell (b := w.heap.size) hb1 (by simp <;> omega); obtain ⟨hc2, hf2⟩ := bcell (b := w.heap.size + 1) hb1 (by simp <;> omega); have hz := hb1.size))
              exact bodyPost_ret (v := tokr ((6, T, 0), k, 0)) (by simp [results, Tryd.results20, go_sem, hc]) rfl ⟨by rw [HQ2.out], below4 (((((Below.refl _ _).alloc (Nat.le_refl _) _).alloc (by simp) _).trans (hb1.mono (by simp <;> omega))).setCell (p := ⟨w.heap.size + 1, 0, none⟩) (by show w.heap.size ≤ w.heap.size + 1; omega) _) (Nat.le_refl _) _ _ _ _⟩
            | false =>
              have HQ2 : Hid (q = ((3, T, 0), k, 0)) := by show q = _; rw [← HQ.out, if_pos h16, if_neg (by decide), if_neg (by rw [hky]; decide)]
              have HKY : ∀ W : World, Calls Tryd.prog 16 #[.string ⟨T.toArray⟩] W fun e w' => e = .returned (.bool false) ∧ Below W.heap.size W w' := fun W => by have := HKY0 W; rw [show isKey (⟨T.toArray⟩ : ByteArray).data.toList = false from hky] at this; exact this
              clear HKY0 hky
              go_wp2_with (first | (go_at_call 34; refine (d2 _).mono ?_; rintro e w0 ⟨rfl, rfl⟩) | (go_at_call 35; refine (d3 _).mono ?_; rintro e w0 ⟨rfl, rfl⟩) | (go_at_call 32; refine (d1 _).mono ?_; rintro e w0 ⟨rfl, rfl⟩) | (go_at_call 35; refine (c3 _).mono ?_; rintro e w0 ⟨rfl, rfl⟩) | (go_at_call 16; refine (HKY _).mono ?_; rintro e w1 ⟨rfl, hb1⟩; obtain ⟨hc, hf⟩ := bcell (b := w.heap.size) hb1 (by simp <;> omega); obtain ⟨hc2, hf2⟩ := bcell (b := w.heap.size + 1) hb1 (by simp <;> omega); have hz := hb1.size))
              exact bodyPost_ret (v := tokr ((3, T, 0), k, 0)) (by simp [results, Tryd.results20, go_sem, hc]) rfl ⟨by rw [HQ2.out], below4 ((((Below.refl _ _).alloc (Nat.le_refl _) _).alloc (by simp) _).trans (hb1.mono (by simp <;> omega))) (Nat.le_refl _) _ _ _ _⟩
          · have HQ2 : Hid (q = ((0, [], 0), 0, 12)) := by show q = _; rw [← HQ.out, if_neg h16]
            have h17 : (16 : Int) < (k : Int) := by omega
            go_wp2_with (first | (go_at_call 34; refine (d2 _).mono ?_; rintro e w0 ⟨rfl, rfl⟩) | (go_at_call 35; refine (d3 _).mono ?_; rintro e w0 ⟨rfl, rfl⟩) | (go_at_call 32; refine (d1 _).mono ?_; rintro e w0 ⟨rfl, rfl⟩) | (go_at_call 35; refine (c3 _).mono ?_; rintro e w0 ⟨rfl, rfl⟩))
            exact bodyPost_ret (v := tokr ((0, [], 0), 0, 12)) (by simp [results, Tryd.results20, go_sem]) rfl ⟨by rw [HQ2.out], (Below.refl _ _).alloc (Nat.le_refl _) _⟩
      · obtain rfl : k = N := by have := HK.out; rw [lasts_out (by omega)] at this; omega
        clear HK HN
        by_cases h16 : k ≤ 16
        · have hx := HX.out
          have HKY0 := fun W => rkey_any ⟨T.toArray⟩ W
          cases hky : isKey T with
          | true =>
            have HQ2 : Hid (q = ((6, T, 0), k, 0)) := by show q = _; rw [← HQ.out, if_pos h16, if_neg (by decide), if_pos hky]
            have HKY : ∀ W : World, Calls Tryd.prog 16 #[.string ⟨T.toArray⟩] W fun e w' => e = .returned (.bool true) ∧ Below W.heap.size W w' := fun W => by have := HKY0 W; rw [show isKey (⟨T.toArray⟩ : ByteArray).data.toList = true from hky] at this; exact this
            clear HKY0 hky
            go_wp2_with (first | (go_at_call 35; refine (c3 _).mono ?_; rintro e w0 ⟨rfl, rfl⟩) | (go_at_call 16; refine (HKY _).mono ?_; rintro e w1 ⟨rfl, hb1⟩; obtain ⟨hc, hf⟩ := bcell (b := w.heap.size) hb1 (by simp <;> omega); obtain ⟨hc2, hf2⟩ := bcell (b := w.heap.size + 1) hb1 (by simp <;> omega); have hz := hb1.size))
            exact bodyPost_ret (v := tokr ((6, T, 0), k, 0)) (by simp [results, Tryd.results20, go_sem, hc]) rfl ⟨by rw [HQ2.out], below4 (((((Below.refl _ _).alloc (Nat.le_refl _) _).alloc (by simp) _).trans (hb1.mono (by simp <;> omega))).setCell (p := ⟨w.heap.size + 1, 0, none⟩) (by show w.heap.size ≤ w.heap.size + 1; omega) _) (Nat.le_refl _) _ _ _ _⟩
          | false =>
            have HQ2 : Hid (q = ((3, T, 0), k, 0)) := by show q = _; rw [← HQ.out, if_pos h16, if_neg (by decide), if_neg (by rw [hky]; decide)]
            have HKY : ∀ W : World, Calls Tryd.prog 16 #[.string ⟨T.toArray⟩] W fun e w' => e = .returned (.bool false) ∧ Below W.heap.size W w' := fun W => by have := HKY0 W; rw [show isKey (⟨T.toArray⟩ : ByteArray).data.toList = false from hky] at this; exact this
            clear HKY0 hky
            go_wp2_with (first | (go_at_call 35; refine (c3 _).mono ?_; rintro e w0 ⟨rfl, rfl⟩) | (go_at_call 16; refine (HKY _).mono ?_; rintro e w1 ⟨rfl, hb1⟩; obtain ⟨hc, hf⟩ := bcell (b := w.heap.size) hb1 (by simp <;> omega); obtain ⟨hc2, hf2⟩ := bcell (b := w.heap.size + 1) hb1 (by simp <;> omega); have hz := hb1.size))
            exact bodyPost_ret (v := tokr ((3, T, 0), k, 0)) (by simp [results, Tryd.results20, go_sem, hc]) rfl ⟨by rw [HQ2.out], below4 ((((Below.refl _ _).alloc (Nat.le_refl _) _).alloc (by simp) _).trans (hb1.mono (by simp <;> omega))) (Nat.le_refl _) _ _ _ _⟩
        · have HQ2 : Hid (q = ((0, [], 0), 0, 12)) := by show q = _; rw [← HQ.out, if_neg h16]
          have h17 : (16 : Int) < (k : Int) := by omega
          go_wp2_with (first | (go_at_call 35; refine (c3 _).mono ?_; rintro e w0 ⟨rfl, rfl⟩))
          exact bodyPost_ret (v := tokr ((0, [], 0), 0, 12)) (by simp [results, Tryd.results20, go_sem]) rfl ⟨by rw [HQ2.out], (Below.refl _ _).alloc (Nat.le_refl _) _⟩
  · go_enter Tryd.func20, Tryd.ntmps20
    go_wp2_with (first | (go_at_call 32; refine (c1 _).mono ?_; rintro e w0 ⟨rfl, rfl⟩) | (go_at_call 34; refine (c2 _).mono ?_; rintro e w0 ⟨rfl, rfl⟩) | (go_at_call 35; refine (c3 _).mono ?_; rintro e w0 ⟨rfl, rfl⟩))
    go_loop [6] (fun v => ∃ k : Nat, 1 ≤ k ∧ k ≤ s.size ∧ v = .int .i64 (k : Int) ∧ Hid (k + lasts isN s k = N)) (fun v => s.size - (intOf v).toNat)
    case atStart => exact ⟨1, Nat.le_refl _, h0, rfl, HN⟩
    case round =>
      obtain ⟨k, hk1, hk, rfl, HK⟩ := hrel
      by_cases hlt : k < s.size
      · have d2 := fun W => rsmall_any s[k] W
        have d3 := fun W => rlarge_any s[k] W
        have d1 := fun W => YC.rdigit_any s[k] W
        by_cases hyes : isN s[k] = true
        · have HK2 : Hid (k + 1 + lasts isN s (k + 1) = N) := by show _ = _; rw [← HK.out, lasts_yes hlt hyes]; omega
          cases e2 : isS s[k] with
          | true =>
            rw [e2] at d2
            clear hyes e2 d1 d3
            go_wp2_with (first | (go_at_call 34; refine (d2 _).mono ?_; rintro e w0 ⟨rfl, rfl⟩))
            go_round
            case rel => exact ⟨k + 1, by omega, by omega, by go_num, HK2⟩
            case measure => simp [intOf]; omega
          | false =>
            cases e3 : isL s[k] with
            | true =>
              rw [e2] at d2
              rw [e3] at d3
              clear hyes e2 e3 d1
              go_wp2_with (first | (go_at_call 34; refine (d2 _).mono ?_; rintro e w0 ⟨rfl, rfl⟩) | (go_at_call 35; refine (d3 _).mono ?_; rintro e w0 ⟨rfl, rfl⟩))
              go_round
              case rel => exact ⟨k + 1, by omega, by omega, by go_num, HK2⟩
              case measure => simp [intOf]; omega
            | false =>
              cases e1 : isD s[k] with
              | true =>
                rw [e2] at d2
                rw [e3] at d3
                rw [e1] at d1
                clear hyes e1 e2 e3
                go_wp2_with (first | (go_at_call 34; refine (d2 _).mono ?_; rintro e w0 ⟨rfl, rfl⟩) | (go_at_call 35; refine (d3 _).mono ?_; rintro e w0 ⟨rfl, rfl⟩) | (go_at_call 32; refine (d1 _).mono ?_; rintro e w0 ⟨rfl, rfl⟩))
                go_round
                case rel => exact ⟨k + 1, by omega, by omega, by go_num, HK2⟩
                case measure => simp [intOf]; omega
              | false =>
                have h95 : s[k] = 95 := by unfold isN at hyes; rw [e1, e2, e3] at hyes; simpa using hyes
                have t95 : ((s[k].toNat : Int) == 95) = true := byte_eq (n := 95) (by decide) h95
                rw [e2] at d2
                rw [e3] at d3
                rw [e1] at d1
                clear hyes e1 e2 e3 h95
                go_wp2_with (first | (go_at_call 34; refine (d2 _).mono ?_; rintro e w0 ⟨rfl, rfl⟩) | (go_at_call 35; refine (d3 _).mono ?_; rintro e w0 ⟨rfl, rfl⟩) | (go_at_call 32; refine (d1 _).mono ?_; rintro e w0 ⟨rfl, rfl⟩))
                go_round
                case rel => exact ⟨k + 1, by omega, by omega, by go_num, HK2⟩
                case measure => simp [intOf]; omega
        · have hno : isN s[k] = false := by simpa using hyes
          obtain rfl : k = N := by have := HK.out; rw [lasts_no hlt hno] at this; omega
          have e2 : isS s[k] = false := by unfold isN at hno; simp at hno; simp [hno]
          have e3 : isL s[k] = false := by unfold isN at hno; simp at hno; simp [hno]
          have e1 : isD s[k] = false := by unfold isN at hno; simp at hno; simp [hno]
          have h95 : s[k] ≠ 95 := by unfold isN at hno; simp at hno; simp [hno]
          have t95 : ((s[k].toNat : Int) == 95) = false := byte_ne (n := 95) (by decide) h95
          rw [e2] at d2
          rw [e3] at d3
          rw [e1] at d1
          clear hyes hno e1 e2 e3 h95 HK HN
          by_cases h16 : k ≤ 16
          · have hx := HX.out
            have HQ2 : Hid (q = ((4, T, 0), k, 0)) := by show q = _; rw [← HQ.out, if_pos h16]; rfl
            go_wp2_with (first | (go_at_call 34; refine (d2 _).mono ?_; rintro e w0 ⟨rfl, rfl⟩) | (go_at_call 35; refine (d3 _).mono ?_; rintro e w0 ⟨rfl, rfl⟩) | (go_at_call 32; refine (d1 _).mono ?_; rintro e w0 ⟨rfl, rfl⟩) | (go_at_call 35; refine (c3 _).mono ?_; rintro e w0 ⟨rfl, rfl⟩))
            exact bodyPost_ret (v := tokr ((4, T, 0), k, 0)) (by simp [results, Tryd.results20, go_sem]) rfl ⟨by rw [HQ2.out], ((Below.refl _ _).alloc (Nat.le_refl _) _).alloc (by simp) _⟩
          · have HQ2 : Hid (q = ((0, [], 0), 0, 12)) := by show q = _; rw [← HQ.out, if_neg h16]
            have h17 : (16 : Int) < (k : Int) := by omega
            go_wp2_with (first | (go_at_call 34; refine (d2 _).mono ?_; rintro e w0 ⟨rfl, rfl⟩) | (go_at_call 35; refine (d3 _).mono ?_; rintro e w0 ⟨rfl, rfl⟩) | (go_at_call 32; refine (d1 _).mono ?_; rintro e w0 ⟨rfl, rfl⟩) | (go_at_call 35; refine (c3 _).mono ?_; rintro e w0 ⟨rfl, rfl⟩))
            exact bodyPost_ret (v := tokr ((0, [], 0), 0, 12)) (by simp [results, Tryd.results20, go_sem]) rfl ⟨by rw [HQ2.out], (Below.refl _ _).alloc (Nat.le_refl _) _⟩
      · obtain rfl : k = N := by have := HK.out; rw [lasts_out (by omega)] at this; omega
        clear HK HN
        by_cases h16 : k ≤ 16
        · have hx := HX.out
          have HQ2 : Hid (q = ((4, T, 0), k, 0)) := by show q = _; rw [← HQ.out, if_pos h16]; rfl
          go_wp2_with (first | (go_at_call 35; refine (c3 _).mono ?_; rintro e w0 ⟨rfl, rfl⟩))
          exact bodyPost_ret (v := tokr ((4, T, 0), k, 0)) (by simp [results, Tryd.results20, go_sem]) rfl ⟨by rw [HQ2.out], ((Below.refl _ _).alloc (Nat.le_refl _) _).alloc (by simp) _⟩
        · have HQ2 : Hid (q = ((0, [], 0), 0, 12)) := by show q = _; rw [← HQ.out, if_neg h16]
          have h17 : (16 : Int) < (k : Int) := by omega
          go_wp2_with (first | (go_at_call 35; refine (c3 _).mono ?_; rintro e w0 ⟨rfl, rfl⟩))
          exact bodyPost_ret (v := tokr ((0, [], 0), 0, 12)) (by simp [results, Tryd.results20, go_sem]) rfl ⟨by rw [HQ2.out], (Below.refl _ _).alloc (Nat.le_refl _) _⟩
end Go.Proofs.YtaioniaadpgmkaaDoor.YU
