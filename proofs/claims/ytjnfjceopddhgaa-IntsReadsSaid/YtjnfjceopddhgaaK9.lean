/- The document's own reading of a text: by two halves, which do not run over. -/
import Derived.Test.YtjnfjceopddhgaaK8
namespace Go.Proofs.Ytjnfjceopddhgaa.K9
open Go.ChangeShapes Go.WideShapes Go.ChangeAt Go.RowKit
open Go.Proofs.Ytjnfjceopddhgaa.M Go.Proofs.Ytjnfjceopddhgaa.K1 Go.Proofs.Ytjnfjceopddhgaa.S Go.Proofs.Ytjnfjceopddhgaa.R Go.Proofs.Ytjnfjceopddhgaa.K7 Go.Proofs.Ytjnfjceopddhgaa.K8
set_option linter.unusedVariables false

/-- The number of the first digits, but the last nine; and of those. -/
def hiOf (L : List UInt8) (k : Nat) : Nat := val (L.take (min k (L.length - 9)))
def loOf (L : List UInt8) (k : Nat) : Nat := val ((L.drop (L.length - 9)).take (k - (L.length - 9)))
theorem hi_zero (L : List UInt8) : hiOf L 0 = 0 := by simp [hiOf, val]
theorem lo_zero (L : List UInt8) : loOf L 0 = 0 := by simp [loOf, val]
theorem hi_step (L : List UInt8) (k : Nat) (h : k < L.length - 9) : hiOf L (k + 1) = 10 * hiOf L k + ((L[k]'(by omega)).toNat - 48) := by
  unfold hiOf
  rw [Nat.min_eq_left (by omega), Nat.min_eq_left (by omega), take_snoc L k (by omega), val_snoc]
theorem lo_stay (L : List UInt8) (k : Nat) (h : k < L.length - 9) : loOf L (k + 1) = loOf L k := by
  unfold loOf
  rw [show k + 1 - (L.length - 9) = 0 from by omega, show k - (L.length - 9) = 0 from by omega]
theorem hi_stay (L : List UInt8) (k : Nat) (h : L.length - 9 ≤ k) : hiOf L (k + 1) = hiOf L k := by
  unfold hiOf
  rw [Nat.min_eq_right (by omega), Nat.min_eq_right (by omega)]
theorem lo_step (L : List UInt8) (k : Nat) (h : L.length - 9 ≤ k) (hk : k < L.length) : loOf L (k + 1) = 10 * loOf L k + (L[k].toNat - 48) := by
  unfold loOf
  rw [show k + 1 - (L.length - 9) = (k - (L.length - 9)) + 1 from by omega, take_snoc _ _ (by rw [List.length_drop]; omega), val_snoc]
  congr 3
  rw [List.getElem_drop]
  congr 1
  omega
theorem all_sub {L M : List UInt8} (h : L.all isD = true) (s : ∀ c, c ∈ M → c ∈ L) : M.all isD = true := by
  rw [List.all_eq_true] at *
  exact fun c hc => h c (s c hc)
theorem hi_lt (L : List UInt8) (k : Nat) (h : L.all isD = true) (hl : L.length ≤ 19) : hiOf L k < 10000000000 := by
  have a := val_lt (L.take (min k (L.length - 9))) (all_sub h fun c hc => List.mem_of_mem_take hc)
  have b : 10 ^ (L.take (min k (L.length - 9))).length ≤ 10 ^ 10 := Nat.pow_le_pow_right (by omega) (by rw [List.length_take]; omega)
  unfold hiOf
  omega
theorem lo_lt (L : List UInt8) (k : Nat) (h : L.all isD = true) : loOf L k < 1000000000 := by
  have a := val_lt ((L.drop (L.length - 9)).take (k - (L.length - 9))) (all_sub h fun c hc => List.mem_of_mem_drop (List.mem_of_mem_take hc))
  have b : 10 ^ ((L.drop (L.length - 9)).take (k - (L.length - 9))).length ≤ 10 ^ 9 := Nat.pow_le_pow_right (by omega) (by rw [List.length_take, List.length_drop]; omega)
  unfold loOf
  omega
theorem hi_lo (L : List UInt8) : val L = hiOf L L.length * 1000000000 + loOf L L.length := by
  have g := val_append (L.take (L.length - 9)) (L.drop (L.length - 9))
  rw [List.take_append_drop] at g
  unfold hiOf loOf
  rw [Nat.min_eq_right (by omega), List.take_of_length_le (l := L.drop (L.length - 9)) (by rw [List.length_drop]; omega), g]
  by_cases h : L.length ≤ 9
  · rw [show L.length - 9 = 0 from by omega, List.take_zero, List.drop_zero, val_nil, Nat.zero_mul, Nat.zero_mul]
  · rw [List.length_drop, show L.length - (L.length - 9) = 9 from by omega]
theorem ok_iff (D : ByteArray) (h0 : 0 < D.size) (h : D.size = 1 ∨ D[0] ≠ 48) : okD D.data.toList = allD D.data.toList := by
  unfold okD allD
  have a : D.data.toList.isEmpty = false := by rw [List.isEmpty_eq_false_iff, ← ByteArray.toList_eq]; exact some_list D h0
  rw [a, len_list, head_list D h0]
  rcases h with h | h
  · rw [h]; simp
  · simp [h]
theorem ok_not (D : ByteArray) (h0 : 0 < D.size) (h1 : 1 < D.size) (h : D[0] = 48) : okD D.data.toList = false := by
  unfold okD
  have a : D.data.toList.isEmpty = false := by rw [List.isEmpty_eq_false_iff, ← ByteArray.toList_eq]; exact some_list D h0
  rw [a, len_list, head_list D h0, h, decide_eq_true h1]; rfl
theorem only_nought (D : ByteArray) (h0 : 0 < D.size) (h1 : D.size = 1) (h : D[0] = 48) : D.data.toList = [48] := by
  have a := head_list D h0
  have b := len_list D
  rw [h1] at b
  cases hl : D.data.toList with
  | nil => rw [hl] at b; simp at b
  | cons c t =>
    rw [hl] at a b
    simp only [List.head?_cons, Option.some.injEq, List.length_cons] at a b
    have : t = [] := List.length_eq_zero_iff.1 (by omega)
    rw [a, h, this]
theorem readD_nought (d : List UInt8) (h : d = [48]) : readD true d = (0, 1) := by rw [h]; rfl
theorem readD_nil (b : Bool) : readD b [] = (0, 1) := by unfold readD; rw [if_pos (.inl rfl)]

set_option maxHeartbeats 4000000 in
theorem rread_plain (D : ByteArray) (w : World) (h0 : 0 < D.size) (h : D[0] ≠ 45) (h48 : D[0] ≠ 48) (hs : D.size ≤ 1000) :
    Calls Try.prog 26 #[.string D] w fun e w' => e = .returned (.tuple #[.int .i64 (readD false D.data.toList).1, .int .i64 (readD false D.data.toList).2]) ∧ w = w' := by
  have HK := Lib.hid (ok_iff D h0 (.inr h48))
  have e1 : ((D[0].toNat : Int) == 45) = false := by rw [beq_eq_false_iff_ne]; intro e; exact h (UInt8.toNat_inj.1 (by simpa using Int.ofNat_inj.1 e))
  have e2 : ((D[0].toNat : Int) == 48) = false := by rw [beq_eq_false_iff_ne]; intro e; exact h48 (UInt8.toNat_inj.1 (by simpa using Int.ofNat_inj.1 e))
  have e3 : ((D.size : Int) == 0) = false := by rw [beq_eq_false_iff_ne]; omega
  clear h h48
  go_enter Try.func26, Try.ntmps26
  go_wp2
  go_loop [5] (fun t => ∃ k : Nat, k ≤ D.size ∧ (D.data.toList.take k).all isD = true ∧ t = .int .i64 (k : Int)) (fun t => D.size - (intOf t).toNat)
  case atStart => exact ⟨0, Nat.zero_le _, rfl, rfl⟩
  case round =>
    obtain ⟨k, hk, hall, rfl⟩ := hrel
    have HALL := Lib.hid hall
    clear hall
    by_cases hlt : k < D.size
    · cases hd : isD D[k] with
      | true =>
        have HNX := Lib.hid (all_next D k hlt HALL.out hd)
        obtain ⟨d0, d1⟩ := (isD_iff _).1 hd
        clear hd
        go_wp2
        go_round
        case rel => exact ⟨k + 1, by omega, HNX.out, by go_num⟩
        case measure => simp [intOf]; omega
      | false =>
        have HF : Hid (readD false D.data.toList = (0, 1)) := readD_no (HK.out.trans (all_not D k hlt hd))
        have hc : D[k].toNat < 48 ∨ (48 ≤ D[k].toNat ∧ 57 < D[k].toNat) := by
          simp [isD] at hd
          omega
        clear hd
        rcases hc with hc | ⟨hc, hc'⟩
        all_goals
          go_wp2
          go_ret2
          exact ⟨by rw [HF.out]; rfl, rfl⟩
    · have HA : Hid (D.data.toList.all isD = true) := by have h := HALL.out; rw [take_all D k (by omega)] at h; exact h
      have HO : Hid (okD D.data.toList = true) := HK.out.trans HA.out
      by_cases h19 : 19 < D.size
      · have HF : Hid (readD false D.data.toList = (0, 13)) := readD_pos_gt HO.out (by have := great _ HO.out (by rw [len_list]; exact h19); omega)
        go_wp2
        go_ret2
        exact ⟨by rw [HF.out]; rfl, rfl⟩
      · have HLL := Lib.hid (len_list D)
        go_wp2
        go_loop [6, 7, 8] (fun x y t => ∃ j p q : Nat, j ≤ D.size ∧ Hid (p = hiOf D.data.toList j) ∧ Hid (q = loOf D.data.toList j) ∧ p < 10000000000 ∧ q < 1000000000 ∧ x = .int .i64 (p : Int) ∧ y = .int .i64 (q : Int) ∧ t = .int .i64 (j : Int)) (fun _ _ t => D.size - (intOf t).toNat)
        case atStart => exact ⟨0, 0, 0, by omega, (hi_zero _).symm, (lo_zero _).symm, by omega, by omega, rfl, rfl, rfl⟩
        case round =>
          obtain ⟨j, p, q, hj, HP, HQ, hp, hq, rfl, rfl, rfl⟩ := hrel
          by_cases hlt : j < D.size
          · obtain ⟨d0, d1⟩ := (isD_iff _).1 (all_at D j hlt HA.out)
            by_cases h9 : 9 < (D.size : Int) - (j : Int)
            · have H1 : Hid (10 * p + (D[j].toNat - 48) = hiOf D.data.toList (j + 1)) := by unfold Hid; rw [hi_step _ j (by rw [HLL.out]; omega), HP.out]; rfl
              have H2 : Hid (q = loOf D.data.toList (j + 1)) := by unfold Hid; rw [lo_stay _ j (by rw [HLL.out]; omega)]; exact HQ.out
              have h3 := hi_lt D.data.toList (j + 1) HA.out (by rw [HLL.out]; omega)
              rw [← H1.out] at h3
              go_wp2
              go_round
              case rel => exact ⟨j + 1, 10 * p + (D[j].toNat - 48), q, by omega, H1.out, H2.out, h3, hq, by go_num, rfl, by go_num⟩
              case measure => simp [intOf]; omega
            · have H1 : Hid (p = hiOf D.data.toList (j + 1)) := by unfold Hid; rw [hi_stay _ j (by rw [HLL.out]; omega)]; exact HP.out
              have H2 : Hid (10 * q + (D[j].toNat - 48) = loOf D.data.toList (j + 1)) := by unfold Hid; rw [lo_step _ j (by rw [HLL.out]; omega) (by rw [HLL.out]; omega), HQ.out]; rfl
              have h3 := lo_lt D.data.toList (j + 1) HA.out
              rw [← H2.out] at h3
              go_wp2
              go_round
              case rel => exact ⟨j + 1, p, 10 * q + (D[j].toNat - 48), by omega, H1.out, H2.out, hp, h3, rfl, by go_num, by go_num⟩
              case measure => simp [intOf]; omega
          · have hje : j = D.data.toList.length := by rw [HLL.out]; omega
            have hV : val D.data.toList = p * 1000000000 + q := by rw [hi_lo, ← hje, ← HP.out, ← HQ.out]
            have HV := Lib.hid hV
            clear hV hje
            rcases (show 4611686018 < p ∨ p = 4611686018 ∨ p < 4611686018 by omega) with c | c | c
            · have g : (4611686018 : Int) < (p : Int) := by omega
              have HF : Hid (readD false D.data.toList = (0, 13)) := readD_pos_gt HO.out (by have := HV.out; omega)
              go_wp2
              go_ret2
              exact ⟨by rw [HF.out]; rfl, rfl⟩
            · have g : ((p : Int) == 4611686018) = true := by rw [c]; rfl
              have g1 : ¬ (4611686018 : Int) < (p : Int) := by omega
              have HC := Lib.hid c
              clear c
              rcases (show 427387904 < q ∨ q = 427387904 ∨ q < 427387904 by omega) with c | c | c
              · have g2 : (427387904 : Int) < (q : Int) := by omega
                have HF : Hid (readD false D.data.toList = (0, 13)) := readD_pos_gt HO.out (by have := HV.out; have := HC.out; omega)
                go_wp2
                go_ret2
                exact ⟨by rw [HF.out]; rfl, rfl⟩
              · have g2 : ((q : Int) == 427387904) = true := by rw [c]; rfl
                have g3 : ¬ (427387904 : Int) < (q : Int) := by omega
                have HF : Hid (readD false D.data.toList = (0, 13)) := readD_pos_gt HO.out (by have := HV.out; have := HC.out; omega)
                clear c
                go_wp2
                go_ret2
                exact ⟨by rw [HF.out]; rfl, rfl⟩
              · have g2 : ((q : Int) == 427387904) = false := by rw [beq_eq_false_iff_ne]; omega
                have g3 : ¬ (427387904 : Int) < (q : Int) := by omega
                have HF : Hid (readD false D.data.toList = (((p * 1000000000 + q : Nat) : Int), 0)) := by unfold Hid; rw [readD_pos_le HO.out (by have := HV.out; have := HC.out; omega), HV.out]
                have h5 : (p : Int) ≤ 4611686018 := by have := HC.out; omega
                go_wp2
                go_ret2
                exact ⟨by rw [HF.out]; exact ret2 (by omega), rfl⟩
            · have g : ((p : Int) == 4611686018) = false := by rw [beq_eq_false_iff_ne]; omega
              have g1 : ¬ (4611686018 : Int) < (p : Int) := by omega
              have HF : Hid (readD false D.data.toList = (((p * 1000000000 + q : Nat) : Int), 0)) := by unfold Hid; rw [readD_pos_le HO.out (by have := HV.out; omega), HV.out]
              go_wp2
              go_ret2
              exact ⟨by rw [HF.out]; exact ret2 (by omega), rfl⟩
set_option maxHeartbeats 4000000 in
theorem rread_nought (D : ByteArray) (w : World) (h0 : 0 < D.size) (h1 : D.size = 1) (h48 : D[0] = 48) :
    Calls Try.prog 26 #[.string D] w fun e w' => e = .returned (.tuple #[.int .i64 (readD false D.data.toList).1, .int .i64 (readD false D.data.toList).2]) ∧ w = w' := by
  have hs : D.size ≤ 1000 := by omega
  have HK := Lib.hid (ok_iff D h0 (.inl h1))
  have e1 : ((D[0].toNat : Int) == 45) = false := by rw [h48]; rfl
  have e2 : ((D[0].toNat : Int) == 48) = true := by rw [h48]; rfl
  have e3 : ((D.size : Int) == 0) = false := by rw [beq_eq_false_iff_ne]; omega
  have e4 : (D.toList == [48]) = true := by rw [ByteArray.toList_eq, only_nought D h0 h1 h48]; rfl
  have e5 : (D.toList != [48]) = false := by rw [bne, e4]; rfl
  clear h1 h48
  go_enter Try.func26, Try.ntmps26
  go_wp2
  go_loop [5] (fun t => ∃ k : Nat, k ≤ D.size ∧ (D.data.toList.take k).all isD = true ∧ t = .int .i64 (k : Int)) (fun t => D.size - (intOf t).toNat)
  case atStart => exact ⟨0, Nat.zero_le _, rfl, rfl⟩
  case round =>
    obtain ⟨k, hk, hall, rfl⟩ := hrel
    have HALL := Lib.hid hall
    clear hall
    by_cases hlt : k < D.size
    · cases hd : isD D[k] with
      | true =>
        have HNX := Lib.hid (all_next D k hlt HALL.out hd)
        obtain ⟨d0, d1⟩ := (isD_iff _).1 hd
        clear hd
        go_wp2
        go_round
        case rel => exact ⟨k + 1, by omega, HNX.out, by go_num⟩
        case measure => simp [intOf]; omega
      | false =>
        have HF : Hid (readD false D.data.toList = (0, 1)) := readD_no (HK.out.trans (all_not D k hlt hd))
        have hc : D[k].toNat < 48 ∨ (48 ≤ D[k].toNat ∧ 57 < D[k].toNat) := by
          simp [isD] at hd
          omega
        clear hd
        rcases hc with hc | ⟨hc, hc'⟩
        all_goals
          go_wp2
          go_ret2
          exact ⟨by rw [HF.out]; rfl, rfl⟩
    · have HA : Hid (D.data.toList.all isD = true) := by have h := HALL.out; rw [take_all D k (by omega)] at h; exact h
      have HO : Hid (okD D.data.toList = true) := HK.out.trans HA.out
      by_cases h19 : 19 < D.size
      · have HF : Hid (readD false D.data.toList = (0, 13)) := readD_pos_gt HO.out (by have := great _ HO.out (by rw [len_list]; exact h19); omega)
        go_wp2
        go_ret2
        exact ⟨by rw [HF.out]; rfl, rfl⟩
      · have HLL := Lib.hid (len_list D)
        go_wp2
        go_loop [6, 7, 8] (fun x y t => ∃ j p q : Nat, j ≤ D.size ∧ Hid (p = hiOf D.data.toList j) ∧ Hid (q = loOf D.data.toList j) ∧ p < 10000000000 ∧ q < 1000000000 ∧ x = .int .i64 (p : Int) ∧ y = .int .i64 (q : Int) ∧ t = .int .i64 (j : Int)) (fun _ _ t => D.size - (intOf t).toNat)
        case atStart => exact ⟨0, 0, 0, by omega, (hi_zero _).symm, (lo_zero _).symm, by omega, by omega, rfl, rfl, rfl⟩
        case round =>
          obtain ⟨j, p, q, hj, HP, HQ, hp, hq, rfl, rfl, rfl⟩ := hrel
          by_cases hlt : j < D.size
          · obtain ⟨d0, d1⟩ := (isD_iff _).1 (all_at D j hlt HA.out)
            by_cases h9 : 9 < (D.size : Int) - (j : Int)
            · have H1 : Hid (10 * p + (D[j].toNat - 48) = hiOf D.data.toList (j + 1)) := by unfold Hid; rw [hi_step _ j (by rw [HLL.out]; omega), HP.out]; rfl
              have H2 : Hid (q = loOf D.data.toList (j + 1)) := by unfold Hid; rw [lo_stay _ j (by rw [HLL.out]; omega)]; exact HQ.out
              have h3 := hi_lt D.data.toList (j + 1) HA.out (by rw [HLL.out]; omega)
              rw [← H1.out] at h3
              go_wp2
              go_round
              case rel => exact ⟨j + 1, 10 * p + (D[j].toNat - 48), q, by omega, H1.out, H2.out, h3, hq, by go_num, rfl, by go_num⟩
              case measure => simp [intOf]; omega
            · have H1 : Hid (p = hiOf D.data.toList (j + 1)) := by unfold Hid; rw [hi_stay _ j (by rw [HLL.out]; omega)]; exact HP.out
              have H2 : Hid (10 * q + (D[j].toNat - 48) = loOf D.data.toList (j + 1)) := by unfold Hid; rw [lo_step _ j (by rw [HLL.out]; omega) (by rw [HLL.out]; omega), HQ.out]; rfl
              have h3 := lo_lt D.data.toList (j + 1) HA.out
              rw [← H2.out] at h3
              go_wp2
              go_round
              case rel => exact ⟨j + 1, p, 10 * q + (D[j].toNat - 48), by omega, H1.out, H2.out, hp, h3, rfl, by go_num, by go_num⟩
              case measure => simp [intOf]; omega
          · have hje : j = D.data.toList.length := by rw [HLL.out]; omega
            have hV : val D.data.toList = p * 1000000000 + q := by rw [hi_lo, ← hje, ← HP.out, ← HQ.out]
            have HV := Lib.hid hV
            clear hV hje
            rcases (show 4611686018 < p ∨ p = 4611686018 ∨ p < 4611686018 by omega) with c | c | c
            · have g : (4611686018 : Int) < (p : Int) := by omega
              have HF : Hid (readD false D.data.toList = (0, 13)) := readD_pos_gt HO.out (by have := HV.out; omega)
              go_wp2
              go_ret2
              exact ⟨by rw [HF.out]; rfl, rfl⟩
            · have g : ((p : Int) == 4611686018) = true := by rw [c]; rfl
              have g1 : ¬ (4611686018 : Int) < (p : Int) := by omega
              have HC := Lib.hid c
              clear c
              rcases (show 427387904 < q ∨ q = 427387904 ∨ q < 427387904 by omega) with c | c | c
              · have g2 : (427387904 : Int) < (q : Int) := by omega
                have HF : Hid (readD false D.data.toList = (0, 13)) := readD_pos_gt HO.out (by have := HV.out; have := HC.out; omega)
                go_wp2
                go_ret2
                exact ⟨by rw [HF.out]; rfl, rfl⟩
              · have g2 : ((q : Int) == 427387904) = true := by rw [c]; rfl
                have g3 : ¬ (427387904 : Int) < (q : Int) := by omega
                have HF : Hid (readD false D.data.toList = (0, 13)) := readD_pos_gt HO.out (by have := HV.out; have := HC.out; omega)
                clear c
                go_wp2
                go_ret2
                exact ⟨by rw [HF.out]; rfl, rfl⟩
              · have g2 : ((q : Int) == 427387904) = false := by rw [beq_eq_false_iff_ne]; omega
                have g3 : ¬ (427387904 : Int) < (q : Int) := by omega
                have HF : Hid (readD false D.data.toList = (((p * 1000000000 + q : Nat) : Int), 0)) := by unfold Hid; rw [readD_pos_le HO.out (by have := HV.out; have := HC.out; omega), HV.out]
                have h5 : (p : Int) ≤ 4611686018 := by have := HC.out; omega
                go_wp2
                go_ret2
                exact ⟨by rw [HF.out]; exact ret2 (by omega), rfl⟩
            · have g : ((p : Int) == 4611686018) = false := by rw [beq_eq_false_iff_ne]; omega
              have g1 : ¬ (4611686018 : Int) < (p : Int) := by omega
              have HF : Hid (readD false D.data.toList = (((p * 1000000000 + q : Nat) : Int), 0)) := by unfold Hid; rw [readD_pos_le HO.out (by have := HV.out; omega), HV.out]
              go_wp2
              go_ret2
              exact ⟨by rw [HF.out]; exact ret2 (by omega), rfl⟩
theorem rread_bad (D : ByteArray) (w : World) (h0 : 0 < D.size) (h1 : 1 < D.size) (h48 : D[0] = 48) (hs : D.size ≤ 1000) :
    Calls Try.prog 26 #[.string D] w fun e w' => e = .returned (.tuple #[.int .i64 (readD false D.data.toList).1, .int .i64 (readD false D.data.toList).2]) ∧ w = w' := by
  have HF : Hid (readD false D.data.toList = (0, 1)) := readD_no (ok_not D h0 h1 h48)
  have e1 : ((D[0].toNat : Int) == 45) = false := by rw [h48]; rfl
  have e2 : ((D[0].toNat : Int) == 48) = true := by rw [h48]; rfl
  have e3 : ((D.size : Int) == 0) = false := by rw [beq_eq_false_iff_ne]; omega
  have e4 : (D.toList == [48]) = false := by rw [ByteArray.toList_eq, beq_eq_false_iff_ne]; intro c; have := congrArg List.length c; rw [len_list] at this; simp at this; omega
  have e5 : (D.toList != [48]) = true := by rw [bne, e4]; rfl
  clear h48
  go_enter Try.func26, Try.ntmps26
  go_wp2
  go_ret2
  exact ⟨by rw [HF.out]; rfl, rfl⟩
theorem rread_nil (w : World) :
    Calls Try.prog 26 #[.string ⟨#[]⟩] w fun e w' => e = .returned (.tuple #[.int .i64 0, .int .i64 1]) ∧ w = w' := by
  go_enter Try.func26, Try.ntmps26
  go_wp2
  go_ret2
  exact ⟨rfl, rfl⟩
theorem rread_dnil (s D : ByteArray) (w : World) (g0 : 0 < s.size) (h : s[0] = 45) (hE : s.extract 1 s.size = D) (hl : D.size < s.size) (hz : D.size = 0) :
    Calls Try.prog 26 #[.string s] w fun e w' => e = .returned (.tuple #[.int .i64 (readD true D.data.toList).1, .int .i64 (readD true D.data.toList).2]) ∧ w = w' := by
  have e1 : ((s[0].toNat : Int) == 45) = true := by rw [h]; rfl
  have e4 : (s.toList == [48]) = false := by
    rw [ByteArray.toList_eq, beq_eq_false_iff_ne]
    intro c
    have a := head_list s g0
    rw [c, h] at a
    exact absurd a (by decide)
  have e5 : (s.toList != [48]) = true := by rw [bne, e4]; rfl
  have g1 : (0 : Int) < (s.size : Int) := by omega
  have HE := Lib.hid hE
  clear h
  have HF : Hid (readD true D.data.toList = (0, 1)) := by rw [size_zero hz]; exact readD_nil true
  have e3 : ((D.size : Int) == 0) = true := by rw [hz]; rfl
  clear hz
  go_enter Try.func26, Try.ntmps26
  go_wp2
  go_ret2
  exact ⟨by rw [HF.out]; rfl, rfl⟩
theorem rread_dbad (s D : ByteArray) (w : World) (g0 : 0 < s.size) (h : s[0] = 45) (hE : s.extract 1 s.size = D) (hl : D.size < s.size) (h0 : 0 < D.size) (h48 : D[0] = 48) (hs : D.size ≤ 1000) :
    Calls Try.prog 26 #[.string s] w fun e w' => e = .returned (.tuple #[.int .i64 (readD true D.data.toList).1, .int .i64 (readD true D.data.toList).2]) ∧ w = w' := by
  have e1 : ((s[0].toNat : Int) == 45) = true := by rw [h]; rfl
  have e4 : (s.toList == [48]) = false := by
    rw [ByteArray.toList_eq, beq_eq_false_iff_ne]
    intro c
    have a := head_list s g0
    rw [c, h] at a
    exact absurd a (by decide)
  have e5 : (s.toList != [48]) = true := by rw [bne, e4]; rfl
  have g1 : (0 : Int) < (s.size : Int) := by omega
  have HE := Lib.hid hE
  clear h
  have HF : Hid (readD true D.data.toList = (0, 1)) := by
    by_cases h1 : D.size = 1
    · exact readD_nought _ (only_nought D h0 h1 h48)
    · exact readD_no (ok_not D h0 (by omega) h48)
  have e2 : ((D[0].toNat : Int) == 48) = true := by rw [h48]; rfl
  have e3 : ((D.size : Int) == 0) = false := by rw [beq_eq_false_iff_ne]; omega
  clear h48
  go_enter Try.func26, Try.ntmps26
  go_wp2
  go_ret2
  exact ⟨by rw [HF.out]; rfl, rfl⟩
set_option maxHeartbeats 4000000 in
theorem rread_dash (s D : ByteArray) (w : World) (g0 : 0 < s.size) (h : s[0] = 45) (hE : s.extract 1 s.size = D) (hl : D.size < s.size) (h0 : 0 < D.size) (h48 : D[0] ≠ 48) (hs : D.size ≤ 1000) :
    Calls Try.prog 26 #[.string s] w fun e w' => e = .returned (.tuple #[.int .i64 (readD true D.data.toList).1, .int .i64 (readD true D.data.toList).2]) ∧ w = w' := by
  have e1 : ((s[0].toNat : Int) == 45) = true := by rw [h]; rfl
  have e4 : (s.toList == [48]) = false := by
    rw [ByteArray.toList_eq, beq_eq_false_iff_ne]
    intro c
    have a := head_list s g0
    rw [c, h] at a
    exact absurd a (by decide)
  have e5 : (s.toList != [48]) = true := by rw [bne, e4]; rfl
  have g1 : (0 : Int) < (s.size : Int) := by omega
  have HE := Lib.hid hE
  clear h
  have HN : Hid (¬ D.data.toList = [48]) := by
    intro c
    have a := head_list D h0
    rw [c] at a
    exact h48 (by simpa using a.symm)
  have HK := Lib.hid (ok_iff D h0 (.inr h48))
  have e2 : ((D[0].toNat : Int) == 48) = false := by rw [beq_eq_false_iff_ne]; intro e; exact h48 (UInt8.toNat_inj.1 (by simpa using Int.ofNat_inj.1 e))
  have e3 : ((D.size : Int) == 0) = false := by rw [beq_eq_false_iff_ne]; omega
  have hl2 : ((D.size : Int) == (s.size : Int)) = false := by rw [beq_eq_false_iff_ne]; omega
  clear h48
  go_enter Try.func26, Try.ntmps26
  go_wp2
  go_loop [5] (fun t => ∃ k : Nat, k ≤ D.size ∧ (D.data.toList.take k).all isD = true ∧ t = .int .i64 (k : Int)) (fun t => D.size - (intOf t).toNat)
  case atStart => exact ⟨0, Nat.zero_le _, rfl, rfl⟩
  case round =>
    obtain ⟨k, hk, hall, rfl⟩ := hrel
    have HALL := Lib.hid hall
    clear hall
    by_cases hlt : k < D.size
    · cases hd : isD D[k] with
      | true =>
        have HNX := Lib.hid (all_next D k hlt HALL.out hd)
        obtain ⟨d0, d1⟩ := (isD_iff _).1 hd
        clear hd
        go_wp2
        go_round
        case rel => exact ⟨k + 1, by omega, HNX.out, by go_num⟩
        case measure => simp [intOf]; omega
      | false =>
        have HF : Hid (readD true D.data.toList = (0, 1)) := readD_no (HK.out.trans (all_not D k hlt hd))
        have hc : D[k].toNat < 48 ∨ (48 ≤ D[k].toNat ∧ 57 < D[k].toNat) := by
          simp [isD] at hd
          omega
        clear hd
        rcases hc with hc | ⟨hc, hc'⟩
        all_goals
          go_wp2
          go_ret2
          exact ⟨by rw [HF.out]; rfl, rfl⟩
    · have HA : Hid (D.data.toList.all isD = true) := by have h := HALL.out; rw [take_all D k (by omega)] at h; exact h
      have HO : Hid (okD D.data.toList = true) := HK.out.trans HA.out
      by_cases h19 : 19 < D.size
      · have HF : Hid (readD true D.data.toList = (0, 13)) := readD_neg_gt HO.out HN.out (by have := great _ HO.out (by rw [len_list]; exact h19); omega)
        go_wp2
        go_ret2
        exact ⟨by rw [HF.out]; rfl, rfl⟩
      · have HLL := Lib.hid (len_list D)
        go_wp2
        go_loop [6, 7, 8] (fun x y t => ∃ j p q : Nat, j ≤ D.size ∧ Hid (p = hiOf D.data.toList j) ∧ Hid (q = loOf D.data.toList j) ∧ p < 10000000000 ∧ q < 1000000000 ∧ x = .int .i64 (p : Int) ∧ y = .int .i64 (q : Int) ∧ t = .int .i64 (j : Int)) (fun _ _ t => D.size - (intOf t).toNat)
        case atStart => exact ⟨0, 0, 0, by omega, (hi_zero _).symm, (lo_zero _).symm, by omega, by omega, rfl, rfl, rfl⟩
        case round =>
          obtain ⟨j, p, q, hj, HP, HQ, hp, hq, rfl, rfl, rfl⟩ := hrel
          by_cases hlt : j < D.size
          · obtain ⟨d0, d1⟩ := (isD_iff _).1 (all_at D j hlt HA.out)
            by_cases h9 : 9 < (D.size : Int) - (j : Int)
            · have H1 : Hid (10 * p + (D[j].toNat - 48) = hiOf D.data.toList (j + 1)) := by unfold Hid; rw [hi_step _ j (by rw [HLL.out]; omega), HP.out]; rfl
              have H2 : Hid (q = loOf D.data.toList (j + 1)) := by unfold Hid; rw [lo_stay _ j (by rw [HLL.out]; omega)]; exact HQ.out
              have h3 := hi_lt D.data.toList (j + 1) HA.out (by rw [HLL.out]; omega)
              rw [← H1.out] at h3
              go_wp2
              go_round
              case rel => exact ⟨j + 1, 10 * p + (D[j].toNat - 48), q, by omega, H1.out, H2.out, h3, hq, by go_num, rfl, by go_num⟩
              case measure => simp [intOf]; omega
            · have H1 : Hid (p = hiOf D.data.toList (j + 1)) := by unfold Hid; rw [hi_stay _ j (by rw [HLL.out]; omega)]; exact HP.out
              have H2 : Hid (10 * q + (D[j].toNat - 48) = loOf D.data.toList (j + 1)) := by unfold Hid; rw [lo_step _ j (by rw [HLL.out]; omega) (by rw [HLL.out]; omega), HQ.out]; rfl
              have h3 := lo_lt D.data.toList (j + 1) HA.out
              rw [← H2.out] at h3
              go_wp2
              go_round
              case rel => exact ⟨j + 1, p, 10 * q + (D[j].toNat - 48), by omega, H1.out, H2.out, hp, h3, rfl, by go_num, by go_num⟩
              case measure => simp [intOf]; omega
          · have hje : j = D.data.toList.length := by rw [HLL.out]; omega
            have hV : val D.data.toList = p * 1000000000 + q := by rw [hi_lo, ← hje, ← HP.out, ← HQ.out]
            have HV := Lib.hid hV
            clear hV hje
            rcases (show 4611686018 < p ∨ p = 4611686018 ∨ p < 4611686018 by omega) with c | c | c
            · have g : (4611686018 : Int) < (p : Int) := by omega
              have HF : Hid (readD true D.data.toList = (0, 13)) := readD_neg_gt HO.out HN.out (by have := HV.out; omega)
              go_wp2
              go_ret2
              exact ⟨by rw [HF.out]; rfl, rfl⟩
            · have g : ((p : Int) == 4611686018) = true := by rw [c]; rfl
              have g1 : ¬ (4611686018 : Int) < (p : Int) := by omega
              have HC := Lib.hid c
              clear c
              rcases (show 427387904 < q ∨ q = 427387904 ∨ q < 427387904 by omega) with c | c | c
              · have g2 : (427387904 : Int) < (q : Int) := by omega
                have HF : Hid (readD true D.data.toList = (0, 13)) := readD_neg_gt HO.out HN.out (by have := HV.out; have := HC.out; omega)
                go_wp2
                go_ret2
                exact ⟨by rw [HF.out]; rfl, rfl⟩
              · have g2 : ((q : Int) == 427387904) = true := by rw [c]; rfl
                have g3 : ¬ (427387904 : Int) < (q : Int) := by omega
                have HF : Hid (readD true D.data.toList = (-((p * 1000000000 + q : Nat) : Int), 0)) := by unfold Hid; rw [readD_neg_le HO.out HN.out (by have := HV.out; have := HC.out; omega), HV.out]
                have h5 : (p : Int) ≤ 4611686018 := by have := HC.out; omega
                clear c
                go_wp2
                go_ret2
                exact ⟨by rw [HF.out]; exact ret2 (by omega), rfl⟩
              · have g2 : ((q : Int) == 427387904) = false := by rw [beq_eq_false_iff_ne]; omega
                have g3 : ¬ (427387904 : Int) < (q : Int) := by omega
                have HF : Hid (readD true D.data.toList = (-((p * 1000000000 + q : Nat) : Int), 0)) := by unfold Hid; rw [readD_neg_le HO.out HN.out (by have := HV.out; have := HC.out; omega), HV.out]
                have h5 : (p : Int) ≤ 4611686018 := by have := HC.out; omega
                go_wp2
                go_ret2
                exact ⟨by rw [HF.out]; exact ret2 (by omega), rfl⟩
            · have g : ((p : Int) == 4611686018) = false := by rw [beq_eq_false_iff_ne]; omega
              have g1 : ¬ (4611686018 : Int) < (p : Int) := by omega
              have HF : Hid (readD true D.data.toList = (-((p * 1000000000 + q : Nat) : Int), 0)) := by unfold Hid; rw [readD_neg_le HO.out HN.out (by have := HV.out; omega), HV.out]
              go_wp2
              go_ret2
              exact ⟨by rw [HF.out]; exact ret2 (by omega), rfl⟩
theorem rread_any (s : ByteArray) (w : World) (hs : s.size ≤ 1000) :
    Calls Try.prog 26 #[.string s] w fun e w' => e = .returned (.tuple #[.int .i64 (readL s.data.toList).1, .int .i64 (readL s.data.toList).2]) ∧ w = w' := by
  by_cases h0 : s.size = 0
  · obtain rfl := size_zero h0
    exact rread_nil w
  · have hh := head_list s (by omega)
    by_cases h : s[0] = 45
    · have e : readL s.data.toList = readD true (s.extract 1 s.size).data.toList := by
        unfold readL
        rw [hh, h, if_pos rfl, tail_extract]
      rw [e]
      have hl : (s.extract 1 s.size).size < s.size := by rw [ByteArray.size_extract]; omega
      by_cases z : (s.extract 1 s.size).size = 0
      · exact rread_dnil s _ w (by omega) h rfl hl z
      · by_cases h48 : (s.extract 1 s.size)[0] = 48
        · exact rread_dbad s _ w (by omega) h rfl hl (by omega) h48 (by omega)
        · exact rread_dash s _ w (by omega) h rfl hl (by omega) h48 (by omega)
    · have e : readL s.data.toList = readD false s.data.toList := by
        unfold readL
        rw [hh, if_neg (by simpa using h)]
      rw [e]
      by_cases h48 : s[0] = 48
      · by_cases h1 : s.size = 1
        · exact rread_nought s w (by omega) h1 h48
        · exact rread_bad s w (by omega) (by omega) h48 hs
      · exact rread_plain s w (by omega) h h48 hs
end Go.Proofs.Ytjnfjceopddhgaa.K9
