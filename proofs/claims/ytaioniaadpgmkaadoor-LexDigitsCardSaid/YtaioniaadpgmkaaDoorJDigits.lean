/- LexDigits: the walk. -/
import Derived.Test.YtaioniaadpgmkaaDoorYV
import Derived.Test.YtaioniaadpgmkaaDoorD
import Derived.Test.YtaioniaadpgmkaaDoorTL
import Derived.Test.YtaioniaadpgmkaaDoorTG
import Derived.Test.YtaioniaadpgmkaaDoorS2
import Derived.Test.YtaioniaadpgmkaaDoorYK
import Derived.Test.YtaioniaadpgmkaaDoorK6
import Derived.Test.YtaioniaadpgmkaaDoorR
namespace Go.Proofs.YtaioniaadpgmkaaDoor.lexDigits
open Go.RowKit Go.Maps
open Go.Proofs.YtaioniaadpgmkaaDoor.P Go.Proofs.YtaioniaadpgmkaaDoor.A Go.Proofs.YtaioniaadpgmkaaDoor.S2 Go.Proofs.YtaioniaadpgmkaaDoor.V Go.Proofs.YtaioniaadpgmkaaDoor.YT Go.Proofs.YtaioniaadpgmkaaDoor.YV Go.Proofs.YtaioniaadpgmkaaDoor.YK Go.Proofs.YtaioniaadpgmkaaDoor.TK Go.Proofs.YtaioniaadpgmkaaDoor.TO Go.Proofs.YtaioniaadpgmkaaDoor.TL Go.Proofs.YtaioniaadpgmkaaDoor.TG Go.Proofs.YtaioniaadpgmkaaDoor.D
set_option linter.unusedVariables false

theorem neg_mod (n k : Int) (h : n < 0) (hk : 0 < k) : ∃ m : Nat, -(n + 1).tmod k = (m : Int) ∧ (m : Int) < k := by
  have e : (n + 1).tmod k = -((-(n + 1)) % k) := by
    conv => lhs; rw [← Int.neg_neg (n + 1), Int.neg_tmod, Int.tmod_eq_emod_of_nonneg (by omega)]
  have h1 := Int.emod_nonneg (-(n + 1)) (show k ≠ 0 by omega)
  have h2 := Int.emod_lt_of_pos (-(n + 1)) hk
  exact ⟨((-(n + 1)) % k).toNat, by rw [e]; omega, by omega⟩
theorem pos_mod (n k : Int) (h : 0 ≤ n) (hk : 0 < k) : ∃ m : Nat, n % k = (m : Int) ∧ (m : Int) < k := by
  have h1 := Int.emod_nonneg n (show k ≠ 0 by omega)
  have h2 := Int.emod_lt_of_pos n hk
  exact ⟨(n % k).toNat, by omega, by omega⟩
/-- The document's digits of a number from 0 on. -/
theorem show_nat (m : Nat) (hm : (m : Int) < 4611686018427387904) (w : World) :
    Calls Tryd.prog 17 #[.int .i64 (m : Int)] w fun e w' => e = .returned (.string ⟨(S.digs m (S.nd m)).toArray⟩) ∧ Below w.heap.size w w' := by
  have h := K6.rshow_any (m : Int) w (by omega) (by omega)
  rw [M.w63_id _ (by omega) (by omega)] at h
  unfold S.showL at h
  rw [if_neg (by omega)] at h
  exact h
theorem digs_facts (m : Nat) (hm : (m : Int) < 4611686018427387904) : (∀ d ∈ S.digs m (S.nd m), isD d = true) ∧ val (S.digs m (S.nd m)) = m ∧ 1 ≤ (S.digs m (S.nd m)).length ∧ (S.digs m (S.nd m)).length ≤ 19 := by
  have hl := S.nd_isLen m (by omega)
  refine ⟨?_, R.digs_eq hl, ?_, ?_⟩
  · have := R.digs_all m (S.nd m)
    rw [List.all_eq_true] at this
    exact this
  · rw [S.digs_length]; exact hl.pos
  · rw [S.digs_length]
    rcases hl.head with h | h
    · omega
    · have := S.k_lt m (S.nd m - 1) (by omega) h; omega
theorem digits_toks {l : List UInt8} (h : ∀ d ∈ l, isD d = true) (h0 : 1 ≤ l.length) (hl : l.length ≤ 2000) :
    toks l = if val l ≤ 4611686018427387903 then ([⟨1, [], val l, 0⟩, ⟨0, [], 0, l.length⟩], 0, 0) else ([], 0, 13) := by
  cases l with
  | nil => simp at h0
  | cons c r => exact toks_digits h hl
theorem nought (c : UInt8) (k : Nat) (h : c ∈ List.replicate k (48 : UInt8)) : isD c = true := by
  rw [List.eq_of_mem_replicate h]; decide
theorem ahead_one (t : ByteArray) (k : Nat) (l : List UInt8) (h : t.data.toList = List.replicate k 48 ++ l) : ((⟨#[48]⟩ : ByteArray) ++ t).data.toList = List.replicate (k + 1) 48 ++ l := by
  rw [ByteArray.data_append, Array.toList_append, h]; rfl
theorem behind_all (t : ByteArray) : (t ++ (⟨#[48, 48, 48, 48, 48, 48, 48, 48, 48, 48, 48, 48, 48, 48, 48, 48, 48, 48, 48]⟩ : ByteArray)).data.toList = t.data.toList ++ List.replicate 19 48 := by
  rw [ByteArray.data_append, Array.toList_append]; rfl

set_option maxRecDepth 100000 in
set_option maxHeartbeats 8000000 in
theorem walk (w : World) (n0 : Int) (l0 : -9223372036854775808 ≤ n0) (u0 : n0 ≤ 9223372036854775807) (n1 : Int) (l1 : -9223372036854775808 ≤ n1) (u1 : n1 ≤ 9223372036854775807) (hd : Dig w) :
    Calls Tryd.prog 9 #[.int .i64 n0, .int .i64 n1] w fun e w' => e = .returned (.bool true) ∧ Below w.heap.size w w' := by
  have HD := Lib.hid hd
  clear hd
  by_cases h0 : n0 < 0
  · obtain ⟨m, hm, hml⟩ := neg_mod n0 4611686018427387904 h0 (by decide)
    by_cases h1 : n1 < 0
    · obtain ⟨q, hq, hql⟩ := neg_mod n1 30 h1 (by decide)
      go_enter Tryd.func9, Tryd.ntmps9
      go_wp2_with fail
      refine (show_nat m hml _).mono ?_
      rintro x w1 ⟨rfl, B1⟩
      obtain ⟨t1, ht1⟩ : ∃ t1 : ByteArray, (⟨(S.digs m (S.nd m)).toArray⟩ : ByteArray) = t1 := ⟨_, rfl⟩
      obtain ⟨F1, F2, F3, F4⟩ := digs_facts m hml
      have htl1 : t1.data.toList = S.digs m (S.nd m) := by rw [← ht1]
      rw [ht1]
      generalize S.digs m (S.nd m) = dl at *
      have hs1 : t1.size = dl.length := by rw [← htl1]; simp
      have HB1 := Lib.hid B1
      have HD1 := Lib.hid (HD.out.below B1)
      have HT0 : Hid (t1.data.toList = List.replicate 0 48 ++ dl) := htl1
      have hs0 : t1.size ≤ 19 := by omega
      clear B1 ht1 htl1 hs1
      go_wp2
      go_loop [5, 6] (fun v i => ∃ (k : Nat) (t : ByteArray), k ≤ q ∧ i = .int .i64 (k : Int) ∧ v = .string t ∧ t.size ≤ 19 + k ∧ Hid (t.data.toList = List.replicate k 48 ++ dl)) (fun _ i => q - (intOf i).toNat)
      case atStart => exact ⟨0, t1, Nat.zero_le _, rfl, rfl, by omega, HT0⟩
      case round =>
        obtain ⟨k, t, hk, rfl, rfl, hts, HT⟩ := hrel
        clear HT0 hs0
        by_cases hlt : k < q
        · have HN := Lib.hid (ahead_one t k dl HT.out)
          have hsz : ((⟨#[48]⟩ : ByteArray) ++ t).size ≤ 19 + (k + 1) := by rw [ByteArray.size_append]; show 1 + t.size ≤ _; omega
          go_wp2
          go_round
          case rel => exact ⟨k + 1, _, by omega, by go_num, rfl, hsz, HN⟩
          case measure => simp [intOf]; omega
        · obtain rfl : k = q := by omega
          have hbl : t.data.toList.length = t.size := by simp
          have G1 : toks t.data.toList = ([⟨1, [], m, 0⟩, ⟨0, [], 0, t.size⟩], 0, 0) := by
            have hd : ∀ d ∈ t.data.toList, isD d = true := fun d hd => by
              rw [HT.out] at hd
              rcases List.mem_append.1 hd with hd | hd
              · exact nought d _ hd
              · exact F1 d hd
            have hv : val t.data.toList = m := by rw [HT.out, val_ahead, F2]
            rw [digits_toks hd (by rw [HT.out]; simp; omega) (by omega), if_pos (by rw [hv]; omega), hv, hbl]
          have G2 : ∃ ts : List Tok, toks (t ++ (⟨#[48, 48, 48, 48, 48, 48, 48, 48, 48, 48, 48, 48, 48, 48, 48, 48, 48, 48, 48]⟩ : ByteArray)).data.toList = if m = 0 then (ts, 0, 0) else ([], 0, 13) := by
            rw [behind_all]
            have hd : ∀ d ∈ t.data.toList ++ List.replicate 19 48, isD d = true := fun d hd => by
              rcases List.mem_append.1 hd with hd | hd
              · rw [HT.out] at hd
                rcases List.mem_append.1 hd with hd | hd
                · exact nought d _ hd
                · exact F1 d hd
              · exact nought d _ hd
            have hv : val (t.data.toList ++ List.replicate 19 48) = m * 10 ^ 19 := by rw [val_behind, HT.out, val_ahead, F2]
            refine ⟨[⟨1, [], m * 10 ^ 19, 0⟩, ⟨0, [], 0, (t.data.toList ++ List.replicate 19 48).length⟩], ?_⟩
            rw [digits_toks hd (by simp) (by rw [List.length_append, hbl]; simp; omega), hv]
            by_cases h0 : m = 0
            · rw [if_pos h0, if_pos (by omega)]
            · rw [if_neg h0, if_neg (by omega)]
          obtain ⟨ts2, G2⟩ := G2
          have T1 := tokens_short t w1 (by omega) HD1.out
          rw [G1] at T1
          have T2 := fun W (hW : Dig W) => tokens_short (t ++ (⟨#[48, 48, 48, 48, 48, 48, 48, 48, 48, 48, 48, 48, 48, 48, 48, 48, 48, 48, 48]⟩ : ByteArray)) W (by rw [ByteArray.size_append]; show t.size + 19 ≤ 2000; omega) hW
          rw [G2] at T2
          clear G1 G2 hbl F1 F2 F3 F4
          go_wp2_with fail
          refine T1.mono ?_
          intro x w2 h2
          obtain ⟨b, o, c2, rfl, lb, C, B2⟩ := sub_post h2 (by simp)
          have HB2 := Lib.hid B2
          have HD2 := Lib.hid (HD1.out.below B2)
          clear h2 T1 B2
          go_wp2_with fail
          refine (T2 _ HD2.out).mono ?_
          intro x w3 h3
          by_cases hm0 : m = 0
          · rw [if_pos hm0] at h3
            obtain ⟨v3, rfl, _, B3⟩ := h3
            have HB3 := Lib.hid B3
            have HD3 := Lib.hid (HD2.out.below B3)
            have f0 : w3.cell? ⟨b, o, none⟩ = some (.int .i64 1) := (B3.cell (p := ⟨b, o, none⟩) lb).trans (C.out 0 (by simp) 0 (by decide))
            have f2 : w3.cell? ⟨b, o + 2, none⟩ = some (.int .i64 (m : Int)) := (B3.cell (p := ⟨b, o + 2, none⟩) lb).trans (C.out 0 (by simp) 2 (by decide))
            have hz : ((m : Int) == 0) = true := by rw [beq_iff_eq]; omega
            have hz2 : ((m : Int) != 0) = false := by rw [bne, hz]; rfl
            clear C T2 B3 hm0
            go_wp2_with (first | (go_at_call 14; refine (lives_any _ HD3.out).mono ?_; rintro e w4 ⟨rfl, hb4⟩; have HB4 := Lib.hid hb4; clear hb4))
            go_ret
            exact ⟨rfl, bnext (bnext (bnext HB1.out HB2.out) HB3.out) HB4.out⟩
          · rw [if_neg hm0] at h3
            obtain ⟨ao3, c3, rfl, B3⟩ := sub_err h3
            have HB3 := Lib.hid B3
            have HD3 := Lib.hid (HD2.out.below B3)
            have f0 : w3.cell? ⟨b, o, none⟩ = some (.int .i64 1) := (B3.cell (p := ⟨b, o, none⟩) lb).trans (C.out 0 (by simp) 0 (by decide))
            have f2 : w3.cell? ⟨b, o + 2, none⟩ = some (.int .i64 (m : Int)) := (B3.cell (p := ⟨b, o + 2, none⟩) lb).trans (C.out 0 (by simp) 2 (by decide))
            have hz : ((m : Int) == 0) = false := by rw [beq_eq_false_iff_ne]; omega
            have hz2 : ((m : Int) != 0) = true := by rw [bne, hz]; rfl
            clear C T2 B3 hm0
            go_wp2_with (first | (go_at_call 14; refine (lives_any _ HD3.out).mono ?_; rintro e w4 ⟨rfl, hb4⟩; have HB4 := Lib.hid hb4; clear hb4))
            go_ret
            exact ⟨rfl, bnext (bnext (bnext HB1.out HB2.out) HB3.out) HB4.out⟩
    · obtain ⟨q, hq, hql⟩ := pos_mod n1 30 (by omega) (by decide)
      go_enter Tryd.func9, Tryd.ntmps9
      go_wp2_with fail
      refine (show_nat m hml _).mono ?_
      rintro x w1 ⟨rfl, B1⟩
      obtain ⟨t1, ht1⟩ : ∃ t1 : ByteArray, (⟨(S.digs m (S.nd m)).toArray⟩ : ByteArray) = t1 := ⟨_, rfl⟩
      obtain ⟨F1, F2, F3, F4⟩ := digs_facts m hml
      have htl1 : t1.data.toList = S.digs m (S.nd m) := by rw [← ht1]
      rw [ht1]
      generalize S.digs m (S.nd m) = dl at *
      have hs1 : t1.size = dl.length := by rw [← htl1]; simp
      have HB1 := Lib.hid B1
      have HD1 := Lib.hid (HD.out.below B1)
      have HT0 : Hid (t1.data.toList = List.replicate 0 48 ++ dl) := htl1
      have hs0 : t1.size ≤ 19 := by omega
      clear B1 ht1 htl1 hs1
      go_wp2
      go_loop [5, 6] (fun v i => ∃ (k : Nat) (t : ByteArray), k ≤ q ∧ i = .int .i64 (k : Int) ∧ v = .string t ∧ t.size ≤ 19 + k ∧ Hid (t.data.toList = List.replicate k 48 ++ dl)) (fun _ i => q - (intOf i).toNat)
      case atStart => exact ⟨0, t1, Nat.zero_le _, rfl, rfl, by omega, HT0⟩
      case round =>
        obtain ⟨k, t, hk, rfl, rfl, hts, HT⟩ := hrel
        clear HT0 hs0
        by_cases hlt : k < q
        · have HN := Lib.hid (ahead_one t k dl HT.out)
          have hsz : ((⟨#[48]⟩ : ByteArray) ++ t).size ≤ 19 + (k + 1) := by rw [ByteArray.size_append]; show 1 + t.size ≤ _; omega
          go_wp2
          go_round
          case rel => exact ⟨k + 1, _, by omega, by go_num, rfl, hsz, HN⟩
          case measure => simp [intOf]; omega
        · obtain rfl : k = q := by omega
          have hbl : t.data.toList.length = t.size := by simp
          have G1 : toks t.data.toList = ([⟨1, [], m, 0⟩, ⟨0, [], 0, t.size⟩], 0, 0) := by
            have hd : ∀ d ∈ t.data.toList, isD d = true := fun d hd => by
              rw [HT.out] at hd
              rcases List.mem_append.1 hd with hd | hd
              · exact nought d _ hd
              · exact F1 d hd
            have hv : val t.data.toList = m := by rw [HT.out, val_ahead, F2]
            rw [digits_toks hd (by rw [HT.out]; simp; omega) (by omega), if_pos (by rw [hv]; omega), hv, hbl]
          have G2 : ∃ ts : List Tok, toks (t ++ (⟨#[48, 48, 48, 48, 48, 48, 48, 48, 48, 48, 48, 48, 48, 48, 48, 48, 48, 48, 48]⟩ : ByteArray)).data.toList = if m = 0 then (ts, 0, 0) else ([], 0, 13) := by
            rw [behind_all]
            have hd : ∀ d ∈ t.data.toList ++ List.replicate 19 48, isD d = true := fun d hd => by
              rcases List.mem_append.1 hd with hd | hd
              · rw [HT.out] at hd
                rcases List.mem_append.1 hd with hd | hd
                · exact nought d _ hd
                · exact F1 d hd
              · exact nought d _ hd
            have hv : val (t.data.toList ++ List.replicate 19 48) = m * 10 ^ 19 := by rw [val_behind, HT.out, val_ahead, F2]
            refine ⟨[⟨1, [], m * 10 ^ 19, 0⟩, ⟨0, [], 0, (t.data.toList ++ List.replicate 19 48).length⟩], ?_⟩
            rw [digits_toks hd (by simp) (by rw [List.length_append, hbl]; simp; omega), hv]
            by_cases h0 : m = 0
            · rw [if_pos h0, if_pos (by omega)]
            · rw [if_neg h0, if_neg (by omega)]
          obtain ⟨ts2, G2⟩ := G2
          have T1 := tokens_short t w1 (by omega) HD1.out
          rw [G1] at T1
          have T2 := fun W (hW : Dig W) => tokens_short (t ++ (⟨#[48, 48, 48, 48, 48, 48, 48, 48, 48, 48, 48, 48, 48, 48, 48, 48, 48, 48, 48]⟩ : ByteArray)) W (by rw [ByteArray.size_append]; show t.size + 19 ≤ 2000; omega) hW
          rw [G2] at T2
          clear G1 G2 hbl F1 F2 F3 F4
          go_wp2_with fail
          refine T1.mono ?_
          intro x w2 h2
          obtain ⟨b, o, c2, rfl, lb, C, B2⟩ := sub_post h2 (by simp)
          have HB2 := Lib.hid B2
          have HD2 := Lib.hid (HD1.out.below B2)
          clear h2 T1 B2
          go_wp2_with fail
          refine (T2 _ HD2.out).mono ?_
          intro x w3 h3
          by_cases hm0 : m = 0
          · rw [if_pos hm0] at h3
            obtain ⟨v3, rfl, _, B3⟩ := h3
            have HB3 := Lib.hid B3
            have HD3 := Lib.hid (HD2.out.below B3)
            have f0 : w3.cell? ⟨b, o, none⟩ = some (.int .i64 1) := (B3.cell (p := ⟨b, o, none⟩) lb).trans (C.out 0 (by simp) 0 (by decide))
            have f2 : w3.cell? ⟨b, o + 2, none⟩ = some (.int .i64 (m : Int)) := (B3.cell (p := ⟨b, o + 2, none⟩) lb).trans (C.out 0 (by simp) 2 (by decide))
            have hz : ((m : Int) == 0) = true := by rw [beq_iff_eq]; omega
            have hz2 : ((m : Int) != 0) = false := by rw [bne, hz]; rfl
            clear C T2 B3 hm0
            go_wp2_with (first | (go_at_call 14; refine (lives_any _ HD3.out).mono ?_; rintro e w4 ⟨rfl, hb4⟩; have HB4 := Lib.hid hb4; clear hb4))
            go_ret
            exact ⟨rfl, bnext (bnext (bnext HB1.out HB2.out) HB3.out) HB4.out⟩
          · rw [if_neg hm0] at h3
            obtain ⟨ao3, c3, rfl, B3⟩ := sub_err h3
            have HB3 := Lib.hid B3
            have HD3 := Lib.hid (HD2.out.below B3)
            have f0 : w3.cell? ⟨b, o, none⟩ = some (.int .i64 1) := (B3.cell (p := ⟨b, o, none⟩) lb).trans (C.out 0 (by simp) 0 (by decide))
            have f2 : w3.cell? ⟨b, o + 2, none⟩ = some (.int .i64 (m : Int)) := (B3.cell (p := ⟨b, o + 2, none⟩) lb).trans (C.out 0 (by simp) 2 (by decide))
            have hz : ((m : Int) == 0) = false := by rw [beq_eq_false_iff_ne]; omega
            have hz2 : ((m : Int) != 0) = true := by rw [bne, hz]; rfl
            clear C T2 B3 hm0
            go_wp2_with (first | (go_at_call 14; refine (lives_any _ HD3.out).mono ?_; rintro e w4 ⟨rfl, hb4⟩; have HB4 := Lib.hid hb4; clear hb4))
            go_ret
            exact ⟨rfl, bnext (bnext (bnext HB1.out HB2.out) HB3.out) HB4.out⟩
  · obtain ⟨m, hm, hml⟩ := pos_mod n0 4611686018427387904 (by omega) (by decide)
    by_cases h1 : n1 < 0
    · obtain ⟨q, hq, hql⟩ := neg_mod n1 30 h1 (by decide)
      go_enter Tryd.func9, Tryd.ntmps9
      go_wp2_with fail
      refine (show_nat m hml _).mono ?_
      rintro x w1 ⟨rfl, B1⟩
      obtain ⟨t1, ht1⟩ : ∃ t1 : ByteArray, (⟨(S.digs m (S.nd m)).toArray⟩ : ByteArray) = t1 := ⟨_, rfl⟩
      obtain ⟨F1, F2, F3, F4⟩ := digs_facts m hml
      have htl1 : t1.data.toList = S.digs m (S.nd m) := by rw [← ht1]
      rw [ht1]
      generalize S.digs m (S.nd m) = dl at *
      have hs1 : t1.size = dl.length := by rw [← htl1]; simp
      have HB1 := Lib.hid B1
      have HD1 := Lib.hid (HD.out.below B1)
      have HT0 : Hid (t1.data.toList = List.replicate 0 48 ++ dl) := htl1
      have hs0 : t1.size ≤ 19 := by omega
      clear B1 ht1 htl1 hs1
      go_wp2
      go_loop [5, 6] (fun v i => ∃ (k : Nat) (t : ByteArray), k ≤ q ∧ i = .int .i64 (k : Int) ∧ v = .string t ∧ t.size ≤ 19 + k ∧ Hid (t.data.toList = List.replicate k 48 ++ dl)) (fun _ i => q - (intOf i).toNat)
      case atStart => exact ⟨0, t1, Nat.zero_le _, rfl, rfl, by omega, HT0⟩
      case round =>
        obtain ⟨k, t, hk, rfl, rfl, hts, HT⟩ := hrel
        clear HT0 hs0
        by_cases hlt : k < q
        · have HN := Lib.hid (ahead_one t k dl HT.out)
          have hsz : ((⟨#[48]⟩ : ByteArray) ++ t).size ≤ 19 + (k + 1) := by rw [ByteArray.size_append]; show 1 + t.size ≤ _; omega
          go_wp2
          go_round
          case rel => exact ⟨k + 1, _, by omega, by go_num, rfl, hsz, HN⟩
          case measure => simp [intOf]; omega
        · obtain rfl : k = q := by omega
          have hbl : t.data.toList.length = t.size := by simp
          have G1 : toks t.data.toList = ([⟨1, [], m, 0⟩, ⟨0, [], 0, t.size⟩], 0, 0) := by
            have hd : ∀ d ∈ t.data.toList, isD d = true := fun d hd => by
              rw [HT.out] at hd
              rcases List.mem_append.1 hd with hd | hd
              · exact nought d _ hd
              · exact F1 d hd
            have hv : val t.data.toList = m := by rw [HT.out, val_ahead, F2]
            rw [digits_toks hd (by rw [HT.out]; simp; omega) (by omega), if_pos (by rw [hv]; omega), hv, hbl]
          have G2 : ∃ ts : List Tok, toks (t ++ (⟨#[48, 48, 48, 48, 48, 48, 48, 48, 48, 48, 48, 48, 48, 48, 48, 48, 48, 48, 48]⟩ : ByteArray)).data.toList = if m = 0 then (ts, 0, 0) else ([], 0, 13) := by
            rw [behind_all]
            have hd : ∀ d ∈ t.data.toList ++ List.replicate 19 48, isD d = true := fun d hd => by
              rcases List.mem_append.1 hd with hd | hd
              · rw [HT.out] at hd
                rcases List.mem_append.1 hd with hd | hd
                · exact nought d _ hd
                · exact F1 d hd
              · exact nought d _ hd
            have hv : val (t.data.toList ++ List.replicate 19 48) = m * 10 ^ 19 := by rw [val_behind, HT.out, val_ahead, F2]
            refine ⟨[⟨1, [], m * 10 ^ 19, 0⟩, ⟨0, [], 0, (t.data.toList ++ List.replicate 19 48).length⟩], ?_⟩
            rw [digits_toks hd (by simp) (by rw [List.length_append, hbl]; simp; omega), hv]
            by_cases h0 : m = 0
            · rw [if_pos h0, if_pos (by omega)]
            · rw [if_neg h0, if_neg (by omega)]
          obtain ⟨ts2, G2⟩ := G2
          have T1 := tokens_short t w1 (by omega) HD1.out
          rw [G1] at T1
          have T2 := fun W (hW : Dig W) => tokens_short (t ++ (⟨#[48, 48, 48, 48, 48, 48, 48, 48, 48, 48, 48, 48, 48, 48, 48, 48, 48, 48, 48]⟩ : ByteArray)) W (by rw [ByteArray.size_append]; show t.size + 19 ≤ 2000; omega) hW
          rw [G2] at T2
          clear G1 G2 hbl F1 F2 F3 F4
          go_wp2_with fail
          refine T1.mono ?_
          intro x w2 h2
          obtain ⟨b, o, c2, rfl, lb, C, B2⟩ := sub_post h2 (by simp)
          have HB2 := Lib.hid B2
          have HD2 := Lib.hid (HD1.out.below B2)
          clear h2 T1 B2
          go_wp2_with fail
          refine (T2 _ HD2.out).mono ?_
          intro x w3 h3
          by_cases hm0 : m = 0
          · rw [if_pos hm0] at h3
            obtain ⟨v3, rfl, _, B3⟩ := h3
            have HB3 := Lib.hid B3
            have HD3 := Lib.hid (HD2.out.below B3)
            have f0 : w3.cell? ⟨b, o, none⟩ = some (.int .i64 1) := (B3.cell (p := ⟨b, o, none⟩) lb).trans (C.out 0 (by simp) 0 (by decide))
            have f2 : w3.cell? ⟨b, o + 2, none⟩ = some (.int .i64 (m : Int)) := (B3.cell (p := ⟨b, o + 2, none⟩) lb).trans (C.out 0 (by simp) 2 (by decide))
            have hz : ((m : Int) == 0) = true := by rw [beq_iff_eq]; omega
            have hz2 : ((m : Int) != 0) = false := by rw [bne, hz]; rfl
            clear C T2 B3 hm0
            go_wp2_with (first | (go_at_call 14; refine (lives_any _ HD3.out).mono ?_; rintro e w4 ⟨rfl, hb4⟩; have HB4 := Lib.hid hb4; clear hb4))
            go_ret
            exact ⟨rfl, bnext (bnext (bnext HB1.out HB2.out) HB3.out) HB4.out⟩
          · rw [if_neg hm0] at h3
            obtain ⟨ao3, c3, rfl, B3⟩ := sub_err h3
            have HB3 := Lib.hid B3
            have HD3 := Lib.hid (HD2.out.below B3)
            have f0 : w3.cell? ⟨b, o, none⟩ = some (.int .i64 1) := (B3.cell (p := ⟨b, o, none⟩) lb).trans (C.out 0 (by simp) 0 (by decide))
            have f2 : w3.cell? ⟨b, o + 2, none⟩ = some (.int .i64 (m : Int)) := (B3.cell (p := ⟨b, o + 2, none⟩) lb).trans (C.out 0 (by simp) 2 (by decide))
            have hz : ((m : Int) == 0) = false := by rw [beq_eq_false_iff_ne]; omega
            have hz2 : ((m : Int) != 0) = true := by rw [bne, hz]; rfl
            clear C T2 B3 hm0
            go_wp2_with (first | (go_at_call 14; refine (lives_any _ HD3.out).mono ?_; rintro e w4 ⟨rfl, hb4⟩; have HB4 := Lib.hid hb4; clear hb4))
            go_ret
            exact ⟨rfl, bnext (bnext (bnext HB1.out HB2.out) HB3.out) HB4.out⟩
    · obtain ⟨q, hq, hql⟩ := pos_mod n1 30 (by omega) (by decide)
      go_enter Tryd.func9, Tryd.ntmps9
      go_wp2_with fail
      refine (show_nat m hml _).mono ?_
      rintro x w1 ⟨rfl, B1⟩
      obtain ⟨t1, ht1⟩ : ∃ t1 : ByteArray, (⟨(S.digs m (S.nd m)).toArray⟩ : ByteArray) = t1 := ⟨_, rfl⟩
      obtain ⟨F1, F2, F3, F4⟩ := digs_facts m hml
      have htl1 : t1.data.toList = S.digs m (S.nd m) := by rw [← ht1]
      rw [ht1]
      generalize S.digs m (S.nd m) = dl at *
      have hs1 : t1.size = dl.length := by rw [← htl1]; simp
      have HB1 := Lib.hid B1
      have HD1 := Lib.hid (HD.out.below B1)
      have HT0 : Hid (t1.data.toList = List.replicate 0 48 ++ dl) := htl1
      have hs0 : t1.size ≤ 19 := by omega
      clear B1 ht1 htl1 hs1
      go_wp2
      go_loop [5, 6] (fun v i => ∃ (k : Nat) (t : ByteArray), k ≤ q ∧ i = .int .i64 (k : Int) ∧ v = .string t ∧ t.size ≤ 19 + k ∧ Hid (t.data.toList = List.replicate k 48 ++ dl)) (fun _ i => q - (intOf i).toNat)
      case atStart => exact ⟨0, t1, Nat.zero_le _, rfl, rfl, by omega, HT0⟩
      case round =>
        obtain ⟨k, t, hk, rfl, rfl, hts, HT⟩ := hrel
        clear HT0 hs0
        by_cases hlt : k < q
        · have HN := Lib.hid (ahead_one t k dl HT.out)
          have hsz : ((⟨#[48]⟩ : ByteArray) ++ t).size ≤ 19 + (k + 1) := by rw [ByteArray.size_append]; show 1 + t.size ≤ _; omega
          go_wp2
          go_round
          case rel => exact ⟨k + 1, _, by omega, by go_num, rfl, hsz, HN⟩
          case measure => simp [intOf]; omega
        · obtain rfl : k = q := by omega
          have hbl : t.data.toList.length = t.size := by simp
          have G1 : toks t.data.toList = ([⟨1, [], m, 0⟩, ⟨0, [], 0, t.size⟩], 0, 0) := by
            have hd : ∀ d ∈ t.data.toList, isD d = true := fun d hd => by
              rw [HT.out] at hd
              rcases List.mem_append.1 hd with hd | hd
              · exact nought d _ hd
              · exact F1 d hd
            have hv : val t.data.toList = m := by rw [HT.out, val_ahead, F2]
            rw [digits_toks hd (by rw [HT.out]; simp; omega) (by omega), if_pos (by rw [hv]; omega), hv, hbl]
          have G2 : ∃ ts : List Tok, toks (t ++ (⟨#[48, 48, 48, 48, 48, 48, 48, 48, 48, 48, 48, 48, 48, 48, 48, 48, 48, 48, 48]⟩ : ByteArray)).data.toList = if m = 0 then (ts, 0, 0) else ([], 0, 13) := by
            rw [behind_all]
            have hd : ∀ d ∈ t.data.toList ++ List.replicate 19 48, isD d = true := fun d hd => by
              rcases List.mem_append.1 hd with hd | hd
              · rw [HT.out] at hd
                rcases List.mem_append.1 hd with hd | hd
                · exact nought d _ hd
                · exact F1 d hd
              · exact nought d _ hd
            have hv : val (t.data.toList ++ List.replicate 19 48) = m * 10 ^ 19 := by rw [val_behind, HT.out, val_ahead, F2]
            refine ⟨[⟨1, [], m * 10 ^ 19, 0⟩, ⟨0, [], 0, (t.data.toList ++ List.replicate 19 48).length⟩], ?_⟩
            rw [digits_toks hd (by simp) (by rw [List.length_append, hbl]; simp; omega), hv]
            by_cases h0 : m = 0
            · rw [if_pos h0, if_pos (by omega)]
            · rw [if_neg h0, if_neg (by omega)]
          obtain ⟨ts2, G2⟩ := G2
          have T1 := tokens_short t w1 (by omega) HD1.out
          rw [G1] at T1
          have T2 := fun W (hW : Dig W) => tokens_short (t ++ (⟨#[48, 48, 48, 48, 48, 48, 48, 48, 48, 48, 48, 48, 48, 48, 48, 48, 48, 48, 48]⟩ : ByteArray)) W (by rw [ByteArray.size_append]; show t.size + 19 ≤ 2000; omega) hW
          rw [G2] at T2
          clear G1 G2 hbl F1 F2 F3 F4
          go_wp2_with fail
          refine T1.mono ?_
          intro x w2 h2
          obtain ⟨b, o, c2, rfl, lb, C, B2⟩ := sub_post h2 (by simp)
          have HB2 := Lib.hid B2
          have HD2 := Lib.hid (HD1.out.below B2)
          clear h2 T1 B2
          go_wp2_with fail
          refine (T2 _ HD2.out).mono ?_
          intro x w3 h3
          by_cases hm0 : m = 0
          · rw [if_pos hm0] at h3
            obtain ⟨v3, rfl, _, B3⟩ := h3
            have HB3 := Lib.hid B3
            have HD3 := Lib.hid (HD2.out.below B3)
            have f0 : w3.cell? ⟨b, o, none⟩ = some (.int .i64 1) := (B3.cell (p := ⟨b, o, none⟩) lb).trans (C.out 0 (by simp) 0 (by decide))
            have f2 : w3.cell? ⟨b, o + 2, none⟩ = some (.int .i64 (m : Int)) := (B3.cell (p := ⟨b, o + 2, none⟩) lb).trans (C.out 0 (by simp) 2 (by decide))
            have hz : ((m : Int) == 0) = true := by rw [beq_iff_eq]; omega
            have hz2 : ((m : Int) != 0) = false := by rw [bne, hz]; rfl
            clear C T2 B3 hm0
            go_wp2_with (first | (go_at_call 14; refine (lives_any _ HD3.out).mono ?_; rintro e w4 ⟨rfl, hb4⟩; have HB4 := Lib.hid hb4; clear hb4))
            go_ret
            exact ⟨rfl, bnext (bnext (bnext HB1.out HB2.out) HB3.out) HB4.out⟩
          · rw [if_neg hm0] at h3
            obtain ⟨ao3, c3, rfl, B3⟩ := sub_err h3
            have HB3 := Lib.hid B3
            have HD3 := Lib.hid (HD2.out.below B3)
            have f0 : w3.cell? ⟨b, o, none⟩ = some (.int .i64 1) := (B3.cell (p := ⟨b, o, none⟩) lb).trans (C.out 0 (by simp) 0 (by decide))
            have f2 : w3.cell? ⟨b, o + 2, none⟩ = some (.int .i64 (m : Int)) := (B3.cell (p := ⟨b, o + 2, none⟩) lb).trans (C.out 0 (by simp) 2 (by decide))
            have hz : ((m : Int) == 0) = false := by rw [beq_eq_false_iff_ne]; omega
            have hz2 : ((m : Int) != 0) = true := by rw [bne, hz]; rfl
            clear C T2 B3 hm0
            go_wp2_with (first | (go_at_call 14; refine (lives_any _ HD3.out).mono ?_; rintro e w4 ⟨rfl, hb4⟩; have HB4 := Lib.hid hb4; clear hb4))
            go_ret
            exact ⟨rfl, bnext (bnext (bnext HB1.out HB2.out) HB3.out) HB4.out⟩

end Go.Proofs.YtaioniaadpgmkaaDoor.lexDigits
