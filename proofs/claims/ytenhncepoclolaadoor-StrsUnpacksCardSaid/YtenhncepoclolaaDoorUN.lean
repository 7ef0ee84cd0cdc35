/- How the program unpacks numbers. -/
import Derived.Test.YtenhncepoclolaaDoorS2
import Derived.Test.YtenhncepoclolaaDoorN
namespace Go.Proofs.YtenhncepoclolaaDoor.UN
open Go.RowKit Go.Maps Go.Proofs.YtenhncepoclolaaDoor.P Go.Proofs.YtenhncepoclolaaDoor.A Go.Proofs.YtenhncepoclolaaDoor.D Go.Proofs.YtenhncepoclolaaDoor.N Go.Proofs.YtenhncepoclolaaDoor.S2
set_option linter.unusedVariables false

abbrev nv (r : List UInt8 × Nat) : Value := .tuple #[.string ⟨r.1.toArray⟩, .int .i64 (r.2 : Int)]

theorem own_val2 {w : World} {base n : Nat} {v : Value} {a : List UInt8} {b : UInt8} {E : Int} (h : w.ownsRow base 5 1 v n (bvs a ++ [.int .u8 E])) (hE : E = (b.toNat : Int)) : w.ownsRow base 5 1 v n (bvs a ++ bvs [b]) := by
  subst hE; exact h

theorem unpack_none (ao : Option Addr) (cap : Nat) (w : World) :
    Calls Tryd.prog 17 #[.slice ao 0 cap] w fun e w' => e = .returned (nv ([], 1)) ∧ w = w' := by
  go_enter Tryd.func17, Tryd.ntmps17
  go_wp2
  go_ret2
  exact ⟨rfl, rfl⟩

theorem unpack_neg (b off n cap : Nat) (z : Int) (w : World) (hn : 1 ≤ n) (hc : w.cell? ⟨b, off, none⟩ = some (.int .i64 z)) (hz : z < 0) :
    Calls Tryd.prog 17 #[.slice (some ⟨b, off, none⟩) n cap] w fun e w' => e = .returned (nv ([], 1)) ∧ w = w' := by
  have h0 : ((n : Int) == 0) = false := by rw [beq_eq_false_iff_ne]; omega
  go_enter Tryd.func17, Tryd.ntmps17
  go_wp2
  go_ret2
  exact ⟨rfl, rfl⟩

theorem unpack_big (b off n cap : Nat) (z : Int) (w : World) (hn : 1 ≤ n) (hc : w.cell? ⟨b, off, none⟩ = some (.int .i64 z)) (hz : 60 < z) :
    Calls Tryd.prog 17 #[.slice (some ⟨b, off, none⟩) n cap] w fun e w' => e = .returned (nv ([], 1)) ∧ w = w' := by
  have h0 : ((n : Int) == 0) = false := by rw [beq_eq_false_iff_ne]; omega
  go_enter Tryd.func17, Tryd.ntmps17
  go_wp2
  go_ret2
  exact ⟨rfl, rfl⟩

theorem unpack_many (b off n cap m : Nat) (w : World) (hn : 1 ≤ n) (hc : w.cell? ⟨b, off, none⟩ = some (.int .i64 (m : Int))) (hz : m ≤ 60) (h : n ≠ 1 + (m + 6) / 7) :
    Calls Tryd.prog 17 #[.slice (some ⟨b, off, none⟩) n cap] w fun e w' => e = .returned (nv ([], 1)) ∧ w = w' := by
  have h0 : ((n : Int) == 0) = false := by rw [beq_eq_false_iff_ne]; omega
  obtain ⟨q, hq⟩ : ∃ q, q = 1 + (m + 6) / 7 := ⟨_, rfl⟩
  have h1 : ((n : Int) != (q : Int)) = true := by rw [bne_iff_ne]; omega
  clear h
  go_enter Tryd.func17, Tryd.ntmps17
  go_wp2_with (first | (go_at_call 24; refine (numbers_any m (by omega) _).mono ?_; rw [← hq]; rintro e w1 ⟨rfl, rfl⟩; clear hq))
  go_ret2
  exact ⟨rfl, rfl⟩

theorem unpack_zero (b off cap : Nat) (w : World) (hcap : 1 ≤ cap) (hc : w.cell? ⟨b, off, none⟩ = some (.int .i64 0)) :
    Calls Tryd.prog 17 #[.slice (some ⟨b, off, none⟩) 1 cap] w fun e w' => e = .returned (nv ([], 0)) ∧ Below w.heap.size w w' := by
  obtain ⟨i0, hi0, hz0, hz1, hz2⟩ := info_parts infoB
  by_cases h1 : cap = 1
  all_goals
    go_enter Tryd.func17, Tryd.ntmps17
    go_wp2_with (first
      | (go_at_call 24; refine (numbers_any 0 (by omega) _).mono ?_; rintro e w1 ⟨rfl, rfl⟩)
      | (at_make; go_loud (refine wpList_make_own _ rfl _ _ 38 rfl w.heap.size 5 i0 (.int .u8 0) 1 Tryd.underlying38 hi0 hz0 hz1 .i64 .i64 _ 60 rfl rfl (by omega) (by rw [hz2]; omega) (by unfold maxLen; omega) (Nat.le_refl _) ?_); intro w2 hown2 hg2; have hcv := conv_own (l := []) hown2 rfl))
    refine wp_loop_rounds 1 ?_
    rw [rounds_succ]
    go_wp2
    go_ret2
    exact ⟨rfl, (Below.refl _ _).grown hg2 (Nat.le_refl _) (fun j hj => by cases hj)⟩

set_option maxRecDepth 100000 in
set_option maxHeartbeats 1600000 in
theorem unpack_good (b off cap m : Nat) (r : List Int) (w : World) (hb : b < w.heap.size) (hcap : r.length + 1 ≤ cap) (hc : w.cell? ⟨b, off, none⟩ = some (.int .i64 (m : Int))) (hz : m ≤ 60) (hr : r.length + 1 = 1 + (m + 6) / 7) (hne : 1 ≤ r.length)
    (hcs : ∀ j (h : j < r.length), w.cell? ⟨b, off + 1 + j, none⟩ = some (.int .i64 r[j])) (R : List UInt8 × Nat) (hR : ul m r [] = R) :
    Calls Tryd.prog 17 #[.slice (some ⟨b, off, none⟩) (r.length + 1) cap] w fun e w' => e = .returned (nv R) ∧ Below w.heap.size w w' := by
  obtain ⟨i0, hi0, hz0, hz1, hz2⟩ := info_parts infoB
  obtain ⟨n, hN⟩ : ∃ n, r.length = n := ⟨_, rfl⟩
  have HL := Lib.hid hN
  have HR := Lib.hid hR
  have HM : Hid (m ≤ 7 * n) := by show m ≤ 7 * n; omega
  have hq : 1 + (m + 6) / 7 = n + 1 := by omega
  have hn9 : n ≤ 9 := by omega
  rw [hN] at hcap hne ⊢
  clear hN hR hr
  have h0 : ((n : Int) + 1 == 0) = false := by rw [beq_eq_false_iff_ne]; omega
  have hcap1 : ¬ cap = 1 := by omega
  go_enter Tryd.func17, Tryd.ntmps17
  go_wp2_with (first
    | (go_at_call 24; refine (numbers_any m (by omega) _).mono ?_; rw [hq]; rintro e w1 ⟨rfl, rfl⟩)
    | (at_make; go_loud (refine wpList_make_own _ rfl _ _ 38 rfl w.heap.size 5 i0 (.int .u8 0) 1 Tryd.underlying38 hi0 hz0 hz1 .i64 .i64 _ 60 rfl rfl (by omega) (by rw [hz2]; omega) (by unfold maxLen; omega) (Nat.le_refl _) ?_); intro w2 hown2 hg2))
  go_loopw [4, 36] (fun t i wr => ∃ (k g cp : Nat) (acc : List UInt8), k ≤ n ∧ t = .slice (some ⟨g, 0, none⟩) acc.length cp ∧ OwnB wr w.heap.size (.slice (some ⟨g, 0, none⟩) acc.length cp) acc ∧ i = .int .i64 (k : Int) ∧
      acc.length ≤ m ∧ Hid (ul m (r.drop k) acc = R) ∧ Below w.heap.size w wr) (fun _ i _ => n - (intOf i).toNat)
  case atStart => exact ⟨0, w.heap.size, 60, [], Nat.zero_le _, rfl, hown2, rfl, Nat.zero_le _, HR, (Below.refl _ _).grown hg2 (Nat.le_refl _) (fun j hj => by cases hj)⟩
  case round =>
    obtain ⟨k, g, cp, acc, hk, rfl, hown, rfl, hal, HF, hnx⟩ := hrel
    have hcx : wr.cell? ⟨b, off, none⟩ = some (.int .i64 (m : Int)) := (hnx.cell (by exact hb)).trans hc
    by_cases hlt : k < n
    · obtain ⟨z, hz⟩ : ∃ z, Hid (∃ h : k < r.length, r[k] = z) := ⟨r[k]'(by rw [HL.out]; exact hlt), by rw [HL.out]; exact hlt, rfl⟩
      have hcz : wr.cell? ⟨b, off + 1 + k, none⟩ = some (.int .i64 z) := by
        obtain ⟨h, rfl⟩ := hz.out
        exact (hnx.cell (by exact hb)).trans (hcs k h)
      obtain ⟨M, hM⟩ : ∃ M, Hid (M = min (m - acc.length) 7) := ⟨_, rfl⟩
      have hgl := hown.lt g rfl
      have hsz := hnx.size
      have hsplit : (8 + acc.length ≤ m ∧ M ≤ 7 ∧ 7 ≤ M) ∨ (m ≤ 7 + acc.length ∧ M + acc.length ≤ m ∧ m ≤ M + acc.length) := by have := hM.out; omega
      clear hcs
      rcases hsplit with ⟨s1, s2, s3⟩ | ⟨s1, s2, s3⟩
      all_goals
        go_wp2
        go_loopw [4, 6, 48] (fun t v i wi => ∃ (j g1 cp1 : Nat) (h : Int), j ≤ M ∧ t = .slice (some ⟨g1, 0, none⟩) (acc.length + j) cp1 ∧ wi.ownsRow w.heap.size 5 1 (.slice (some ⟨g1, 0, none⟩) (acc.length + j) cp1) (acc.length + j) (bvs (acc ++ byts z j)) ∧
          v = .int .i64 h ∧ Hid (h = hi z j) ∧ i = .int .i64 (j : Int) ∧ Below w.heap.size w wi) (fun _ _ i _ => M - (intOf i).toNat)
        case atStart => exact ⟨0, g, cp, z, Nat.zero_le _, rfl, by simpa [byts] using hown, rfl, (hi_zero z).symm, rfl, hnx⟩
        case round =>
          obtain ⟨j, g1, cp1, h, hj, rfl, hown1, rfl, hh, rfl, hnx1⟩ := hrel
          have hgl1 := hown1.lt g1 rfl
          have hsz1 := hnx1.size
          by_cases hjl : j < M
          · have hE : h % 256 = ((by8 z j).toNat : Int) := by rw [by8_val, hh.out]
            have HE := Lib.hid hE
            have HH : Hid (h / 256 = hi z (j + 1)) := by show h / 256 = _; rw [hi_succ, hh.out]
            clear hE hh
            go_wp2_with (first | (at_builtin; go_loud (refine wpList_append_lies _ rfl (.tmp 50) (.tmp 53) 38 rfl w.heap.size 5 i0 (.int .u8 0) 1 1 Tryd.underlying38 hi0 hz0 hz1 hz2 rfl (by decide) (.slice (some ⟨g1, 0, none⟩) (acc.length + j) cp1) (acc.length + j) (bvs (acc ++ byts z j)) rfl (hown1.alloc _) ⟨wr.heap.size, 0, none⟩ 1 1 [.int .u8 (h % 256)] rfl rfl (cell_one_new _ _ _) (ints_oneCell .u8 [h % 256]) (by decide) (by unfold maxLen; omega) (by omega) (by simp; omega) _ rfl ?_); intro g2 cp2 w3 hown3 hg3 hat3 hlt3))
            have hown4 := own_val2 (b := by8 z j) hown3 HE.out
            rw [← bvs_append, List.append_assoc, ← byts_succ] at hown4
            have hnx3 : Below w.heap.size w w3 := step_below hnx1 hg3 (by omega) (by omega)
            clear hown3 hg3 hat3 hlt3 hown1 hown hnx1
            go_roundw
            case rel => exact ⟨j + 1, g2, cp2, h / 256, by omega, rfl, hown4, rfl, HH.out, by go_num, hnx3⟩
            case measure => simp only [intOf]; omega
          · have hjM : j = M := by omega
            subst hjM
            obtain ⟨hk', hzk⟩ := hz.out
            by_cases h00 : h = 0
            · have t0 : (h != 0) = false := by rw [h00]; rfl
              have HN : Hid (ul m (r.drop (k + 1)) (acc ++ byts z j) = R) := (ul_next hk' hzk hM.out (by rw [← hh.out]; exact h00)).symm.trans HF.out
              have hln : (acc ++ byts z j).length = acc.length + j := by rw [List.length_append, byts_len]
              have HLN := Lib.hid hln
              clear h00 hln HF hzk
              go_wp2
              go_roundw
              case rel => exact ⟨k + 1, g1, cp1, acc ++ byts z j, by omega, by rw [HLN.out], by unfold OwnB; rw [HLN.out]; exact hown1, by go_num, by rw [HLN.out]; omega, HN, hnx1⟩
              case measure => simp only [intOf]; omega
            · have t0 : (h != 0) = true := by rw [bne_iff_ne]; exact h00
              have HN : Hid (([], 1) = R) := (ul_bad hk' hzk hM.out (by rw [← hh.out]; exact h00)).symm.trans HF.out
              clear h00 HF hzk
              go_wp2
              go_ret2
              exact ⟨by rw [← HN.out]; rfl, hnx1⟩
    · have HN : Hid ((acc, 0) = R) := (ul_end (by rw [HL.out]; omega)).symm.trans HF.out
      have hcv := conv_own hown rfl
      clear HF
      go_wp2
      go_ret2
      exact ⟨by rw [← HN.out]; rfl, hnx⟩
end Go.Proofs.YtenhncepoclolaaDoor.UN
