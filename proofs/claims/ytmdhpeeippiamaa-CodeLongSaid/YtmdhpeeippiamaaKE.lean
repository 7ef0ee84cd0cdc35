/- An integer's eight bytes, by the document: the walk. -/
import Derived.Test.YtmdhpeeippiamaaKD
namespace Go.Proofs.Ytmdhpeeippiamaa.KE
open Go.RowKit Go.Proofs.Ytmdhpeeippiamaa.RG Go.Proofs.Ytmdhpeeippiamaa.KA Go.Proofs.Ytmdhpeeippiamaa.KB Go.Proofs.Ytmdhpeeippiamaa.KD
set_option linter.unusedVariables false
set_option maxRecDepth 100000

/-- What is left of a number, and the rest. -/
theorem parts256 (n : Int) : ∃ M Q : Int, n % 256 = M ∧ n / 256 = Q ∧ 0 ≤ M ∧ M < 256 ∧ n = 256 * Q + M ∧ (n - M).tdiv 256 = Q ∧ (0 ≤ n → n.tmod 256 = M) ∧ (n < 0 → (M = 0 ∧ n.tmod 256 = 0) ∨ (0 < M ∧ n.tmod 256 = M - 256)) := by
  refine ⟨n % 256, n / 256, rfl, rfl, by omega, by omega, by omega, ?_, fun h => Int.tmod_eq_emod_of_nonneg h, fun h => ?_⟩
  · have e : n - n % 256 = 256 * (n / 256) := by omega
    rw [e]
    exact Int.mul_tdiv_cancel_left _ (by decide)
  · have e : n.tmod 256 = -((-n) % 256) := by
      have h1 : (-n).tmod 256 = (-n) % 256 := Int.tmod_eq_emod_of_nonneg (by omega)
      have h2 : (-n).tmod 256 = -(n.tmod 256) := Int.neg_tmod _ _
      omega
    rw [e]
    omega
set_option maxHeartbeats 8000000 in
theorem eight_c (v : Value) (l : By) (n : Int) (B : Nat) (w : World) (h : OwnB w B v l) (hB : B ≤ w.heap.size) (hl : l.length ≤ 10000000000) (h0 : -4611686018427387904 ≤ n) (h1 : n ≤ 4611686018427387904) :
    Calls Try.prog 23 #[v, .int .i64 n] w (PutRes w B v (l ++ leK 8 n)) := by
  obtain ⟨ao, cap, e, _⟩ := h.val
  have HA := Lib.hid (AppB.refl h)
  have HB := Lib.hid hB
  have HO0 := Lib.hid h
  obtain ⟨M, Q, hM, hQ, m0, m1, m2, m3, m4, m5⟩ := parts256 n
  have HMQ := Lib.hid (And.intro hM hQ)
  have m6 : (n - M) / 256 = Q := by omega
  have m7 : 0 ≤ n → 0 ≤ n - M := by omega
  clear e h hM hQ m2
  have loop : ∀ (cse : (0 ≤ n ∧ n % 256 = M) ∨ (n < 0 ∧ n.tmod 256 = M) ∨ (n < 0 ∧ 0 < M ∧ n.tmod 256 = M - 256)), Calls Try.prog 23 #[v, .int .i64 n] w (PutRes w B v (l ++ leK 8 n)) := by
    intro cse
    rcases cse with ⟨c1, c2⟩ | ⟨c1, c2⟩ | ⟨c1, c3, c2⟩
    all_goals
      have hneg : ¬ (0 ≤ n) ∨ 0 ≤ n := by omega
      go_enter Try.func23, Try.ntmps23
      go_wp2_with fail
      clear c2 m3 m4 m5 m6 m7 hneg
      go_loopg [0, 1, 5, 6] 8 (fun g bv nv lv iv wr => ∃ (i : Nat) (m q r : Int) (lb : By), i + g = 8 ∧ iv = .int .i64 (i : Int) ∧ nv = .int .i64 q ∧ lv = .int .i64 r ∧ m % 256 = r ∧ m / 256 = q ∧ (-4611686018427387904 ≤ m ∧ m ≤ 4611686018427387904) ∧ Hid (lb ++ leK (8 - i) m = l ++ leK 8 n) ∧ Hid (lb.length = l.length + i) ∧ Hid (AppB w wr B v bv lb))
      case atStart => exact ⟨0, n, Q, _, l, Nat.zero_add _, rfl, rfl, rfl, (by first | exact HMQ.out.1 | rfl), HMQ.out.2, ⟨h0, h1⟩, Lib.hid rfl, Lib.hid rfl, HA⟩
      case round =>
        obtain ⟨i, m, q, r, lb, hi, rfl, rfl, rfl, hr, hq, hmb, HL, HLL, HAP⟩ := hrel
        clear HA
        by_cases hlt : i < 8
        · obtain ⟨g, rfl⟩ : ∃ g, gk = g + 1 := ⟨gk - 1, by omega⟩
          have r0 : 0 ≤ r := by omega
          have r1 : r ≤ 255 := by omega
          have ew : IntKind.u8.wrap r = r := IntWalk.u8_in _ ⟨r0, r1⟩
          have HOA := Lib.hid (HAP.out.step (balloc wr (.cells #[.int .u8 r] 5)))
          have eb : ((by1 r).toNat : Int) = r := by1_nat r0 (by omega)
          have HR := Lib.hid (show RowR TB (wr.alloc (.cells #[.int .u8 r] 5)) (fun b => Any b ∧ Value.ownBlock u0 ≠ some b) (.slice (some ⟨wr.heap.size, 0, none⟩) 1 1) [by1 r] from rowR_new (q := []) #[.int .u8 r] 5 (by show [Value.int .u8 ((by1 r).toNat : Int)] = _; rw [eb]) rfl)
          have HLN := Lib.hid (show lb.length + [by1 r].length ≤ 100000000000 by rw [HLL.out]; simp; omega)
          have HBS := Lib.hid (show B ≤ (wr.alloc (.cells #[.int .u8 r] 5)).heap.size from Nat.le_trans HB.out HOA.out.gr.size)
          have HL2 := Lib.hid (show (lb ++ [by1 r]) ++ leK (8 - (i + 1)) q = l ++ leK 8 n from by
            rw [← HL.out, show 8 - i = (8 - (i + 1)) + 1 by omega]
            show _ = lb ++ (by1 (m % 256) :: leK (8 - (i + 1)) (m / 256))
            rw [hr, hq]; simp)
          obtain ⟨M2, Q2, hM2, hQ2, n0, n1, n2, n3, n4, n5⟩ := parts256 q
          have HMQ2 := Lib.hid (And.intro hM2 hQ2)
          have hqb : -4611686018427387904 ≤ q ∧ q ≤ 4611686018427387904 := by omega
          have i0 : (0 : Int) ≤ (i : Int) := by omega
          have hsplit : (0 ≤ q ∧ q % 256 = M2) ∨ (q < 0 ∧ q.tmod 256 = M2) ∨ (q < 0 ∧ 0 < M2 ∧ q.tmod 256 = M2 - 256) := by
            by_cases hq0 : 0 ≤ q
            · exact .inl ⟨hq0, hM2⟩
            · rcases n5 (by omega) with ⟨a, b⟩ | ⟨a, b⟩
              · exact .inr (.inl ⟨by omega, by rw [b, a]⟩)
              · exact .inr (.inr ⟨by omega, a, b⟩)
          have n6 : (q - M2) / 256 = Q2 := by omega
          have n7 : 0 ≤ q → 0 ≤ q - M2 := by omega
          clear hr hq hM2 hQ2 n2 n4 n5 eb
          rcases hsplit with ⟨d1, d2⟩ | ⟨d1, d2⟩ | ⟨d1, d3, d2⟩
          all_goals
            go_wp2_with (at_builtin; go_loud (refine wpList_row TB (wr.alloc (.cells #[.int .u8 r] 5)) rfl (.tmp 21) (.tmp 24) rfl B Any u0 (.slice (some ⟨wr.heap.size, 0, none⟩) 1 1) lb [by1 r] rfl rfl HOA.out.own HR.out HLN.out HBS.out ?_); intro ao6 n6 cap6 w6 hO6 hn6 hg6 ha6; clear hn6; have HR6 := Lib.hid (HOA.out.grown hO6 hg6 ha6); clear hO6 hg6 ha6)
            go_roundg g
            case rel => exact ⟨i + 1, q, Q2, _, lb ++ [by1 r], by omega, by go_num, rfl, rfl, (by first | exact HMQ2.out.1 | rfl), HMQ2.out.2, hqb, HL2, Lib.hid (by rw [List.length_append, HLL.out]; rfl), HR6⟩
            case measure => omega
        · have hi8 : i = 8 := by omega
          subst hi8
          go_wp2_with fail
          go_ret
          exact ⟨_, rfl, by
            have h2 : lb ++ leK 0 m = l ++ leK 8 n := HL.out
            rw [show leK 0 m = [] from rfl, List.append_nil] at h2
            rw [← h2]
            exact HAP.out⟩
  by_cases hn : 0 ≤ n
  · exact loop (.inl ⟨hn, HMQ.out.1⟩)
  · rcases m5 (by omega) with ⟨a, b⟩ | ⟨a, b⟩
    · exact loop (.inr (.inl ⟨by omega, by rw [b, a]⟩))
    · exact loop (.inr (.inr ⟨by omega, a, b⟩))
end Go.Proofs.Ytmdhpeeippiamaa.KE
