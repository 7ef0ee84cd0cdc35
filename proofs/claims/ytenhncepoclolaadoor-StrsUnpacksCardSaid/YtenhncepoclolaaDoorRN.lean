/- How the document unpacks numbers. -/
import Derived.Test.YtenhncepoclolaaDoorUA
namespace Go.Proofs.YtenhncepoclolaaDoor.RN
open Go.RowKit Go.Maps Go.Proofs.YtenhncepoclolaaDoor.P Go.Proofs.YtenhncepoclolaaDoor.A Go.Proofs.YtenhncepoclolaaDoor.D Go.Proofs.YtenhncepoclolaaDoor.N Go.Proofs.YtenhncepoclolaaDoor.S2 Go.Proofs.YtenhncepoclolaaDoor.UN Go.Proofs.YtenhncepoclolaaDoor.UA
set_option linter.unusedVariables false

theorem rn_none (ao : Option Addr) (cap : Nat) (w : World) :
    Calls Tryd.prog 18 #[.slice ao 0 cap] w fun e w' => e = .returned (nv ([], 1)) ∧ w = w' := by
  go_enter Tryd.func18, Tryd.ntmps18
  go_wp2
  go_ret2
  exact ⟨rfl, rfl⟩

theorem rn_neg (b off n cap : Nat) (z : Int) (w : World) (hn : 1 ≤ n) (hc : w.cell? ⟨b, off, none⟩ = some (.int .i64 z)) (hz : z < 0) :
    Calls Tryd.prog 18 #[.slice (some ⟨b, off, none⟩) n cap] w fun e w' => e = .returned (nv ([], 1)) ∧ w = w' := by
  have h0 : ((n : Int) == 0) = false := by rw [beq_eq_false_iff_ne]; omega
  go_enter Tryd.func18, Tryd.ntmps18
  go_wp2
  go_ret2
  exact ⟨rfl, rfl⟩

theorem rn_big (b off n cap : Nat) (z : Int) (w : World) (hn : 1 ≤ n) (hc : w.cell? ⟨b, off, none⟩ = some (.int .i64 z)) (hz : 60 < z) :
    Calls Tryd.prog 18 #[.slice (some ⟨b, off, none⟩) n cap] w fun e w' => e = .returned (nv ([], 1)) ∧ w = w' := by
  have h0 : ((n : Int) == 0) = false := by rw [beq_eq_false_iff_ne]; omega
  go_enter Tryd.func18, Tryd.ntmps18
  go_wp2
  go_ret2
  exact ⟨rfl, rfl⟩

theorem rn_many (b off n cap m : Nat) (w : World) (hn : 1 ≤ n) (hc : w.cell? ⟨b, off, none⟩ = some (.int .i64 (m : Int))) (hz : m ≤ 60) (h : n ≠ 1 + (m + 6) / 7) :
    Calls Tryd.prog 18 #[.slice (some ⟨b, off, none⟩) n cap] w fun e w' => e = .returned (nv ([], 1)) ∧ w = w' := by
  have h0 : ((n : Int) == 0) = false := by rw [beq_eq_false_iff_ne]; omega
  obtain ⟨q, hq⟩ : ∃ q, Hid (q = (m + 6) / 7) := ⟨_, rfl⟩
  have h1 : ((n : Int) != (q : Int) + 1) = true := by rw [bne_iff_ne]; have := hq.out; omega
  have hq7 : m ≤ 7 * q ∧ (7 * q < m + 7) ∧ q ≤ 9 := by have := hq.out; omega
  clear h
  go_enter Tryd.func18, Tryd.ntmps18
  go_wp2
  go_loop [4] (fun t => ∃ k : Nat, k ≤ q ∧ t = .int .i64 ((k : Int) + 1)) (fun t => 100 - (intOf t).toNat)
  case atStart => exact ⟨0, Nat.zero_le _, rfl⟩
  case round =>
    obtain ⟨k, hk, rfl⟩ := hrel
    by_cases hlt : 7 * k < m
    · go_wp2
      go_round
      case rel => exact ⟨k + 1, by omega, by go_num⟩
      case measure => simp only [intOf]; omega
    · have hkq : k = q := by omega
      subst hkq
      go_wp2
      go_ret2
      exact ⟨rfl, rfl⟩

set_option maxRecDepth 100000 in
set_option maxHeartbeats 3200000 in
theorem rn_good (b off cap m : Nat) (r : List Int) (w : World) (hb : b < w.heap.size) (hcap : r.length + 1 ≤ cap) (hc : w.cell? ⟨b, off, none⟩ = some (.int .i64 (m : Int))) (hz : m ≤ 60) (hr : r.length + 1 = 1 + (m + 6) / 7)
    (hcs : ∀ j (h : j < r.length), w.cell? ⟨b, off + 1 + j, none⟩ = some (.int .i64 r[j])) (hwf : ∀ z ∈ r, z ≤ 9223372036854775807) (R : List UInt8 × Nat) (hR : ul m r [] = R) :
    Calls Tryd.prog 18 #[.slice (some ⟨b, off, none⟩) (r.length + 1) cap] w fun e w' => e = .returned (nv R) ∧ Below w.heap.size w w' := by
  obtain ⟨i0, hi0, hz0, hz1, hz2⟩ := info_parts infoB
  obtain ⟨n, hN⟩ : ∃ n, r.length = n := ⟨_, rfl⟩
  have HL := Lib.hid hN
  have HR := Lib.hid hR
  have hq7 : m ≤ 7 * n ∧ (7 * n < m + 7) ∧ n ≤ 9 := by omega
  rw [hN] at hcap ⊢
  clear hN hR hr
  have h0 : ((n : Int) + 1 == 0) = false := by rw [beq_eq_false_iff_ne]; omega
  have h1 : ((n : Int) + 1 != (n : Int) + 1) = false := by simp
  go_enter Tryd.func18, Tryd.ntmps18
  go_wp2
  go_loop [4] (fun t => ∃ k : Nat, k ≤ n ∧ t = .int .i64 ((k : Int) + 1)) (fun t => 100 - (intOf t).toNat)
  case atStart => exact ⟨0, Nat.zero_le _, rfl⟩
  case round =>
    obtain ⟨k, hk, rfl⟩ := hrel
    by_cases hlt : 7 * k < m
    · go_wp2
      go_round
      case rel => exact ⟨k + 1, by omega, by go_num⟩
      case measure => simp only [intOf]; omega
    · have hkq : n = k := by omega
      subst hkq
      go_wp2
      go_loopw [5, 6] (fun t i wr => ∃ (k : Nat) (ao : Option Addr) (cp : Nat) (acc : List UInt8), 1 ≤ k ∧ k ≤ n + 1 ∧ t = .slice ao acc.length cp ∧ OwnB wr w.heap.size (.slice ao acc.length cp) acc ∧ i = .int .i64 (k : Int) ∧
          acc.length ≤ m ∧ Hid (ul m (r.drop (k - 1)) acc = R) ∧ Below w.heap.size w wr) (fun _ i _ => n + 1 - (intOf i).toNat)
      case atStart => exact ⟨1, none, 0, [], Nat.le_refl _, by omega, rfl, World.ownsRow_nil _ _ _ _, rfl, Nat.zero_le _, HR, Below.refl _ _⟩
      case round =>
        obtain ⟨k, ao, cp, acc, hk1, hk, rfl, hown, rfl, hal, HF, hnx⟩ := hrel
        have hcx : wr.cell? ⟨b, off, none⟩ = some (.int .i64 (m : Int)) := (hnx.cell (by exact hb)).trans hc
        have hsz := hnx.size
        by_cases hlt : k < n + 1
        · obtain ⟨z, hz⟩ : ∃ z, Hid (∃ h : k - 1 < r.length, r[k - 1] = z) := ⟨r[k - 1]'(by rw [HL.out]; omega), by rw [HL.out]; omega, rfl⟩
          have hcz : wr.cell? ⟨b, off + k, none⟩ = some (.int .i64 z) := by
            obtain ⟨h, rfl⟩ := hz.out
            have := hcs (k - 1) h
            rw [show off + 1 + (k - 1) = off + k from by omega] at this
            exact (hnx.cell (by exact hb)).trans this
          obtain ⟨M, hM⟩ : ∃ M, Hid (M = min (m - acc.length) 7) := ⟨_, rfl⟩
          have hM7 : M ≤ 7 ∧ M + acc.length ≤ m ∧ (7 ≤ M ∨ (M < 7 ∧ m ≤ M + acc.length)) := by have := hM.out; omega
          have hk0 : k - 1 + 1 = k := by omega
          clear hcs
          by_cases hzn : z < 0
          · have HN : Hid (([], 1) = R) := by
              obtain ⟨hk', hzk⟩ := hz.out
              exact (ul_bad hk' hzk hM.out (by have := hi_neg hzn M; omega)).symm.trans HF.out
            go_wp2
            go_ret2
            exact ⟨by rw [← HN.out]; rfl, hnx⟩
          · have HZ : Hid (0 ≤ z) := by show 0 ≤ z; omega
            have HZ2 : Hid (z ≤ 9223372036854775807) := by
              obtain ⟨h, rfl⟩ := hz.out
              exact hwf _ (List.getElem_mem h)
            clear hwf
            go_wp2
            go_loopw [5, 7, 8] (fun t v i wi => ∃ (j : Nat) (ao : Option Addr) (cp1 : Nat) (h : Int), j ≤ M ∧ t = .slice ao (acc.length + j) cp1 ∧ wi.ownsRow w.heap.size 5 1 (.slice ao (acc.length + j) cp1) (acc.length + j) (bvs (acc ++ byts z j)) ∧
              v = .int .i64 h ∧ 0 ≤ h ∧ h ≤ 9223372036854775807 ∧ Hid (h = hi z j) ∧ i = .int .i64 (j : Int) ∧ Below w.heap.size w wi) (fun _ _ i _ => M - (intOf i).toNat)
            case atStart => exact ⟨0, ao, cp, z, Nat.zero_le _, rfl, by simpa [byts] using hown, rfl, HZ.out, HZ2.out, (hi_zero z).symm, rfl, hnx⟩
            case round =>
              obtain ⟨j, ao1, cp1, h, hj, rfl, hown1, rfl, hh0, hh9, hh, rfl, hnx1⟩ := hrel
              have hbase : ∀ x, (Value.slice ao1 (acc.length + j) cp1).ownBlock = some x → w.heap.size ≤ x := fun x hx => (hown1.lt x hx).1
              have hcx1 : wr.cell? ⟨b, off, none⟩ = some (.int .i64 (m : Int)) := (hnx1.cell (by exact hb)).trans hc
              have hsz1 := hnx1.size
              by_cases hjl : j < M
              · have hE : h % 256 = ((by8 z j).toNat : Int) := by rw [by8_val, hh.out]
                have HE := Lib.hid hE
                have HH : Hid (h / 256 = hi z (j + 1)) := by show h / 256 = _; rw [hi_succ, hh.out]
                clear hE hh
                go_wp2_with (first | (at_builtin; go_loud (refine wpList_append_lies _ rfl (.tmp 61) (.tmp 65) 38 rfl w.heap.size 5 i0 (.int .u8 0) 1 1 Tryd.underlying38 hi0 hz0 hz1 hz2 rfl (by decide) (.slice ao1 (acc.length + j) cp1) (acc.length + j) (bvs (acc ++ byts z j)) rfl (hown1.alloc _) ⟨wr.heap.size, 0, none⟩ 1 1 [.int .u8 _] rfl rfl (cell_one_new _ _ _) (ints_oneCell .u8 [_]) (by decide) (by unfold maxLen; omega) (by omega) (by simp; omega) _ rfl ?_); intro g2 cp2 w3 hown3 hg3 hat3 hlt3))
                have hown4 := own_val2 (b := by8 z j) hown3 HE.out
                rw [← bvs_append, List.append_assoc, ← byts_succ] at hown4
                have hnx3 : Below w.heap.size w w3 := step_below2 hnx1 hg3 hbase (by omega)
                clear hown3 hg3 hat3 hlt3 hown1 hown hnx1 hbase
                go_roundw
                case rel => exact ⟨j + 1, _, cp2, h / 256, by omega, rfl, hown4, rfl, by omega, by omega, HH.out, by go_num, hnx3⟩
                case measure => simp only [intOf]; omega
              · have hjM : j = M := by omega
                subst hjM
                obtain ⟨hk', hzk⟩ := hz.out
                by_cases h00 : h = 0
                · have t0 : (h != 0) = false := by rw [h00]; rfl
                  have HN : Hid (ul m (r.drop (k + 1 - 1)) (acc ++ byts z j) = R) := by
                    have := (ul_next hk' hzk hM.out (by rw [← hh.out]; exact h00)).symm.trans HF.out
                    rw [hk0] at this
                    exact this
                  have hln : (acc ++ byts z j).length = acc.length + j := by rw [List.length_append, byts_len]
                  have HLN := Lib.hid hln
                  have HK := Lib.hid hk0
                  clear h00 hln HF hzk hk0
                  rcases hM7.2.2 with c7 | ⟨c7, c8⟩
                  all_goals
                    go_wp2
                    go_roundw
                    case rel => exact ⟨k + 1, ao1, cp1, acc ++ byts z j, by omega, by omega, by rw [HLN.out], by unfold OwnB; rw [HLN.out]; exact hown1, by go_num, by rw [HLN.out]; omega, HN, hnx1⟩
                    case measure => simp only [intOf]; omega
                · have t0 : (h != 0) = true := by rw [bne_iff_ne]; exact h00
                  have HN : Hid (([], 1) = R) := (ul_bad hk' hzk hM.out (by rw [← hh.out]; exact h00)).symm.trans HF.out
                  clear h00 HF hzk hk0
                  rcases hM7.2.2 with c7 | ⟨c7, c8⟩
                  all_goals
                    go_wp2
                    go_ret2
                    exact ⟨by rw [← HN.out]; rfl, hnx1⟩
        · have HN : Hid ((acc, 0) = R) := (ul_end (by rw [HL.out]; omega)).symm.trans HF.out
          have hcv := conv_any hown rfl
          clear HF
          go_wp2
          go_ret2
          exact ⟨by rw [← HN.out]; rfl, hnx⟩

theorem rn_any (v : Value) (zs : List Int) (w : World) (h : HasI w v zs) (hwf : ∀ z ∈ zs, z ≤ 9223372036854775807) :
    Calls Tryd.prog 18 #[v] w fun e w' => e = .returned (nv (up zs)) ∧ Below w.heap.size w w' := by
  match zs, h, hwf with
  | [], h, _ =>
    obtain ⟨ao, cap, rfl⟩ := has_nil h
    refine (rn_none ao cap w).mono ?_
    rintro e w' ⟨he, rfl⟩
    exact ⟨he, Below.refl _ _⟩
  | z :: r, h, hwf =>
    obtain ⟨b, off, cap, rfl, hcap, hb, hc, hcs⟩ := has_cons h
    have bad : ¬ (0 ≤ z ∧ z ≤ 60 ∧ r.length = (z.toNat + 6) / 7) → up (z :: r) = ([], 1) := fun hn => by
      show (if _ then _ else _) = _
      rw [if_neg hn]
    by_cases h0 : z < 0
    · rw [bad (by omega)]
      refine (rn_neg b off _ cap z w (by omega) hc h0).mono ?_
      rintro e w' ⟨he, rfl⟩
      exact ⟨he, Below.refl _ _⟩
    · by_cases h1 : 60 < z
      · rw [bad (by omega)]
        refine (rn_big b off _ cap z w (by omega) hc h1).mono ?_
        rintro e w' ⟨he, rfl⟩
        exact ⟨he, Below.refl _ _⟩
      · obtain ⟨m, rfl⟩ : ∃ m : Nat, z = (m : Int) := ⟨z.toNat, by omega⟩
        by_cases h2 : r.length + 1 = 1 + (m + 6) / 7
        · have good : up ((m : Int) :: r) = ul m r [] := by
            show (if _ then _ else _) = _
            rw [if_pos ⟨by omega, by omega, by rw [Int.toNat_natCast]; omega⟩, Int.toNat_natCast]
          rw [good]
          exact rn_good b off cap m r w hb hcap hc (by omega) h2 hcs (fun z hz => hwf z (List.mem_cons_of_mem _ hz)) _ rfl
        · rw [bad (by rw [Int.toNat_natCast]; omega)]
          refine (rn_many b off _ cap m w (by omega) hc (by omega) h2).mono ?_
          rintro e w' ⟨he, rfl⟩
          exact ⟨he, Below.refl _ _⟩
end Go.Proofs.YtenhncepoclolaaDoor.RN
