/- Whether two lists of numbers are the same. -/
import Derived.Test.YtenhncepoclolaaDoorA
import Derived.BigRegion
import Derived.Lib.Hide
namespace Go.Proofs.YtenhncepoclolaaDoor.I
open Go.RowKit Go.Maps Go.Proofs.YtenhncepoclolaaDoor.P Go.Proofs.YtenhncepoclolaaDoor.A
set_option linter.unusedVariables false

theorem ret_bool {a b : Bool} (h : a = b) : Ending.returned (.bool a) = .returned (.bool b) := by rw [h]

theorem same_differ (a1 a2 : Option Addr) (n1 n2 c1 c2 : Nat) (w : World) (h : n1 ≠ n2) :
    Calls Tryd.prog 15 #[.slice a1 n1 c1, .slice a2 n2 c2] w fun e w' => e = .returned (.bool false) ∧ w = w' := by
  have t : ((n1 : Int) != (n2 : Int)) = true := by rw [bne_iff_ne]; omega
  go_enter Tryd.func15, Tryd.ntmps15
  go_wp2
  go_ret
  exact ⟨rfl, rfl⟩

theorem same_none (a1 a2 : Option Addr) (c1 c2 : Nat) (w : World) :
    Calls Tryd.prog 15 #[.slice a1 0 c1, .slice a2 0 c2] w fun e w' => e = .returned (.bool true) ∧ w = w' := by
  go_enter Tryd.func15, Tryd.ntmps15
  go_wp2
  refine wp_loop_rounds 1 ?_
  rw [rounds_succ]
  go_wp2
  go_ret
  exact ⟨rfl, rfl⟩

theorem same_some (b1 o1 c1 b2 o2 c2 : Nat) (zs1 zs2 : List Int) (w : World) (hl : zs2.length = zs1.length) (hn : zs1.length ≤ 1000) (hb1 : b1 < w.heap.size) (hb2 : b2 < w.heap.size)
    (h1 : ∀ j (h : j < zs1.length), w.cell? ⟨b1, o1 + j, none⟩ = some (.int .i64 zs1[j])) (h2 : ∀ j (h : j < zs2.length), w.cell? ⟨b2, o2 + j, none⟩ = some (.int .i64 zs2[j])) :
    Calls Tryd.prog 15 #[.slice (some ⟨b1, o1, none⟩) zs1.length c1, .slice (some ⟨b2, o2, none⟩) zs1.length c2] w fun e w' => e = .returned (.bool (decide (zs1 = zs2))) ∧ Below w.heap.size w w' := by
  obtain ⟨n, hN⟩ : ∃ n, zs1.length = n := ⟨_, rfl⟩
  have HL : Hid (zs1.length = n ∧ zs2.length = n) := ⟨hN, hl.trans hN⟩
  rw [hN] at hn ⊢
  obtain ⟨R, HR⟩ : ∃ R, Hid (R = decide (zs1 = zs2)) := ⟨_, rfl⟩
  rw [← HR.out]
  clear hl hN
  go_enter Tryd.func15, Tryd.ntmps15
  go_wp2
  go_loopw [5] (fun i wr => ∃ k : Nat, k ≤ n ∧ i = .int .i64 (k : Int) ∧ zs1.take k = zs2.take k ∧ Below w.heap.size w wr) (fun i _ => n - (intOf i).toNat)
  case atStart => exact ⟨0, Nat.zero_le _, rfl, rfl, Below.refl _ _⟩
  case round =>
    obtain ⟨k, hk, rfl, ht, hnx⟩ := hrel
    have HT := Lib.hid ht
    clear ht
    by_cases hlt : k < n
    · obtain ⟨x, hx⟩ : ∃ x, Hid (zs1[k]? = some x) := ⟨zs1[k]'(by rw [HL.out.1]; exact hlt), List.getElem?_eq_getElem (by rw [HL.out.1]; exact hlt)⟩
      obtain ⟨y, hy⟩ : ∃ y, Hid (zs2[k]? = some y) := ⟨zs2[k]'(by rw [HL.out.2]; exact hlt), List.getElem?_eq_getElem (by rw [HL.out.2]; exact hlt)⟩
      have d1 : wr.cell? ⟨b1, o1 + k, none⟩ = some (.int .i64 x) := by
        have k1 : k < zs1.length := by rw [HL.out.1]; exact hlt
        have e : zs1[k] = x := Option.some.inj ((List.getElem?_eq_getElem k1).symm.trans hx.out)
        rw [← e]; exact (hnx.cell (by exact hb1)).trans (h1 k k1)
      have d2 : wr.cell? ⟨b2, o2 + k, none⟩ = some (.int .i64 y) := by
        have k2 : k < zs2.length := by rw [HL.out.2]; exact hlt
        have e : zs2[k] = y := Option.some.inj ((List.getElem?_eq_getElem k2).symm.trans hy.out)
        rw [← e]; exact (hnx.cell (by exact hb2)).trans (h2 k k2)
      by_cases he : x = y
      · have te : (x != y) = false := by rw [he]; simp
        have HN : Hid (zs1.take (k + 1) = zs2.take (k + 1)) := by
          show zs1.take (k + 1) = zs2.take (k + 1)
          rw [List.take_add_one, List.take_add_one, HT.out, hx.out, hy.out, he]
        have HE := Lib.hid he
        clear he
        go_wp2
        go_region
        all_goals go_wp2
        all_goals go_roundw
        all_goals first
          | exact ⟨k + 1, by omega, by go_num, HN.out, hnx.drew⟩
          | (simp [intOf]; omega)
      · have te : (x != y) = true := by rw [bne_iff_ne]; exact he
        have HF : Hid (R = false) := by
          rw [HR.out]
          show decide (zs1 = zs2) = false
          rw [decide_eq_false_iff_not]
          intro e
          subst e
          exact he (Option.some.inj (hx.out.symm.trans hy.out))
        clear he
        go_wp2
        go_region
        all_goals go_wp2
        all_goals go_ret
        all_goals exact ⟨ret_bool HF.out.symm, hnx.drew⟩
    · have HF : Hid (R = true) := by
        rw [HR.out]
        show decide (zs1 = zs2) = true
        rw [decide_eq_true_iff]
        have := HT.out
        obtain ⟨l1, l2⟩ := HL.out
        rw [List.take_of_length_le (by omega), List.take_of_length_le (by omega)] at this
        exact this
      go_wp2
      go_ret
      exact ⟨ret_bool HF.out.symm, hnx⟩

theorem same_any (v1 v2 : Value) (zs1 zs2 : List Int) (w : World) (h1 : HasI w v1 zs1) (h2 : HasI w v2 zs2) (hn : zs1.length ≤ 1000) :
    Calls Tryd.prog 15 #[v1, v2] w fun e w' => e = .returned (.bool (decide (zs1 = zs2))) ∧ Below w.heap.size w w' := by
  obtain ⟨a1, c1, rfl, _, h1⟩ := h1
  obtain ⟨a2, c2, rfl, _, h2⟩ := h2
  by_cases hl : zs1.length = zs2.length
  · rcases h1 with rfl | ⟨b1, o1, rfl, hb1, h1⟩
    · obtain rfl : zs2 = [] := List.eq_nil_of_length_eq_zero hl.symm
      refine (same_none a1 a2 c1 c2 w).mono ?_
      rintro e w' ⟨he, rfl⟩
      exact ⟨he, Below.refl _ _⟩
    · rcases h2 with rfl | ⟨b2, o2, rfl, hb2, h2⟩
      · obtain rfl : zs1 = [] := List.eq_nil_of_length_eq_zero hl
        refine (same_none _ a2 c1 c2 w).mono ?_
        rintro e w' ⟨he, rfl⟩
        exact ⟨he, Below.refl _ _⟩
      · have := same_some b1 o1 c1 b2 o2 c2 zs1 zs2 w hl.symm hn hb1 hb2 h1 h2
        rw [← hl]
        exact this
  · refine (same_differ a1 a2 zs1.length zs2.length c1 c2 w hl).mono ?_
    rintro e w' ⟨he, rfl⟩
    rw [decide_eq_false (fun e => hl (by rw [e]))]
    exact ⟨he, Below.refl _ _⟩
end Go.Proofs.YtenhncepoclolaaDoor.I
