/- Rows of numbers: are they alike? The law's words. -/
import Derived.Test.YtphebogjmbaboaaDoorHS
namespace Go.Proofs.YtphebogjmbaboaaDoor.HT
open Go.RowKit Go.Proofs.YtphebogjmbaboaaDoor.RG Go.Proofs.YtphebogjmbaboaaDoor.RB Go.Proofs.YtphebogjmbaboaaDoor.HA Go.Proofs.YtphebogjmbaboaaDoor.HB Go.Proofs.YtphebogjmbaboaaDoor.HN
set_option linter.unusedVariables false
set_option maxRecDepth 100000
set_option maxRecDepth 100000

theorem same_c (w : World) (v v' : Value) (l l' : List Int) (h : RowI w v l) (h' : RowI w v' l') (hm : l.length ≤ 1000000) :
    Calls Tryd.prog 14 #[v, v'] w fun e w' => e = .returned (.bool (decide (l = l'))) ∧ Below w.heap.size w w' := by
  obtain ⟨ao, cap, rfl, hc, hA⟩ := row_has h
  obtain ⟨ao', cap', rfl, hc', hA'⟩ := row_has h'
  clear h h' hc hc'
  by_cases hl : l.length = l'.length
  · obtain ⟨n, hn⟩ : ∃ n, Hid (l.length = n) := ⟨_, Lib.hid rfl⟩
    rw [hn.out] at hm
    have HN' := Lib.hid (hl.symm.trans hn.out)
    rw [← hl, hn.out]
    have HA := Lib.hid hA
    have HA' := Lib.hid hA'
    clear hl hA hA'
    go_enter Tryd.func14, Tryd.ntmps14
    go_wp2_with fail
    go_loopg [5] n (fun g iv wr => ∃ i : Nat, i + g = n ∧ iv = .int .i64 (i : Int) ∧ Hid (l.take i = l'.take i) ∧ Hid (Below w.heap.size w wr))
    case atStart => exact ⟨0, Nat.zero_add _, rfl, Lib.hid rfl, Lib.hid (Below.refl _ _)⟩
    case round =>
      obtain ⟨i, hi, rfl, HT, HX⟩ := hrel
      by_cases hlt : i < n
      · obtain ⟨g', rfl⟩ : ∃ g, gk = g + 1 := ⟨gk - 1, by omega⟩
        have HI := Lib.hid hi
        have q1 : i < l.length := by rw [hn.out]; exact hlt
        have q2 : i < l'.length := by rw [HN'.out]; exact hlt
        rcases HA.out with hz | ⟨b, off, rfl, hbl, hcs⟩
        · rw [hz] at q1; simp at q1
        rcases HA'.out with hz | ⟨b', off', rfl, hbl', hcs'⟩
        · rw [hz] at q2; simp at q2
        have x0 := (HX.out.cell (p := ⟨b, off + i, none⟩) hbl).trans (hcs i q1)
        have y0 := (HX.out.cell (p := ⟨b', off' + i, none⟩) hbl').trans (hcs' i q2)
        obtain ⟨X, hX⟩ : ∃ x, Hid (l[i] = x) := ⟨_, Lib.hid rfl⟩
        obtain ⟨Y, hY⟩ : ∃ x, Hid (l'[i] = x) := ⟨_, Lib.hid rfl⟩
        rw [hX.out] at x0
        rw [hY.out] at y0
        have HS := Lib.hid (show X = Y → l.take (i + 1) = l'.take (i + 1) from fun e => by rw [List.take_add_one, List.take_add_one, List.getElem?_eq_getElem q1, List.getElem?_eq_getElem q2, hX.out, hY.out, e, HT.out])
        have HNE := Lib.hid (show X ≠ Y → decide (l = l') = false from fun e => decide_eq_false fun e2 => e (by subst e2; rw [← hX.out, ← hY.out]))
        have lb : b < wr.heap.size := Nat.lt_of_lt_of_le hbl HX.out.size
        have lb' : b' < wr.heap.size := Nat.lt_of_lt_of_le hbl' HX.out.size
        have i0 : (0 : Int) ≤ (i : Int) := by omega
        have i1 : (i : Int) < (n : Int) := by omega
        clear hcs hcs' hX hY q1 q2 hbl hbl'
        have HC1 := Lib.hid (show wr.drew.cell? ⟨b, off + i, none⟩ = some (.int .i64 X) ∧ wr.drew.cell? ⟨b', off' + i, none⟩ = some (.int .i64 Y) from ⟨x0, y0⟩)
        by_cases e : X = Y
        · subst e
          have HS2 := Lib.hid (HS.out rfl)
          clear HS
          go_wp2_with fail
          go_region_held3 (fun w' => w'.cell? ⟨b, off + i, none⟩ = some (.int .i64 X) ∧ w'.cell? ⟨b', off' + i, none⟩ = some (.int .i64 X)) (first | exact HC1.out | go_keep) (fail)
          go_wp2_with fail
          go_roundg g'
          case rel => exact ⟨i + 1, by have := HI.out; omega, by go_num, HS2, Lib.hid (bnext HX.out (bdr _))⟩
          case measure => omega
        · have hd := HNE.out e
          have e1 : (X != Y) = true := by rw [bne_iff_ne]; exact e
          clear HNE
          go_wp2_with fail
          go_region_held3 (fun w' => w'.cell? ⟨b, off + i, none⟩ = some (.int .i64 X) ∧ w'.cell? ⟨b', off' + i, none⟩ = some (.int .i64 Y)) (first | exact HC1.out | go_keep) (fail)
          go_wp2_with fail
          go_ret
          rw [hd]
          exact ⟨rfl, bnext HX.out (bdr _)⟩
      · have hd : decide (l = l') = true := decide_eq_true (by have := HT.out; rw [List.take_of_length_le (by rw [hn.out]; omega), List.take_of_length_le (by rw [HN'.out]; omega)] at this; exact this)
        go_wp2_with fail
        go_ret
        rw [hd]
        exact ⟨rfl, HX.out⟩
  · have hd : decide (l = l') = false := decide_eq_false (fun e => hl (by rw [e]))
    rw [hd]
    obtain ⟨n, hn⟩ : ∃ n, l.length = n := ⟨_, rfl⟩
    obtain ⟨n', hn'⟩ : ∃ n, l'.length = n := ⟨_, rfl⟩
    rw [hn, hn'] at hl ⊢
    have e1 : ((n : Int) != (n' : Int)) = true := by rw [bne_iff_ne]; omega
    clear hA hA' hd hn hn'
    go_enter Tryd.func14, Tryd.ntmps14
    go_wp2_with fail
    go_ret
    exact ⟨rfl, Below.refl _ _⟩
end Go.Proofs.YtphebogjmbaboaaDoor.HT
