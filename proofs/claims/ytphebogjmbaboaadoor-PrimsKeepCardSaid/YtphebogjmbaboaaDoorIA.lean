/- The program's Open. -/
import Derived.Test.YtphebogjmbaboaaDoorHZ
namespace Go.Proofs.YtphebogjmbaboaaDoor.IA
open Go.RowKit Go.Proofs.YtphebogjmbaboaaDoor.RG Go.Proofs.YtphebogjmbaboaaDoor.RB Go.Proofs.YtphebogjmbaboaaDoor.HA Go.Proofs.YtphebogjmbaboaaDoor.HB Go.Proofs.YtphebogjmbaboaaDoor.HD Go.Proofs.YtphebogjmbaboaaDoor.HE Go.Proofs.YtphebogjmbaboaaDoor.HF Go.Proofs.YtphebogjmbaboaaDoor.HN Go.Proofs.YtphebogjmbaboaaDoor.HQ Go.Proofs.YtphebogjmbaboaaDoor.M Go.Proofs.YtphebogjmbaboaaDoor.K1
set_option linter.unusedVariables false
set_option maxRecDepth 100000
set_option maxRecDepth 100000

/-- A number that may be a function's. -/
def isF (n : Int) : Bool := decide (0 ≤ n ∧ n ≤ 2147483647)
theorem isfun_c (n : Int) (w : World) : Calls Tryd.prog 49 #[.int .i64 n] w fun e w' => e = .returned (.bool (isF n)) ∧ w = w' := by
  unfold isF
  by_cases h1 : 0 ≤ n
  · by_cases h2 : n ≤ 2147483647
    · rw [decide_eq_true (show 0 ≤ n ∧ n ≤ 2147483647 from ⟨h1, h2⟩)]
      go_enter Tryd.func49, Tryd.ntmps49
      go_wp2_with fail
      go_ret
      exact ⟨rfl, rfl⟩
    · rw [decide_eq_false (show ¬ (0 ≤ n ∧ n ≤ 2147483647) from fun h => h2 h.2)]
      go_enter Tryd.func49, Tryd.ntmps49
      go_wp2_with fail
      go_ret
      exact ⟨rfl, rfl⟩
  · rw [decide_eq_false (show ¬ (0 ≤ n ∧ n ≤ 2147483647) from fun h => h1 h.1)]
    go_enter Tryd.func49, Tryd.ntmps49
    go_wp2_with fail
    go_ret
    exact ⟨rfl, rfl⟩
set_option maxHeartbeats 1600000 in
theorem popen_c (w : World) (p x m o N : Nat) (h : Hp) (H : HP w p x m o N h) (z : Int) :
    Calls Tryd.prog 22 #[.pointer (some ⟨p, 0, none⟩), .int .i64 z] w fun e w' => ∃ v, e = .returned (.tuple #[.int .i64 (openR h z).1, v, .int .i64 (openR h z).2.2]) ∧ RowI w' v (openR h z).2.1 ∧ Below w.heap.size w w' := by
  have HTG := Lib.hid (tag_c w p x m o N h H z)
  have HFL := Lib.hid (fun w1 (hb : Below w.heap.size w w1) => fields_c w1 p x m o N h (H.keep hb) z)
  have hc : openR h z = if tagOf h z = 200 then openL (fieldsOf h z) else (0, [], 4) := rfl
  obtain ⟨F, hF⟩ : ∃ F, fieldsOf h z = F := ⟨_, rfl⟩
  obtain ⟨T, hT⟩ : ∃ T, tagOf h z = T := ⟨_, rfl⟩
  rw [hT] at HTG hc
  rw [hF] at hc HFL
  rw [hc]
  clear hc hF hT H
  by_cases ht : T = 200
  · rw [if_pos ht]
    subst ht
    cases F with
    | nil =>
      show Calls _ _ _ _ fun e w' => ∃ v, e = .returned (.tuple #[.int .i64 0, v, .int .i64 4]) ∧ RowI w' v [] ∧ Below w.heap.size w w'
      go_enter Tryd.func22, Tryd.ntmps22
      go_wp2_with fail
      refine HTG.out.mono ?_
      rintro e w1 ⟨rfl, hb⟩
      have HB1 := Lib.hid hb
      clear hb
      go_wp2_with fail
      refine (HFL.out _ HB1.out).mono ?_
      rintro e w2 ⟨v, rfl, hv, _, hb⟩
      have HB2 := Lib.hid (Go.Proofs.YtphebogjmbaboaaDoor.RG.bnext HB1.out hb)
      obtain ⟨ao, cap, rfl, _⟩ := hv.val
      clear hb hv
      go_wp2_with fail
      go_ret3
      exact ⟨_, rfl, rowR_nil _ _, HB2.out⟩
    | cons f l =>
      obtain ⟨n, hn⟩ : ∃ n, Hid (l.length = n) := ⟨_, Lib.hid rfl⟩
      have n0 : ((n : Int) + 1 == 0) = false := by rw [beq_eq_false_iff_ne]; omega
      by_cases hg : f % 2 = 0 ∨ f < 0 ∨ f / 2 > 2147483647
      · have hx : openL (f :: l) = (0, [], 4) := if_pos hg
        rw [hx]
        show Calls _ _ _ _ fun e w' => ∃ v, e = .returned (.tuple #[.int .i64 0, v, .int .i64 4]) ∧ RowI w' v [] ∧ Below w.heap.size w w'
        clear hx
        rcases (show f % 2 = 0 ∨ (f % 2 = 1 ∧ ¬ (0 ≤ f / 2 ∧ f / 2 ≤ 2147483647)) from by omega) with h1 | ⟨h1, h2⟩
        · have HU := Lib.hid (fun w1 => untag_even f w1 h1)
          clear hg
          go_enter Tryd.func22, Tryd.ntmps22
          go_wp2_with fail
          refine HTG.out.mono ?_
          rintro e w1 ⟨rfl, hb⟩
          have HB1 := Lib.hid hb
          clear hb
          go_wp2_with fail
          refine (HFL.out _ HB1.out).mono ?_
          rintro e w2 ⟨v, rfl, hv, _, hb⟩
          have HB2 := Lib.hid (Go.Proofs.YtphebogjmbaboaaDoor.RG.bnext HB1.out hb)
          obtain ⟨b, off, cap, rfl, hc, hlt, hcells⟩ := hv.open_ (by simp)
          have HTL := Lib.hid (row_tail (S := fun _ => False) (by simpa using hv))
          obtain ⟨q, hL, _⟩ := hcells 0 f rfl
          have x0 : w2.cell? ⟨b, off, none⟩ = some (.int .i64 f) := by simpa [TI, Ty.flat] using hL 0 _ rfl
          rw [hn.out] at HTL
          rw [List.length_cons, hn.out] at hc ⊢
          clear hv hb hcells hL
          go_wp2_with fail
          refine (HU.out _).mono ?_
          rintro e w3 ⟨rfl, rfl⟩
          go_wp2_with fail
          go_ret3
          exact ⟨_, rfl, rowR_nil _ _, HB2.out⟩
        · have HU := Lib.hid (fun w1 => untag_odd f w1 h1)
          have HI := Lib.hid (fun w1 => isfun_c (f / 2) w1)
          rw [show isF (f / 2) = false from decide_eq_false (by omega)] at HI
          clear hg
          go_enter Tryd.func22, Tryd.ntmps22
          go_wp2_with fail
          refine HTG.out.mono ?_
          rintro e w1 ⟨rfl, hb⟩
          have HB1 := Lib.hid hb
          clear hb
          go_wp2_with fail
          refine (HFL.out _ HB1.out).mono ?_
          rintro e w2 ⟨v, rfl, hv, _, hb⟩
          have HB2 := Lib.hid (Go.Proofs.YtphebogjmbaboaaDoor.RG.bnext HB1.out hb)
          obtain ⟨b, off, cap, rfl, hc, hlt, hcells⟩ := hv.open_ (by simp)
          have HTL := Lib.hid (row_tail (S := fun _ => False) (by simpa using hv))
          obtain ⟨q, hL, _⟩ := hcells 0 f rfl
          have x0 : w2.cell? ⟨b, off, none⟩ = some (.int .i64 f) := by simpa [TI, Ty.flat] using hL 0 _ rfl
          rw [hn.out] at HTL
          rw [List.length_cons, hn.out] at hc ⊢
          clear hv hb hcells hL
          go_wp2_with fail
          refine (HU.out _).mono ?_
          rintro e w3 ⟨rfl, rfl⟩
          go_wp2_with fail
          refine (HI.out _).mono ?_
          rintro e w4 ⟨rfl, rfl⟩
          go_wp2_with fail
          go_ret3
          exact ⟨_, rfl, rowR_nil _ _, HB2.out⟩
      · have hx : openL (f :: l) = (f / 2, l, 0) := if_neg hg
        rw [hx]
        show Calls _ _ _ _ fun e w' => ∃ v, e = .returned (.tuple #[.int .i64 (f / 2), v, .int .i64 0]) ∧ RowI w' v l ∧ Below w.heap.size w w'
        clear hx
        have h1 : f % 2 = 1 := by omega
        have HI := Lib.hid (fun w1 => isfun_c (f / 2) w1)
        rw [show isF (f / 2) = true from decide_eq_true (by omega)] at HI
        have HU := Lib.hid (fun w1 => untag_odd f w1 h1)
        clear hg
        go_enter Tryd.func22, Tryd.ntmps22
        go_wp2_with fail
        refine HTG.out.mono ?_
        rintro e w1 ⟨rfl, hb⟩
        have HB1 := Lib.hid hb
        clear hb
        go_wp2_with fail
        refine (HFL.out _ HB1.out).mono ?_
        rintro e w2 ⟨v, rfl, hv, _, hb⟩
        have HB2 := Lib.hid (Go.Proofs.YtphebogjmbaboaaDoor.RG.bnext HB1.out hb)
        obtain ⟨b, off, cap, rfl, hc, hlt, hcells⟩ := hv.open_ (by simp)
        have HTL := Lib.hid (row_tail (S := fun _ => False) (by simpa using hv))
        obtain ⟨q, hL, _⟩ := hcells 0 f rfl
        have x0 : w2.cell? ⟨b, off, none⟩ = some (.int .i64 f) := by simpa [TI, Ty.flat] using hL 0 _ rfl
        rw [hn.out] at HTL
        rw [List.length_cons, hn.out] at hc ⊢
        clear hv hb hcells hL
        go_wp2_with fail
        refine (HU.out _).mono ?_
        rintro e w3 ⟨rfl, rfl⟩
        rcases (show cap = 1 ∨ 1 < cap from by omega) with hc1 | hc1
        · subst hc1
          have n1 : n = 0 := by omega
          subst n1
          have hl0 : l = [] := List.length_eq_zero_iff.1 hn.out
          subst hl0
          go_wp2_with fail
          refine (HI.out _).mono ?_
          rintro e w4 ⟨rfl, rfl⟩
          go_wp2_with fail
          go_region_held3 (fun _ => True) (first | trivial | go_keep) (fail)
          go_wp2_with fail
          go_ret3
          exact ⟨_, rfl, rowR_nil _ _, Go.Proofs.YtphebogjmbaboaaDoor.RG.bnext HB2.out (bdr _)⟩
        · have hc2 : cap ≠ 1 := by omega
          have i1 : (1 : Int) ≤ (n : Int) + 1 := by omega
          go_wp2_with fail
          refine (HI.out _).mono ?_
          rintro e w4 ⟨rfl, rfl⟩
          go_wp2_with fail
          go_region_held3 (fun _ => True) (first | trivial | go_keep) (fail)
          go_wp2_with fail
          go_ret3
          exact ⟨_, rfl, HTL.out.keep (bdr _), Go.Proofs.YtphebogjmbaboaaDoor.RG.bnext HB2.out (bdr _)⟩
  · rw [if_neg ht]
    show Calls _ _ _ _ fun e w' => ∃ v, e = .returned (.tuple #[.int .i64 0, v, .int .i64 4]) ∧ RowI w' v [] ∧ Below w.heap.size w w'
    have e2 : (T != 200) = true := by rw [bne_iff_ne]; exact ht
    go_enter Tryd.func22, Tryd.ntmps22
    go_wp2_with fail
    refine HTG.out.mono ?_
    rintro e w1 ⟨rfl, hb⟩
    have HB1 := Lib.hid hb
    clear hb
    go_wp2_with fail
    go_ret3
    exact ⟨_, rfl, rowR_nil _ _, HB1.out⟩
end Go.Proofs.YtphebogjmbaboaaDoor.IA
