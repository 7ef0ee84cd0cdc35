/- The document's Open and Sum. -/
import Derived.Test.YtphebogjmbaboaaDoorHP
namespace Go.Proofs.YtphebogjmbaboaaDoor.HQ
open Go.RowKit Go.Proofs.YtphebogjmbaboaaDoor.RG Go.Proofs.YtphebogjmbaboaaDoor.RB Go.Proofs.YtphebogjmbaboaaDoor.HA Go.Proofs.YtphebogjmbaboaaDoor.HB Go.Proofs.YtphebogjmbaboaaDoor.HG Go.Proofs.YtphebogjmbaboaaDoor.HH Go.Proofs.YtphebogjmbaboaaDoor.HK Go.Proofs.YtphebogjmbaboaaDoor.HM Go.Proofs.YtphebogjmbaboaaDoor.HN Go.Proofs.YtphebogjmbaboaaDoor.HO Go.Proofs.YtphebogjmbaboaaDoor.HP Go.Proofs.YtphebogjmbaboaaDoor.A
set_option linter.unusedVariables false
set_option maxRecDepth 100000
set_option maxRecDepth 100000

theorem row_any {w : World} {S : Nat → Prop} {v : Value} {l : List Int} (h : RowR TI w S v l) : RowI w v l := has_row (row_has h)
theorem row_tail {w : World} {S : Nat → Prop} {b off cap : Nat} {f : Int} {l : List Int} (h : RowR TI w S (.slice (some ⟨b, off, none⟩) (l.length + 1) cap) (f :: l)) : RowI w (.slice (some ⟨b, off + 1, none⟩) l.length (cap - 1)) l := by
  obtain ⟨ao, cap', e, hc, h⟩ := row_has h
  cases e
  apply has_row
  refine ⟨some ⟨b, off + 1, none⟩, cap - 1, rfl, by simp at hc; omega, .inr ⟨b, off + 1, rfl, ?_⟩⟩
  rcases h with h | ⟨b', off', e, hlt, hcells⟩
  · cases h
  · cases e
    refine ⟨hlt, fun j hj => ?_⟩
    have := hcells (j + 1) (by simp; omega)
    rw [show off + 1 + j = off + (j + 1) from by omega, this]
    rfl
theorem wrap_half (x : Int) (h0 : 0 ≤ x) (h1 : x ≤ 9223372036854775807) : IntKind.i64.wrap x = x := by
  unfold IntKind.wrap
  have e : x % (2 ^ IntKind.i64.bits : Int) = x := Int.emod_eq_of_lt h0 (by simp [IntKind.bits]; omega)
  simp only [e]
  rw [if_neg]
  simp [IntKind.bits, IntKind.signed]
  omega
/-- What Open tells. -/
def openL : List Int → Int × List Int × Int
  | [] => (0, [], 4)
  | f :: l => if f % 2 = 0 ∨ f < 0 ∨ f / 2 > 2147483647 then (0, [], 4) else (f / 2, l, 0)
def openR (h : Hp) (z : Int) : Int × List Int × Int := if tagOf h z = 200 then openL (fieldsOf h z) else (0, [], 4)
set_option maxHeartbeats 1600000 in
theorem ropen_c (w : World) (r B N : Nat) (h : Hp) (H : HDoc w r B N h) (z : Int) :
    Calls Tryd.prog 23 #[.pointer (some ⟨r, 0, none⟩), .int .i64 z] w fun e w' => ∃ v, e = .returned (.tuple #[.int .i64 (openR h z).1, v, .int .i64 (openR h z).2.2]) ∧ RowI w' v (openR h z).2.1 ∧ Below w.heap.size w w' := by
  have HTG := Lib.hid (rtag_c w r B N h H z)
  have hbd := fields_bd H z
  have hc : openR h z = if tagOf h z = 200 then openL (fieldsOf h z) else (0, [], 4) := rfl
  obtain ⟨F, hF⟩ : ∃ F, fieldsOf h z = F := ⟨_, rfl⟩
  obtain ⟨T, hT⟩ : ∃ T, tagOf h z = T := ⟨_, rfl⟩
  rw [hF, hT] at HTG hc
  rw [hF] at hbd
  rw [hc]
  clear hc hF hT H
  by_cases ht : T = 200
  · rw [if_pos ht]
    subst ht
    cases F with
    | nil =>
      show Calls _ _ _ _ fun e w' => ∃ v, e = .returned (.tuple #[.int .i64 0, v, .int .i64 4]) ∧ RowI w' v [] ∧ Below w.heap.size w w'
      go_enter Tryd.func23, Tryd.ntmps23
      go_wp2_with fail
      refine HTG.out.mono ?_
      rintro e w1 ⟨v, rfl, hr, hb⟩
      have HB1 := Lib.hid hb
      obtain ⟨ao, cap, rfl, _⟩ := hr.val
      clear hr hb
      go_wp2_with fail
      go_ret3
      exact ⟨_, rfl, rowR_nil _ _, HB1.out⟩
    | cons f l =>
      have hf := hbd f (by simp)
      clear hbd
      obtain ⟨n, hn⟩ : ∃ n, Hid (l.length = n) := ⟨_, Lib.hid rfl⟩
      have n0 : ((n : Int) + 1 == 0) = false := by rw [beq_eq_false_iff_ne]; omega
      by_cases hg : f % 2 = 0 ∨ f < 0 ∨ f / 2 > 2147483647
      · have hx : openL (f :: l) = (0, [], 4) := if_pos hg
        rw [hx]
        show Calls _ _ _ _ fun e w' => ∃ v, e = .returned (.tuple #[.int .i64 0, v, .int .i64 4]) ∧ RowI w' v [] ∧ Below w.heap.size w w'
        clear hx
        rcases (show f % 2 = 0 ∨ (f % 2 ≠ 0 ∧ f < 0) ∨ (f % 2 ≠ 0 ∧ ¬ f < 0 ∧ f / 2 > 2147483647) from by omega) with h1 | ⟨h1, h2⟩ | ⟨h1, h2, h3⟩
        · have e1 : (Int.tmod f 2 == 0) = true := by rw [beq_iff_eq]; exact (Go.Proofs.YtphebogjmbaboaaDoor.M.tmod2 f).2 h1
          clear hg
          go_enter Tryd.func23, Tryd.ntmps23
          go_wp2_with fail
          refine HTG.out.mono ?_
          rintro e w1 ⟨v, rfl, hr, hb⟩
          have HB1 := Lib.hid hb
          obtain ⟨b, off, cap, rfl, hc, hlt, hcells⟩ := hr.open_ (by simp)
          obtain ⟨q, hL, _⟩ := hcells 0 f rfl
          have x0 : w1.cell? ⟨b, off, none⟩ = some (.int .i64 f) := by simpa [TI, Ty.flat] using hL 0 _ rfl
          rw [List.length_cons, hn.out] at hc ⊢
          clear hr hb hcells hL
          go_wp2_with fail
          go_ret3
          exact ⟨_, rfl, rowR_nil _ _, HB1.out⟩
        · have e1 : (Int.tmod f 2 == 0) = false := by rw [beq_eq_false_iff_ne]; intro e; exact h1 ((Go.Proofs.YtphebogjmbaboaaDoor.M.tmod2 f).1 e)
          clear hg
          go_enter Tryd.func23, Tryd.ntmps23
          go_wp2_with fail
          refine HTG.out.mono ?_
          rintro e w1 ⟨v, rfl, hr, hb⟩
          have HB1 := Lib.hid hb
          obtain ⟨b, off, cap, rfl, hc, hlt, hcells⟩ := hr.open_ (by simp)
          obtain ⟨q, hL, _⟩ := hcells 0 f rfl
          have x0 : w1.cell? ⟨b, off, none⟩ = some (.int .i64 f) := by simpa [TI, Ty.flat] using hL 0 _ rfl
          rw [List.length_cons, hn.out] at hc ⊢
          clear hr hb hcells hL
          go_wp2_with fail
          go_ret3
          exact ⟨_, rfl, rowR_nil _ _, HB1.out⟩
        · have e1 : (Int.tmod f 2 == 0) = false := by rw [beq_eq_false_iff_ne]; intro e; exact h1 ((Go.Proofs.YtphebogjmbaboaaDoor.M.tmod2 f).1 e)
          clear hg
          go_enter Tryd.func23, Tryd.ntmps23
          go_wp2_with fail
          refine HTG.out.mono ?_
          rintro e w1 ⟨v, rfl, hr, hb⟩
          have HB1 := Lib.hid hb
          obtain ⟨b, off, cap, rfl, hc, hlt, hcells⟩ := hr.open_ (by simp)
          obtain ⟨q, hL, _⟩ := hcells 0 f rfl
          have x0 : w1.cell? ⟨b, off, none⟩ = some (.int .i64 f) := by simpa [TI, Ty.flat] using hL 0 _ rfl
          rw [List.length_cons, hn.out] at hc ⊢
          clear hr hb hcells hL
          go_wp2_with fail
          go_ret3
          exact ⟨_, rfl, rowR_nil _ _, HB1.out⟩
      · have hx : openL (f :: l) = (f / 2, l, 0) := if_neg hg
        rw [hx]
        show Calls _ _ _ _ fun e w' => ∃ v, e = .returned (.tuple #[.int .i64 (f / 2), v, .int .i64 0]) ∧ RowI w' v l ∧ Below w.heap.size w w'
        clear hx
        have h1 : f % 2 ≠ 0 := by omega
        have h2 : ¬ f < 0 := by omega
        have h3 : ¬ f / 2 > 2147483647 := by omega
        have e1 : (Int.tmod f 2 == 0) = false := by rw [beq_eq_false_iff_ne]; intro e; exact h1 ((Go.Proofs.YtphebogjmbaboaaDoor.M.tmod2 f).1 e)
        clear hg
        go_enter Tryd.func23, Tryd.ntmps23
        go_wp2_with fail
        refine HTG.out.mono ?_
        rintro e w1 ⟨v, rfl, hr, hb⟩
        have HB1 := Lib.hid hb
        obtain ⟨b, off, cap, rfl, hc, hlt, hcells⟩ := hr.open_ (by simp)
        have HTL := Lib.hid (row_tail (S := fun _ => True) (by simpa using hr))
        obtain ⟨q, hL, _⟩ := hcells 0 f rfl
        have x0 : w1.cell? ⟨b, off, none⟩ = some (.int .i64 f) := by simpa [TI, Ty.flat] using hL 0 _ rfl
        rw [hn.out] at HTL
        rw [List.length_cons, hn.out] at hc ⊢
        clear hr hb hcells hL
        have hq : IntKind.i64.wrap (f.tdiv 2) = f / 2 := by rw [Int.tdiv_eq_ediv_of_nonneg (by omega)]; exact wrap_half _ (by omega) (by omega)
        have e3 : (f % 2 == 0) = false := by rw [beq_eq_false_iff_ne]; exact h1
        rcases (show cap = 1 ∨ 1 < cap from by omega) with hc1 | hc1
        · subst hc1
          have n1 : n = 0 := by omega
          subst n1
          have hl0 : l = [] := List.length_eq_zero_iff.1 hn.out
          subst hl0
          go_wp2_with fail
          go_region_law fail
          go_wp2_with fail
          go_ret3
          exact ⟨.slice (some ⟨b, off, none⟩) 0 0, rfl, rowR_nil _ _, Go.Proofs.YtphebogjmbaboaaDoor.RG.bnext HB1.out (bdr _)⟩
        · have hc2 : cap ≠ 1 := by omega
          have i1 : (1 : Int) ≤ (n : Int) + 1 := by omega
          go_wp2_with fail
          go_region_law fail
          go_wp2_with fail
          go_ret3
          exact ⟨.slice (some ⟨b, off + 1, none⟩) n (cap - 1), rfl, HTL.out.keep (bdr _), Go.Proofs.YtphebogjmbaboaaDoor.RG.bnext HB1.out (bdr _)⟩
  · rw [if_neg ht]
    show Calls _ _ _ _ fun e w' => ∃ v, e = .returned (.tuple #[.int .i64 0, v, .int .i64 4]) ∧ RowI w' v [] ∧ Below w.heap.size w w'
    have e2 : (T != 200) = true := by rw [bne_iff_ne]; exact ht
    go_enter Tryd.func23, Tryd.ntmps23
    go_wp2_with fail
    refine HTG.out.mono ?_
    rintro e w1 ⟨v, rfl, hr, hb⟩
    have HB1 := Lib.hid hb
    obtain ⟨ao, cap, rfl, _⟩ := hr.val
    clear hr hb
    go_wp2_with fail
    go_ret3
    exact ⟨_, rfl, rowR_nil _ _, HB1.out⟩
end Go.Proofs.YtphebogjmbaboaaDoor.HQ
