/- What a code is answered, as a number; and what is told of any function's depths, by both. -/
import Derived.Test.YtkhdkepjhifffaaVS
import Derived.Test.YtkhdkepjhifffaaVT
import Derived.Test.YtkhdkepjhifffaaKI
namespace Go.Proofs.Ytkhdkepjhifffaa.VX
open Go.RowKit Go.Proofs.Ytkhdkepjhifffaa.RG Go.Proofs.Ytkhdkepjhifffaa.KA Go.Proofs.Ytkhdkepjhifffaa.KB Go.Proofs.Ytkhdkepjhifffaa.KC Go.Proofs.Ytkhdkepjhifffaa.VA Go.Proofs.Ytkhdkepjhifffaa.VO Go.Proofs.Ytkhdkepjhifffaa.VP Go.Proofs.Ytkhdkepjhifffaa.VS Go.Proofs.Ytkhdkepjhifffaa.KI
set_option linter.unusedVariables false
set_option maxRecDepth 100000
set_option maxRecDepth 100000

open Classical in
/-- Whether a code holds together, as the answer says it. -/
noncomputable def codeN (c : Cd) : Int := if mayB c = false then 1 else if AllOk c then 0 else 30
theorem codeN_no {c : Cd} (h : mayB c = false) : codeN c = 1 := by unfold codeN; rw [if_pos h]
theorem codeN_yes {c : Cd} (h : mayB c = true) (k : AllOk c) : codeN c = 0 := by unfold codeN; rw [if_neg (by rw [h]; decide), if_pos k]
theorem codeN_bad {c : Cd} (h : mayB c = true) (k : ¬ AllOk c) : codeN c = 30 := by unfold codeN; rw [if_neg (by rw [h]; decide), if_neg k]
theorem codeN_zero {c : Cd} (h : codeN c = 0) : mayB c = true ∧ AllOk c := by
  cases hm : mayB c with
  | false => rw [codeN_no hm] at h; cases h
  | true =>
    refine ⟨rfl, Classical.byContradiction fun k => ?_⟩
    rw [codeN_bad hm k] at h; cases h
theorem res_n {c : Cd} {w w' : World} {e : Ending} (h : CodeRes c w e w') : e = .returned (.int .i64 (codeN c)) ∧ Below w.heap.size w w' := by
  obtain ⟨hb, ⟨h1, rfl⟩ | ⟨h1, h2, rfl⟩ | ⟨h1, h2, rfl⟩⟩ := h
  · rw [codeN_no h1]; exact ⟨rfl, hb⟩
  · rw [codeN_yes h1 h2]; exact ⟨rfl, hb⟩
  · rw [codeN_bad h1 h2]; exact ⟨rfl, hb⟩
theorem wide {c : Cd} (h : c.funs.length ≤ 100000 ∧ c.ints.length ≤ 100000 ∧ c.texts.length ≤ 100000 ∧ ∀ f, f ∈ c.funs → f.code.length ≤ 100000) : c.funs.length ≤ 100000000000 ∧ c.ints.length ≤ 100000000000 ∧ c.texts.length ≤ 100000000000 ∧ ∀ f, f ∈ c.funs → f.code.length ≤ 100000000000 :=
  ⟨by omega, by omega, by omega, fun f hf => Nat.le_trans (h.2.2.2 f hf) (by decide)⟩
theorem pcode_n (c : Cd) (fv iv tv : Value) (w : World) (S : Nat → Prop) (h : HasC w S c fv iv tv) (hl : c.funs.length ≤ 100000 ∧ c.ints.length ≤ 100000 ∧ c.texts.length ≤ 100000 ∧ ∀ f, f ∈ c.funs → f.code.length ≤ 100000) :
    Calls Try.prog 17 #[.agg #[fv, iv, tv, .int .i64 c.lets]] w fun e w' => e = .returned (.int .i64 (codeN c)) ∧ Below w.heap.size w w' :=
  (code_c c fv iv tv w S h (wide hl)).mono fun _ _ h => res_n h
theorem dcode_n (c : Cd) (fv iv tv : Value) (w : World) (S : Nat → Prop) (h : HasC w S c fv iv tv) (hl : c.funs.length ≤ 100000 ∧ c.ints.length ≤ 100000 ∧ c.texts.length ≤ 100000 ∧ ∀ f, f ∈ c.funs → f.code.length ≤ 100000) :
    Calls Try.prog 18 #[.agg #[fv, iv, tv, .int .i64 c.lets]] w fun e w' => e = .returned (.int .i64 (codeN c)) ∧ Below w.heap.size w w' :=
  (dcode_c c fv iv tv w S h hl).mono fun _ _ h => res_n h
/-- How many depths a code's function has. -/
theorem dep_len {c : Cd} {fz : Int} {L : List Int} (h : DepOf c fz L) (hl : ∀ f, f ∈ c.funs → f.code.length ≤ 1000) : L.length ≤ 1000 := by
  rcases h with ⟨_, rfl⟩ | ⟨n, f, rfl, _, hf, ⟨A, hA, rfl⟩ | ⟨_, rfl⟩⟩
  · exact Nat.zero_le _
  · cases hA with
    | yes h1 _ _ => rw [List.length_map, h1]; exact hl f (List.mem_of_getElem? hf)
  · exact Nat.zero_le _
theorem pdepths_n (c : Cd) (fv iv tv : Value) (fz : Int) (w : World) (S : Nat → Prop) (h : HasC w S c fv iv tv) (hl : c.funs.length ≤ 100000 ∧ c.ints.length ≤ 100000 ∧ c.texts.length ≤ 100000 ∧ ∀ f, f ∈ c.funs → f.code.length ≤ 100000) :
    Calls Try.prog 20 #[.agg #[fv, iv, tv, .int .i64 c.lets], .int .i64 fz] w (DepthsRes c fz w) :=
  depths_c c fv iv tv fz w S h (wide hl)
theorem few (c : Cd) : (cutCd c).funs.length ≤ 100000 ∧ (cutCd c).ints.length ≤ 100000 ∧ (cutCd c).texts.length ≤ 100000 ∧ ∀ f, f ∈ (cutCd c).funs → f.code.length ≤ 100000 := by
  refine ⟨by simp [cutCd]; omega, by simp [cutCd]; omega, by simp [cutCd]; omega, fun f hf => ?_⟩
  obtain ⟨g, _, rfl⟩ := List.mem_map.1 hf
  simp [cutBd]; omega
theorem few_code (c : Cd) : ∀ f, f ∈ (cutCd c).funs → f.code.length ≤ 1000 := by
  intro f hf
  obtain ⟨g, _, rfl⟩ := List.mem_map.1 hf
  simp [cutBd]; omega
/-- A code's four values put into a block. -/
theorem put4 {w : World} {x : Nat} {a b c d a' b' c' d' : Value} {t : TypeId} (h : Bk w x #[a, b, c, d] t) : Bk ((((w.setCell ⟨x, 0, none⟩ a').setCell ⟨x, 1, none⟩ b').setCell ⟨x, 2, none⟩ c').setCell ⟨x, 3, none⟩ d') x #[a', b', c', d'] t :=
  (((h.set 0 a').set 1 b').set 2 c').set 3 d'
end Go.Proofs.Ytkhdkepjhifffaa.VX
