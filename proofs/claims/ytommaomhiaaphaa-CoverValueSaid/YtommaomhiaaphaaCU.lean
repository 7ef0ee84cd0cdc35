/- Whether constructors are sound: the walk, at the two rows of them that are handed in. -/
import Derived.Test.YtommaomhiaaphaaCK
import Derived.Maps.OwnSet
import Derived.DeepKeys4
namespace Go.Proofs.Ytommaomhiaaphaa.CU
open Go.RowKit Go.Maps Go.Proofs.Ytommaomhiaaphaa.CA Go.Proofs.Ytommaomhiaaphaa.CB Go.Proofs.Ytommaomhiaaphaa.CC Go.Proofs.Ytommaomhiaaphaa.CD Go.Proofs.Ytommaomhiaaphaa.CE Go.Proofs.Ytommaomhiaaphaa.CF Go.Proofs.Ytommaomhiaaphaa.CG Go.Proofs.Ytommaomhiaaphaa.CH Go.Proofs.Ytommaomhiaaphaa.CK
set_option linter.unusedVariables false
set_option maxRecDepth 100000

/-- The constructors of four types. -/
def C8 : List Cn := [
  ⟨[70, 97, 108, 115, 101], [98, 111, 111, 108], 0, 0, 2⟩,
  ⟨[84, 114, 117, 101], [98, 111, 111, 108], 1, 0, 2⟩,
  ⟨[78, 105, 108], [108, 105, 115, 116], 0, 0, 2⟩,
  ⟨[67, 111, 110, 115], [108, 105, 115, 116], 1, 2, 2⟩,
  ⟨[65], [116, 104, 114, 101, 101], 0, 0, 3⟩,
  ⟨[66], [116, 104, 114, 101, 101], 1, 1, 3⟩,
  ⟨[67], [116, 104, 114, 101, 101], 2, 0, 3⟩,
  ⟨[80], [112, 97, 105, 114], 0, 2, 1⟩]
theorem laidOut : laidOutB Try.prog = true := by kernel_rfl
theorem rowTag : 103 < Try.prog.types.size := of_decide_eq_true (by kernel_rfl)
theorem wideTag : (match Try.prog.underlying 103 with | some (.array _ _) | some (.struct _) => true | _ => false) = true := by kernel_rfl
theorem lawTag : Keyed Try.prog 103 := Keyed.of_law (deep_law_laid laidOut (m := 3) (by omega) rowTag (by kernel_rfl) wideTag)
theorem lawStr : Keyed Try.prog 9 := string_keyed Try.underlying9
theorem zeroI (w : World) : (zeroValue 3).run Try.prog w = .ok (.int .i64 0) w := by kernel_rfl
def tagV (c : Cn) : Value := .agg #[.string ⟨c.of.toArray⟩, .int .i64 (c.tag : Int)]
noncomputable def kt (c : Cn) : Lit := (keyOf Try.prog 103 (tagV c)).getD (.bool false)
theorem kt_ok : ∀ c, c ∈ C8 → keyOf Try.prog 103 (tagV c) = some (kt c) := by
  intro c hc
  simp only [C8, List.mem_cons, List.not_mem_nil, or_false] at hc
  rcases hc with rfl | rfl | rfl | rfl | rfl | rfl | rfl | rfl <;> kernel_rfl
theorem str_ok : ∀ c, c ∈ C8 → keyOf Try.prog 9 (.string ⟨c.nm.toArray⟩) = some (.string c.nm) ∧ keyOf Try.prog 9 (.string ⟨c.of.toArray⟩) = some (.string c.of) := by
  intro c hc
  have h : c.nm.length ≤ 100 ∧ c.of.length ≤ 100 := by
    simp only [C8, List.mem_cons, List.not_mem_nil, or_false] at hc
    rcases hc with rfl | rfl | rfl | rfl | rfl | rfl | rfl | rfl <;> decide
  refine ⟨?_, ?_⟩
  · have := WideMaps.keyOf_string_mk (P := Try.prog) Try.underlying9 (s := ⟨c.nm.toArray⟩) (by unfold maxLen; have : (ByteArray.mk c.nm.toArray).size = c.nm.length := rfl; omega)
    simpa using this
  · have := WideMaps.keyOf_string_mk (P := Try.prog) Try.underlying9 (s := ⟨c.of.toArray⟩) (by unfold maxLen; have : (ByteArray.mk c.of.toArray).size = c.of.length := rfl; omega)
    simpa using this
noncomputable def val (d : DataW Unit) : Int := match d with | .lit (.int .i64 n) => n | _ => 0
def dn (C : List Cn) : DataW Unit := C.foldl (fun D c => D.put (.string c.nm) (.agg [])) (.map [])
noncomputable def dt (C : List Cn) : DataW Unit := C.foldl (fun D c => D.put (kt c) (.agg [])) (.map [])
noncomputable def dm (C : List Cn) : DataW Unit := C.foldl (fun D c => D.put (.string c.of) (.lit (.int .i64 (val (D.atKey (.string c.of) (.lit (.int .i64 0))) + 1)))) (.map [])
theorem dn_snoc {C : List Cn} {j : Nat} {c : Cn} (h : C[j]? = some c) : dn (C.take (j + 1)) = (dn (C.take j)).put (.string c.nm) (.agg []) := by
  have e : C.take (j + 1) = C.take j ++ [c] := by rw [List.take_add_one, h]; rfl
  unfold dn; rw [e, List.foldl_append]; rfl
theorem dt_snoc {C : List Cn} {j : Nat} {c : Cn} (h : C[j]? = some c) : dt (C.take (j + 1)) = (dt (C.take j)).put (kt c) (.agg []) := by
  have e : C.take (j + 1) = C.take j ++ [c] := by rw [List.take_add_one, h]; rfl
  unfold dt; rw [e, List.foldl_append]; rfl
theorem dm_snoc {C : List Cn} {j : Nat} {c : Cn} (h : C[j]? = some c) : dm (C.take (j + 1)) = (dm (C.take j)).put (.string c.of) (.lit (.int .i64 (val ((dm (C.take j)).atKey (.string c.of) (.lit (.int .i64 0))) + 1))) := by
  have e : C.take (j + 1) = C.take j ++ [c] := by rw [List.take_add_one, h]; rfl
  unfold dm; rw [e, List.foldl_append]; rfl
theorem size_dn : Maps.size (dn C8) = 8 := by kernel_rfl
theorem size_dt : Maps.size (dt C8) = 8 := by kernel_rfl
theorem many_ok : ∀ j, j < 8 → ∀ c, C8[j]? = some c → 0 ≤ val ((dm (C8.take j)).atKey (.string c.of) (.lit (.int .i64 0))) ∧ val ((dm (C8.take j)).atKey (.string c.of) (.lit (.int .i64 0))) ≤ 100 := by
  intro j hj c hc
  have : j = 0 ∨ j = 1 ∨ j = 2 ∨ j = 3 ∨ j = 4 ∨ j = 5 ∨ j = 6 ∨ j = 7 := by omega
  rcases this with rfl | rfl | rfl | rfl | rfl | rfl | rfl | rfl <;> (cases hc; exact ⟨of_decide_eq_true (by kernel_rfl), of_decide_eq_true (by kernel_rfl)⟩)
theorem many_end : ∀ c, c ∈ C8 → (dm C8).atKey (.string c.of) (.lit (.int .i64 0)) = .lit (.int .i64 (c.many : Int)) := by
  intro c hc
  simp only [C8, List.mem_cons, List.not_mem_nil, or_false] at hc
  rcases hc with rfl | rfl | rfl | rfl | rfl | rfl | rfl | rfl <;> kernel_rfl
theorem rest_ok : ∀ c, c ∈ C8 → c.tag < c.many ∧ c.ar ≤ 4 := by decide
theorem sound8 : Sound C8 := ⟨by decide, by decide, by decide⟩
theorem sound0 : Sound [] := ⟨by decide, by decide, by decide⟩
end Go.Proofs.Ytommaomhiaaphaa.CU
