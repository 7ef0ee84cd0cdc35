/- Marks and states in memory, the program's and the document's. -/
import Derived.Test.YtkhdkepjhifffaaKB
import Derived.Test.YtkhdkepjhifffaaKH
import Derived.Test.YtkhdkepjhifffaaRB
import Derived.Test.YtkhdkepjhifffaaVA
namespace Go.Proofs.Ytkhdkepjhifffaa.VB
open Go.RowKit Go.Proofs.Ytkhdkepjhifffaa.RG Go.Proofs.Ytkhdkepjhifffaa.RB Go.Proofs.Ytkhdkepjhifffaa.KA Go.Proofs.Ytkhdkepjhifffaa.KB Go.Proofs.Ytkhdkepjhifffaa.KH Go.Proofs.Ytkhdkepjhifffaa.VA
set_option linter.unusedVariables false
set_option maxRecDepth 100000
set_option maxRecDepth 100000

def mcells (m : Mk) : List Value := [.int .i64 m.kind, .int .i64 m.dep]
def TM : Ty Try.prog Mk := Ty.flat 70 113 2 16 (.agg #[.int .i64 0, .int .i64 0]) mcells Try.underlying70 (by kernel_rfl) rfl (by decide) (by decide) (fun _ => rfl) (fun a u hu => by
  simp only [mcells, List.mem_cons, List.not_mem_nil, or_false] at hu
  rcases hu with rfl | rfl <;> rfl)
def TD : Ty Try.prog Mk := Ty.flat 73 108 2 16 (.agg #[.int .i64 0, .int .i64 0]) mcells Try.underlying73 (by kernel_rfl) rfl (by decide) (by decide) (fun _ => rfl) (fun a u hu => by
  simp only [mcells, List.mem_cons, List.not_mem_nil, or_false] at hu
  rcases hu with rfl | rfl <;> rfl)
def TBo : Ty Try.prog Bool := Ty.flat 97 4 1 1 (.bool false) (fun b => [.bool b]) Try.underlying97 (by kernel_rfl) rfl (by decide) (by decide) (fun _ => rfl) (fun a u hu => by rw [List.mem_singleton.1 hu]; rfl)
/-- A row of marks below a state. -/
def hasM (R : Ty Try.prog Mk) (w : World) (S : Nat → Prop) (ms : List Mk) (qs : List Value) : Prop := ∃ q qs2, qs = [q] ∧ Rw w S q ms.length (rowOf R ms qs2) ∧ Hs R w S ms qs2
theorem hasM.mv {R : Ty Try.prog Mk} {w w' : World} {S S' : Nat → Prop} {ms : List Mk} {qs : List Value} (hm : Mv w w' S S') (h : hasM R w S ms qs) : hasM R w' S' ms qs := by
  obtain ⟨q, qs2, h1, h2, h3⟩ := h
  exact ⟨q, qs2, h1, h2.mv hm, Hs.mv hm _ _ h3⟩
/-- The row of a state's marks, where it lies. -/
def RowM (R : Ty Try.prog Mk) (w : World) (S : Nat → Prop) (v : Value) (ms : List Mk) : Prop := hasM R w S ms [v]
theorem RowM.mv {R : Ty Try.prog Mk} {w w' : World} {S S' : Nat → Prop} {v : Value} {ms : List Mk} (h : RowM R w S v ms) (hm : Mv w w' S S') : RowM R w' S' v ms := hasM.mv hm h
theorem RowM.row {R : Ty Try.prog Mk} {w : World} {S : Nat → Prop} {v : Value} {ms : List Mk} (h : RowM R w S v ms) : RowR R w S v ms := by
  obtain ⟨q, qs2, h1, h2, h3⟩ := h
  cases h1
  exact ⟨qs2, h2.mv (Mv.weak w fun _ _ _ => trivial), h3⟩
theorem RowM.nil {R : Ty Try.prog Mk} {w : World} {S : Nat → Prop} (ao : Option Addr) (cap : Nat) : RowM R w S (.slice ao 0 cap) [] := ⟨_, [], rfl, rw_nil _ _, trivial⟩
theorem RowM.own {R : Ty Try.prog Mk} {w : World} {B : Nat} {T : Nat → Prop} {v : Value} {ms : List Mk} (h : OwnR R w B T v ms) (hT : ∀ b, T b → B ≤ b) : RowM R w (fun b => B ≤ b) v ms := by
  obtain ⟨qs, h1, h2⟩ := h.rw
  exact ⟨v, qs, rfl, h1, Hs.mv (Mv.weak w fun b hb _ => hT b hb) _ _ h2⟩
theorem RowM.val {R : Ty Try.prog Mk} {w : World} {S : Nat → Prop} {v : Value} {ms : List Mk} (h : RowM R w S v ms) : ∃ ao cap, v = .slice ao ms.length cap ∧ ms.length ≤ cap := h.row.val
def scells (s : Sx) (qs : List Value) : List Value := [.int .i64 s.dep, qs.headD (.slice none 0 0)]
def TS : Ty Try.prog Sx :=
  { t := 67, e := 72, size := 2, bytes := 32, z := .agg #[.int .i64 0, .slice none 0 0], enc := scells, has := fun w S s qs => hasM TM w S s.ms qs, ht := Try.underlying67, info := by kernel_rfl, hzs := rfl, hsz := by decide, hby := by decide
    len := fun _ => rfl
    one := fun {w S a qs} h u hu => by
      obtain ⟨q, qs2, rfl, h2, _⟩ := h
      simp only [scells, List.headD_cons, List.mem_cons, List.not_mem_nil, or_false] at hu
      rcases hu with rfl | rfl
      · rfl
      · exact h2.one
    mv := fun hm h => hasM.mv hm h }
def zcells (s : Bool × Sx) (qs : List Value) : List Value := [.bool s.1, .int .i64 s.2.dep, qs.headD (.slice none 0 0)]
def TZ : Ty Try.prog (Bool × Sx) :=
  { t := 63, e := 75, size := 3, bytes := 40, z := .agg #[.bool false, .int .i64 0, .slice none 0 0], enc := zcells, has := fun w S s qs => hasM TD w S s.2.ms qs, ht := Try.underlying63, info := by kernel_rfl, hzs := rfl, hsz := by decide, hby := by decide
    len := fun _ => rfl
    one := fun {w S a qs} h u hu => by
      obtain ⟨q, qs2, rfl, h2, _⟩ := h
      simp only [zcells, List.headD_cons, List.mem_cons, List.not_mem_nil, or_false] at hu
      rcases hu with rfl | rfl | rfl
      · rfl
      · rfl
      · exact h2.one
    mv := fun hm h => hasM.mv hm h }
/-- A place of the table, as the program and as the document lays it. -/
def rawP (o : Option Sx) : Sx := match o with
  | none => ⟨-1, []⟩
  | some s => s
def rawD (o : Option Sx) : Bool × Sx := match o with
  | none => (false, ⟨0, []⟩)
  | some s => (true, s)
theorem map_set_some {β : Type} (f : Option Sx → β) (A : Row) (i : Nat) (o : Option Sx) : (A.set i o).map f = (A.map f).set i (f o) := List.map_set
theorem at_map {β : Type} (f : Option Sx → β) {A : Row} {i : Nat} {o : Option Sx} (h : A[i]? = some o) : (A.map f)[i]? = some (f o) := by simp [h]
/-- The cells of marks. -/
theorem RowM.at {R : Ty Try.prog Mk} {w : World} {S : Nat → Prop} {v : Value} {ms : List Mk} (h : RowM R w S v ms) (h0 : ms ≠ []) : ∃ b off cap, v = .slice (some ⟨b, off, none⟩) ms.length cap ∧ ms.length ≤ cap ∧ b < w.heap.size ∧ ∀ (i : Nat) m, ms[i]? = some m → ∃ q, LiesR R w b (off + i * R.size) m q :=
  let ⟨b, off, cap, h1, h2, h3, h4⟩ := h.row.open_ h0
  ⟨b, off, cap, h1, h2, h3, fun i m hm => let ⟨q, h5, _⟩ := h4 i m hm; ⟨q, h5⟩⟩
end Go.Proofs.Ytkhdkepjhifffaa.VB
