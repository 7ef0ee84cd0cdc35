/- What the arguments' reading says: nodes that can be read so deep. -/
import Derived.Test.YtommaomhiaaphaaDH
import Derived.Test.YtommaomhiaaphaaRows
import Derived.ProofKit
import Derived.OpenShut
import Derived.ChangeSame
import Derived.ChangeOld
import Derived.Deep.Slices
namespace Go.Proofs.Ytommaomhiaaphaa.DK
open Go.ChangeShapes Go.WideShapes Go.ChangeAt Go.RowKit Go.Maps Go.Proofs.Ytommaomhiaaphaa.DE
set_option linter.unusedVariables false
set_option maxRecDepth 100000
theorem own : ownKnob Try.prog.godebug = none := by kernel_rfl
theorem laidOut : laidOutB Try.prog = true := by kernel_rfl
theorem cells6 : Try.prog.cellsOf 38 = 6 := by kernel_rfl
theorem cellsI : Try.prog.cellsOf 3 = 1 := by kernel_rfl
theorem cellsT : Try.prog.cellsOf 9 = 1 := by kernel_rfl
theorem cellsN : Try.prog.cellsOf 36 = 1 := by kernel_rfl
theorem cellsK : Try.prog.cellsOf 22 = 1 := by kernel_rfl
theorem wf_le {z : Int} (h : (Lit.int .i64 z).wf = true) : -9223372036854775808 ≤ z ∧ z ≤ 9223372036854775807 := by
  simp [Lit.wf, IntKind.min, IntKind.max, IntKind.signed, IntKind.bits] at h
  omega
theorem ArgS.up {w : World} : ∀ (f : Nat) (v : Value), ArgS w f v → ArgS w (f + 1) v
  | 0, _, h => h.elim
  | f + 1, v, h => by
    obtain ⟨ao, len, cap, hv, h1, h2, h3⟩ := h
    refine ⟨ao, len, cap, hv, h1, h2, ?_⟩
    rcases h3 with h3 | ⟨b, off, ha, hlt, h3⟩
    · exact .inl h3
    · refine .inr ⟨b, off, ha, hlt, fun i hi => ?_⟩
      obtain ⟨k, a, n, m, nv, q, c0, c1, c2, c3, c4, c5, ha, hn, hq⟩ := h3 i hi
      exact ⟨k, a, n, m, nv, q, c0, c1, c2, c3, c4, c5, ha, hn, ArgS.up f q hq⟩
section
variable {H : Type} {enc : TypeId × Value → H} {W : World} {sp : Nat → Bool} {held : Bool}
theorem slice_val {t e : TypeId} {n : Nat} {cs : List Value} {x : DataW H × List MemPlace} (ht : Try.prog.underlying t = some (.slice e)) (h : DataW.trod enc Try.prog W 0 sp held n t cs = some x) : ∃ a l c, cs = [.slice a l c] := by
  rcases DataW.trod_slice ht h with ⟨h, _⟩ | ⟨a, len, cap, _, _, _, _, h, _⟩
  · exact ⟨_, _, _, h⟩
  · exact ⟨_, _, _, h⟩
theorem add_cell {w : World} {a : Addr} {v : Value} (h : w.cell? a = some v) : a = ⟨a.block, a.off, none⟩ := by
  obtain ⟨b, o, s⟩ := a
  unfold World.cell? at h
  split at h
  · cases s with
    | none => rfl
    | some s => simp at h
  · cases h
theorem arg_of : ∀ (n : Nat) (cs : List Value) (x : DataW H × List MemPlace), DataW.trod enc Try.prog W 0 sp held n 22 cs = some x → ∃ v, cs = [v] ∧ ArgS W n v
  | n, cs, x, h => by
    rcases DataW.trod_slice Try.underlying22 h with ⟨rfl, _⟩ | ⟨a, len, cap, elems, rest, m, rfl, rfl, _, _, hlc, hcm, hel, hat, _⟩
    · cases n with
      | zero => simp [DataW.trod] at h
      | succ n => exact ⟨_, rfl, none, 0, 0, rfl, Nat.le_refl _, Nat.zero_le _, .inl rfl⟩
    · refine ⟨_, rfl, some a, len, cap, rfl, hlc, hcm, ?_⟩
      by_cases h0 : len = 0
      · exact .inl h0
      · right
        have each : ∀ i, i < len → ∃ cs', (∀ j, j < 6 → W.cell? ((a.add (i * 6)).add j) = cs'[j]?) ∧ cs'.length = 6 ∧ ∃ y, DataW.trod enc Try.prog W 0 sp held m 38 cs' = some y := by
          intro i hi
          have hh := hat i hi
          rw [List.getElem?_eq_getElem (by omega)] at hh
          obtain ⟨cs', h1, h2⟩ := Option.bind_eq_some_iff.1 hh
          rw [cells6] at h1
          obtain ⟨_, hlen, hcell⟩ := World.cells?_some h1
          exact ⟨cs', hcell, hlen, _, h2⟩
        have parts : ∀ i, i < len → ∃ k s n m' nv q, W.cell? ((a.add (i * 6)).add 0) = some (.int .i64 k) ∧ W.cell? ((a.add (i * 6)).add 1) = some (.string s) ∧ W.cell? ((a.add (i * 6)).add 2) = some (.int .i64 n) ∧ W.cell? ((a.add (i * 6)).add 3) = some (.int .i64 m') ∧ W.cell? ((a.add (i * 6)).add 4) = some nv ∧ W.cell? ((a.add (i * 6)).add 5) = some q ∧ s.size ≤ maxLen ∧ (∃ x y z, nv = .slice x y z) ∧ ArgS W m q := by
          intro i hi
          obtain ⟨cs', hc, hl, y, hy⟩ := each i hi
          obtain ⟨xs, m', rfl, _, _, hxl, hf⟩ := DataW.trod_struct Try.underlying38 hy
          match cs', hl with
          | [v0, v1, v2, v3, v4, v5], _ =>
            have hx : xs.length = 6 := hxl
            match xs, hx with
            | [y0, y1, y2, y3, y4, y5], _ =>
              have g0 := hf 0 _ rfl
              have g1 := hf 1 _ rfl
              have g2 := hf 2 _ rfl
              have g3 := hf 3 _ rfl
              have g4 := hf 4 _ rfl
              have g5 := hf 5 _ rfl
              simp [cellsI, cellsT, cellsN, cellsK] at g0 g1 g2 g3 g4 g5
              obtain ⟨k, e0, _⟩ := DataW.trod_int Try.underlying3 g0
              obtain ⟨s, e1, _, hs⟩ := DataW.trod_string Try.underlying9 g1
              obtain ⟨n, e2, _⟩ := DataW.trod_int Try.underlying3 g2
              obtain ⟨m2, e3, _⟩ := DataW.trod_int Try.underlying3 g3
              obtain ⟨x, y, z, e4⟩ := slice_val Try.underlying36 g4
              obtain ⟨q, e5, hq⟩ := arg_of m' _ _ g5
              cases e0; cases e1; cases e2; cases e3; cases e4; cases e5
              exact ⟨k, s, n, m2, _, _, hc 0 (by decide), hc 1 (by decide), hc 2 (by decide), hc 3 (by decide), hc 4 (by decide), hc 5 (by decide), hs, ⟨x, y, z, rfl⟩, ArgS.up _ _ hq⟩
        have ha : a = ⟨a.block, a.off, none⟩ := by
          obtain ⟨k, s, n, m', nv, q, c0, _⟩ := parts 0 (by omega)
          have e0 : (a.add (0 * 6)).add 0 = a := by unfold Addr.add; rfl
          rw [e0] at c0
          exact add_cell c0
        obtain ⟨b0, o0, rfl⟩ : ∃ b o, a = ⟨b, o, none⟩ := ⟨_, _, ha⟩
        refine ⟨b0, o0, rfl, ?_, fun i hi => ?_⟩
        · obtain ⟨k, s, n, m', nv, q, c0, _⟩ := parts 0 (by omega)
          rw [Addr.add_lit, Addr.add_lit] at c0
          exact World.block_lt_of_cell? W _ c0
        · obtain ⟨k, s, n, m', nv, q, c0, c1, c2, c3, c4, c5, hr⟩ := parts i hi
          rw [Addr.add_lit, Addr.add_lit] at c0 c1 c2 c3 c4 c5
          exact ⟨k, s, n, m', nv, q, c0, c1, c2, c3, c4, c5, hr⟩
  termination_by n => n
end
end Go.Proofs.Ytommaomhiaaphaa.DK
