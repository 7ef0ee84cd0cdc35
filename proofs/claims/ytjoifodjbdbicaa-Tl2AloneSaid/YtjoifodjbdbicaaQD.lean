/- Deeds in memory: what the arguments' reading says of them. -/
import Derived.Test.YtjoifodjbdbicaaZH
import Derived.Test.YtjoifodjbdbicaaRows
import Derived.ProofKit
import Derived.OpenShut
import Derived.ChangeSame
import Derived.ChangeOld
import Derived.Deep.Slices
namespace Go.Proofs.Ytjoifodjbdbicaa.QD
open Go.ChangeShapes Go.WideShapes Go.ChangeAt Go.RowKit Go.Maps Go.Proofs.Ytjoifodjbdbicaa.RG Go.Proofs.Ytjoifodjbdbicaa.RI Go.Proofs.Ytjoifodjbdbicaa.UA Go.Proofs.Ytjoifodjbdbicaa.UQ Go.Proofs.Ytjoifodjbdbicaa.UR Go.Proofs.Ytjoifodjbdbicaa.UW
set_option linter.unusedVariables false
set_option maxRecDepth 100000
set_option maxRecDepth 100000

theorem own : ownKnob Try.prog.godebug = none := by kernel_rfl
theorem laidOut : laidOutB Try.prog = true := by kernel_rfl
theorem wf_le {z : Int} (h : (Lit.int .i64 z).wf = true) : B64 z := by
  unfold B64
  simp [Lit.wf, IntKind.min, IntKind.max, IntKind.signed, IntKind.bits] at h
  omega
theorem cellsI : Try.prog.cellsOf 3 = 1 := by kernel_rfl
theorem cellsD : Try.prog.cellsOf 33 = 4 := by kernel_rfl
def okD (d : Dd) : Prop := B64 d.t ∧ B64 d.n ∧ B64 d.v
theorem add_plain (b o j : Nat) : (⟨b, o, none⟩ : Addr).add j = ⟨b, o + j, none⟩ := by
  unfold Addr.add
  split <;> simp_all
theorem add_cell {w : World} {a : Addr} {v : Value} (h : w.cell? a = some v) : a = ⟨a.block, a.off, none⟩ := by
  obtain ⟨b, o, s⟩ := a
  unfold World.cell? at h
  split at h
  · cases s with
    | none => rfl
    | some s => simp at h
  · cases h
section
variable {H : Type} {enc : TypeId × Value → H} {W : World} {sp : Nat → Bool} {held : Bool}
/-- Things that are read one by one make a row. -/
theorem row_of {α : Type} (R : Ty Try.prog α) (G : α → Prop) (hcl : Try.prog.cellsOf R.e = R.size) (hone : ∀ (n : Nat) (cs : List Value) (x : DataW H × List MemPlace), DataW.trod enc Try.prog W 0 sp held n R.e cs = some x → ∃ p q, cs = R.enc p q ∧ R.has W (fun _ => True) p q ∧ G p) (n : Nat) (cs : List Value) (x : DataW H × List MemPlace) (h : DataW.trod enc Try.prog W 0 sp held n R.t cs = some x) : ∃ v l, cs = [v] ∧ RowR R W (fun _ => True) v l ∧ l.length ≤ maxLen ∧ ∀ p, p ∈ l → G p := by
  rcases DataW.trod_slice R.ht h with ⟨rfl, _⟩ | ⟨a, len, cap, elems, rest, m, rfl, rfl, _, _, hlc, hcm, hel, hat, _⟩
  · exact ⟨_, [], rfl, rowR_nil _ _, by unfold maxLen; simp, fun p hp => by cases hp⟩
  · have each : ∀ i, i < len → ∃ p q, (R.has W (fun _ => True) p q ∧ G p) ∧ ∀ (k : Nat) u, (R.enc p q)[k]? = some u → W.cell? ((a.add (i * R.size)).add k) = some u := by
      intro i hi
      have hh := hat i hi
      rw [List.getElem?_eq_getElem (by omega)] at hh
      obtain ⟨cs', h1, h2⟩ := Option.bind_eq_some_iff.1 hh
      rw [hcl] at h1
      obtain ⟨_, hlen, hcell⟩ := World.cells?_some h1
      obtain ⟨p, q, e, hp⟩ := hone _ _ _ h2
      refine ⟨p, q, hp, fun k u hk => ?_⟩
      rw [← e] at hk
      have hkl := (List.getElem?_eq_some_iff.1 hk).1
      rw [hcell k (by omega)]
      exact hk
    by_cases h0 : len = 0
    · subst h0
      exact ⟨_, [], rfl, rowR_nil _ _, by unfold maxLen; simp, fun p hp => by cases hp⟩
    · have ha : a = ⟨a.block, a.off, none⟩ := by
        obtain ⟨p, q, hp, hc⟩ := each 0 (by omega)
        have hl := R.len hp.1
        obtain ⟨u, hu⟩ : ∃ u, (R.enc p q)[0]? = some u := ⟨_, List.getElem?_eq_getElem (by have := R.hsz; omega)⟩
        have := add_cell (hc 0 u hu)
        have e : (a.add (0 * R.size)).add 0 = a := by
          rw [Nat.zero_mul]; obtain ⟨b0, o0, s0⟩ := a; unfold Addr.add; cases s0 <;> simp
        rw [e] at this
        exact this
      have hlt : a.block < W.heap.size := by
        obtain ⟨p, q, hp, hc⟩ := each 0 (by omega)
        have hl := R.len hp.1
        obtain ⟨u, hu⟩ : ∃ u, (R.enc p q)[0]? = some u := ⟨_, List.getElem?_eq_getElem (by have := R.hsz; omega)⟩
        have h3 := hc 0 u hu
        have e : (a.add (0 * R.size)).add 0 = a := by
          rw [Nat.zero_mul]; obtain ⟨b0, o0, s0⟩ := a; unfold Addr.add; cases s0 <;> simp
        rw [e] at h3
        rcases Nat.lt_or_ge a.block W.heap.size with h' | h'
        · exact h'
        · simp [World.cell?, Array.getElem?_eq_none h'] at h3
      have build : ∀ k, k ≤ len → ∃ l : List α, ∃ qs, (l.length = k ∧ ∀ p, p ∈ l → G p) ∧ Hs R W (fun _ => True) l qs ∧ ∀ (j : Nat) u, (rowOf R l qs)[j]? = some u → W.cell? ⟨a.block, a.off + j, none⟩ = some u := by
        intro k
        induction k with
        | zero => intro _; exact ⟨[], [], ⟨rfl, fun p hp => by cases hp⟩, trivial, fun j u hj => by simp [rowOf] at hj⟩
        | succ k ih =>
          intro hk
          obtain ⟨l, qs, ⟨h1, hg⟩, h2, h3⟩ := ih (by omega)
          obtain ⟨p, q, hp, hc⟩ := each k (by omega)
          refine ⟨l ++ [p], qs ++ [q], ⟨by simp [h1], fun p' hp' => by
            rcases List.mem_append.1 hp' with h' | h'
            · exact hg p' h'
            · rw [List.mem_singleton.1 h']; exact hp.2⟩, Hs.app h2 ⟨hp.1, trivial⟩, fun j u hj => ?_⟩
          rw [rowOf_app _ _ _ _ h2.len] at hj
          have hll := rowOf_len l qs h2
          rcases Nat.lt_or_ge j (l.length * R.size) with hj' | hj'
          · rw [List.getElem?_append_left (by omega)] at hj
            exact h3 j u hj
          · rw [List.getElem?_append_right (by omega), hll] at hj
            have hj2 : (R.enc p q)[j - l.length * R.size]? = some u := by simpa [rowOf] using hj
            have h4 := hc _ u hj2
            rw [ha] at h4
            have e : ((⟨a.block, a.off, none⟩ : Addr).add (k * R.size)).add (j - l.length * R.size) = ⟨a.block, a.off + j, none⟩ := by
              have h1' : k * R.size = l.length * R.size := by rw [h1]
              rw [add_plain, add_plain]
              congr 1
              omega
            rw [e] at h4
            exact h4
      obtain ⟨l, qs, ⟨h1, hg⟩, h2, h3⟩ := build len (Nat.le_refl _)
      refine ⟨_, l, rfl, ⟨qs, ?_, h2⟩, by omega, hg⟩
      rw [h1]
      exact ⟨_, cap, rfl, hlc, .inr ⟨a.block, a.off, by rw [← ha], ⟨trivial, hlt⟩, h3⟩⟩
theorem deed_one (n : Nat) (cs : List Value) (x : DataW H × List MemPlace) (h : DataW.trod enc Try.prog W 0 sp held n 33 cs = some x) : ∃ p q, cs = TDd.enc p q ∧ TDd.has W (fun _ => True) p q ∧ okD p := by
  obtain ⟨xs, m', rfl, _, hl, hxl, hf⟩ := DataW.trod_struct Try.underlying33 h
  rw [cellsD] at hl
  match cs, hl with
  | [v0, v1, v2, v3], _ =>
    have hx : xs.length = 4 := hxl
    match xs, hx with
    | [y0, y1, y2, y3], _ =>
      have g0 := hf 0 _ rfl
      have g1 := hf 1 _ rfl
      have g2 := hf 2 _ rfl
      have g3 := hf 3 _ rfl
      simp [cellsI] at g0 g1 g2 g3
      obtain ⟨k, e0, _, w0⟩ := DataW.trod_int Try.underlying3 g0
      obtain ⟨a, e1, _, w1⟩ := DataW.trod_int Try.underlying3 g1
      obtain ⟨b, e2, _, w2⟩ := DataW.trod_int Try.underlying3 g2
      obtain ⟨c, e3, _, w3⟩ := DataW.trod_int Try.underlying3 g3
      cases e0; cases e1; cases e2; cases e3
      exact ⟨⟨k, a, b, c⟩, [], rfl, rfl, wf_le w1, wf_le w2, wf_le w3⟩
theorem deeds_of (n : Nat) (cs : List Value) (x : DataW H × List MemPlace) (h : DataW.trod enc Try.prog W 0 sp held n 22 cs = some x) : ∃ v l, cs = [v] ∧ RowR TDd W (fun _ => True) v l ∧ D64 l := by
  obtain ⟨v, l, e, h1, _, h3⟩ := row_of TDd okD cellsD deed_one _ _ _ h
  exact ⟨v, l, e, h1, h3⟩
end
end Go.Proofs.Ytjoifodjbdbicaa.QD
