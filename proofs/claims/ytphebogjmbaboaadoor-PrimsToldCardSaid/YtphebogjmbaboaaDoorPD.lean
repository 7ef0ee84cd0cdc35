/- Deeds in memory, and what the arguments' reading says of them. -/
import Derived.Test.YtphebogjmbaboaaDoorIF
import Derived.Test.YtphebogjmbaboaaDoorRows
import Derived.ProofKit
import Derived.OpenShut
import Derived.ChangeSame
import Derived.ChangeOld
import Derived.Deep.Slices
namespace Go.Proofs.YtphebogjmbaboaaDoor.PD
open Go.ChangeShapes Go.WideShapes Go.ChangeAt Go.RowKit Go.Maps Go.Proofs.YtphebogjmbaboaaDoor.RG Go.Proofs.YtphebogjmbaboaaDoor.HB Go.Proofs.YtphebogjmbaboaaDoor.HN
set_option linter.unusedVariables false
set_option maxRecDepth 100000
set_option maxRecDepth 100000

/-- A deed. -/
structure Dd where
  kind : Int
  s : ByteArray
  a : Int
  b : Int
  words : List Int
def hasD (w : World) (S : Nat → Prop) (d : Dd) (qs : List Value) : Prop := ∃ q, qs = [q] ∧ Rw w S q d.words.length (d.words.map (Value.int .i64))
def TDd : Ty Tryd.prog Dd :=
  { t := 22, e := 30, size := 5, bytes := 64, z := .agg #[.int .i64 0, .string ByteArray.empty, .int .i64 0, .int .i64 0, .slice none 0 0],
    enc := fun d qs => [.int .i64 d.kind, .string d.s, .int .i64 d.a, .int .i64 d.b] ++ qs, has := hasD, ht := Tryd.underlying22, info := (by kernel_rfl), hzs := rfl, hsz := by decide, hby := by decide,
    len := fun ⟨q, e, _⟩ => by rw [e]; rfl,
    one := fun ⟨q, e, h⟩ u hu => by
      rw [e] at hu
      simp only [List.cons_append, List.nil_append, List.mem_cons, List.not_mem_nil, or_false] at hu
      rcases hu with rfl | rfl | rfl | rfl | rfl
      · rfl
      · rfl
      · rfl
      · rfl
      · exact h.one,
    mv := fun hm ⟨q, e, h⟩ => ⟨q, e, h.mv hm⟩ }
theorem rw_row {w : World} {S : Nat → Prop} {q : Value} {l : List Int} (h : Rw w S q l.length (l.map (Value.int .i64))) : RowI w q l := by
  obtain ⟨ao, cap, rfl, hc, h⟩ := h
  apply has_row
  refine ⟨ao, cap, rfl, hc, ?_⟩
  rcases h with h | ⟨b, off, rfl, ⟨_, hlt⟩, hcells⟩
  · exact .inl (List.length_eq_zero_iff.1 h)
  · exact .inr ⟨b, off, rfl, hlt, fun j hj => hcells j _ (by simp [hj])⟩
theorem row_rw {w : World} {S : Nat → Prop} {v : Value} {l : List Int} (h : RowR TI w S v l) : Rw w (fun _ => True) v l.length (l.map (Value.int .i64)) := by
  obtain ⟨ao, cap, rfl, hc, h⟩ := row_has h
  refine ⟨ao, cap, rfl, hc, ?_⟩
  rcases h with rfl | ⟨b, off, rfl, hlt, hcells⟩
  · exact .inl rfl
  · refine .inr ⟨b, off, rfl, ⟨trivial, hlt⟩, fun j u hj => ?_⟩
    rw [List.getElem?_map, Option.map_eq_some_iff] at hj
    obtain ⟨z, hz, rfl⟩ := hj
    obtain ⟨hjl, rfl⟩ := List.getElem?_eq_some_iff.1 hz
    exact hcells j hjl
/-- Words that are integers. -/
def okZ (z : Int) : Prop := -9223372036854775808 ≤ z ∧ z ≤ 9223372036854775807
def okD (d : Dd) : Prop := -9223372036854775808 ≤ d.a ∧ -9223372036854775808 ≤ d.b ∧ ∀ z, z ∈ d.words → okZ z
theorem cellsI : Tryd.prog.cellsOf 3 = 1 := by kernel_rfl
theorem cellsS : Tryd.prog.cellsOf 9 = 1 := by kernel_rfl
theorem cellsSI : Tryd.prog.cellsOf 28 = 1 := by kernel_rfl
theorem cellsD : Tryd.prog.cellsOf 30 = 5 := by kernel_rfl
theorem wf_le {z : Int} (h : (Lit.int .i64 z).wf = true) : okZ z := by
  simp [Lit.wf, IntKind.min, IntKind.max, IntKind.signed, IntKind.bits] at h
  unfold okZ
  omega
theorem add_cell {w : World} {a : Addr} {v : Value} (h : w.cell? a = some v) : a = ⟨a.block, a.off, none⟩ := by
  obtain ⟨b, o, s⟩ := a
  unfold World.cell? at h
  split at h
  · cases s with
    | none => rfl
    | some s => simp at h
  · cases h
section
variable {H : Type} {enc : TypeId × Value → H} {W : World} {sp : Nat → Bool} {held : Bool}
/-- Things that are read one by one make a row. -/
theorem row_of {α : Type} (R : Ty Tryd.prog α) (G : α → Prop) (hcl : Tryd.prog.cellsOf R.e = R.size) (hone : ∀ (n : Nat) (cs : List Value) (x : DataW H × List MemPlace), DataW.trod enc Tryd.prog W 0 sp held n R.e cs = some x → ∃ p q, cs = R.enc p q ∧ R.has W (fun _ => True) p q ∧ G p) (n : Nat) (cs : List Value) (x : DataW H × List MemPlace) (h : DataW.trod enc Tryd.prog W 0 sp held n R.t cs = some x) : ∃ v l, cs = [v] ∧ RowR R W (fun _ => True) v l ∧ l.length ≤ maxLen ∧ ∀ p, p ∈ l → G p := by
  rcases DataW.trod_slice R.ht h with ⟨rfl, _⟩ | ⟨a, len, cap, elems, rest, m, rfl, rfl, _, _, hlc, hcm, hel, hat, _⟩
  · exact ⟨_, [], rfl, rowR_nil _ _, by unfold maxLen; simp, fun p hp => by cases hp⟩
  · have each : ∀ i, i < len → ∃ p q, (R.has W (fun _ => True) p q ∧ G p) ∧ ∀ (k : Nat) u, (R.enc p q)[k]? = some u → W.cell? ((a.add (i * R.size)).add k) = some u := by
      intro i hi
      have hh := hat i hi
      rw [List.getElem?_eq_getElem (by omega)] at hh
      obtain ⟨cs', h1, h2⟩ := Option.bind_eq_some_iff.1 hh
      rw [hcl] at h1
      obtain ⟨_, hlen, hcell⟩ := World.cells?_some h1
      obtain ⟨p, q, e, hp⟩ := hone _ _ _ h2
      refine ⟨p, q, hp, fun k u hk => ?_⟩
      rw [← e] at hk
      have hkl := (List.getElem?_eq_some_iff.1 hk).1
      rw [hcell k (by omega)]
      exact hk
    by_cases h0 : len = 0
    · subst h0
      exact ⟨_, [], rfl, rowR_nil _ _, by unfold maxLen; simp, fun p hp => by cases hp⟩
    · have ha : a = ⟨a.block, a.off, none⟩ := by
        obtain ⟨p, q, hp, hc⟩ := each 0 (by omega)
        have hl := R.len hp.1
        obtain ⟨u, hu⟩ : ∃ u, (R.enc p q)[0]? = some u := ⟨_, List.getElem?_eq_getElem (by have := R.hsz; omega)⟩
        have := add_cell (hc 0 u hu)
        have e : (a.add (0 * R.size)).add 0 = a := by
          rw [Nat.zero_mul]; obtain ⟨b0, o0, s0⟩ := a; unfold Addr.add; cases s0 <;> simp
        rw [e] at this
        exact this
      have hlt : a.block < W.heap.size := by
        obtain ⟨p, q, hp, hc⟩ := each 0 (by omega)
        have hl := R.len hp.1
        obtain ⟨u, hu⟩ : ∃ u, (R.enc p q)[0]? = some u := ⟨_, List.getElem?_eq_getElem (by have := R.hsz; omega)⟩
        have h3 := hc 0 u hu
        have e : (a.add (0 * R.size)).add 0 = a := by
          rw [Nat.zero_mul]; obtain ⟨b0, o0, s0⟩ := a; unfold Addr.add; cases s0 <;> simp
        rw [e] at h3
        rcases Nat.lt_or_ge a.block W.heap.size with h' | h'
        · exact h'
        · simp [World.cell?, Array.getElem?_eq_none h'] at h3
      have build : ∀ k, k ≤ len → ∃ l : List α, ∃ qs, (l.length = k ∧ ∀ p, p ∈ l → G p) ∧ Hs R W (fun _ => True) l qs ∧ ∀ (j : Nat) u, (rowOf R l qs)[j]? = some u → W.cell? ⟨a.block, a.off + j, none⟩ = some u := by
        intro k
        induction k with
        | zero => intro _; exact ⟨[], [], ⟨rfl, fun p hp => by cases hp⟩, trivial, fun j u hj => by simp [rowOf] at hj⟩
        | succ k ih =>
          intro hk
          obtain ⟨l, qs, ⟨h1, hg⟩, h2, h3⟩ := ih (by omega)
          obtain ⟨p, q, hp, hc⟩ := each k (by omega)
          refine ⟨l ++ [p], qs ++ [q], ⟨by simp [h1], fun p' hp' => by
            rcases List.mem_append.1 hp' with h' | h'
            · exact hg p' h'
            · rw [List.mem_singleton.1 h']; exact hp.2⟩, Hs.app h2 ⟨hp.1, trivial⟩, fun j u hj => ?_⟩
          rw [rowOf_app _ _ _ _ h2.len] at hj
          have hll := rowOf_len l qs h2
          rcases Nat.lt_or_ge j (l.length * R.size) with hj' | hj'
          · rw [List.getElem?_append_left (by omega)] at hj
            exact h3 j u hj
          · rw [List.getElem?_append_right (by omega), hll] at hj
            have hj2 : (R.enc p q)[j - l.length * R.size]? = some u := by simpa [rowOf] using hj
            have h4 := hc _ u hj2
            rw [ha] at h4
            have e : ((⟨a.block, a.off, none⟩ : Addr).add (k * R.size)).add (j - l.length * R.size) = ⟨a.block, a.off + j, none⟩ := by
              have h1' : k * R.size = l.length * R.size := by rw [h1]
              rw [add_plain, add_plain]
              congr 1
              omega
            rw [e] at h4
            exact h4
      obtain ⟨l, qs, ⟨h1, hg⟩, h2, h3⟩ := build len (Nat.le_refl _)
      refine ⟨_, l, rfl, ⟨qs, ?_, h2⟩, by omega, hg⟩
      rw [h1]
      exact ⟨_, cap, rfl, hlc, .inr ⟨a.block, a.off, by rw [← ha], ⟨trivial, hlt⟩, h3⟩⟩
theorem int_one (n : Nat) (cs : List Value) (x : DataW H × List MemPlace) (h : DataW.trod enc Tryd.prog W 0 sp held n 3 cs = some x) : ∃ p q, cs = TI.enc p q ∧ TI.has W (fun _ => True) p q ∧ okZ p := by
  obtain ⟨k, e, _, hw⟩ := DataW.trod_int Tryd.underlying3 h
  exact ⟨k, [], e, rfl, wf_le hw⟩
theorem deed_one (n : Nat) (cs : List Value) (x : DataW H × List MemPlace) (h : DataW.trod enc Tryd.prog W 0 sp held n 30 cs = some x) : ∃ p q, cs = TDd.enc p q ∧ TDd.has W (fun _ => True) p q ∧ okD p := by
  obtain ⟨xs, m', rfl, _, hl, hxl, hf⟩ := DataW.trod_struct Tryd.underlying30 h
  rw [cellsD] at hl
  match cs, hl with
  | [v0, v1, v2, v3, v4], _ =>
    have hx : xs.length = 5 := hxl
    match xs, hx with
    | [y0, y1, y2, y3, y4], _ =>
      have g0 := hf 0 _ rfl
      have g1 := hf 1 _ rfl
      have g2 := hf 2 _ rfl
      have g3 := hf 3 _ rfl
      have g4 := hf 4 _ rfl
      simp [cellsI, cellsS, cellsSI] at g0 g1 g2 g3 g4
      obtain ⟨k, e0, _, w0⟩ := DataW.trod_int Tryd.underlying3 g0
      obtain ⟨s, e1, _, w1⟩ := DataW.trod_string Tryd.underlying9 g1
      obtain ⟨a, e2, _, w2⟩ := DataW.trod_int Tryd.underlying3 g2
      obtain ⟨b, e3, _, w3⟩ := DataW.trod_int Tryd.underlying3 g3
      obtain ⟨v, l, e4, hr, _, hz⟩ := row_of TI okZ cellsI int_one _ _ _ g4
      cases e0; cases e1; cases e2; cases e3; cases e4
      exact ⟨⟨k, s, a, b, l⟩, [v4], rfl, ⟨v4, rfl, row_rw hr⟩, (wf_le w2).1, (wf_le w3).1, hz⟩
theorem deeds_of (n : Nat) (cs : List Value) (x : DataW H × List MemPlace) (h : DataW.trod enc Tryd.prog W 0 sp held n 22 cs = some x) : ∃ v l, cs = [v] ∧ RowR TDd W (fun _ => True) v l ∧ ∀ d, d ∈ l → okD d := by
  obtain ⟨v, l, e, h1, _, h3⟩ := row_of TDd okD cellsD deed_one _ _ _ h
  exact ⟨v, l, e, h1, h3⟩
end
end Go.Proofs.YtphebogjmbaboaaDoor.PD
