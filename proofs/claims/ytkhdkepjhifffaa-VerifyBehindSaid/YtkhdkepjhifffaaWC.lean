/- A function's stack, an instruction, more of all: what comes of it, plainly and in memory. -/
import Derived.Test.YtkhdkepjhifffaaWB
import Derived.Test.YtkhdkepjhifffaaVX
namespace Go.Proofs.Ytkhdkepjhifffaa.WC
open Go.RowKit Go.Proofs.Ytkhdkepjhifffaa.RG Go.Proofs.Ytkhdkepjhifffaa.RB Go.Proofs.Ytkhdkepjhifffaa.KA Go.Proofs.Ytkhdkepjhifffaa.KB Go.Proofs.Ytkhdkepjhifffaa.KH Go.Proofs.Ytkhdkepjhifffaa.WA Go.Proofs.Ytkhdkepjhifffaa.VA Go.Proofs.Ytkhdkepjhifffaa.VO Go.Proofs.Ytkhdkepjhifffaa.VP
set_option linter.unusedVariables false
set_option maxRecDepth 100000
set_option maxRecDepth 100000

/-! ## Plainly -/
theorem right_same {c c' : Cd} {n : Nat} {f f' : Bd} {i : In} (h1 : c'.ints.length = c.ints.length) (h2 : c'.texts.length = c.texts.length) (h3 : c'.lets = c.lets) (h4 : c'.funs.length = c.funs.length) (h5 : ∀ k : Nat, c'.funs[k]?.map Bd.kept = c.funs[k]?.map Bd.kept) (h6 : f'.locals = f.locals) (h7 : f'.kept = f.kept) :
    rightB c' n f' i = rightB c n f i := by
  unfold rightB
  rw [h1, h2, h3, h4, h5, h6, h7]
/-- A code in which a function's body is another one. -/
def withF (c : Cd) (m : Nat) (f : Bd) : Cd := ⟨c.funs.set m f, c.ints, c.texts, c.lets⟩
theorem withF_at {c : Cd} {m : Nat} {f f' : Bd} (h : c.funs[m]? = some f) : (withF c m f').funs[m]? = some f' := by
  unfold withF
  have := (List.getElem?_eq_some_iff.1 h).1
  simp [this]
theorem withF_ne {c : Cd} {m k : Nat} {f' : Bd} (h : m ≠ k) : (withF c m f').funs[k]? = c.funs[k]? := by
  unfold withF
  simp [List.getElem?_set_ne h]
theorem withF_kept {c : Cd} {m : Nat} {f f' : Bd} (h : c.funs[m]? = some f) (hk : f'.kept = f.kept) (k : Nat) : (withF c m f').funs[k]?.map Bd.kept = c.funs[k]?.map Bd.kept := by
  by_cases e : m = k
  · subst e
    rw [withF_at h, h]
    show some f'.kept = some f.kept
    rw [hk]
  · rw [withF_ne e]
theorem withF_right {c : Cd} {m n : Nat} {f f' g g' : Bd} {i : In} (h : c.funs[m]? = some f) (hk : f'.kept = f.kept) (h6 : g'.locals = g.locals) (h7 : g'.kept = g.kept) : rightB (withF c m f') n g' i = rightB c n g i :=
  right_same rfl rfl rfl (by unfold withF; simp) (withF_kept h hk) h6 h7
theorem goes_stack {c : Cd} {m n : Nat} {f f' : Bd} (h : c.funs[m]? = some f) (hk : f'.kept = f.kept) (hl : f'.locals = f.locals) (hc : f'.code = f.code) : goes (withF c m f') n f' = goes c n f := by
  funext a s
  unfold goes
  rw [hc]
  cases f.code[a]? with
  | none => rfl
  | some i =>
    show (if rightB (withF c m f') n f' i = true ∧ _ then _ else none) = if rightB c n f i = true ∧ _ then _ else none
    rw [withF_right h hk hl hk]
/-- No depth is greater than a stack with which the function holds together, too. -/
theorem dep_most {c c' : Cd} {L L' : List Int} {f f' : Bd} (h : DepOf c 0 L) (h' : DepOf c' 0 L') (hf : c.funs[0]? = some f) (hf' : c'.funs[0]? = some f') (hg : goes c' 0 f' = goes c 0 f) (hs : 0 ≤ f'.stack) (hL : L' ≠ []) : ∀ d, d ∈ L → d ≤ f'.stack := by
  intro d hd
  rcases h with ⟨_, rfl⟩ | ⟨n, g, e0, _, hn, h⟩
  · cases hd
  obtain rfl : n = 0 := by omega
  rw [hf] at hn; cases hn
  rcases h' with ⟨_, rfl⟩ | ⟨n, g, e1, _, hn, h'⟩
  · exact absurd rfl hL
  obtain rfl : n = 0 := by omega
  rw [hf'] at hn; cases hn
  rcases h with ⟨A, hA, rfl⟩ | ⟨_, rfl⟩
  · rcases h' with ⟨A', hA', rfl⟩ | ⟨_, rfl⟩
    · obtain ⟨o, ho, rfl⟩ := List.mem_map.1 hd
      cases o with
      | none => show (-1 : Int) ≤ _; omega
      | some s =>
        obtain ⟨a, ha⟩ := List.mem_iff_getElem?.1 ho
        cases hA with
        | yes _ _ hi =>
          have hr := (hi a s).2 ha
          rw [← hg] at hr
          exact ((ans_yes hA').1 a s hr).2.1
    · exact absurd rfl hL
  · cases hd
theorem dep_fun {c : Cd} {L : List Int} {n : Nat} (h : DepOf c (n : Int) L) (hL : L ≠ []) : ∃ f A, c.funs[n]? = some f ∧ mayB c = true ∧ Ans f.code.length f.stack (goes c n f) (some A) ∧ L = A.map depO := by
  rcases h with ⟨_, rfl⟩ | ⟨m, f, e, hm, hf, ⟨A, hA, rfl⟩ | ⟨_, rfl⟩⟩
  · exact absurd rfl hL
  · obtain rfl : n = m := by omega
    exact ⟨f, A, hf, hm, hA, rfl⟩
  · exact absurd rfl hL

/-! ## In memory -/
theorem sep_snd {L L' : List Bg} (h : Sep L) (e : L'.map Prod.snd = L.map Prod.snd) : Sep L' := by
  intro i j a b hi hj hne
  have h1 : (L.map Prod.snd)[i]? = some a.2 := by rw [← e]; simp [hi]
  have h2 : (L.map Prod.snd)[j]? = some b.2 := by rw [← e]; simp [hj]
  simp only [List.getElem?_map, Option.map_eq_some_iff] at h1 h2
  obtain ⟨x, hx, ex⟩ := h1
  obtain ⟨y, hy, ey⟩ := h2
  rw [← ex, ← ey]
  exact h i j x y hx hy hne
theorem set_snd {L : List Bg} {m : Nat} {f f' : Bd} {g : Nat} (h : L[m]? = some (f, g)) : (L.set m (f', g)).map Prod.snd = L.map Prod.snd := by
  apply List.ext_getElem?
  intro k
  rw [List.map_set]
  by_cases e : m = k
  · subst e
    have := (List.getElem?_eq_some_iff.1 h).1
    rw [List.getElem?_set_self (by simpa using this), List.getElem?_map, h]
    rfl
  · rw [List.getElem?_set_ne e]
theorem own_open {α : Type} {R : Ty Try.prog α} {w : World} {B : Nat} {T : Nat → Prop} {v : Value} {L : List α} (h : OwnR R w B T v L) (h0 : L ≠ []) : ∃ g cap, v = .slice (some ⟨g, 0, none⟩) L.length cap ∧ B ≤ g ∧ g < w.heap.size := by
  have h' := h
  obtain ⟨qs, ⟨h1, h2⟩, h3⟩ := h
  rcases h2 with ⟨_, h2⟩ | ⟨g, cap, cur, hv, hg, hh, r⟩
  · exact absurd (List.eq_nil_of_length_eq_zero h2) h0
  · exact ⟨g, cap, hv, hg, (Array.getElem?_eq_some_iff.1 hh).1⟩
/-- A function's stack is written. -/
theorem _root_.Go.Proofs.Ytkhdkepjhifffaa.WA.HasG.stack {w : World} {B g n cap : Nat} {c : Cd} {L : List Bg} {iv tv : Value} (h : HasG w B c L (.slice (some ⟨g, 0, none⟩) n cap) iv tv) {m b : Nat} {f : Bd} (hm : L[m]? = some (f, b)) (s : Int) :
    HasG (w.setCell ⟨g, m * 4 + 2, none⟩ (.int .i64 s)) B (withF c m ⟨f.kept, f.locals, s, f.code⟩) (L.set m (⟨f.kept, f.locals, s, f.code⟩, b)) (.slice (some ⟨g, 0, none⟩) n cap) iv tv := by
  refine ⟨own_set (j := 2) h.funs hm (by decide) ?_, own_wr h.ints (fun x e => own_ne h.ints h.funs (by decide) e rfl) _ _, own_wr h.texts (fun x e => own_ne h.texts h.funs (by decide) e rfl) _ _, ?_, sep_snd h.sep (set_snd hm)⟩
  · intro q hq
    have hq2 := TG.mv (mv_set (w := w) (b := g) (S := fun b => B ≤ b ∧ (Value.slice (some ⟨g, 0, none⟩) n cap).ownBlock ≠ some b) (fun x hx e => hx.2 (by rw [e]; rfl)) (m * 4 + 2) (.int .i64 s)) hq
    obtain ⟨q1, rfl, h1, h2⟩ := hq2
    exact ⟨[q1], rfl, q1, rfl, h1, h2⟩
  · rw [List.map_set, h.fst]; rfl
theorem _root_.Go.Proofs.Ytkhdkepjhifffaa.WA.HasG.at {w : World} {B : Nat} {c : Cd} {L : List Bg} {fv iv tv : Value} (h : HasG w B c L fv iv tv) {m : Nat} {f : Bd} (hf : c.funs[m]? = some f) : ∃ b, L[m]? = some (f, b) := by
  rw [← h.fst, List.getElem?_map, Option.map_eq_some_iff] at hf
  obtain ⟨⟨f', b⟩, h1, rfl⟩ := hf
  exact ⟨b, h1⟩
/-- A cell of a row of the call's own can be written. -/
theorem own_cell {α : Type} {R : Ty Try.prog α} {w : World} {B g n cap : Nat} {T : Nat → Prop} {L : List α} (h : OwnR R w B T (.slice (some ⟨g, 0, none⟩) n cap) L) {k : Nat} (hk : k < L.length * R.size) : ∃ u, w.cell? ⟨g, k, none⟩ = some u ∧ w.frozen? ⟨g, k, none⟩ = false := by
  obtain ⟨cur, hc, hs, _⟩ := own_blk h rfl
  exact ⟨cur[k]'(by omega), hc.cell k _ (Array.getElem?_eq_getElem (by omega)), hc.free k⟩
theorem few_with {c : Cd} {m : Nat} {f f' : Bd} (h : c.funs.length ≤ 100000 ∧ c.ints.length ≤ 100000 ∧ c.texts.length ≤ 100000 ∧ ∀ f, f ∈ c.funs → f.code.length ≤ 100000) (hf : c.funs[m]? = some f) (hc : f'.code.length = f.code.length) :
    (withF c m f').funs.length ≤ 100000 ∧ (withF c m f').ints.length ≤ 100000 ∧ (withF c m f').texts.length ≤ 100000 ∧ ∀ f, f ∈ (withF c m f').funs → f.code.length ≤ 100000 := by
  refine ⟨by unfold withF; simpa using h.1, h.2.1, h.2.2.1, fun x hx => ?_⟩
  rcases List.mem_or_eq_of_mem_set hx with hx | rfl
  · exact h.2.2.2 x hx
  · rw [hc]; exact h.2.2.2 f (List.mem_of_getElem? hf)
theorem few_code_with {c : Cd} {m : Nat} {f f' : Bd} (h : ∀ f, f ∈ c.funs → f.code.length ≤ 1000) (hf : c.funs[m]? = some f) (hc : f'.code.length = f.code.length) : ∀ f, f ∈ (withF c m f').funs → f.code.length ≤ 1000 := by
  intro x hx
  rcases List.mem_or_eq_of_mem_set hx with hx | rfl
  · exact h x hx
  · rw [hc]; exact h f (List.mem_of_getElem? hf)
/-- A row of flat things elsewhere is as it was. -/
theorem row_wr {α : Type} {R : Ty Try.prog α} {w : World} {v : Value} {L : List α} (h : RowR R w (fun _ => False) v L) {x : Nat} (hx : ∀ b, v.ownBlock = some b → b ≠ x) (i : Nat) (u : Value) : RowR R (w.setCell ⟨x, i, none⟩ u) (fun _ => False) v L := by
  obtain ⟨qs, ⟨ao, cap, e, hc, hr⟩, hq⟩ := h
  refine ⟨qs, ⟨ao, cap, e, hc, ?_⟩, Hs.mv ⟨by simp, fun b hb _ => hb.elim⟩ _ _ hq⟩
  rcases hr with hr | ⟨b, off, rfl, ⟨h1, hlt⟩, hcells⟩
  · exact .inl hr
  · refine .inr ⟨b, off, rfl, ⟨h1, by simpa using hlt⟩, fun j u' hj => ?_⟩
    rw [World.cell?_of_block (Below.heap_setCell _ _ _ _ (hx b (by rw [e]; rfl)))]
    exact hcells j u' hj
end Go.Proofs.Ytkhdkepjhifffaa.WC
