/- An instruction where nothing goes is another one: plainly and in memory. -/
import Derived.Test.YtkhdkepjhifffaaWC
namespace Go.Proofs.Ytkhdkepjhifffaa.WE
open Go.RowKit Go.Proofs.Ytkhdkepjhifffaa.RG Go.Proofs.Ytkhdkepjhifffaa.RB Go.Proofs.Ytkhdkepjhifffaa.KA Go.Proofs.Ytkhdkepjhifffaa.KB Go.Proofs.Ytkhdkepjhifffaa.KH Go.Proofs.Ytkhdkepjhifffaa.WA Go.Proofs.Ytkhdkepjhifffaa.WC Go.Proofs.Ytkhdkepjhifffaa.VA Go.Proofs.Ytkhdkepjhifffaa.VM Go.Proofs.Ytkhdkepjhifffaa.VO Go.Proofs.Ytkhdkepjhifffaa.VP Go.Proofs.Ytkhdkepjhifffaa.VX
set_option linter.unusedVariables false
set_option maxRecDepth 100000
set_option maxRecDepth 100000

/-! ## Plainly -/
theorem behind_ok {N k : Nat} {K : Int} {nx nx' : Nat → Sx → Option (List (Nat × Sx))} (h : Ok N K nx) (hk : ∀ s, ¬ Rch nx k s) (hn : ∀ a s, a ≠ k → nx' a s = nx a s) : (∀ a s, Rch nx' a s ↔ Rch nx a s) ∧ Ok N K nx' := by
  have k1 : ∀ a s, Rch nx' a s → Rch nx a s := fun a s hr => by
    induction hr with
    | init => exact .init
    | @step a s l x h1 h2 h3 ih =>
      rw [hn a s (fun e => hk s (by rw [← e]; exact ih))] at h2
      exact .step ih h2 h3
  have k2 : ∀ a s, Rch nx a s → Rch nx' a s := fun a s hr => by
    induction hr with
    | init => exact .init
    | @step a s l x h1 h2 h3 ih =>
      rw [← hn a s (fun e => hk s (by rw [← e]; exact h1))] at h2
      exact .step ih h2 h3
  refine ⟨fun a s => ⟨k1 a s, k2 a s⟩, fun a s hr => ?_, fun a s t h1 h2 => h.2 a s t (k1 a s h1) (k1 a t h2)⟩
  obtain ⟨h1, h2, l, hl⟩ := h.1 a s (k1 a s hr)
  exact ⟨h1, h2, l, by rw [hn a s (fun e => hk s (by rw [← e]; exact k1 a s hr))]; exact hl⟩
theorem rch_gd {c : Cd} {n N : Nat} {f : Bd} {K : Int} (h : Ok N K (goes c n f)) (hK : 0 ≤ K) : ∀ (a : Nat) (s : Sx), Rch (goes c n f) a s → 0 ≤ s.dep := by
  have key : ∀ (a : Nat) (s : Sx), Rch (goes c n f) a s → ∃ M, Gd M K s := fun a s hr => by
    induction hr with
    | init => exact ⟨0, gd_start 0 K⟩
    | step h1 h2 h3 ih =>
      obtain ⟨M, hM⟩ := ih
      exact ⟨M + 1, goes_gd h2 hM (h.1 _ _ h1).2.1 hK _ h3⟩
  intro a s hr
  obtain ⟨M, hM⟩ := key a s hr
  exact hM.1
def withI (f : Bd) (k : Nat) (i : In) : Bd := ⟨f.kept, f.locals, f.stack, f.code.set k i⟩
theorem goes_with {c : Cd} {m n : Nat} {f f' g : Bd} (h : c.funs[m]? = some f) (hk : f'.kept = f.kept) : goes (withF c m f') n g = goes c n g := by
  funext a s
  unfold goes
  cases g.code[a]? with
  | none => rfl
  | some i =>
    show (if rightB (withF c m f') n g i = true ∧ _ then _ else none) = if rightB c n g i = true ∧ _ then _ else none
    rw [withF_right h hk rfl rfl]
theorem goes_behind {c : Cd} {m n k : Nat} {f : Bd} {i : In} (h : c.funs[m]? = some f) {a : Nat} {s : Sx} (ha : a ≠ k) : goes (withF c m (withI f k i)) n (withI f k i) a s = goes c n f a s := by
  unfold goes
  rw [show (withI f k i).code[a]? = f.code[a]? from by unfold withI; simp [List.getElem?_set_ne (Ne.symm ha)]]
  cases f.code[a]? with
  | none => rfl
  | some j =>
    show (if rightB (withF c m (withI f k i)) n (withI f k i) j = true ∧ _ then _ else none) = if rightB c n f j = true ∧ _ then _ else none
    rw [withF_right (f' := withI f k i) (g := f) (g' := withI f k i) h rfl rfl rfl]
theorem may_behind {c : Cd} {m k : Nat} {f : Bd} {i : In} (hm : mayB c = true) (hf : c.funs[m]? = some f) (hi : insOk i = true) : mayB (withF c m (withI f k i)) = true := by
  have hl : (withF c m (withI f k i)).funs.length = c.funs.length := by unfold withF; simp
  have hh : headOk (withF c m (withI f k i)) = headOk c := by unfold headOk; rw [hl]; rfl
  unfold mayB at hm ⊢
  rw [hh]
  simp only [Bool.and_eq_true] at hm ⊢
  refine ⟨⟨hm.1.1, hm.1.2⟩, List.all_eq_true.2 fun x hx => ?_⟩
  rcases List.mem_or_eq_of_mem_set hx with hx | rfl
  · exact List.all_eq_true.1 hm.2 x hx
  · have := List.all_eq_true.1 hm.2 f (List.mem_of_getElem? hf)
    unfold bodyOk at this ⊢
    simp only [Bool.and_eq_true] at this ⊢
    have hc : (withI f k i).code.length = f.code.length := by unfold withI; simp
    refine ⟨⟨⟨this.1.1.1, by rw [hc]; exact this.1.1.2⟩, by rw [hc]; exact this.1.2⟩, List.all_eq_true.2 fun y hy => ?_⟩
    rcases List.mem_or_eq_of_mem_set hy with hy | rfl
    · exact List.all_eq_true.1 this.2 y hy
    · exact hi
/-- What an instruction that is not reached has to do with it: nothing. -/
theorem behind {c : Cd} {m k : Nat} {f : Bd} {i : In} {A : Row} {d : Int} (hm : mayB c = true) (hf : c.funs[m]? = some f) (hA : Ans f.code.length f.stack (goes c m f) (some A)) (hk : (A.map depO)[k]? = some d) (hd : d < 0) (hi : insOk i = true) :
    DepOf (withF c m (withI f k i)) m (A.map depO) ∧ codeN (withF c m (withI f k i)) = codeN c := by
  have hK : 0 ≤ f.stack := by have := (fok_of hm hf).st0; omega
  have hm' := may_behind (k := k) hm hf hi
  have hA0 := hA
  have hc : (withI f k i).code.length = f.code.length := by unfold withI; simp
  cases hA with
  | yes h1 h2 h3 =>
    have hno : ∀ s, ¬ Rch (goes c m f) k s := fun s hr => by
      have e := (h3 k s).1 hr
      rw [List.getElem?_map, e] at hk
      have h0 := rch_gd h2 hK k s hr
      have : s.dep = d := Option.some.inj hk
      omega
    obtain ⟨r1, r2⟩ := behind_ok h2 hno (nx' := goes (withF c m (withI f k i)) m (withI f k i)) (fun a s ha => goes_behind hf ha)
    have hA' : Ans (withI f k i).code.length (withI f k i).stack (goes (withF c m (withI f k i)) m (withI f k i)) (some A) := by
      rw [hc]
      exact .yes h1 r2 fun a s => (r1 a s).trans (h3 a s)
    refine ⟨.inr ⟨m, _, rfl, hm', withF_at hf, .inl ⟨A, hA', rfl⟩⟩, ?_⟩
    have hall : AllOk (withF c m (withI f k i)) ↔ AllOk c := by
      constructor
      · intro h n g hg
        by_cases e : m = n
        · subst e
          rw [hf] at hg; cases hg
          exact h2
        · have := h n g (by rw [withF_ne e]; exact hg)
          rw [goes_with (f' := withI f k i) hf rfl] at this
          exact this
      · intro h n g hg
        by_cases e : m = n
        · subst e
          rw [withF_at hf] at hg; cases hg
          exact ans_yes hA'
        · rw [withF_ne e] at hg
          rw [goes_with (f' := withI f k i) hf rfl]
          exact h n g hg
    by_cases ha : AllOk c
    · rw [codeN_yes hm ha, codeN_yes hm' (hall.2 ha)]
    · rw [codeN_bad hm ha, codeN_bad hm' (fun h => ha (hall.1 h))]
/-! ## In memory -/
theorem Hs_of {α : Type} {R : Ty Try.prog α} {w : World} {S : Nat → Prop} : ∀ (l : List α) (qs : List (List Value)), qs.length = l.length → (∀ (i : Nat) t q, l[i]? = some t → qs[i]? = some q → R.has w S t q) → Hs R w S l qs
  | [], [], _, _ => trivial
  | [], _ :: _, h, _ => by simp at h
  | _ :: _, [], h, _ => by simp at h
  | a :: l, b :: qs, h, hh => ⟨hh 0 a b rfl rfl, Hs_of l qs (by simpa using h) fun i t q h1 h2 => hh (i + 1) t q (by simpa using h1) (by simpa using h2)⟩
theorem rowOf_same : ∀ (L : List Bg) (qs : List (List Value)) (m : Nat) (f f' : Bd) (g : Nat), L[m]? = some (f, g) → f'.kept = f.kept → f'.locals = f.locals → f'.stack = f.stack → rowOf TG (L.set m (f', g)) qs = rowOf TG L qs
  | [], _, _, _, _, _, h, _, _, _ => by simp at h
  | a :: L, [], 0, f, f', g, h, h1, h2, h3 => rfl
  | a :: L, [], m + 1, f, f', g, h, h1, h2, h3 => rfl
  | a :: L, q :: qs, 0, f, f', g, h, h1, h2, h3 => by
    obtain rfl : a = (f, g) := by simpa using h
    show bcells f' q ++ rowOf TG L qs = bcells f q ++ rowOf TG L qs
    unfold bcells
    rw [h1, h2, h3]
  | a :: L, q :: qs, m + 1, f, f', g, h, h1, h2, h3 => by
    show bcells a.1 q ++ rowOf TG (L.set m (f', g)) qs = bcells a.1 q ++ rowOf TG L qs
    rw [rowOf_same L qs m f f' g (by simpa using h) h1 h2 h3]
/-- An instruction's three cells, written. -/
def put3 (w : World) (g o : Nat) (i : In) : World := ((w.setCell ⟨g, o, none⟩ (.int .i64 i.op)).setCell ⟨g, o + 1, none⟩ (.int .i64 i.a)).setCell ⟨g, o + 2, none⟩ (.int .i64 i.b)
theorem bo3 (w : World) (g o : Nat) (i : In) : Bo w.heap.size g w (put3 w g o i) :=
  ((Bo.set _ g w o _).trans (Bo.set _ g _ (o + 1) _)).trans (Bo.set _ g _ (o + 2) _)
theorem size3 (w : World) (g o : Nat) (i : In) : (put3 w g o i).heap.size = w.heap.size := by unfold put3; simp
theorem own3 {w : World} {B g n cap k : Nat} {l : List In} {old i : In} (h : OwnF TN w B (.slice (some ⟨g, 0, none⟩) n cap) l) (hk : l[k]? = some old) : OwnF TN (put3 w g (k * 3) i) B (.slice (some ⟨g, 0, none⟩) n cap) (l.set k i) := by
  have hkl := (List.getElem?_eq_some_iff.1 hk).1
  have t1 := own_set (j := 0) (p := (⟨i.op, old.a, old.b⟩ : In)) (v := .int .i64 i.op) h hk (by decide) (fun q hq => ⟨[], rfl, rfl⟩)
  have t2 := own_set (i := k) (j := 1) (t := (⟨i.op, old.a, old.b⟩ : In)) (p := (⟨i.op, i.a, old.b⟩ : In)) (v := .int .i64 i.a) t1 (by simp [hkl]) (by decide) (fun q hq => ⟨[], rfl, rfl⟩)
  have t3 := own_set (i := k) (j := 2) (t := (⟨i.op, i.a, old.b⟩ : In)) (p := i) (v := .int .i64 i.b) t2 (by simp [hkl]) (by decide) (fun q hq => ⟨[], rfl, rfl⟩)
  rw [List.set_set, List.set_set] at t3
  exact t3
theorem hasG_ne {w w' : World} {S : Nat → Prop} {g : Nat} {a : Bg} {q : List Value} (h : hasG w S a q) (hb : Bo w.heap.size g w w') (hne : a.2 ≠ g) : hasG w' S a q := by
  obtain ⟨q1, rfl, h1, h2⟩ := h
  exact ⟨q1, rfl, own_bo h1 hb fun b e => ⟨(h1.own e).2, by rw [(h2 b e).1]; exact hne⟩, h2⟩
theorem code_form {w : World} {S : Nat → Prop} {f : Bd} {g : Nat} {q : List Value} (h : hasG w S (f, g) q) (h0 : f.code ≠ []) : ∃ cap, q = [.slice (some ⟨g, 0, none⟩) f.code.length cap] ∧ OwnF TN w 0 (.slice (some ⟨g, 0, none⟩) f.code.length cap) f.code ∧ S g ∧ g < w.heap.size := by
  obtain ⟨q1, rfl, h1, h2⟩ := h
  obtain ⟨g', cap, rfl, _, hlt⟩ := own_open h1 h0
  obtain ⟨rfl, hS⟩ := h2 g' rfl
  exact ⟨cap, rfl, h1, hS, hlt⟩
theorem _root_.Go.Proofs.Ytkhdkepjhifffaa.WA.HasG.ins {w : World} {B g k m : Nat} {c : Cd} {L : List Bg} {fv iv tv : Value} {f : Bd} {old i : In} (h : HasG w B c L fv iv tv) (hm : L[m]? = some (f, g)) (hk : f.code[k]? = some old) :
    HasG (put3 w g (k * 3) i) B (withF c m (withI f k i)) (L.set m (withI f k i, g)) fv iv tv := by
  have h0 : f.code ≠ [] := by intro e; rw [e] at hk; simp at hk
  have hbo := bo3 w g (k * 3) i
  have hfb := fun b e => h.funs.own (b := b) e
  obtain ⟨qs, ⟨h1, h2⟩, h3⟩ := h.funs
  obtain ⟨qm, hqm, hg⟩ := Hs_at L qs h3 m (f, g) hm
  obtain ⟨cap, rfl, hown, ⟨hB, hne⟩, hlt⟩ := code_form hg h0
  have hlen : qs.length = L.length := h3.len
  have hO := own3 (i := i) hown hk
  refine ⟨⟨qs, ?_, Hs_of _ _ (by rw [List.length_set]; exact hlen) fun j t q hj hq => ?_⟩, own_bo h.ints hbo fun b e => ⟨(h.ints.own e).2, own_ne h.ints hown (by decide) e rfl⟩, own_bo h.texts hbo fun b e => ⟨(h.texts.own e).2, own_ne h.texts hown (by decide) e rfl⟩, by rw [List.map_set, h.fst]; rfl, sep_snd h.sep (set_snd hm)⟩
  · rw [rowOf_same L qs m f (withI f k i) g hm rfl rfl rfl, List.length_set]
    refine ⟨h1, ?_⟩
    rcases h2 with h2 | ⟨b, cap', cur, hv, hgb, hh, r⟩
    · exact .inl h2
    · exact .inr ⟨b, cap', cur, hv, hgb, by rw [hbo.block b (hfb b (by rw [hv]; rfl)).2 (fun e => hne (by rw [hv, e]; rfl))]; exact hh, r⟩
  · by_cases e : m = j
    · subst e
      rw [List.getElem?_set_self (List.getElem?_eq_some_iff.1 hm).1] at hj
      cases hj
      rw [hqm] at hq
      cases hq
      exact ⟨_, rfl, by rw [show (withI f k i, g).1.code = f.code.set k i from rfl]; exact hO, fun b e => by cases e; exact ⟨rfl, hB, hne⟩⟩
    · rw [List.getElem?_set_ne e] at hj
      obtain ⟨q', hq', hh⟩ := Hs_at L qs h3 j t hj
      rw [hq'] at hq
      cases hq
      exact hasG_ne hh hbo fun e2 => h.sep m j _ _ hm hj e e2.symm
/-- Where a body's code is told, and what can be written there. -/
theorem _root_.Go.Proofs.Ytkhdkepjhifffaa.WA.HasG.cells {w : World} {B g m : Nat} {c : Cd} {L : List Bg} {fv iv tv : Value} {f : Bd} (h : HasG w B c L fv iv tv) (hm : L[m]? = some (f, g)) (h0 : f.code ≠ []) :
    ∃ fb off cap cap', fv = .slice (some ⟨fb, off, none⟩) L.length cap' ∧ w.cell? ⟨fb, off + m * 4 + 3, none⟩ = some (.slice (some ⟨g, 0, none⟩) f.code.length cap) ∧ B ≤ g ∧ g < w.heap.size ∧ (∀ k, k < f.code.length * 3 → ∃ u, w.cell? ⟨g, k, none⟩ = some u ∧ w.frozen? ⟨g, k, none⟩ = false) ∧ fb ≠ g := by
  obtain ⟨qs0, _, h30⟩ := h.funs
  obtain ⟨q0, _, hg0⟩ := Hs_at L qs0 h30 m _ hm
  obtain ⟨_, _, _, hne0, _⟩ := code_form hg0 h0
  obtain ⟨fb, off, cap', hv, _, _, hc⟩ := h.funs.row.open_ (by intro e; rw [e] at hm; simp at hm)
  obtain ⟨q, hL, hg⟩ := hc m _ hm
  obtain ⟨cap, rfl, hown, hB, hlt⟩ := code_form hg h0
  exact ⟨fb, off, cap, cap', hv, hL 3 _ rfl, hB, hlt, (fun k hk => own_cell hown hk), fun e => hne0.2 (by rw [hv, e]; rfl)⟩
end Go.Proofs.Ytkhdkepjhifffaa.WE
