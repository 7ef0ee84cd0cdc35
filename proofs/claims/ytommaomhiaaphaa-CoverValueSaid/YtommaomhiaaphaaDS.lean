/- How many values there may be: plainly. -/
import Derived.Test.YtommaomhiaaphaaDR
namespace Go.Proofs.Ytommaomhiaaphaa.DS
open Go.RowKit Go.Proofs.Ytommaomhiaaphaa.CA Go.Proofs.Ytommaomhiaaphaa.CB Go.Proofs.Ytommaomhiaaphaa.CC Go.Proofs.Ytommaomhiaaphaa.CT Go.Proofs.Ytommaomhiaaphaa.CU Go.Proofs.Ytommaomhiaaphaa.CW Go.Proofs.Ytommaomhiaaphaa.DB Go.Proofs.Ytommaomhiaaphaa.DL Go.Proofs.Ytommaomhiaaphaa.DP
set_option linter.unusedVariables false
set_option maxRecDepth 100000

def gt : List Nat := [1, 3, 5, 10, 16, 31, 51, 101, 161, 311, 511, 1011, 1617, 3132, 5152, 10202, 16262, 31412, 51612, 102112, 163318, 316333, 520353, 1030403, 1642523, 3172823, 5213223, 10314223, 16496635, 31952665, 52560705, 104080805, 165904925, 320465225, 526545625, 1041746625, 1666170237, 3227229267, 5308641307, 10512171407, 16757019647, 32369140247, 53185301047, 105225703047, 168298670271, 325981088331]
def G (s : Nat) : Nat := gt.getD s 0
def tabB : Bool := (List.range 46).all fun s => decide (s + 1 ≤ G s) && decide (G s ≤ 400000000000) && (List.range s).all fun a => decide (2 + G a ≤ G s) && (List.range (s - a)).all fun b => decide (1 + G a * G b ≤ G s)
theorem tab : tabB = true := by kernel_rfl
theorem G_ge {s : Nat} (h : s ≤ 45) : s + 1 ≤ G s ∧ G s ≤ 400000000000 := by
  have := List.all_eq_true.1 tab s (List.mem_range.2 (by omega))
  simp only [Bool.and_eq_true, decide_eq_true_eq] at this
  exact this.1
theorem G_add {s a : Nat} (h : s ≤ 45) (ha : a + 1 ≤ s) : 2 + G a ≤ G s := by
  have := List.all_eq_true.1 tab s (List.mem_range.2 (by omega))
  simp only [Bool.and_eq_true] at this
  have := List.all_eq_true.1 this.2 a (List.mem_range.2 (by omega))
  simp only [Bool.and_eq_true, decide_eq_true_eq] at this
  exact this.1
theorem G_mul {s a b : Nat} (h : s ≤ 45) (ha : a + b + 1 ≤ s) : 1 + G a * G b ≤ G s := by
  have := List.all_eq_true.1 tab s (List.mem_range.2 (by omega))
  simp only [Bool.and_eq_true] at this
  have := List.all_eq_true.1 this.2 a (List.mem_range.2 (by omega))
  simp only [Bool.and_eq_true] at this
  have := List.all_eq_true.1 this.2 b (List.mem_range.2 (by omega))
  simpa using this
/-- How many values a constructor's first so many parts have, at most. -/
def sbF (l : List Nd) (d : By) : Nat → Nat
  | 0 => 1
  | i + 1 => sbF l d i * G (szL (partsAt l d i))
def obF (l : List Nd) (of : By) : List Cn → Nat
  | [] => 0
  | c :: C => (if c.of = of then sbF l c.nm c.ar else 0) + obF l of C
theorem obF_app (l : List Nd) (of : By) : ∀ A B : List Cn, obF l of (A ++ B) = obF l of A + obF l of B
  | [], B => by simp [obF]
  | c :: A, B => by show _ + obF l of (A ++ B) = _; rw [obF_app l of A B]; simp [obF]; omega
theorem obF_snoc {l : List Nd} {of : By} {C : List Cn} {j : Nat} {c : Cn} (h : C[j]? = some c) : obF l of (C.take (j + 1)) = obF l of (C.take j) + (if c.of = of then sbF l c.nm c.ar else 0) := by
  have e : C.take (j + 1) = C.take j ++ [c] := by rw [List.take_add_one, h]; rfl
  rw [e, obF_app]; simp [obF]
theorem obF_take (l : List Nd) (of : By) (C : List Cn) (j : Nat) : obF l of (C.take j) ≤ obF l of C := by
  have h := obF_app l of (C.take j) (C.drop j)
  rw [List.take_append_drop] at h; omega
theorem parts_le (l : List Nd) (d : By) (i : Nat) : szL (partsAt l d i) ≤ szL l := by have := partsAt_sz d i l; omega
theorem sb_pos {l : List Nd} (h : szL l ≤ 45) (d : By) : ∀ i, 1 ≤ sbF l d i
  | 0 => Nat.le_refl _
  | i + 1 => by
    have h1 := sb_pos h d i
    have h2 := (G_ge (Nat.le_trans (parts_le l d i) h)).1
    show 1 ≤ sbF l d i * G (szL (partsAt l d i))
    exact Nat.mul_pos h1 (by omega)
theorem sb_mono {l : List Nd} (h : szL l ≤ 45) (d : By) {i j : Nat} (hij : i ≤ j) : sbF l d i ≤ sbF l d j := by
  induction j with
  | zero => have : i = 0 := by omega
            subst this; exact Nat.le_refl _
  | succ j ih =>
    by_cases e : i = j + 1
    · subst e; exact Nat.le_refl _
    · have h1 := ih (by omega)
      have h2 := (G_ge (Nat.le_trans (parts_le l d j) h)).1
      show sbF l d i ≤ sbF l d j * G (szL (partsAt l d j))
      exact Nat.le_trans h1 (Nat.le_mul_of_pos_right _ (by omega))
theorem ob_mem {l : List Nd} {of : By} : ∀ {C : List Cn} {c : Cn}, c ∈ C → c.of = of → sbF l c.nm c.ar ≤ obF l of C
  | d :: C, c, h, ho => by
    rcases List.mem_cons.1 h with rfl | h
    · simp only [obF, if_pos ho]; omega
    · have := ob_mem (l := l) h ho
      simp only [obF]; omega
theorem parts_two (d : By) : ∀ l : List Nd, szL (partsAt l d 0) + szL (partsAt l d 1) + l.length ≤ szL l
  | [] => Nat.le_refl _
  | p :: l => by
    have ih := parts_two d l
    have hp := sz_eq p
    have hkid : szL (partsAt [p] d 0) + szL (partsAt [p] d 1) ≤ szL p.kids := by
      by_cases h : p.k = 5 ∧ p.s = d
      · unfold partsAt
        simp only [List.filterMap_cons, if_pos h, List.filterMap_nil]
        cases hk : p.kids with
        | nil => simp [szL]
        | cons a r => cases r with
          | nil => simp [szL]
          | cons b r => first | (simp [szL]; done) | (simp [szL]; omega)
      · unfold partsAt
        simp only [List.filterMap_cons, if_neg h, List.filterMap_nil]
        simp [szL]
    have happ : ∀ i, szL (partsAt (p :: l) d i) = szL (partsAt [p] d i) + szL (partsAt l d i) := fun i => by
      have e : partsAt (p :: l) d i = partsAt [p] d i ++ partsAt l d i := by
        show partsAt ([p] ++ l) d i = _
        unfold partsAt; rw [List.filterMap_append]
      rw [e, DF.szL_app]
    rw [happ 0, happ 1]
    simp only [szL, List.length_cons]; omega
theorem ob_le {l : List Nd} {of : By} (h : szL l ≤ 45) (h1 : 1 ≤ l.length) (ho : ∃ c, c ∈ C8 ∧ c.of = of) : obF l of C8 ≤ G (szL l) := by
  obtain ⟨c, hc, rfl⟩ := ho
  have hls : l.length ≤ szL l := DF.len_szL l
  have hg := (G_ge h).1
  have one : ∀ d, szL (partsAt l d 0) + 1 ≤ szL l := fun d => by have := partsAt_sz d 0 l; omega
  have two : ∀ d, szL (partsAt l d 0) + szL (partsAt l d 1) + 1 ≤ szL l := fun d => by have := parts_two d l; omega
  have a1 := fun d => G_add h (one d)
  have a2 := fun d => G_mul h (two d)
  simp only [C8, List.mem_cons, List.not_mem_nil, or_false] at hc
  rcases hc with rfl | rfl | rfl | rfl | rfl | rfl | rfl | rfl
  all_goals
    simp [obF, C8, sbF]
  · omega
  · omega
  · have := a2 [67, 111, 110, 115]; omega
  · have := a2 [67, 111, 110, 115]; omega
  · have := a1 [66]; omega
  · have := a1 [66]; omega
  · have := a1 [66]; omega
  · have := a2 [80]; omega

/-! ## Numbers, and constructors -/
theorem typed_num {C : List Cn} : ∀ (N : Nat) (l : List Nd), (∀ p, p ∈ l → p.k ≠ 5) → ∀ n, Typed C (tyF C N l) (.num n)
  | 0, l, _, n => trivial
  | N + 1, l, h, n => by
    have : l.find? (fun p => p.k == 5) = none := List.find?_eq_none.2 fun p hp => by simpa using h p hp
    unfold tyF
    rw [this]
    simp only
    split
    · exact ⟨n, rfl⟩
    · trivial
theorem ty_con {C : List Cn} {N : Nat} {l : List Nd} {of : By} (h5 : ∀ p, p ∈ l → anyB p = false → p.k = 5 ∧ ofK C p = of) {p : Nd} (hp : p ∈ l) (k5 : p.k = 5) : tyF C (N + 1) l = .con of (fun d i => tyF C N (partsAt l d i)) := by
  cases hf : l.find? (fun p => p.k == 5) with
  | none => have := List.find?_eq_none.1 hf p hp; simp [k5] at this
  | some p1 =>
    have h1 := List.mem_of_find?_eq_some hf
    have k1 : p1.k = 5 := by simpa using List.find?_some hf
    have e : tyF C (N + 1) l = (match l.find? (fun p => p.k == 5) with | some p => .con (ofK C p) (fun d i => tyF C N (partsAt l d i)) | none => if l.any (fun p => p.k == 1) then .int else .any) := rfl
    rw [e, hf]
    simp only
    rw [(h5 p1 h1 (anyB_five k1)).2]
/-- What is known behind so many patterns. -/
def Inv1 (C : List Cn) (l : List Nd) (j : Nat) (o : By) (L : List Vl) : Prop :=
  (∀ x, x ∈ L → ∃ n, x = .num n) ∧ L.length ≤ j ∧ (o = [] → ∀ p, p ∈ l.take j → p.k ≠ 5) ∧ (o ≠ [] → ∃ p, p ∈ l ∧ p.k = 5 ∧ ofK C p = o) ∧ ((∃ p, p ∈ l ∧ p.k = 5) → L = [])
theorem of8 : ∀ c, c ∈ C8 → c.of ≠ [] := by decide
theorem inv1_zero (C : List Cn) (l : List Nd) : Inv1 C l 0 [] [] := ⟨fun x hx => (by cases hx), Nat.le_refl _, fun _ p hp => (by simp at hp), fun h => absurd rfl h, fun _ => rfl⟩
theorem take_snoc {α : Type} {l : List α} {j : Nat} {p : α} (h : l[j]? = some p) : l.take (j + 1) = l.take j ++ [p] := by rw [List.take_add_one, h]; rfl
theorem inv1_any {C : List Cn} {l : List Nd} {j : Nat} {o : By} {L : List Vl} {p : Nd} (h : Inv1 C l j o L) (hp : l[j]? = some p) (hk : p.k ≠ 5) : Inv1 C l (j + 1) o L := by
  refine ⟨h.1, Nat.le_succ_of_le h.2.1, fun ho q hq => ?_, h.2.2.2.1, h.2.2.2.2⟩
  rw [take_snoc hp] at hq
  rcases List.mem_append.1 hq with hq | hq
  · exact h.2.2.1 ho q hq
  · rw [List.mem_singleton.1 hq]; exact hk
theorem inv1_num {C : List Cn} {l : List Nd} {j : Nat} {o : By} {L : List Vl} {p : Nd} (ht : Tg C l) (h : Inv1 C l j o L) (hp : l[j]? = some p) (hk : p.k = 1) (n : Int) : Inv1 C l (j + 1) o (L ++ [.num n]) := by
  have h' := inv1_any h hp (by rw [hk]; decide)
  have hno : ¬ ∃ q, q ∈ l ∧ q.k = 5 := fun ⟨q, hq, k5⟩ => by
    have := (tog_kind (anyB_one hk) (anyB_five k5) (ht p (List.mem_of_getElem? hp) q hq)).1
    rw [hk, k5] at this; cases this
  refine ⟨fun x hx => ?_, by have := h.2.1; simp; omega, h'.2.2.1, h'.2.2.2.1, fun hc => absurd hc hno⟩
  rcases List.mem_append.1 hx with hx | hx
  · exact h.1 x hx
  · exact ⟨n, List.mem_singleton.1 hx⟩
theorem inv1_con {C : List Cn} {l : List Nd} {j : Nat} {o : By} {L : List Vl} {p : Nd} (h : Inv1 C l j o L) (hp : l[j]? = some p) (hk : p.k = 5) (ho : ofK C p ≠ []) : Inv1 C l (j + 1) (ofK C p) L :=
  ⟨h.1, Nat.le_succ_of_le h.2.1, fun e => absurd e ho, fun _ => ⟨p, List.mem_of_getElem? hp, hk, rfl⟩, h.2.2.2.2⟩
/-- Of a constructor, its first so many parts. -/
def Qn (l : List Nd) (N : Nat) (d : By) (i : Nat) (M : List Vl) : Prop := ∀ x, x ∈ M → ∃ ps, x = .con d ps ∧ ps.length = i ∧ ∀ (k : Nat) y, ps[k]? = some y → Typed C8 (tyF C8 N (partsAt l d k)) y
theorem qn_zero (l : List Nd) (N : Nat) (d : By) : Qn l N d 0 [.con d []] := fun x hx => ⟨[], List.mem_singleton.1 hx, rfl, fun k y h => by simp at h⟩
theorem qn_snoc {l : List Nd} {N : Nat} {d : By} {i : Nat} {M : List Vl} {ps : List Vl} {y : Vl} (h : Qn l N d (i + 1) M) (hp : ps.length = i ∧ ∀ (k : Nat) y, ps[k]? = some y → Typed C8 (tyF C8 N (partsAt l d k)) y) (hy : Typed C8 (tyF C8 N (partsAt l d i)) y) : Qn l N d (i + 1) (M ++ [.con d (ps ++ [y])]) := by
  intro x hx
  rcases List.mem_append.1 hx with hx | hx
  · exact h x hx
  · refine ⟨ps ++ [y], List.mem_singleton.1 hx, by simp [hp.1], fun k z hz => ?_⟩
    by_cases hk : k < ps.length
    · rw [List.getElem?_append_left hk] at hz; exact hp.2 k z hz
    · rw [List.getElem?_append_right (by omega)] at hz
      have : k - ps.length = 0 := by
        have := (List.getElem?_eq_some_iff.1 hz).1
        simp at this; omega
      rw [this] at hz
      have hki : k = i := by omega
      subst hki
      simp at hz
      subst hz
      exact hy
theorem qn_typed {l : List Nd} {N : Nat} {of : By} {d : Cn} {M : List Vl} (hd : d ∈ C8) (ho : d.of = of) (h : Qn l N d.nm d.ar M) : ∀ x, x ∈ M → Typed C8 (.con of (fun d i => tyF C8 N (partsAt l d i))) x := by
  intro x hx
  obtain ⟨ps, rfl, hl, hk⟩ := h x hx
  exact ⟨d, ps, hd, ho, rfl, hl, hk⟩
end Go.Proofs.Ytommaomhiaaphaa.DS
