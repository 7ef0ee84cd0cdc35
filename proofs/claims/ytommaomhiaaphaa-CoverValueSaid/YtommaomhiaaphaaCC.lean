/- Behind a head the rows are of their types again, and there is less; what rows may be handed in, and that they have a type: plainly. -/
import Derived.Test.YtommaomhiaaphaaCB
namespace Go.Proofs.Ytommaomhiaaphaa.CC
open Go.Proofs.Ytommaomhiaaphaa.CA Go.Proofs.Ytommaomhiaaphaa.CB
set_option linter.unusedVariables false
set_option maxRecDepth 100000

theorem heads_conf {C : List Cn} {G : List Ty} {r : List Nd} {ahead : List (List Nd)} {i : Nat} {h : Nd} (M : Mx C G r ahead) (hi : i < r.length) (hh : h ∈ heads C r ahead i) :
    meets (col r i) h = true ∧ ((h = anyNd ∧ anyB (col r i) = true) ∨ (anyB h = false ∧ Conf C (tcol G i) h ∧ (h = col r i ∨ ∃ a, a ∈ ahead ∧ h = col a i))) := by
  have hG : i < G.length := by rw [← M.1.len]; exact hi
  have hrc := (ConfL.split M.1 hi).2.1
  have hac : ∀ a, a ∈ ahead → Conf C (tcol G i) (col a i) := fun a ha => (ConfL.split (M.2.1 a ha) (by rw [(M.2.1 a ha).len]; exact hG)).2.1
  unfold heads at hh
  cases hany : anyB (col r i) with
  | false =>
    rw [hany] at hh
    simp only [Bool.false_eq_true, if_false, List.mem_singleton] at hh
    subst hh
    exact ⟨by simp [meets], .inr ⟨hany, hrc, .inl rfl⟩⟩
  | true =>
    rw [hany] at hh
    simp only [if_true] at hh
    refine ⟨by simp [meets, hany], ?_⟩
    split at hh
    · obtain ⟨hna, a, ha, e⟩ := (headsOf_ok hac).from_ h hh
      exact .inr ⟨hna, by rw [e]; exact hac a ha, .inr ⟨a, ha, e⟩⟩
    · exact .inl ⟨by simpa using hh, rfl⟩
theorem ConfL_rep {C : List Cn} : ∀ (ts : List Ty) (n : Nat), ts.length = n → ConfL C ts (List.replicate n anyNd)
  | [], 0, _ => trivial
  | t :: ts, n + 1, h => ⟨Conf.any t rfl rfl, ConfL_rep ts n (by simpa using h)⟩
  | [], _ + 1, h => by simp at h
  | _ :: _, 0, h => by simp at h
theorem kidsT_len {C : List Cn} {t : Ty} {h : Nd} (hh : Conf C t h) (ha : anyB h = false) : (kidsT t h).length = h.kids.length := by
  rcases Conf.cases hh ha with ⟨e, k1', s0', l0'⟩ | ⟨of', ch', c', e, k5', _⟩
  · rw [e, l0']; rfl
  · rw [e]; simp [kidsT, k5']
theorem parts_conf {C : List Cn} {t : Ty} {p h : Nd} (S : Sound C) (hp : Conf C t p) (hh : Conf C t h) (ha : anyB h = false) (hm : meets p h = true) : ConfL C (kidsT t h) (parts p h) := by
  have hkl := kidsT_len hh ha
  by_cases hany : anyB p = true
  · rw [parts, if_pos hany]
    exact ConfL_rep _ _ hkl
  · have hany : anyB p = false := by simpa using hany
    have hpl := parts_len S hp hh ha hm
    rw [parts, hany] at hpl ⊢
    simp only [Bool.false_eq_true, if_false] at hpl ⊢
    refine ConfL_of _ _ (by rw [hpl, hkl]) fun j t' q ht hq => ?_
    rcases Conf.cases hp hany with ⟨rfl, k1, s0, l0⟩ | ⟨of, ch, c, rfl, k5, n0, hc, hn, ho, hl, hk⟩
    · rw [l0] at hq; simp at hq
    · simp only [meets, hany, Bool.false_or, Bool.and_eq_true, beq_iff_eq] at hm
      have k5h : h.k = 5 := by rw [← hm.1.1, k5]
      simp only [kidsT, k5h, if_true] at ht
      simp only [List.getElem?_map, Option.map_eq_some_iff] at ht
      obtain ⟨j', hj, rfl⟩ := ht
      rw [List.getElem?_range (by have := (List.getElem?_eq_some_iff.1 hj).1; simpa using this)] at hj
      have hj := Option.some.inj hj
      rw [← hj, ← hm.1.2, ← hn]
      exact hk j q hq
theorem rbehind_conf {C : List Cn} {G : List Ty} {a : List Nd} {i : Nat} {h : Nd} (S : Sound C) (hc : ConfL C G a) (hi : i < a.length) (hm : meets (col a i) h = true) (hh : h = anyNd ∨ (anyB h = false ∧ Conf C (tcol G i) h)) : ConfL C (tbehind G i h) (rbehind a i h) := by
  obtain ⟨c1, c2, c3⟩ := ConfL.split hc hi
  have hG : i < G.length := by rw [← hc.len]; exact hi
  have hp : ConfL C (kidsT (tcol G i) h) (parts (col a i) h) := by
    rcases hh with rfl | ⟨ha, hh⟩
    · rw [meets_anyNd c2] at hm
      rw [kidsT_anyNd, parts_anyNd hm]; trivial
    · exact parts_conf S c2 hh ha hm
  unfold tbehind rbehind
  rw [ConfL_app _ _ _ _ (by simp [hp.len]; omega), ConfL_app _ _ _ _ (by simp; omega)]
  exact ⟨⟨c1, hp⟩, c3⟩
theorem good_behind {C : List Cn} {G : List Ty} {i : Nat} {h : Nd} (hg : ∀ t ∈ G, Good C t) (hi : i < G.length) : ∀ t ∈ tbehind G i h, Good C t := by
  intro t ht
  unfold tbehind at ht
  rcases List.mem_append.1 ht with ht | ht
  · rcases List.mem_append.1 ht with ht | ht
    · exact hg t (List.mem_of_mem_take ht)
    · have hgt : Good C (tcol G i) := hg _ (by unfold tcol; rw [List.getD_eq_getElem?_getD, List.getElem?_eq_getElem hi]; exact List.getElem_mem hi)
      unfold kidsT at ht
      split at ht
      · rename_i of ch e
        rw [e] at hgt
        split at ht
        · obtain ⟨j, _, rfl⟩ := List.mem_map.1 ht
          exact hgt.2 _ _
        · cases ht
      · cases ht
  · exact hg t (List.mem_of_mem_drop ht)
theorem Mx.behind {C : List Cn} {G : List Ty} {r : List Nd} {ahead : List (List Nd)} {i : Nat} {h : Nd} (S : Sound C) (M : Mx C G r ahead) (hi : i < r.length) (hh : h ∈ heads C r ahead i) : Mx C (tbehind G i h) (rbehind r i h) (lbehind ahead i h) := by
  have hG : i < G.length := by rw [← M.1.len]; exact hi
  obtain ⟨hm, hcase⟩ := heads_conf M hi hh
  have hcase : h = anyNd ∨ (anyB h = false ∧ Conf C (tcol G i) h) := hcase.imp (fun h => h.1) fun h => ⟨h.1, h.2.1⟩
  refine ⟨rbehind_conf S M.1 hi hm hcase, fun b hb => ?_, good_behind M.2.2 hG⟩
  obtain ⟨a, ha, hma, rfl⟩ := mem_lbehind.1 hb
  exact rbehind_conf S (M.2.1 a ha) (by rw [(M.2.1 a ha).len]; exact hG) hma hcase

/-! ## Less -/
mutual
def cnt : Nd → Nat
  | .mk k n s l => (if k = 24 ∨ k = 4 then 0 else 1) + cntL l
def cntL : List Nd → Nat
  | [] => 0
  | p :: ps => cnt p + cntL ps
end
def cntR : List (List Nd) → Nat
  | [] => 0
  | a :: l => cntL a + cntR l
def meas (r : List Nd) (ahead : List (List Nd)) : Nat := 5 * (cntL r + cntR ahead) + r.length
theorem cnt_no {p : Nd} (h : anyB p = false) : cnt p = 1 + cntL p.kids := by
  obtain ⟨k, n, s, l⟩ := p
  simp [anyB, Nd.k] at h
  simp [cnt, h, Nd.kids]
theorem cntL_app : ∀ (a b : List Nd), cntL (a ++ b) = cntL a + cntL b
  | [], b => by simp [cntL]
  | p :: a, b => by show cnt p + cntL (a ++ b) = _; rw [cntL_app a b]; simp [cntL]; omega
theorem cntL_rep : ∀ n, cntL (List.replicate n anyNd) = 0
  | 0 => rfl
  | n + 1 => by
    show cnt anyNd + cntL (List.replicate n anyNd) = 0
    rw [cntL_rep n]; rfl
theorem cntL_rbehind {r : List Nd} {i : Nat} {h : Nd} (hi : i < r.length) : cntL (rbehind r i h) + (if anyB (col r i) then 0 else 1) ≤ cntL r := by
  have e := congrArg cntL (split_at r i anyNd hi)
  rw [cntL_app] at e
  have e2 : cntL (col r i :: r.drop (i + 1)) = cnt (col r i) + cntL (r.drop (i + 1)) := rfl
  rw [show r.getD i anyNd = col r i from rfl, e2] at e
  unfold rbehind
  rw [cntL_app, cntL_app, parts]
  by_cases hany : anyB (col r i) = true
  · rw [if_pos hany, if_pos hany, cntL_rep]; omega
  · have hany : anyB (col r i) = false := by simpa using hany
    rw [hany]
    simp only [Bool.false_eq_true, if_false]
    rw [cnt_no hany] at e; omega
theorem cntR_lbehind (i : Nat) (h : Nd) : ∀ (rows : List (List Nd)), (∀ a, a ∈ rows → i < a.length) → cntR (lbehind rows i h) ≤ cntR rows
  | [], _ => Nat.le_refl _
  | a :: rows, hl => by
    have ih := cntR_lbehind i h rows fun b hb => hl b (List.mem_cons_of_mem _ hb)
    have ha := cntL_rbehind (h := h) (hl a List.mem_cons_self)
    unfold lbehind at ih ⊢
    rw [List.filter_cons]
    split
    · show cntL (rbehind a i h) + cntR _ ≤ cntL a + cntR rows
      omega
    · show _ ≤ cntL a + cntR rows
      omega
theorem cntR_lt (i : Nat) (h : Nd) : ∀ (rows : List (List Nd)), (∀ a, a ∈ rows → i < a.length) → (∃ a, a ∈ rows ∧ anyB (col a i) = false ∧ meets (col a i) h = true) → cntR (lbehind rows i h) + 1 ≤ cntR rows
  | [], _, hx => by obtain ⟨a, ha, _⟩ := hx; cases ha
  | a :: rows, hl, hx => by
    have ihle := cntR_lbehind i h rows fun b hb => hl b (List.mem_cons_of_mem _ hb)
    have ha := cntL_rbehind (h := h) (hl a List.mem_cons_self)
    by_cases hthis : anyB (col a i) = false ∧ meets (col a i) h = true
    · unfold lbehind at ihle ⊢
      rw [List.filter_cons, if_pos hthis.2]
      rw [hthis.1] at ha
      simp only [Bool.false_eq_true, if_false] at ha
      show cntL (rbehind a i h) + cntR _ + 1 ≤ cntL a + cntR rows
      omega
    · have ih := cntR_lt i h rows (fun b hb => hl b (List.mem_cons_of_mem _ hb)) (by
        obtain ⟨b, hb, hc⟩ := hx
        rcases List.mem_cons.1 hb with rfl | hb
        · exact absurd hc hthis
        · exact ⟨b, hb, hc⟩)
      unfold lbehind at ih ⊢
      rw [List.filter_cons]
      split
      · show cntL (rbehind a i h) + cntR _ + 1 ≤ cntL a + cntR rows
        omega
      · show _ ≤ cntL a + cntR rows
        omega
theorem rbehind_len {C : List Cn} {G : List Ty} {r : List Nd} {i : Nat} {h : Nd} (hi : i < r.length) : (rbehind r i h).length + 1 = r.length + (parts (col r i) h).length := by
  unfold rbehind
  simp; omega
theorem conf_ar {C : List Cn} {t : Ty} {h : Nd} (S : Sound C) (hh : Conf C t h) (ha : anyB h = false) : h.kids.length ≤ 4 := by
  rcases Conf.cases hh ha with ⟨e, k1', s0', l0'⟩ | ⟨of', ch', c', e, k5', n0', hc', hn', ho', hl', hk'⟩
  · rw [l0']; exact Nat.zero_le _
  · rw [hl']; exact S.ar c' hc'
theorem meas_lt {C : List Cn} {G : List Ty} {r : List Nd} {ahead : List (List Nd)} {i : Nat} {h : Nd} (S : Sound C) (M : Mx C G r ahead) (hi : i < r.length) (hh : h ∈ heads C r ahead i) : meas (rbehind r i h) (lbehind ahead i h) < meas r ahead := by
  have hG : i < G.length := by rw [← M.1.len]; exact hi
  obtain ⟨hm, hcase⟩ := heads_conf M hi hh
  have hl : ∀ a, a ∈ ahead → i < a.length := fun a ha => by rw [(M.2.1 a ha).len]; exact hG
  have h1 := cntL_rbehind (h := h) hi
  have h2 := cntR_lbehind i h ahead hl
  have h3 := rbehind_len (C := C) (G := G) (h := h) hi
  unfold meas
  rcases hcase with ⟨rfl, hany⟩ | ⟨ha, hc, hcase⟩
  · rw [parts_anyNd hany] at h3
    simp only [List.length_nil] at h3
    rw [hany] at h1
    simp only [if_true] at h1
    omega
  · have h4 := parts_len S (ConfL.split M.1 hi).2.1 hc ha hm
    have h5 := conf_ar S hc ha
    rcases hcase with e | ⟨a, ham, e⟩
    · rw [← e, ha] at h1
      simp only [Bool.false_eq_true, if_false] at h1
      omega
    · have h6 := cntR_lt i h ahead hl ⟨a, ham, by rw [← e]; exact ha, by rw [← e]; simp [meets]⟩
      omega

/-! ## What may be handed in -/
def numOk (p : Nd) : Bool := p.n == 0 || (p.k == 1 && decide (p.n > 0))
def formedB (C : List Cn) (p : Nd) : Bool :=
  if p.k = 5 then (match conOf C p.s with
    | none => false
    | some c => numOk p && p.kids.length == c.ar)
  else if p.k = 24 ∨ p.k = 1 then (p.s == [] && (numOk p && p.kids.length == 0))
  else if p.k = 4 then (numOk p && p.kids.length == 0) else false
mutual
def room (C : List Cn) : Nd → Int → Int
  | .mk k n s l, m => if formedB C (.mk k n s l) then roomL C l (m - 1) else -1
def roomL (C : List Cn) : List Nd → Int → Int
  | [], m => m
  | p :: ps, m => if m < 0 then m else roomL C ps (room C p m)
end
def zeroCn : Cn := ⟨[], [], 0, 0, 0⟩
mutual
def together (C : List Cn) : Nd → Nd → Bool
  | .mk k n s l, b =>
    if anyB (.mk k n s l) || anyB b then true else if k ≠ b.k then false else if k = 1 then true
    else if ((conOf C s).getD zeroCn).of ≠ ((conOf C b.s).getD zeroCn).of then false
    else if ((conOf C s).getD zeroCn).nm = ((conOf C b.s).getD zeroCn).nm then togL C l b.kids else true
def togL (C : List Cn) : List Nd → List Nd → Bool
  | [], _ => true
  | p :: ps, b => (match b with
    | [] => false
    | q :: qs => together C p q && togL C ps qs)
end
def pairsFrom (C : List Cn) : List Nd → List Nd → Bool
  | _, [] => true
  | done, r :: rest => done.all (fun a => together C a r) && pairsFrom C (done ++ [r]) rest
def mayB (C : List Cn) (rows : List Nd) : Bool := decide (rows.length ≤ 20) && (rows.all (fun r => decide (0 ≤ room C r 30)) && pairsFrom C [] rows)

mutual
def Fm (C : List Cn) : Nd → Prop
  | .mk k n s l => formedB C (.mk k n s l) = true ∧ FmL C l
def FmL (C : List Cn) : List Nd → Prop
  | [] => True
  | p :: ps => Fm C p ∧ FmL C ps
end
theorem roomL_neg {C : List Cn} : ∀ (l : List Nd) (m : Int), m < 0 → roomL C l m < 0
  | [], m, h => h
  | p :: ps, m, h => by simp only [roomL]; rw [if_pos h]; exact h
mutual
theorem room_fm {C : List Cn} : ∀ (p : Nd) (m : Int), 0 ≤ room C p m → Fm C p
  | .mk k n s l, m, h => by
    unfold room at h
    split at h
    · rename_i hf
      exact ⟨hf, roomL_fm l (m - 1) h⟩
    · omega
theorem roomL_fm {C : List Cn} : ∀ (l : List Nd) (m : Int), 0 ≤ roomL C l m → FmL C l
  | [], _, _ => trivial
  | p :: ps, m, h => by
    unfold roomL at h
    split at h
    · omega
    · refine ⟨room_fm p m ?_, roomL_fm ps _ h⟩
      false_or_by_contra
      rename_i hn
      have := roomL_neg (C := C) ps (room C p m) (by omega)
      omega
end
theorem FmL_mem {C : List Cn} : ∀ {l : List Nd}, FmL C l → ∀ p, p ∈ l → Fm C p
  | q :: l, h, p, hp => by
    rcases List.mem_cons.1 hp with rfl | hp
    · exact h.1
    · exact FmL_mem h.2 p hp
theorem Fm.kids {C : List Cn} {p : Nd} (h : Fm C p) : FmL C p.kids := by obtain ⟨k, n, s, l⟩ := p; exact h.2
theorem Fm.formed {C : List Cn} {p : Nd} (h : Fm C p) : formedB C p = true := by obtain ⟨k, n, s, l⟩ := p; exact h.1
theorem Fm.cases {C : List Cn} {p : Nd} (h : Fm C p) : (anyB p = true ∧ p.kids = []) ∨ (p.k = 1 ∧ p.s = [] ∧ p.kids = []) ∨ (p.k = 5 ∧ p.n = 0 ∧ ∃ c, conOf C p.s = some c ∧ c ∈ C ∧ c.nm = p.s ∧ p.kids.length = c.ar) := by
  have hf := h.formed
  unfold formedB at hf
  split at hf
  · rename_i k5
    right; right
    cases hc : conOf C p.s with
    | none => rw [hc] at hf; cases hf
    | some c =>
      rw [hc] at hf
      simp only [Bool.and_eq_true, beq_iff_eq, numOk, Bool.or_eq_true, decide_eq_true_eq] at hf
      refine ⟨k5, ?_, c, rfl, List.mem_of_find?_eq_some hc, by simpa using List.find?_some hc, hf.2⟩
      rcases hf.1 with h | h
      · exact h
      · rw [k5] at h; exact absurd h.1 (by decide)
  · split at hf
    · rename_i k
      simp only [Bool.and_eq_true, beq_iff_eq] at hf
      have hk0 : p.kids = [] := List.eq_nil_of_length_eq_zero hf.2.2
      rcases k with k | k
      · exact .inl ⟨by simp [anyB, k], hk0⟩
      · exact .inr (.inl ⟨k, hf.1, hk0⟩)
    · split at hf
      · rename_i k
        simp only [Bool.and_eq_true, beq_iff_eq] at hf
        exact .inl ⟨by simp [anyB, k], List.eq_nil_of_length_eq_zero hf.2⟩
      · cases hf
/-- What 'together' says of two constructors' patterns. -/
theorem together_con {C : List Cn} {a b : Nd} (ha : a.k = 5) (hb : b.k = 5) {c d : Cn} (hc : conOf C a.s = some c) (hd : conOf C b.s = some d) : together C a b = (c.of == d.of && (!(c.nm == d.nm) || togL C a.kids b.kids)) := by
  obtain ⟨k, n, s, l⟩ := a
  obtain rfl : k = 5 := ha
  have e1 : anyB (.mk 5 n s l) = false := anyB_five rfl
  have e2 := anyB_five hb
  have hs : conOf C s = some c := hc
  unfold together
  simp only [e1, e2, Bool.or_self, Bool.false_eq_true, if_false, hb, hs, hd, Option.getD_some, ne_eq, not_true_eq_false, show ¬ (5 : Int) = 1 from by decide]
  by_cases h1 : c.of = d.of
  · by_cases h2 : c.nm = d.nm
    · simp [h1, h2, Nd.kids]
    · simp [h1, h2]
  · simp [h1]
theorem togL_at {C : List Cn} : ∀ {l m : List Nd}, togL C l m = true → ∀ (i : Nat) p q, l[i]? = some p → m[i]? = some q → together C p q = true
  | p :: l, q :: m, h, 0, p', q', h1, h2 => by
    simp only [togL, Bool.and_eq_true] at h
    simp at h1 h2
    subst h1; subst h2; exact h.1
  | p :: l, q :: m, h, i + 1, p', q', h1, h2 => by
    simp only [togL, Bool.and_eq_true] at h
    exact togL_at h.2 i p' q' (by simpa using h1) (by simpa using h2)
  | [], _, _, i, _, _, h1, _ => by simp at h1
  | _ :: _, [], h, _, _, _, _, _ => by simp [togL] at h
mutual
def sz : Nd → Nat
  | .mk _ _ _ l => 1 + szL l
def szL : List Nd → Nat
  | [] => 0
  | p :: ps => sz p + szL ps
end
theorem sz_kid : ∀ {l : List Nd} {i : Nat} {q : Nd}, l[i]? = some q → sz q ≤ szL l
  | p :: l, 0, q, h => by simp at h; subst h; simp [szL]
  | p :: l, i + 1, q, h => by have := sz_kid (l := l) (i := i) (q := q) (by simpa using h); simp [szL]; omega
  | [], i, q, h => by simp at h
theorem sz_eq (p : Nd) : sz p = 1 + szL p.kids := by obtain ⟨k, n, s, l⟩ := p; rfl
def partsAt (ps : List Nd) (d : By) (i : Nat) : List Nd := ps.filterMap fun p => if p.k = 5 ∧ p.s = d then p.kids[i]? else none
theorem partsAt_sz (d : By) (i : Nat) : ∀ (ps : List Nd), szL (partsAt ps d i) + ps.length ≤ szL ps
  | [] => Nat.le_refl _
  | p :: ps => by
    have ih := partsAt_sz d i ps
    have e := sz_eq p
    unfold partsAt at ih ⊢
    rw [List.filterMap_cons]
    by_cases hp : p.k = 5 ∧ p.s = d
    · rw [if_pos hp]
      cases hq : p.kids[i]? with
      | none => simp only [szL, List.length_cons]; omega
      | some q =>
        have := sz_kid hq
        simp only [szL, List.length_cons]; omega
    · rw [if_neg hp]
      simp only [szL, List.length_cons]; omega
theorem mem_partsAt {ps : List Nd} {d : By} {i : Nat} {q : Nd} : q ∈ partsAt ps d i ↔ ∃ p, p ∈ ps ∧ p.k = 5 ∧ p.s = d ∧ p.kids[i]? = some q := by
  unfold partsAt
  rw [List.mem_filterMap]
  constructor
  · rintro ⟨p, hp, h⟩
    split at h
    · rename_i hc; exact ⟨p, hp, hc.1, hc.2, h⟩
    · cases h
  · rintro ⟨p, hp, h1, h2, h3⟩
    exact ⟨p, hp, by rw [if_pos ⟨h1, h2⟩]; exact h3⟩
/-- What is formed and goes together is of one type. -/
theorem type_of {C : List Cn} (S : Sound C) : ∀ (m : Nat) (ps : List Nd), szL ps ≤ m → (∀ p, p ∈ ps → Fm C p) → (∀ p q, p ∈ ps → q ∈ ps → together C p q = true) → ∃ t, Good C t ∧ ∀ p, p ∈ ps → Conf C t p
  | m, ps, hm, hf, ht => by
    by_cases hall : ∀ p, p ∈ ps → anyB p = true
    · refine ⟨.any, trivial, fun p hp => ⟨hall p hp, ?_⟩⟩
      rcases (hf p hp).cases with h | h | h
      · exact h.2
      · exact h.2.2
      · have := hall p hp; rw [anyB_five h.1] at this; cases this
    · obtain ⟨p0, hp0, hn0⟩ : ∃ p, p ∈ ps ∧ anyB p = false := by
        false_or_by_contra
        rename_i h
        exact hall fun p hp => by
          cases e : anyB p with
          | true => rfl
          | false => exact absurd ⟨p, hp, e⟩ h
      have hkk : ∀ p, p ∈ ps → anyB p = false → p.k = p0.k := fun p hp hn => by
        have := ht p p0 hp hp0
        obtain ⟨k, n, s, l⟩ := p
        unfold together at this
        rw [hn, hn0] at this
        simp only [Bool.or_self, Bool.false_eq_true, if_false] at this
        split at this
        · cases this
        · rename_i h; exact Decidable.not_not.1 h
      rcases (hf p0 hp0).cases with h | h | ⟨k5, n0, c0, hc0, hcm0, hnm0, hl0⟩
      · rw [h.1] at hn0; cases hn0
      · refine ⟨.int, trivial, fun p hp => ?_⟩
        rcases (hf p hp).cases with h2 | h2 | h2
        · exact .inl h2
        · exact .inr h2
        · have := hkk p hp (anyB_five h2.1)
          rw [h2.1, h.1] at this; cases this
      · have hof : ∀ p, p ∈ ps → anyB p = false → ∃ c, p.k = 5 ∧ p.n = 0 ∧ conOf C p.s = some c ∧ c ∈ C ∧ c.nm = p.s ∧ c.of = c0.of ∧ p.kids.length = c.ar := fun p hp hn => by
          have hk := hkk p hp hn
          rcases (hf p hp).cases with h2 | h2 | ⟨k5', n0', c, hc, hcm, hnm, hl⟩
          · rw [h2.1] at hn; cases hn
          · rw [h2.1, k5] at hk; cases hk
          · have := ht p p0 hp hp0
            rw [together_con k5' k5 hc hc0] at this
            simp only [Bool.and_eq_true, beq_iff_eq] at this
            exact ⟨c, k5', n0', hc, hcm, hnm, this.1, hl⟩
        have hpos : 0 < ps.length := List.length_pos_of_mem hp0
        have hsub : ∀ (d : By) (i : Nat), ∃ t, Good C t ∧ ∀ q, q ∈ partsAt ps d i → Conf C t q := fun d i => by
          have hs := partsAt_sz d i ps
          cases m with
          | zero => omega
          | succ m =>
            refine type_of S m (partsAt ps d i) (by omega) (fun q hq => ?_) fun q1 q2 hq1 hq2 => ?_
            · obtain ⟨p, hp, _, _, hk⟩ := mem_partsAt.1 hq
              exact FmL_mem (hf p hp).kids q (List.mem_of_getElem? hk)
            · obtain ⟨p1, hp1, a5, as, ak⟩ := mem_partsAt.1 hq1
              obtain ⟨p2, hp2, b5, bs, bk⟩ := mem_partsAt.1 hq2
              obtain ⟨c1, _, _, e1, _, m1, _⟩ := hof p1 hp1 (anyB_five a5)
              obtain ⟨c2, _, _, e2, _, m2, _⟩ := hof p2 hp2 (anyB_five b5)
              have := ht p1 p2 hp1 hp2
              rw [together_con a5 b5 e1 e2] at this
              have hnm : c1.nm = c2.nm := by rw [m1, m2, as, bs]
              simp only [hnm, beq_self_eq_true, Bool.not_true, Bool.false_or, Bool.and_eq_true] at this
              exact togL_at this.2 i q1 q2 ak bk
        obtain ⟨ch, hch⟩ : ∃ ch : By → Nat → Ty, ∀ d i, Good C (ch d i) ∧ ∀ q, q ∈ partsAt ps d i → Conf C (ch d i) q := ⟨fun d i => Classical.choose (hsub d i), fun d i => Classical.choose_spec (hsub d i)⟩
        refine ⟨.con c0.of ch, ⟨⟨c0, hcm0, rfl⟩, fun d i => (hch d i).1⟩, fun p hp => ?_⟩
        cases e : anyB p with
        | true =>
          refine .inl ⟨e, ?_⟩
          rcases (hf p hp).cases with h2 | h2 | h2
          · exact h2.2
          · exact h2.2.2
          · rw [anyB_five h2.1] at e; cases e
        | false =>
          obtain ⟨c, k5', n0', hc, hcm, hnm, ho, hl⟩ := hof p hp e
          exact .inr ⟨k5', n0', c, hcm, hnm, ho, hl, fun i q hq => (hch c.nm i).2 q (mem_partsAt.2 ⟨p, hp, k5', hnm.symm, hq⟩)⟩
mutual
theorem together_self {C : List Cn} : ∀ (p : Nd), together C p p = true
  | .mk k n s l => by
    unfold together
    simp only [Nd.k, Nd.s, Nd.kids, ne_eq, not_true_eq_false, if_false, if_true, togL_self l]
    split <;> (try rfl)
    split <;> rfl
theorem togL_self {C : List Cn} : ∀ (l : List Nd), togL C l l = true
  | [] => rfl
  | p :: l => by simp [togL, together_self p, togL_self l]
end
end Go.Proofs.Ytommaomhiaaphaa.CC
