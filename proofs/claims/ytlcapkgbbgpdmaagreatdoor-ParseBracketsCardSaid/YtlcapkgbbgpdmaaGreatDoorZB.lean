/- the mirror is the grammar: several texts in one. -/
import Derived.Test.YtlcapkgbbgpdmaaGreatDoorMS
import Derived.Test.YtlcapkgbbgpdmaaGreatDoorZA

/- Behind a fault nothing of the state changes any more. Nothing of the program is in sight. -/
namespace Go.Proofs.YtlcapkgbbgpdmaaGreatDoor.MT
open Go.Proofs.YtlcapkgbbgpdmaaGreatDoor.TK Go.Proofs.YtlcapkgbbgpdmaaGreatDoor.GR Go.Proofs.YtlcapkgbbgpdmaaGreatDoor.MP Go.Proofs.YtlcapkgbbgpdmaaGreatDoor.MS
set_option linter.unusedVariables false
set_option maxRecDepth 100000

/-- A state that has failed, at the end. -/
structure Stuck (s : St) : Prop where
  e : s.e ≠ 0
  k : s.k = 0
def Sk (R : Part) : Prop := ∀ s, Stuck s → (R s).2 = s
theorem sk_fail {s : St} (h : Stuck s) (e : Nat) : s.fail e = s := if_neg h.e
theorem sk_is {s : St} (h : Stuck s) (w : By) : s.is w = false := by
  cases hi : s.is w with
  | false => rfl
  | true => exact absurd h.k (is_k hi)
theorem sk_expect {s : St} (h : Stuck s) (w : By) : expect w s = s := by
  unfold expect; rw [if_neg (by rw [sk_is h]; decide), sk_fail h]
theorem sk_accept {s : St} (h : Stuck s) (w : By) : accept w s = (false, s) := by
  unfold accept; rw [if_neg (by rw [sk_is h]; decide)]
theorem sk_text {s : St} (h : Stuck s) {k : Nat} (hk : k ≠ 0) : text k s = ([], s) := by
  unfold text; rw [if_neg (by rw [h.k]; exact fun e => hk e.symm), sk_fail h]
theorem sk_word {s : St} (h : Stuck s) : s.word = [] := by
  unfold St.word; rw [if_neg (by rw [h.k]; decide)]
theorem sk_failed (e : Nat) : Sk (failed e) := fun s h => sk_fail h e
theorem sk_brackets {R : Part} (h : Sk R) : Sk (bracketed R) := fun s hs => by
  show expect [41] (R s).2 = s
  rw [h s hs, sk_expect hs]
theorem sk_tyStops {s : St} (h : Stuck s) : tyStops s = false := by unfold tyStops; rw [sk_is h, h.k]; rfl
theorem sk_tyLoop {T : Part} {s : St} (h : Stuck s) : ∀ k n, tyLoop T k n s = (n, s)
  | 0, n => rfl
  | k + 1, n => by unfold tyLoop; rw [if_neg (by rw [sk_tyStops h]; decide)]
theorem sk_tyapp (T : Part) : Sk (tyappP T) := fun s h => by
  unfold tyappP; rw [sk_text h (by decide), sk_tyLoop h]
theorem sk_levT : ∀ g, Sk (levT g)
  | 0 => sk_failed 15
  | g + 1 => sk_tyapp _
theorem sk_list {word : By} {most : Nat} {R : Part} (h : Sk R) {s : St} (hs : Stuck s) : ∀ k l, (listLoop word most R k l s).2 = s
  | 0, l => rfl
  | k + 1, l => by
    unfold listLoop; split
    · exact sk_fail hs 16
    · rw [if_neg (by rw [h s hs, sk_is hs]; decide)]; exact h s hs
theorem sk_def {T : Part} (h : Sk T) : Sk (defP T) := fun s hs => by
  unfold defP
  rw [sk_text hs (by decide), if_neg (by show ¬ s.is wOf = true; rw [sk_is hs]; decide)]
theorem sk_atPatom {s : St} (h : Stuck s) : atPatom s = false := by unfold atPatom; rw [sk_is h, sk_is h, h.k]; rfl
theorem sk_patom (L : Lev) : Sk (patomP L) := fun s h => by
  unfold patomP; rw [if_pos (sk_atPatom h)]; exact sk_fail h 14
theorem sk_pat (L : Lev) : Sk (patP L) := fun s h => by
  unfold patP; rw [if_neg (by rw [h.k]; decide)]; exact sk_patom L s h
theorem sk_atomWord {s : St} (h : Stuck s) : atomWord s.word = 0 := by rw [sk_word h]; rfl
theorem sk_atAtom {s : St} (h : Stuck s) : atAtom s = false := by unfold atAtom; rw [sk_atomWord h, h.k]; rfl
theorem sk_atom (L : Lev) : Sk (atomP L) := fun s h => by
  unfold atomP
  rw [if_neg (by rw [h.k]; decide), sk_atomWord h]
  exact sk_fail h 14
theorem sk_any {s : St} (h : Stuck s) (l : List By) : anyOf l s = false := by
  unfold anyOf
  rw [List.any_eq_false]
  intro w _
  rw [sk_is h]; decide
theorem sk_callLoop {L : Lev} {s : St} (h : Stuck s) : ∀ k n, callLoop L k n s = (n, s)
  | 0, n => rfl
  | k + 1, n => by unfold callLoop; rw [if_neg (by rw [sk_atAtom h]; decide)]
theorem sk_app (L : Lev) : Sk (appP L) := fun s h => by
  unfold appP
  rw [sk_word h, if_neg (by decide), if_neg (by rw [h.k]; decide), sk_atom L s h, sk_callLoop h]
theorem sk_opLoop {l : List By} {R : Part} {s : St} (h : Stuck s) : ∀ k n, opLoop l R k n s = (n, s)
  | 0, n => rfl
  | k + 1, n => by unfold opLoop; rw [if_neg (by rw [sk_any h]; decide)]
theorem sk_prod (L : Lev) : Sk (prodP L) := fun s h => by unfold prodP; rw [sk_app L s h, sk_opLoop h]
theorem sk_sum (L : Lev) : Sk (sumP L) := fun s h => by unfold sumP; rw [sk_prod L s h, sk_opLoop h]
theorem sk_cmp (L : Lev) : Sk (cmpP L) := fun s h => by
  unfold cmpP; rw [sk_sum L s h, if_neg (by rw [sk_any h]; decide)]; exact sk_sum L s h
theorem sk_seq (L : Lev) (j : Bool) : Sk (seqP L j) := fun s h => by
  unfold seqP; rw [sk_cmp L s h, sk_is h, if_neg (by simp)]; exact sk_cmp L s h
structure LSk (L : Lev) : Prop where
  x : ∀ j, Sk (L.x j)
  f : ∀ j, Sk (L.f j)
  y : Sk L.y
theorem sk_rows {L : Lev} (h : LSk L) {s : St} (hs : Stuck s) : ∀ n rows ks, (rowsLoop L n rows ks s).2 = s
  | 0, rows, ks => rfl
  | n + 1, rows, ks => by
    unfold rowsLoop; split
    · split
      · exact sk_fail hs 16
      · rw [sk_expect hs, h.y s hs, sk_expect hs, h.x true s hs]; exact sk_rows h hs n _ _
    · rfl
theorem sk_bind {L : Lev} (h : LSk L) (j : Bool) (a b : Nat) : Sk (bindP L j a b) := fun s hs => by
  unfold bindP
  rw [sk_expect hs, sk_accept hs]
  show (if false = true then L.f j (expect [61] (text 3 s).2) else L.x j (expect [61] (text 3 s).2)).2 = s
  rw [if_neg (by decide), sk_text hs (by decide), sk_expect hs]; exact h.x j s hs
theorem sk_let {L : Lev} (h : LSk L) (j : Bool) : Sk (letP L j) := fun s hs => by
  show (L.x j (expect wIn (bindP L j 8 9 s).2)).2 = s
  rw [sk_bind h j 8 9 s hs, sk_expect hs]; exact h.x j s hs
theorem sk_fun {L : Lev} (h : LSk L) (j : Bool) : Sk (funP L j) := fun s hs => by
  show (L.x j (expect wArrow (text 3 (expect wFun s)).2)).2 = s
  rw [sk_expect hs, sk_text hs (by decide), sk_expect hs]; exact h.x j s hs
theorem sk_exp {L : Lev} (h : LSk L) (j : Bool) : Sk (anyExpP L j) := fun s hs => by
  unfold anyExpP
  rw [sk_word hs, if_neg (by decide), if_neg (by decide), if_neg (by decide)]
  exact sk_seq L j s hs
theorem sk_lev : ∀ g, LSk (lev g)
  | 0 => ⟨fun _ => sk_failed 15, fun _ => sk_failed 15, sk_failed 15⟩
  | g + 1 => ⟨fun j => sk_exp (sk_lev g) j, fun j => sk_fun (sk_lev g) j, sk_pat _⟩
end Go.Proofs.YtlcapkgbbgpdmaaGreatDoor.MT

/- The mirror beside the grammar: what is said of one step. Nothing of the program is in sight. -/
namespace Go.Proofs.YtlcapkgbbgpdmaaGreatDoor.MU
open Go.Proofs.YtlcapkgbbgpdmaaGreatDoor.TK Go.Proofs.YtlcapkgbbgpdmaaGreatDoor.GR Go.Proofs.YtlcapkgbbgpdmaaGreatDoor.MP Go.Proofs.YtlcapkgbbgpdmaaGreatDoor.MS Go.Proofs.YtlcapkgbbgpdmaaGreatDoor.MT
set_option linter.unusedVariables false
set_option maxRecDepth 100000

/-- Tokens with the end at their end, and only there. -/
def Ed : List Tok → Prop
  | [] => False
  | [t] => t.k = 0
  | t :: u :: r => t.k ≠ 0 ∧ Ed (u :: r)
theorem Ed.tail {ts : List Tok} (h : Ed ts) (hk : (hd ts).k ≠ 0) : Ed ts.tail := by
  match ts, h with
  | [t], h => exact absurd h hk
  | t :: u :: r, h => exact h.2
theorem Ed.last : ∀ {ts : List Tok}, Ed ts → (hd (ts.drop (ts.length - 1))).k = 0
  | [t], h => h
  | t :: u :: r, h => by
    have e : (t :: u :: r).drop ((t :: u :: r).length - 1) = (u :: r).drop ((u :: r).length - 1) := by simp
    rw [e]; exact Ed.last h.2
abbrev Cl (ts : List Tok) : St := ⟨ts, 0, 0⟩
/-- The mirror's answer is the grammar's. -/
def Sim {α : Type} (q : α × St) (r : R α) : Prop :=
  match r with
  | .ok a => q = (a.1, Cl a.2) ∧ Ed a.2
  | .error d => Stuck q.2 ∧ q.2.e = d.2 ∧ q.2.p = d.1
theorem sim_ok {α : Type} {a : α} {ts : List Tok} (h : Ed ts) : Sim (a, Cl ts) (.ok (a, ts)) := ⟨rfl, h⟩
theorem sim_fail {α : Type} {a : α} {ts : List Tok} (h : Ed ts) {e : Nat} (he : e ≠ 0) : Sim (a, (Cl ts).fail e) (fail e ts : R α) := by
  have hf : (Cl ts).fail e = ⟨ts.drop (ts.length - 1), e, (hd ts).p⟩ := if_pos rfl
  rw [hf]
  exact ⟨⟨he, h.last⟩, rfl, rfl⟩
theorem sim_bnd {α β : Type} {q : α × St} {r : R α} {f : α → List Tok → R β} (K : α × St → β × St) (h : Sim q r)
    (hk : ∀ a ts, Ed ts → Sim (K (a, Cl ts)) (f a ts)) (hs : ∀ a s, Stuck s → (K (a, s)).2 = s) : Sim (K q) (bnd r f) := by
  cases r with
  | ok a =>
    obtain ⟨h1, h2⟩ := h
    rw [h1]
    exact hk a.1 a.2 h2
  | error d =>
    obtain ⟨h1, h2, h3⟩ := h
    have e : (K q).2 = q.2 := hs q.1 q.2 h1
    exact ⟨by rw [e]; exact h1, by rw [e]; exact h2, by rw [e]; exact h3⟩
theorem sim_text {k : Nat} (hk : k ≠ 0) {ts : List Tok} (h : Ed ts) : Sim (text k (Cl ts)) (txt k ts) := by
  unfold text txt
  by_cases e : (hd ts).k = k
  · rw [if_pos e, if_pos (show (Cl ts).k = k from e)]
    exact sim_ok (h.tail (by omega))
  · rw [if_neg e, if_neg (show ¬ (Cl ts).k = k from e)]
    exact sim_fail h (by decide)
theorem sim_expect (w : By) {ts : List Tok} (h : Ed ts) : Sim ((), expect w (Cl ts)) (want w ts) := by
  unfold expect want
  cases e : isT w ts with
  | true =>
    rw [if_pos (show (Cl ts).is w = true from e), if_pos rfl]
    exact sim_ok (h.tail (is_k (s := Cl ts) (w := w) e))
  | false =>
    rw [if_neg (by rw [show (Cl ts).is w = false from e]; decide), if_neg (by decide)]
    exact sim_fail h (by decide)
/-- Again and again, on both sides. -/
theorem sim_loop {α : Type} (loop : Nat → α → St → α × St) (c : List Tok → Bool) (m : α → St → α × St) (f : α → List Tok → Option (R α)) (P : Nat → α → List Tok → Prop)
    (hno : ∀ k n ts, Ed ts → c ts = false → loop k n (Cl ts) = (n, Cl ts) ∧ f n ts = none)
    (hstk : ∀ k n s, Stuck s → (loop k n s).2 = s)
    (hyes : ∀ k n ts, Ed ts → P k n ts → c ts = true → ∃ k' r, k = k' + 1 ∧ (loop k n (Cl ts)).2 = (loop k' (m n (Cl ts)).1 (m n (Cl ts)).2).2 ∧ (¬ Stuck (m n (Cl ts)).2 → loop k n (Cl ts) = loop k' (m n (Cl ts)).1 (m n (Cl ts)).2) ∧ f n ts = some r ∧ Sim (m n (Cl ts)) r ∧ (∀ a, r = .ok a → a.2.length + 1 ≤ ts.length ∧ P k' a.1 a.2)) :
    ∀ (b k : Nat) (n : α) (ts : List Tok), Ed ts → P k n ts → ts.length ≤ b → Sim (loop k n (Cl ts)) (rep f (b + 1) n ts) := by
  intro b
  induction b with
  | zero =>
    intro k n ts h hP hb
    have : ts = [] := List.eq_nil_of_length_eq_zero (by omega)
    subst this; exact h.elim
  | succ b ih =>
    intro k n ts h hP hb
    cases hc : c ts with
    | false =>
      obtain ⟨h1, h2⟩ := hno k n ts h hc
      rw [h1]
      show Sim _ (match f n ts with | none => .ok (n, ts) | some r => bnd r (rep f (b + 1)))
      rw [h2]
      exact sim_ok h
    | true =>
      obtain ⟨k', r, rfl, h0, h1, h2, h3, h4⟩ := hyes k n ts h hP hc
      show Sim _ (match f n ts with | none => .ok (n, ts) | some r => bnd r (rep f (b + 1)))
      rw [h2]
      show Sim _ (bnd r (rep f (b + 1)))
      cases r with
      | ok a =>
        obtain ⟨g1, g2⟩ := h3
        obtain ⟨g3, g4⟩ := h4 a rfl
        rw [h1 (by rw [g1]; exact fun e => e.e rfl), g1]
        exact ih k' a.1 a.2 g2 g4 (by omega)
      | error d =>
        obtain ⟨g1, g2, g3⟩ := h3
        have e : (loop (k' + 1) n (Cl ts)).2 = (m n (Cl ts)).2 := h0.trans (hstk k' _ _ g1)
        exact ⟨by rw [e]; exact g1, by rw [e]; exact g2, by rw [e]; exact g3⟩
end Go.Proofs.YtlcapkgbbgpdmaaGreatDoor.MU

/- The mirror beside the grammar: types. Nothing of the program is in sight. -/
namespace Go.Proofs.YtlcapkgbbgpdmaaGreatDoor.MV
open Go.Proofs.YtlcapkgbbgpdmaaGreatDoor.TK Go.Proofs.YtlcapkgbbgpdmaaGreatDoor.GR Go.Proofs.YtlcapkgbbgpdmaaGreatDoor.MP Go.Proofs.YtlcapkgbbgpdmaaGreatDoor.MS Go.Proofs.YtlcapkgbbgpdmaaGreatDoor.MT Go.Proofs.YtlcapkgbbgpdmaaGreatDoor.MU
set_option linter.unusedVariables false
set_option maxRecDepth 100000

theorem is_not {ts : List Tok} {w : By} (h : (hd ts).k ≠ 5) (h6 : (hd ts).k ≠ 6) : isT w ts = false := by
  unfold isT; simp [h, h6]
theorem sim_len {α : Type} {q : α × St} {r : R α} (h : Sim q r) : ∀ a, r = .ok a → q.2.ts.length = a.2.length := by
  intro a ha; subst ha; rw [h.1]
/-- The loop over a type's parts, as a row of nodes. -/
def tyK (T : Part) : Nat → List Tree → St → List Tree × St
  | 0, ks, s => (ks, s)
  | k + 1, ks, s => if tyStops s = true then tyK T k (ks ++ [(tyatom T s).1]) (tyatom T s).2 else (ks, s)
theorem tyLoop_eq (T : Part) (t : By) (p : Nat) : ∀ k ks s, tyLoop T k (.node 27 t [] ks 0 p) s = (.node 27 t [] (tyK T k ks s).1 0 p, (tyK T k ks s).2)
  | 0, ks, s => rfl
  | k + 1, ks, s => by
    unfold tyLoop tyK
    split
    · exact tyLoop_eq T t p k _ _
    · rfl
theorem tyK_no {T : Part} {k : Nat} {ks : List Tree} {s : St} (h : tyStops s = false) : tyK T k ks s = (ks, s) := by
  cases k with
  | zero => rfl
  | succ k => unfold tyK; rw [if_neg (by rw [h]; decide)]
theorem tyK_yes {T : Part} {k : Nat} {ks : List Tree} {s : St} (h : tyStops s = true) : tyK T (k + 1) ks s = tyK T k (ks ++ [(tyatom T s).1]) (tyatom T s).2 := by
  conv => lhs; unfold tyK
  rw [if_pos h]
theorem sim_tyatom {T : Part} {T' : List Tok → R Tree} (hT : ∀ ts, Ed ts → Sim (T (Cl ts)) (T' ts)) (ks : List Tree) {ts : List Tok} (h : Ed ts) (hs : tyStops (Cl ts) = true) :
    ∃ r, tyStep T' ks ts = some r ∧ Sim (ks ++ [(tyatom T (Cl ts)).1], (tyatom T (Cl ts)).2) r := by
  by_cases h3 : (hd ts).k = 3
  · refine ⟨.ok (ks ++ [.node 27 (hd ts).t [] [] 0 (hd ts).p], ts.tail), by unfold tyStep; rw [if_pos h3], ?_⟩
    have e : tyatom T (Cl ts) = (.node 27 (hd ts).t [] [] 0 (hd ts).p, Cl ts.tail) := by
      unfold tyatom text
      rw [if_neg (by rw [show (Cl ts).is [40] = false from is_not (by rw [h3]; decide) (by rw [h3]; decide)]; decide), if_pos (show (Cl ts).k = 3 from h3)]
      rfl
    rw [e]
    exact sim_ok (h.tail (by omega))
  · have h4 : isT [40] ts = true := by
      unfold tyStops at hs
      have e3 : decide ((Cl ts).k = 3) = false := decide_eq_false h3
      rw [e3] at hs
      exact hs
    refine ⟨_, by unfold tyStep; rw [if_neg h3, if_pos h4], ?_⟩
    have e : tyatom T (Cl ts) = ((T (Cl ts.tail)).1, expect [41] (T (Cl ts.tail)).2) := by
      unfold tyatom; rw [if_pos (show (Cl ts).is [40] = true from h4)]; rfl
    rw [e]
    have hk : (hd ts).k ≠ 0 := is_k (s := Cl ts) (w := [40]) h4
    exact sim_bnd (fun q => (ks ++ [q.1], expect [41] q.2)) (hT ts.tail (h.tail hk))
      (fun t r hr => sim_bnd (fun q => (ks ++ [t], q.2)) (sim_expect [41] hr) (fun _ r' hr' => sim_ok hr') (fun _ _ _ => rfl))
      (fun _ s hs => sk_expect hs [41])
theorem sim_tys {T : Part} {T' : List Tok → R Tree} (hT : ∀ ts, Ed ts → Sim (T (Cl ts)) (T' ts)) (hS : Sh T) (ks : List Tree) {ts : List Tok} (h : Ed ts) :
    Sim (tyK T ts.length ks (Cl ts)) (reps (tyStep T') ks ts) := by
  refine sim_loop (tyK T) (fun ts => tyStops (Cl ts)) (fun ks s => (ks ++ [(tyatom T s).1], (tyatom T s).2)) (tyStep T') (fun k _ ts => ts.length ≤ k) ?_ ?_ ?_ ts.length ts.length ks ts h (Nat.le_refl _) (Nat.le_refl _)
  · intro k n ts hf hc
    refine ⟨tyK_no hc, ?_⟩
    have hc : (decide ((hd ts).k = 3) || isT [40] ts) = false := hc
    simp only [Bool.or_eq_false_iff, decide_eq_false_iff_not] at hc
    unfold tyStep; rw [if_neg hc.1, if_neg (by rw [hc.2]; decide)]
  · intro k n s hs; rw [tyK_no (sk_tyStops hs)]
  · intro k n ts hf hP hc
    have hpos : 0 < ts.length := by
      cases ts with
      | nil => exact hf.elim
      | cons a r => simp
    obtain ⟨k', rfl⟩ : ∃ k', k = k' + 1 := ⟨k - 1, by omega⟩
    obtain ⟨r, h1, h2⟩ := sim_tyatom hT n hf hc
    refine ⟨k', r, rfl, by rw [tyK_yes hc], fun _ => tyK_yes hc, h1, h2, fun a ha => ?_⟩
    have hl := sim_len h2 a ha
    have hlt := tyatom_lt hS (Cl ts) hc
    have hl : (tyatom T (Cl ts)).2.ts.length = a.2.length := hl
    have hlt : (tyatom T (Cl ts)).2.ts.length + 1 ≤ ts.length := hlt
    exact ⟨by omega, by omega⟩
theorem sim_tyapp : ∀ g ts, Ed ts → Sim (levT g (Cl ts)) (tyapp g ts)
  | 0, ts, h => sim_fail h (by decide)
  | g + 1, ts, h => by
    show Sim (tyLoop (levT g) (text 3 (Cl ts)).2.ts.length (.node 27 (text 3 (Cl ts)).1 [] [] 0 (hd ts).p) (text 3 (Cl ts)).2) (bnd (txt 3 ts) fun s r => bnd (reps (tyStep (tyapp g)) [] r) fun ks r => .ok (.node 27 s [] ks 0 (hd ts).p, r))
    exact sim_bnd (fun q => tyLoop (levT g) q.2.ts.length (Tree.node 27 q.1 [] [] 0 (hd ts).p) q.2) (sim_text (by decide) h)
      (fun t r hr => by
        show Sim (tyLoop (levT g) r.length (.node 27 t [] [] 0 (hd ts).p) (Cl r)) _
        rw [tyLoop_eq]
        exact sim_bnd (fun q => (Tree.node 27 t [] q.1 0 (hd ts).p, q.2)) (sim_tys (fun ts h => sim_tyapp g ts h) (levT_le g) [] hr) (fun ks r' hr' => sim_ok hr') (fun _ _ _ => rfl))
      (fun _ s hs => by
        show (tyLoop (levT g) s.ts.length _ s).2 = s
        rw [sk_tyLoop hs])
end Go.Proofs.YtlcapkgbbgpdmaaGreatDoor.MV

/- The mirror beside the grammar: what stands behind a constructor. Nothing of the program is in sight. -/
namespace Go.Proofs.YtlcapkgbbgpdmaaGreatDoor.MW
open Go.Proofs.YtlcapkgbbgpdmaaGreatDoor.TK Go.Proofs.YtlcapkgbbgpdmaaGreatDoor.GR Go.Proofs.YtlcapkgbbgpdmaaGreatDoor.MP Go.Proofs.YtlcapkgbbgpdmaaGreatDoor.MS Go.Proofs.YtlcapkgbbgpdmaaGreatDoor.MT Go.Proofs.YtlcapkgbbgpdmaaGreatDoor.MU Go.Proofs.YtlcapkgbbgpdmaaGreatDoor.MV
set_option linter.unusedVariables false
set_option maxRecDepth 100000

theorem con_no {more : St → Bool} {Q : Part} {k : Nat} {n : Tree} {s : St} (h : more s = false) : conLoop more Q k n s = (n, s) := by
  cases k with
  | zero => rfl
  | succ k => unfold conLoop; rw [if_neg (by rw [h]; decide)]
theorem con_full {more : St → Bool} {Q : Part} {k : Nat} {n : Tree} {s : St} (h : more s = true) (hn : n.kids.length = 4) : conLoop more Q (k + 1) n s = (zero, s.fail 16) := by
  unfold conLoop; rw [if_pos h, if_pos hn]
theorem con_yes {more : St → Bool} {Q : Part} {k : Nat} {n : Tree} {s : St} (h : more s = true) (hn : n.kids.length ≠ 4) : conLoop more Q (k + 1) n s = conLoop more Q k (n.more (Q s).1) (Q s).2 := by
  conv => lhs; unfold conLoop
  rw [if_pos h, if_neg hn]
theorem more_len (n t : Tree) : (n.more t).kids.length = n.kids.length + 1 := by
  cases n with
  | node k s ns ks m p => show (ks ++ [t]).length = _; simp [Tree.kids]
theorem sim_con {more : St → Bool} {Q : Part} {Z : List Tok → GR.R Tree} {step : Tree → List Tok → Option (GR.R Tree)}
    (hR : ∀ ts, Ed ts → Sim (Q (Cl ts)) (Z ts)) (hlt : ∀ ts, Ed ts → more (Cl ts) = true → (Q (Cl ts)).2.ts.length + 1 ≤ ts.length) (hS : ∀ s, Stuck s → more s = false)
    (hstep : ∀ n ts, step n ts = if more (Cl ts) = true then some (if n.kids.length = 4 then fail 16 ts else bnd (Z ts) fun t r => .ok (n.more t, r)) else none)
    (n : Tree) (hn : n.kids.length = 0) {ts : List Tok} (h : Ed ts) : Sim (conLoop more Q 5 n (Cl ts)) (reps step n ts) := by
  refine sim_loop (conLoop more Q) (fun ts => more (Cl ts)) (fun n s => if n.kids.length = 4 then (zero, s.fail 16) else (n.more (Q s).1, (Q s).2)) step (fun k n _ => n.kids.length + k = 5 ∧ n.kids.length ≤ 4) ?_ ?_ ?_ ts.length 5 n ts h ⟨by omega, by omega⟩ (Nat.le_refl _)
  · intro k n ts hf hc
    exact ⟨con_no hc, by rw [hstep, if_neg (by rw [show more (Cl ts) = false from hc]; decide)]⟩
  · intro k n s hs; rw [con_no (hS s hs)]
  · intro k n ts hf hP hc
    have hc : more (Cl ts) = true := hc
    obtain ⟨k', rfl⟩ : ∃ k', k = k' + 1 := ⟨k - 1, by omega⟩
    by_cases h4 : n.kids.length = 4
    · have hs : Sim ((zero, (Cl ts).fail 16) : Tree × St) (fail 16 ts) := sim_fail hf (by decide)
      have hst : Stuck ((Cl ts).fail 16) := hs.1
      refine ⟨k', fail 16 ts, rfl, ?_, ?_, by rw [hstep, if_pos hc, if_pos h4], ?_, ?_⟩
      · rw [con_full hc h4, if_pos h4, con_no (hS _ hst)]
      · intro hn; rw [if_pos h4] at hn; exact absurd hst hn
      · rw [if_pos h4]; exact hs
      · intro a ha; cases ha
    · have hs : Sim ((n.more (Q (Cl ts)).1, (Q (Cl ts)).2) : Tree × St) (bnd (Z ts) fun t r => .ok (n.more t, r)) :=
        sim_bnd (fun q => (n.more q.1, q.2)) (hR ts hf) (fun t r hr => sim_ok hr) (fun _ _ _ => rfl)
      refine ⟨k', _, rfl, ?_, ?_, by rw [hstep, if_pos hc, if_neg h4], ?_, ?_⟩
      · rw [con_yes hc h4, if_neg h4]
      · intro _; rw [con_yes hc h4, if_neg h4]
      · rw [if_neg h4]; exact hs
      · intro a ha
        rw [ha] at hs
        have e1 : n.more (Q (Cl ts)).1 = a.1 := congrArg Prod.fst hs.1
        have e2 : (Q (Cl ts)).2 = Cl a.2 := congrArg Prod.snd hs.1
        have hl := hlt ts hf hc
        rw [e2] at hl
        have hm := more_len n (Q (Cl ts)).1
        rw [e1] at hm
        exact ⟨hl, by omega, by omega⟩
end Go.Proofs.YtlcapkgbbgpdmaaGreatDoor.MW

/- The mirror beside the grammar: lists, constructors, patterns. Nothing of the program is in sight. -/
namespace Go.Proofs.YtlcapkgbbgpdmaaGreatDoor.MX
open Go.Proofs.YtlcapkgbbgpdmaaGreatDoor.TK Go.Proofs.YtlcapkgbbgpdmaaGreatDoor.GR Go.Proofs.YtlcapkgbbgpdmaaGreatDoor.MP Go.Proofs.YtlcapkgbbgpdmaaGreatDoor.MS Go.Proofs.YtlcapkgbbgpdmaaGreatDoor.MT Go.Proofs.YtlcapkgbbgpdmaaGreatDoor.MU Go.Proofs.YtlcapkgbbgpdmaaGreatDoor.MV Go.Proofs.YtlcapkgbbgpdmaaGreatDoor.MW
set_option linter.unusedVariables false
set_option maxRecDepth 100000

theorem sim_bnd' {α β : Type} {q : α × St} {r : GR.R α} {f : α → List Tok → GR.R β} (K : α × St → β × St) (h : Sim q r)
    (hk : ∀ a ts, q = (a, Cl ts) → r = .ok (a, ts) → Ed ts → Sim (K (a, Cl ts)) (f a ts)) (hs : ∀ a s, Stuck s → (K (a, s)).2 = s) : Sim (K q) (bnd r f) := by
  cases r with
  | ok a =>
    obtain ⟨h1, h2⟩ := h
    have hk := hk a.1 a.2 h1 rfl h2
    rw [h1]
    exact hk
  | error d =>
    obtain ⟨h1, h2, h3⟩ := h
    have e : (K q).2 = q.2 := hs q.1 q.2 h1
    exact ⟨by rw [e]; exact h1, by rw [e]; exact h2, by rw [e]; exact h3⟩
/-- The mirror's answer, where it may be none. -/
def OSim {α : Type} (q : Option α × St) (r : GR.R α) : Prop :=
  match r with
  | .ok a => q = (some a.1, Cl a.2) ∧ Ed a.2
  | .error d => Stuck q.2 ∧ q.2.e = d.2 ∧ q.2.p = d.1
theorem osim_ok {α : Type} {a : α} {ts : List Tok} (h : Ed ts) : OSim (some a, Cl ts) (.ok (a, ts)) := ⟨rfl, h⟩
theorem osim_bnd {α β : Type} {q : Option α × St} {r : GR.R α} {f : α → List Tok → GR.R β} (K : Option α × St → β × St) (h : OSim q r)
    (hk : ∀ a ts, Ed ts → Sim (K (some a, Cl ts)) (f a ts)) (hs : ∀ a s, Stuck s → (K (a, s)).2 = s) : Sim (K q) (bnd r f) := by
  cases r with
  | ok a =>
    obtain ⟨h1, h2⟩ := h
    rw [h1]
    exact hk a.1 a.2 h2
  | error d =>
    obtain ⟨h1, h2, h3⟩ := h
    have e : (K q).2 = q.2 := hs q.1 q.2 h1
    exact ⟨by rw [e]; exact h1, by rw [e]; exact h2, by rw [e]; exact h3⟩
theorem sim_obnd {α β : Type} {q : α × St} {r : GR.R α} {f : α → List Tok → GR.R β} (K : α × St → Option β × St) (h : Sim q r)
    (hk : ∀ a ts, q = (a, Cl ts) → r = .ok (a, ts) → Ed ts → OSim (K (a, Cl ts)) (f a ts)) (hs : ∀ a s, Stuck s → (K (a, s)).2 = s) : OSim (K q) (bnd r f) := by
  cases r with
  | ok a =>
    obtain ⟨h1, h2⟩ := h
    have hk := hk a.1 a.2 h1 rfl h2
    rw [h1]
    exact hk
  | error d =>
    obtain ⟨h1, h2, h3⟩ := h
    have e : (K q).2 = q.2 := hs q.1 q.2 h1
    exact ⟨by rw [e]; exact h1, by rw [e]; exact h2, by rw [e]; exact h3⟩
theorem osim_fail {α : Type} {a : Option α} {ts : List Tok} (h : Ed ts) {e : Nat} (he : e ≠ 0) : OSim (a, (Cl ts).fail e) (fail e ts : GR.R α) :=
  have h := sim_fail (a := ()) h he
  ⟨h.1, h.2.1, h.2.2⟩
/-- Again and again, on both sides, where the mirror's answer may be none. -/
theorem osim_loop {α : Type} (loop : Nat → α → St → Option α × St) (c : List Tok → Bool) (m : α → St → Option α × St) (f : α → List Tok → Option (GR.R α)) (P : Nat → α → List Tok → Prop)
    (hno : ∀ k n ts, Ed ts → P k n ts → c ts = false → loop k n (Cl ts) = (some n, Cl ts) ∧ f n ts = none)
    (hyes : ∀ k n ts, Ed ts → P k n ts → c ts = true → ∃ k' r, f n ts = some r ∧ OSim (m n (Cl ts)) r ∧ (∀ a us, m n (Cl ts) = (some a, Cl us) → loop k n (Cl ts) = loop k' a (Cl us) ∧ us.length + 1 ≤ ts.length ∧ P k' a us) ∧ (Stuck (m n (Cl ts)).2 → (loop k n (Cl ts)).2 = (m n (Cl ts)).2)) :
    ∀ (b k : Nat) (n : α) (ts : List Tok), Ed ts → P k n ts → ts.length ≤ b → OSim (loop k n (Cl ts)) (rep f (b + 1) n ts) := by
  intro b
  induction b with
  | zero =>
    intro k n ts h hP hb
    have : ts = [] := List.eq_nil_of_length_eq_zero (by omega)
    subst this; exact h.elim
  | succ b ih =>
    intro k n ts h hP hb
    cases hc : c ts with
    | false =>
      obtain ⟨h1, h2⟩ := hno k n ts h hP hc
      rw [h1]
      show OSim _ (match f n ts with | none => .ok (n, ts) | some r => bnd r (rep f (b + 1)))
      rw [h2]
      exact osim_ok h
    | true =>
      obtain ⟨k', r, h2, h3, h4, h5⟩ := hyes k n ts h hP hc
      show OSim _ (match f n ts with | none => .ok (n, ts) | some r => bnd r (rep f (b + 1)))
      rw [h2]
      show OSim _ (bnd r (rep f (b + 1)))
      cases r with
      | ok a =>
        obtain ⟨g1, g2⟩ := h3
        obtain ⟨g3, g4, g5⟩ := h4 a.1 a.2 g1
        rw [g3]
        exact ih k' a.1 a.2 g2 g5 (by omega)
      | error d =>
        obtain ⟨g1, g2, g3⟩ := h3
        have e := h5 g1
        exact ⟨by rw [e]; exact g1, by rw [e]; exact g2, by rw [e]; exact g3⟩

-- lists
def lpart (most : Nat) (Z : List Tok → GR.R Tree) (l : List Tree) (ts : List Tok) : GR.R (List Tree) := if l.length = most then fail 16 ts else bnd (Z ts) fun t r => .ok (l ++ [t], r)
def lstep (word : By) (most : Nat) (Z : List Tok → GR.R Tree) (l : List Tree) (ts : List Tok) : Option (GR.R (List Tree)) := if isT word ts = true then some (lpart most Z l ts.tail) else none
/-- What is done behind a part. -/
def lmore (word : By) (most : Nat) (Q : Part) (k : Nat) (l : List Tree) (s : St) : List Tree × St := if s.is word = true then listLoop word most Q k l s.take else (l, s)
theorem list_full {word : By} {most : Nat} {Q : Part} {k : Nat} {l : List Tree} {s : St} (h : l.length = most) : listLoop word most Q (k + 1) l s = ([], s.fail 16) := by
  unfold listLoop; rw [if_pos h]
theorem list_more {word : By} {most : Nat} {Q : Part} {k : Nat} {l : List Tree} {s : St} (h : l.length ≠ most) : listLoop word most Q (k + 1) l s = lmore word most Q k (l ++ [(Q s).1]) (Q s).2 := by
  conv => lhs; unfold listLoop
  rw [if_neg h]; rfl
theorem sim_more {word : By} {most : Nat} {Q : Part} {Z : List Tok → GR.R Tree} (hQ : ∀ ts, Ed ts → Sim (Q (Cl ts)) (Z ts)) (hS : Sh Q) {ts : List Tok} (h : Ed ts) (k : Nat) (l : List Tree) (hP : l.length + k = most + 1 ∧ l.length ≤ most) :
    Sim (lmore word most Q k l (Cl ts)) (reps (lstep word most Z) l ts) := by
  refine sim_loop (lmore word most Q) (fun ts => isT word ts) (fun l s => if l.length = most then ([], s.take.fail 16) else (l ++ [(Q s.take).1], (Q s.take).2)) (lstep word most Z) (fun k l _ => l.length + k = most + 1 ∧ l.length ≤ most) ?_ ?_ ?_ ts.length k l ts h hP (Nat.le_refl _)
  · intro k n ts hf hc
    have hc : isT word ts = false := hc
    exact ⟨by unfold lmore; rw [if_neg (by rw [show (Cl ts).is word = false from hc]; decide)], by unfold lstep; rw [if_neg (by rw [hc]; decide)]⟩
  · intro k n s hs; unfold lmore; rw [if_neg (by rw [sk_is hs]; decide)]
  · intro k n ts hf hP hc
    have hc : isT word ts = true := hc
    have hk0 : (hd ts).k ≠ 0 := is_k (s := Cl ts) (w := word) hc
    have ht := hf.tail hk0
    obtain ⟨k', rfl⟩ : ∃ k', k = k' + 1 := ⟨k - 1, by omega⟩
    have h1 : lmore word most Q (k' + 1) n (Cl ts) = listLoop word most Q (k' + 1) n (Cl ts.tail) := by unfold lmore; rw [if_pos (show (Cl ts).is word = true from hc)]; rfl
    by_cases hm : n.length = most
    · have hs : Sim (([], (Cl ts.tail).fail 16) : List Tree × St) (fail 16 ts.tail : GR.R (List Tree)) := sim_fail ht (by decide)
      have hst : Stuck ((Cl ts.tail).fail 16) := hs.1
      have h2 : lmore word most Q k' [] ((Cl ts.tail).fail 16) = ([], (Cl ts.tail).fail 16) := by unfold lmore; rw [if_neg (by rw [sk_is hst]; decide)]
      refine ⟨k', fail 16 ts.tail, rfl, ?_, ?_, by unfold lstep lpart; rw [if_pos hc, if_pos hm], ?_, ?_⟩
      · rw [h1, list_full hm, if_pos hm]
        show (Cl ts.tail).fail 16 = (lmore word most Q k' [] ((Cl ts.tail).fail 16)).2
        rw [h2]
      · intro hn; rw [if_pos hm] at hn; exact absurd hst hn
      · rw [if_pos hm]; exact hs
      · intro a ha; cases ha
    · have hs : Sim ((n ++ [(Q (Cl ts.tail)).1], (Q (Cl ts.tail)).2) : List Tree × St) (bnd (Z ts.tail) fun t r => .ok (n ++ [t], r)) :=
        sim_bnd (fun q => (n ++ [q.1], q.2)) (hQ ts.tail ht) (fun t r hr => sim_ok hr) (fun _ _ _ => rfl)
      refine ⟨k', _, rfl, ?_, ?_, by unfold lstep lpart; rw [if_pos hc, if_neg hm], ?_, ?_⟩
      · rw [h1, list_more hm, if_neg hm]; rfl
      · intro _; rw [h1, list_more hm, if_neg hm]; rfl
      · rw [if_neg hm]; exact hs
      · intro a ha
        rw [ha] at hs
        have e1 : n ++ [(Q (Cl ts.tail)).1] = a.1 := congrArg Prod.fst hs.1
        have e2 : (Q (Cl ts.tail)).2 = Cl a.2 := congrArg Prod.snd hs.1
        have hl := hS (Cl ts.tail)
        rw [e2] at hl
        have hl : a.2.length ≤ ts.tail.length := hl
        have ht1 := take_lt (s := Cl ts) hk0
        have ht1 : ts.tail.length + 1 ≤ ts.length := ht1
        have hm2 : a.1.length = n.length + 1 := by rw [← e1]; simp
        exact ⟨by omega, by omega, by omega⟩
theorem sim_list {word : By} {most : Nat} (hm : 1 ≤ most) {Q : Part} {Z : List Tok → GR.R Tree} (hQ : ∀ ts, Ed ts → Sim (Q (Cl ts)) (Z ts)) (hS : Sh Q) {ts : List Tok} (h : Ed ts) :
    Sim (list word most Q (Cl ts)) (bnd (lpart most Z [] ts) (reps (lstep word most Z))) := by
  have e : list word most Q (Cl ts) = lmore word most Q most ([] ++ [(Q (Cl ts)).1]) (Q (Cl ts)).2 := by
    unfold list; exact list_more (by show ¬ 0 = most; omega)
  have e2 : lpart most Z [] ts = bnd (Z ts) fun t r => .ok ([] ++ [t], r) := by
    unfold lpart; rw [if_neg (by show ¬ 0 = most; omega)]
  rw [e, e2]
  refine sim_bnd' (q := ([] ++ [(Q (Cl ts)).1], (Q (Cl ts)).2)) (fun q => lmore word most Q most q.1 q.2) (sim_bnd (fun q => ([] ++ [q.1], q.2)) (hQ ts h) (fun t r hr => sim_ok hr) (fun _ _ _ => rfl)) ?_ ?_
  · intro a us e3 e4 hu
    have e5 : [] ++ [(Q (Cl ts)).1] = a := congrArg Prod.fst e3
    exact sim_more hQ hS hu most a ⟨by rw [← e5]; show 1 + most = _; omega, by rw [← e5]; show 1 ≤ _; omega⟩
  · intro a s hs
    show (lmore word most Q most a s).2 = s
    unfold lmore; rw [if_neg (by rw [sk_is hs]; decide)]

-- a constructor of a declaration
theorem conPart_eq : conPart = lpart 4 (tyapp 40) := rfl
theorem conStep_eq : conStep = lstep [44] 4 (tyapp 40) := rfl
theorem sim_def {ts : List Tok} (h : Ed ts) : Sim (defP (levT 40) (Cl ts)) (con ts) := by
  refine sim_bnd (fun q => if q.2.is wOf = true then (Tree.node 26 q.1 [] (list [44] 4 (levT 40) q.2.take).1 0 (hd ts).p, (list [44] 4 (levT 40) q.2.take).2) else (Tree.node 26 q.1 [] [] 0 (hd ts).p, q.2)) (sim_text (by decide) h) ?_ ?_
  · intro s r hr
    show Sim (if (Cl r).is wOf = true then _ else _) _
    by_cases hc : isT wOf r = true
    · rw [if_pos hc, if_pos (show (Cl r).is wOf = true from hc)]
      have ht := hr.tail (is_k (s := Cl r) (w := wOf) hc)
      have hl := sim_list (word := [44]) (most := 4) (by decide) (fun ts h => sim_tyapp 40 ts h) (levT_le 40) ht
      rw [← conPart_eq, ← conStep_eq] at hl
      have hl2 := sim_bnd (f := fun ks r => .ok (Tree.node 26 s [] ks 0 (hd ts).p, r)) (fun q => (Tree.node 26 s [] q.1 0 (hd ts).p, q.2)) hl (fun t r hr => sim_ok hr) (fun _ _ _ => rfl)
      have e : bnd (bnd (conPart [] r.tail) (reps conStep)) (fun ks r => .ok (Tree.node 26 s [] ks 0 (hd ts).p, r)) = bnd (conPart [] r.tail) fun ks r => bnd (reps conStep ks r) fun ks r => .ok (Tree.node 26 s [] ks 0 (hd ts).p, r) := by
        cases conPart [] r.tail with
        | ok a => rfl
        | error d => rfl
      rw [e] at hl2
      exact hl2
    · rw [if_neg hc, if_neg (show ¬ (Cl r).is wOf = true from hc)]
      exact sim_ok hr
  · intro a s hs
    show ((if s.is wOf = true then _ else _) : Tree × St).2 = s
    rw [if_neg (by rw [sk_is hs]; decide)]
end Go.Proofs.YtlcapkgbbgpdmaaGreatDoor.MX

/- The mirror beside the grammar: patterns, atoms. Nothing of the program is in sight. -/
namespace Go.Proofs.YtlcapkgbbgpdmaaGreatDoor.MY
open Go.Proofs.YtlcapkgbbgpdmaaGreatDoor.TK Go.Proofs.YtlcapkgbbgpdmaaGreatDoor.GR Go.Proofs.YtlcapkgbbgpdmaaGreatDoor.MP Go.Proofs.YtlcapkgbbgpdmaaGreatDoor.MS Go.Proofs.YtlcapkgbbgpdmaaGreatDoor.MT Go.Proofs.YtlcapkgbbgpdmaaGreatDoor.MU Go.Proofs.YtlcapkgbbgpdmaaGreatDoor.MV Go.Proofs.YtlcapkgbbgpdmaaGreatDoor.MW Go.Proofs.YtlcapkgbbgpdmaaGreatDoor.MX
set_option linter.unusedVariables false
set_option maxRecDepth 100000

theorem is_eq {ts : List Tok} {a b : By} (h : isT a ts = true) (hb : isT b ts = true) : a = b := by
  simp only [isT, Bool.and_eq_true, decide_eq_true_eq] at h hb
  rw [← h.2, ← hb.2]
theorem is_other {ts : List Tok} {a : By} (b : By) (h : isT a ts = true) (hab : a ≠ b) : isT b ts = false := by
  cases hb : isT b ts with
  | false => rfl
  | true => exact absurd (is_eq h hb) hab
theorem is_k56 {ts : List Tok} {a : By} (h : isT a ts = true) : (hd ts).k = 5 ∨ (hd ts).k = 6 := by
  simp only [isT, Bool.and_eq_true, Bool.or_eq_true, decide_eq_true_eq] at h
  exact h.1
theorem word_eq {ts : List Tok} {a : By} (ha : a ≠ []) : (Cl ts).word = a ↔ isT a ts = true := by
  constructor
  · intro h; exact word_is h ha
  · intro h
    have hk := is_k56 h
    simp only [isT, Bool.and_eq_true, decide_eq_true_eq] at h
    unfold St.word
    rw [if_pos (show (Cl ts).k = 6 ∨ (Cl ts).k = 5 from hk.elim Or.inr Or.inl)]
    exact h.2
theorem leafKind_of {k : Nat} (h : k = 5 ∨ k = 6) : leafKind k = 0 := by rcases h with h | h <;> subst h <;> rfl
theorem leafKind_cases (k : Nat) : (k = 1 ∨ k = 2 ∨ k = 3 ∨ k = 4) ∨ (k ≠ 1 ∧ k ≠ 2 ∧ k ≠ 3 ∧ k ≠ 4 ∧ leafKind k = 0) := by
  by_cases h1 : k = 1
  · exact Or.inl (Or.inl h1)
  · by_cases h2 : k = 2
    · exact Or.inl (Or.inr (Or.inl h2))
    · by_cases h3 : k = 3
      · exact Or.inl (Or.inr (Or.inr (Or.inl h3)))
      · by_cases h4 : k = 4
        · exact Or.inl (Or.inr (Or.inr (Or.inr h4)))
        · exact Or.inr ⟨h1, h2, h3, h4, by unfold leafKind; rw [if_neg h1, if_neg h2, if_neg h3, if_neg h4]⟩
theorem leaf_eq {ts : List Tok} {k j : Nat} (h : (hd ts).k = k) (hj : leafKind k = j) : MP.leaf (Cl ts) = (.node j (hd ts).t [] [] (hd ts).n (hd ts).p, Cl ts.tail) := by
  subst h; subst hj; rfl
theorem sim_leaf {ts : List Tok} (h : Ed ts) {k j : Nat} (hk : (hd ts).k = k) (hj : leafKind k = j) (h0 : k ≠ 0) : Sim (MP.leaf (Cl ts)) (GR.leaf j ts) := by
  rw [leaf_eq hk hj]; exact sim_ok (h.tail (by omega))
/-- A part in brackets. -/
theorem sim_bracketed {Q : Part} {Z : List Tok → GR.R Tree} (hQ : ∀ ts, Ed ts → Sim (Q (Cl ts)) (Z ts)) {ts : List Tok} (h : Ed ts) :
    Sim (bracketed Q (Cl ts)) (bnd (Z ts) fun n r => bnd (want [41] r) fun _ r => .ok (n, r)) :=
  sim_bnd (fun q => (q.1, expect [41] q.2)) (hQ ts h)
    (fun t r hr => sim_bnd (fun q => (t, q.2)) (sim_expect [41] hr) (fun _ r' hr' => sim_ok hr') (fun _ _ _ => rfl))
    (fun _ s hs => sk_expect hs [41])

-- patterns
theorem patBegins_eq (ts : List Tok) : atPatom (Cl ts) = patBegins ts := by
  unfold atPatom patBegins
  show ((decide (leafKind (hd ts).k ≠ 0) && decide (leafKind (hd ts).k ≠ 2)) || (isT [95] ts || isT [40] ts)) = _
  rcases leafKind_cases (hd ts).k with (h | h | h | h) | ⟨h1, h2, h3, h4, h⟩
  · rw [h, is_not (by rw [h]; decide) (by rw [h]; decide), is_not (by rw [h]; decide) (by rw [h]; decide)]; rfl
  · rw [h, is_not (by rw [h]; decide) (by rw [h]; decide), is_not (by rw [h]; decide) (by rw [h]; decide)]; rfl
  · rw [h, is_not (by rw [h]; decide) (by rw [h]; decide), is_not (by rw [h]; decide) (by rw [h]; decide)]; rfl
  · rw [h, is_not (by rw [h]; decide) (by rw [h]; decide), is_not (by rw [h]; decide) (by rw [h]; decide)]; rfl
  · rw [h, decide_eq_false h1, decide_eq_false h3, decide_eq_false h4]
    cases isT [95] ts <;> cases isT [40] ts <;> rfl
theorem sim_patom {L : Lev} {Y : List Tok → GR.R Tree} (hY : ∀ ts, Ed ts → Sim (L.y (Cl ts)) (Y ts)) {ts : List Tok} (h : Ed ts) : Sim (patomP L (Cl ts)) (patom Y ts) := by
  unfold patomP patom
  rw [patBegins_eq]
  by_cases h1 : (hd ts).k = 1
  · have n40 : (Cl ts).is [40] = false := is_not (by rw [h1]; decide) (by rw [h1]; decide)
    have n95 : (Cl ts).is [95] = false := is_not (by rw [h1]; decide) (by rw [h1]; decide)
    rw [if_pos h1, if_neg (by unfold patBegins; rw [h1]; simp), if_neg (show ¬ (Cl ts).is [40] = true by rw [n40]; decide), if_neg (show ¬ (Cl ts).is [95] = true by rw [n95]; decide)]
    exact sim_leaf h h1 rfl (by decide)
  rw [if_neg h1]
  by_cases h3 : (hd ts).k = 3
  · have n40 : (Cl ts).is [40] = false := is_not (by rw [h3]; decide) (by rw [h3]; decide)
    have n95 : (Cl ts).is [95] = false := is_not (by rw [h3]; decide) (by rw [h3]; decide)
    rw [if_pos h3, if_neg (by unfold patBegins; rw [h3]; simp), if_neg (show ¬ (Cl ts).is [40] = true by rw [n40]; decide), if_neg (show ¬ (Cl ts).is [95] = true by rw [n95]; decide)]
    exact sim_leaf h h3 rfl (by decide)
  rw [if_neg h3]
  by_cases h4 : (hd ts).k = 4
  · have n40 : (Cl ts).is [40] = false := is_not (by rw [h4]; decide) (by rw [h4]; decide)
    have n95 : (Cl ts).is [95] = false := is_not (by rw [h4]; decide) (by rw [h4]; decide)
    rw [if_pos h4, if_neg (by unfold patBegins; rw [h4]; simp), if_neg (show ¬ (Cl ts).is [40] = true by rw [n40]; decide), if_neg (show ¬ (Cl ts).is [95] = true by rw [n95]; decide)]
    exact sim_leaf h h4 rfl (by decide)
  rw [if_neg h4]
  by_cases h95 : isT [95] ts = true
  · have n40 : (Cl ts).is [40] = false := is_other [40] h95 (by decide)
    rw [if_pos h95, if_neg (by unfold patBegins; rw [h95]; simp), if_neg (show ¬ (Cl ts).is [40] = true by rw [n40]; decide), if_pos (show (Cl ts).is [95] = true from h95)]
    exact sim_ok (h.tail (is_k (s := Cl ts) (w := [95]) h95))
  rw [if_neg h95]
  by_cases h40 : isT [40] ts = true
  · rw [if_pos h40, if_neg (by unfold patBegins; rw [h40]; simp), if_pos (show (Cl ts).is [40] = true from h40)]
    exact sim_bracketed hY (h.tail (is_k (s := Cl ts) (w := [40]) h40))
  rw [if_neg h40, if_pos (by unfold patBegins; simp [h1, h3, h4, h95, h40])]
  exact sim_fail h (by decide)
theorem patom_lt {L : Lev} (hL : LSh L) {ts : List Tok} (h : patBegins ts = true) : (patomP L (Cl ts)).2.ts.length + 1 ≤ ts.length := by
  unfold patomP
  rw [patBegins_eq, if_neg (by rw [h]; decide)]
  have hk : (hd ts).k ≠ 0 := by
    unfold patBegins at h
    intro e
    have n40 : isT [40] ts = false := is_not (by rw [e]; decide) (by rw [e]; decide)
    have n95 : isT [95] ts = false := is_not (by rw [e]; decide) (by rw [e]; decide)
    rw [n40, n95, e] at h
    exact absurd h (by decide)
  have ht := take_lt (s := Cl ts) hk
  by_cases h40 : (Cl ts).is [40] = true
  · rw [if_pos h40]
    exact Nat.le_trans (Nat.succ_le_succ (bracketed_le hL.y (Cl ts).take)) ht
  · rw [if_neg h40]
    by_cases h95 : (Cl ts).is [95] = true
    · rw [if_pos h95]; exact ht
    · rw [if_neg h95]; exact ht
theorem sim_pat {L : Lev} {Y : List Tok → GR.R Tree} (hL : LSh L) (hY : ∀ ts, Ed ts → Sim (L.y (Cl ts)) (Y ts)) {ts : List Tok} (h : Ed ts) :
    Sim (patP L (Cl ts)) (bnd (patom Y ts) fun n r => if (hd ts).k = 4 then reps (patStep Y) n r else .ok (n, r)) := by
  unfold patP
  by_cases h4 : (hd ts).k = 4
  · rw [if_pos (show (Cl ts).k = 4 from h4)]
    have e : patom Y ts = GR.leaf 5 ts := by
      unfold patom
      rw [if_neg (by omega), if_neg (by omega), if_pos h4]
    rw [e]
    show Sim _ (if (hd ts).k = 4 then _ else _)
    rw [if_pos h4]
    unfold conP
    rw [leaf_eq h4 rfl]
    refine sim_con (Z := patom Y) (fun ts h => sim_patom hY h) (fun ts h hm => patom_lt hL (by rw [← patBegins_eq]; exact hm)) (fun s hs => sk_atPatom hs) ?_ _ rfl (h.tail (by omega))
    intro n ts
    rw [patBegins_eq]; rfl
  · rw [if_neg (show ¬ (Cl ts).k = 4 from h4)]
    have e : (fun (n : Tree) (r : List Tok) => if (hd ts).k = 4 then reps (patStep Y) n r else Except.ok (n, r)) = fun n r => .ok (n, r) := by
      funext n r; rw [if_neg h4]
    rw [e]
    exact sim_bnd (fun q => q) (sim_patom hY h) (fun t r hr => sim_ok hr) (fun _ _ _ => rfl)

-- atoms
/-- The parts of a level beside the grammar's. -/
structure LSim (L : Lev) (X : Bool → List Tok → GR.R Tree) (Y : List Tok → GR.R Tree) (room : Bool) : Prop where
  x : ∀ j ts, Ed ts → Sim (L.x j (Cl ts)) (X (!j) ts)
  y : ∀ ts, Ed ts → Sim (L.y (Cl ts)) (Y ts)
  f : ∀ j ts, Ed ts → Sim (L.f j (Cl ts)) (if isT wFun ts = false ∧ room = true then fail 14 ts else X (!j) ts)
  h : LSh L
  k : LSk L
theorem expect_is {w : By} {ts : List Tok} (h : isT w ts = true) : expect w (Cl ts) = Cl ts.tail := by
  unfold expect; rw [if_pos (show (Cl ts).is w = true from h)]; rfl
theorem Ed.is {w : By} {ts : List Tok} (h : Ed ts) (hi : isT w ts = true) : Ed ts.tail := h.tail (is_k (s := Cl ts) (w := w) hi)
variable {L : Lev} {X : Bool → List Tok → GR.R Tree} {Y : List Tok → GR.R Tree} {room : Bool}
theorem sim_brackets (hL : LSim L X Y room) {ts : List Tok} (h : Ed ts) (hi : isT [40] ts = true) :
    Sim (bracketsP L (Cl ts)) (if isT [41] ts.tail = true then .ok (.node 3 [] [] [] 0 (hd ts).p, ts.tail.tail) else bnd (X false ts.tail) fun x r => bnd (want [41] r) fun _ r => .ok (x, r)) := by
  unfold bracketsP
  rw [expect_is hi]
  have ht := Ed.is h hi
  by_cases hc : isT [41] ts.tail = true
  · rw [if_pos hc, if_pos (show (Cl ts.tail).is [41] = true from hc)]
    exact sim_ok (Ed.is ht hc)
  · rw [if_neg hc, if_neg (show ¬ (Cl ts.tail).is [41] = true from hc)]
    exact sim_bracketed (fun ts h => hL.x true ts h) ht
theorem sim_try (hL : LSim L X Y room) {ts : List Tok} (h : Ed ts) (hi : isT wTry ts = true) :
    Sim (tryP L (Cl ts)) (bnd (X false ts.tail) fun b r => bnd (want wWith r) fun _ r => bnd (txt 3 r) fun s r => bnd (want wArrow r) fun _ r => bnd (X false r) fun h r => bnd (want wEnd r) fun _ r =>
      .ok (.node 12 s [] [b, h] 0 (hd ts).p, r)) := by
  unfold tryP
  rw [expect_is hi]
  have ht := Ed.is h hi
  refine sim_bnd (fun a => ((Tree.node 12 (text 3 (expect wWith a.2)).1 [] [a.1, (L.x true (expect wArrow (text 3 (expect wWith a.2)).2)).1] 0 (hd ts).p, expect wEnd (L.x true (expect wArrow (text 3 (expect wWith a.2)).2)).2) : Tree × St)) (hL.x true ts.tail ht) ?_ ?_
  · intro b r hr
    refine sim_bnd (fun a => ((Tree.node 12 (text 3 a.2).1 [] [b, (L.x true (expect wArrow (text 3 a.2).2)).1] 0 (hd ts).p, expect wEnd (L.x true (expect wArrow (text 3 a.2).2)).2) : Tree × St)) (sim_expect wWith hr) ?_ ?_
    · intro _ r hr
      refine sim_bnd (fun a => ((Tree.node 12 a.1 [] [b, (L.x true (expect wArrow a.2)).1] 0 (hd ts).p, expect wEnd (L.x true (expect wArrow a.2)).2) : Tree × St)) (sim_text (by decide) hr) ?_ ?_
      · intro s r hr
        refine sim_bnd (fun a => ((Tree.node 12 s [] [b, (L.x true a.2).1] 0 (hd ts).p, expect wEnd (L.x true a.2).2) : Tree × St)) (sim_expect wArrow hr) ?_ ?_
        · intro _ r hr
          refine sim_bnd (fun a => ((Tree.node 12 s [] [b, a.1] 0 (hd ts).p, expect wEnd a.2) : Tree × St)) (hL.x true r hr) ?_ ?_
          · intro c r hr
            exact sim_bnd (fun a => ((Tree.node 12 s [] [b, c] 0 (hd ts).p, a.2) : Tree × St)) (sim_expect wEnd hr) (fun _ r hr => sim_ok hr) (fun _ _ _ => rfl)
          · intro _ s hs; exact sk_expect hs _
        · intro _ s hs; show expect wEnd (L.x true s).2 = s; rw [hL.k.x true s hs, sk_expect hs]
      · intro _ s hs; show expect wEnd (L.x true (expect wArrow s)).2 = s; rw [sk_expect hs, hL.k.x true s hs, sk_expect hs]
    · intro _ s hs; show expect wEnd (L.x true (expect wArrow (text 3 s).2)).2 = s; rw [sk_text hs (by decide), sk_expect hs, hL.k.x true s hs, sk_expect hs]
  · intro _ s hs; show expect wEnd (L.x true (expect wArrow (text 3 (expect wWith s)).2)).2 = s; rw [sk_expect hs, sk_text hs (by decide), sk_expect hs, hL.k.x true s hs, sk_expect hs]

-- rows
theorem rows_full {n rows : Nat} {ks : List Tree} {s : St} (h : (decide (rows = 0) || s.is [124]) = true) (hr : rows = 20) : rowsLoop L (n + 1) rows ks s = (none, s.fail 16) := by
  unfold rowsLoop; rw [if_pos h, if_pos hr]
/-- One row. -/
def rowM (L : Lev) (ks : List Tree) (s : St) : List Tree × St :=
  (ks ++ [(L.y (expect [124] s)).1] ++ [(L.x true (expect wArrow (L.y (expect [124] s)).2)).1], (L.x true (expect wArrow (L.y (expect [124] s)).2)).2)
theorem rows_more {n rows : Nat} {ks : List Tree} {s : St} (h : (decide (rows = 0) || s.is [124]) = true) (hr : rows ≠ 20) : rowsLoop L (n + 1) rows ks s = rowsLoop L n (rows + 1) (rowM L ks s).1 (rowM L ks s).2 := by
  conv => lhs; unfold rowsLoop
  rw [if_pos h, if_neg hr]; rfl
theorem sim_row (hL : LSim L X Y room) {ts : List Tok} (h : Ed ts) (ks : List Tree) (hk : ks.length ≠ 41) : Sim (rowM L ks (Cl ts)) (row X Y ks ts) := by
  unfold row rowM
  rw [if_neg hk]
  refine sim_bnd (fun a => ((ks ++ [(L.y a.2).1] ++ [(L.x true (expect wArrow (L.y a.2).2)).1], (L.x true (expect wArrow (L.y a.2).2)).2) : List Tree × St)) (sim_expect [124] h) ?_ ?_
  · intro _ r hr
    refine sim_bnd (fun a => ((ks ++ [a.1] ++ [(L.x true (expect wArrow a.2)).1], (L.x true (expect wArrow a.2)).2) : List Tree × St)) (hL.y r hr) ?_ ?_
    · intro p r hr
      refine sim_bnd (fun a => ((ks ++ [p] ++ [(L.x true a.2).1], (L.x true a.2).2) : List Tree × St)) (sim_expect wArrow hr) ?_ ?_
      · intro _ r hr
        exact sim_bnd (fun a => ((ks ++ [p] ++ [a.1], a.2) : List Tree × St)) (hL.x true r hr) (fun _ r hr => sim_ok hr) (fun _ _ _ => rfl)
      · intro _ s hs; exact hL.k.x true s hs
    · intro _ s hs; show (L.x true (expect wArrow s)).2 = s; rw [sk_expect hs, hL.k.x true s hs]
  · intro _ s hs; show (L.x true (expect wArrow (L.y s).2)).2 = s; rw [hL.k.y s hs, sk_expect hs, hL.k.x true s hs]
theorem row_len (ks : List Tree) (s : St) : (rowM L ks s).1.length = ks.length + 2 := by unfold rowM; simp
theorem osim_of {α : Type} {q : α × St} {r : GR.R α} (h : Sim q r) : OSim (some q.1, q.2) r := by
  cases r with
  | ok a => obtain ⟨h1, h2⟩ := h; rw [h1]; exact ⟨rfl, h2⟩
  | error d => exact h
theorem row_lt (hL : LSh L) {ts : List Tok} (ks : List Tree) (h : isT [124] ts = true) : (rowM L ks (Cl ts)).2.ts.length + 1 ≤ ts.length := by
  have h1 := hL.x true (expect wArrow (L.y (expect [124] (Cl ts))).2)
  have h2 := expect_le wArrow (L.y (expect [124] (Cl ts))).2
  have h3 := hL.y (expect [124] (Cl ts))
  have h4 := expect_lt (w := [124]) (s := Cl ts) h
  exact Nat.le_trans (Nat.succ_le_succ (Nat.le_trans h1 (Nat.le_trans h2 h3))) h4
theorem sim_rows (hL : LSim L X Y room) {ts : List Tok} (h : Ed ts) (k : Nat) (ks : List Tree) (hP : ∃ rows, 1 ≤ rows ∧ ks.length = 1 + 2 * rows ∧ rows + k = 21 ∧ rows ≤ 20) :
    OSim (rowsLoop L k ((ks.length - 1) / 2) ks (Cl ts)) (reps (rowStep X Y) ks ts) := by
  refine osim_loop (fun k ks s => rowsLoop L k ((ks.length - 1) / 2) ks s) (fun ts => isT [124] ts) (fun ks s => if ks.length = 41 then (none, s.fail 16) else (some (rowM L ks s).1, (rowM L ks s).2)) (rowStep X Y)
    (fun k ks _ => ∃ rows, 1 ≤ rows ∧ ks.length = 1 + 2 * rows ∧ rows + k = 21 ∧ rows ≤ 20) ?_ ?_ ts.length k ks ts h hP (Nat.le_refl _)
  · intro k n ts hf hP hc
    have hc : isT [124] ts = false := hc
    refine ⟨?_, by unfold rowStep; rw [if_neg (by rw [hc]; decide)]⟩
    obtain ⟨rows, h1, h2, h3, h4⟩ := hP
    have e : (n.length - 1) / 2 = rows := by omega
    show rowsLoop L k ((n.length - 1) / 2) n (Cl ts) = _
    rw [e]
    cases k with
    | zero => rfl
    | succ k =>
      unfold rowsLoop
      rw [if_neg (by rw [decide_eq_false (by omega : ¬ rows = 0), show (Cl ts).is [124] = false from hc]; decide)]
  · intro k n ts hf hP hc
    have hc : isT [124] ts = true := hc
    obtain ⟨rows, h1, h2, h3, h4⟩ := hP
    obtain ⟨k', rfl⟩ : ∃ k', k = k' + 1 := ⟨k - 1, by omega⟩
    have e : (n.length - 1) / 2 = rows := by omega
    have hgo : (decide (rows = 0) || (Cl ts).is [124]) = true := by rw [show (Cl ts).is [124] = true from hc]; simp
    refine ⟨k', row X Y n ts, by unfold rowStep; rw [if_pos hc], ?_, ?_, ?_⟩
    · by_cases hm : n.length = 41
      · rw [if_pos hm]; unfold row; rw [if_pos hm]; exact osim_fail hf (by decide)
      · rw [if_neg hm]; exact osim_of (sim_row hL hf n hm)
    · intro a us ha
      by_cases hm : n.length = 41
      · rw [if_pos hm] at ha; simp at ha
      · rw [if_neg hm] at ha
        have e1 : (rowM L n (Cl ts)).1 = a := by simpa using congrArg Prod.fst ha
        have e2 : (rowM L n (Cl ts)).2 = Cl us := congrArg Prod.snd ha
        have hl := row_lt hL.h n hc
        have hn := row_len (L := L) n (Cl ts)
        rw [e2] at hl
        rw [e1] at hn
        have hl : us.length + 1 ≤ ts.length := hl
        refine ⟨?_, hl, rows + 1, by omega, by omega, by omega, by omega⟩
        show rowsLoop L (k' + 1) ((n.length - 1) / 2) n (Cl ts) = rowsLoop L k' ((a.length - 1) / 2) a (Cl us)
        rw [e, rows_more hgo (by omega), e1, e2, show (a.length - 1) / 2 = rows + 1 by omega]
    · intro hst
      show (rowsLoop L (k' + 1) ((n.length - 1) / 2) n (Cl ts)).2 = _
      rw [e]
      by_cases hm : n.length = 41
      · rw [rows_full hgo (by omega), if_pos hm]
      · rw [if_neg hm] at hst
        rw [rows_more hgo (by omega), if_neg hm]
        exact sk_rows hL.k hst _ _ _
/-- What is made of the rows. -/
def matchK (p : Nat) (q : Option (List Tree) × St) : Tree × St :=
  match q with
  | (none, r) => (zero, r)
  | (some ks, r) => (.node 11 [] [] ks 0 p, expect wEnd r)
theorem match_eq (s : St) : matchP L s = matchK s.pl (rowsLoop L 21 0 [(L.x true (expect wMatch s)).1] (expect wWith (L.x true (expect wMatch s)).2)) := rfl
theorem sk_matchK (p : Nat) (a : Option (List Tree)) {s : St} (hs : Stuck s) : (matchK p (a, s)).2 = s := by
  cases a with
  | none => rfl
  | some ks => exact sk_expect hs _
theorem sim_match_with (hL : LSim L X Y room) {ts : List Tok} (h : Ed ts) (F G : List Tree → St → Option (List Tree) × St) (hF : ∀ v s, F [v] s = G (rowM L [v] s).1 (rowM L [v] s).2) (hFs : ∀ v s, Stuck s → (F v s).2 = s) (hGs : ∀ v s, Stuck s → (G v s).2 = s)
    (hG : ∀ (ks : List Tree) ts, Ed ts → ks.length = 3 → OSim (G ks (Cl ts)) (reps (rowStep X Y) ks ts)) :
    Sim (matchK (hd ts).p (F [(L.x true (Cl ts.tail)).1] (expect wWith (L.x true (Cl ts.tail)).2))) (bnd (X false ts.tail) fun v r => bnd (want wWith r) fun _ r => bnd (row X Y [v] r) fun ks r => bnd (reps (rowStep X Y) ks r) fun ks r => bnd (want wEnd r) fun _ r =>
      .ok (.node 11 [] [] ks 0 (hd ts).p, r)) ∨ ¬ Ed ts.tail := by
  by_cases ht : Ed ts.tail
  case neg => exact .inr ht
  refine .inl ?_
  have hk : ∀ v s, Stuck s → (matchK (hd ts).p (F v s)).2 = s := fun v s hs => by
    have e := hFs v s hs
    exact (sk_matchK (hd ts).p (F v s).1 (s := (F v s).2) (by rw [e]; exact hs)).trans e
  have hk2 : ∀ v s, Stuck s → (matchK (hd ts).p (G v s)).2 = s := fun v s hs => by
    have e := hGs v s hs
    exact (sk_matchK (hd ts).p (G v s).1 (s := (G v s).2) (by rw [e]; exact hs)).trans e
  refine sim_bnd (fun a => matchK (hd ts).p (F [a.1] (expect wWith a.2))) (hL.x true ts.tail ht) ?_ ?_
  · intro v r hr
    refine sim_bnd (fun a => matchK (hd ts).p (F [v] a.2)) (sim_expect wWith hr) ?_ ?_
    · intro _ r hr
      show Sim (matchK (hd ts).p (F [v] (Cl r))) _
      rw [hF]
      refine sim_bnd' (fun a => matchK (hd ts).p (G a.1 a.2)) (sim_row hL hr [v] (by show ¬ 1 = 41; decide)) ?_ ?_
      · intro ks r' e1 _ hr'
        have hn := row_len (L := L) [v] (Cl r)
        rw [e1] at hn
        refine osim_bnd (matchK (hd ts).p) (hG ks r' hr' hn) ?_ ?_
        · intro ks r hr
          exact sim_bnd (fun a => ((Tree.node 11 [] [] ks 0 (hd ts).p, a.2) : Tree × St)) (sim_expect wEnd hr) (fun _ r hr => sim_ok hr) (fun _ _ _ => rfl)
        · intro a s hs; exact sk_matchK _ a hs
      · intro ks s hs; exact hk2 ks s hs
    · intro _ s hs; exact hk _ s hs
  · intro v s hs
    show (matchK (hd ts).p (F [v] (expect wWith s))).2 = s
    rw [sk_expect hs]; exact hk _ s hs
theorem sim_match (hL : LSim L X Y room) {ts : List Tok} (h : Ed ts) (hi : isT wMatch ts = true) :
    Sim (matchP L (Cl ts)) (bnd (X false ts.tail) fun v r => bnd (want wWith r) fun _ r => bnd (row X Y [v] r) fun ks r => bnd (reps (rowStep X Y) ks r) fun ks r => bnd (want wEnd r) fun _ r =>
      .ok (.node 11 [] [] ks 0 (hd ts).p, r)) := by
  rw [match_eq, expect_is hi]
  refine (sim_match_with hL h (rowsLoop L 21 0) (rowsLoop L 20 1) (fun v s => rows_more (by simp) (by decide)) (fun v s hs => sk_rows hL.k hs _ _ _) (fun v s hs => sk_rows hL.k hs _ _ _) ?_).resolve_right (fun hn => hn (Ed.is h hi))
  intro ks ts h hn
  have hrow := sim_rows hL h 20 ks ⟨1, by omega, by omega, by omega, by omega⟩
  rw [show (ks.length - 1) / 2 = 1 by omega] at hrow
  exact hrow

theorem atomWord_eq (ts : List Tok) : atomWord (Cl ts).word = if isT [40] ts = true then 1 else if isT wRetry ts = true then 2 else if isT wMatch ts = true then 3 else if isT wTry ts = true then 4 else 0 := by
  unfold atomWord
  simp only [word_eq (ts := ts) (a := [40]) (by decide), word_eq (ts := ts) (a := wRetry) (by decide), word_eq (ts := ts) (a := wMatch) (by decide), word_eq (ts := ts) (a := wTry) (by decide)]
theorem begins_eq (ts : List Tok) : atAtom (Cl ts) = begins ts := by
  unfold atAtom begins
  rw [atomWord_eq]
  show (decide (leafKind (hd ts).k ≠ 0) || _) = _
  rcases leafKind_cases (hd ts).k with (h | h | h | h) | ⟨h1, h2, h3, h4, h⟩
  · rw [h]; simp [leafKind]
  · rw [h]; simp [leafKind]
  · rw [h]; simp [leafKind]
  · rw [h]; simp [leafKind]
  · rw [h, decide_eq_false h1, decide_eq_false h2, decide_eq_false h3, decide_eq_false h4]
    cases isT [40] ts <;> cases isT wRetry ts <;> cases isT wMatch ts <;> cases isT wTry ts <;> rfl
theorem sim_atom (hL : LSim L X Y room) {ts : List Tok} (h : Ed ts) : Sim (atomP L (Cl ts)) (atom X Y ts) := by
  rcases leafKind_cases (hd ts).k with (hk | hk | hk | hk) | ⟨h1, h2, h3, h4, hk⟩
  · unfold atomP atom
    rw [if_pos (show leafKind (Cl ts).k ≠ 0 by rw [show (Cl ts).k = _ from hk]; decide), if_pos hk]; exact sim_leaf h hk rfl (by decide)
  · unfold atomP atom
    rw [if_pos (show leafKind (Cl ts).k ≠ 0 by rw [show (Cl ts).k = _ from hk]; decide), if_neg (by omega), if_pos hk]; exact sim_leaf h hk rfl (by decide)
  · unfold atomP atom
    rw [if_pos (show leafKind (Cl ts).k ≠ 0 by rw [show (Cl ts).k = _ from hk]; decide), if_neg (by omega), if_neg (by omega), if_pos hk]; exact sim_leaf h hk rfl (by decide)
  · unfold atomP atom
    rw [if_pos (show leafKind (Cl ts).k ≠ 0 by rw [show (Cl ts).k = _ from hk]; decide), if_neg (by omega), if_neg (by omega), if_neg (by omega), if_pos hk]; exact sim_leaf h hk rfl (by decide)
  · have hnk : ¬ leafKind (Cl ts).k ≠ 0 := by rw [show leafKind (Cl ts).k = 0 from hk]; decide
    by_cases c1 : isT wRetry ts = true
    · have hw : atomWord (Cl ts).word = 2 := by rw [atomWord_eq, is_other [40] c1 (by decide), if_neg (by decide), if_pos c1]
      unfold atomP atom
      rw [if_neg hnk, hw, if_neg h1, if_neg h2, if_neg h3, if_neg h4, if_pos c1]
      exact sim_ok (Ed.is h c1)
    by_cases c2 : isT [40] ts = true
    · have hw : atomWord (Cl ts).word = 1 := by rw [atomWord_eq, if_pos c2]
      unfold atomP atom
      rw [if_neg hnk, hw, if_neg h1, if_neg h2, if_neg h3, if_neg h4, if_neg c1, if_pos c2]
      exact sim_brackets hL h c2
    by_cases c3 : isT wTry ts = true
    · have hw : atomWord (Cl ts).word = 4 := by rw [atomWord_eq, if_neg c2, if_neg c1, is_other wMatch c3 (by decide), if_neg (by decide), if_pos c3]
      unfold atomP atom
      rw [if_neg hnk, hw, if_neg h1, if_neg h2, if_neg h3, if_neg h4, if_neg c1, if_neg c2, if_pos c3]
      exact sim_try hL h c3
    by_cases c4 : isT wMatch ts = true
    · have hw : atomWord (Cl ts).word = 3 := by rw [atomWord_eq, if_neg c2, if_neg c1, if_pos c4]
      unfold atomP atom
      rw [if_neg hnk, hw, if_neg h1, if_neg h2, if_neg h3, if_neg h4, if_neg c1, if_neg c2, if_neg c3, if_pos c4]
      exact sim_match hL h c4
    have hw : atomWord (Cl ts).word = 0 := by rw [atomWord_eq, if_neg c2, if_neg c1, if_neg c4, if_neg c3]
    unfold atomP atom
    rw [if_neg hnk, hw, if_neg h1, if_neg h2, if_neg h3, if_neg h4, if_neg c1, if_neg c2, if_neg c3, if_neg c4]
    exact sim_fail h (by decide)
end Go.Proofs.YtlcapkgbbgpdmaaGreatDoor.MY

/- The mirror beside the grammar: apps, signs, exps. Nothing of the program is in sight. -/
namespace Go.Proofs.YtlcapkgbbgpdmaaGreatDoor.MZ
open Go.Proofs.YtlcapkgbbgpdmaaGreatDoor.TK Go.Proofs.YtlcapkgbbgpdmaaGreatDoor.GR Go.Proofs.YtlcapkgbbgpdmaaGreatDoor.MP Go.Proofs.YtlcapkgbbgpdmaaGreatDoor.MS Go.Proofs.YtlcapkgbbgpdmaaGreatDoor.MT Go.Proofs.YtlcapkgbbgpdmaaGreatDoor.MU Go.Proofs.YtlcapkgbbgpdmaaGreatDoor.MV Go.Proofs.YtlcapkgbbgpdmaaGreatDoor.MW Go.Proofs.YtlcapkgbbgpdmaaGreatDoor.MX Go.Proofs.YtlcapkgbbgpdmaaGreatDoor.MY
set_option linter.unusedVariables false
set_option maxRecDepth 100000

variable {L : Lev} {X : Bool → List Tok → GR.R Tree} {Y : List Tok → GR.R Tree} {room : Bool}
theorem find_congr {α : Type} {p q : α → Bool} : ∀ {l : List α}, (∀ c ∈ l, p c = q c) → l.find? p = l.find? q
  | [], _ => rfl
  | a :: l, h => by
    rw [List.find?_cons, List.find?_cons, h a (by simp), find_congr (l := l) fun c hc => h c (by simp [hc])]
theorem is_word {ts : List Tok} {a : By} (ha : a ≠ []) : isT a ts = decide (a = (Cl ts).word) := by
  have h := word_eq (ts := ts) ha
  cases hi : isT a ts with
  | true => rw [h.2 hi]; simp
  | false =>
    have : ¬ (a = (Cl ts).word) := fun e => by rw [h.1 e.symm] at hi; cases hi
    rw [decide_eq_false this]
theorem calls_word : ∀ c ∈ calls, c.1 ≠ [] := by decide
theorem calls_kind : ∀ c ∈ calls, c.2.1 ≠ 0 := by decide
theorem callOf_eq (ts : List Tok) : callOf ts = calls.find? fun c => decide (c.1 = (Cl ts).word) :=
  find_congr fun c hc => is_word (calls_word c hc)
theorem keyed_none {ts : List Tok} (h : callOf ts = none) : keyed (Cl ts).word = (0, 0) := by
  unfold keyed; rw [← callOf_eq, h]
theorem keyed_some {ts : List Tok} {c : By × Nat × Bool} (h : callOf ts = some c) : keyed (Cl ts).word = (c.2.1, if c.2.2 = true then 2 else 1) := by
  unfold keyed; rw [← callOf_eq, h]
theorem call_mem {ts : List Tok} {c : By × Nat × Bool} (h : callOf ts = some c) : c ∈ calls ∧ isT c.1 ts = true := by
  unfold callOf at h
  exact ⟨List.mem_of_find?_eq_some h, by simpa using List.find?_some h⟩

theorem call_no {k : Nat} {n : Tree} {s : St} (h : atAtom s = false) : callLoop L k n s = (n, s) := by
  cases k with
  | zero => rfl
  | succ k => unfold callLoop; rw [if_neg (by rw [h]; decide)]
theorem call_yes {k : Nat} {n : Tree} {s : St} (h : atAtom s = true) : callLoop L (k + 1) n s = callLoop L k (.node 7 [] [] [n, (atomP L s).1] 0 n.pl) (atomP L s).2 := by
  conv => lhs; unfold callLoop
  rw [if_pos h]
theorem pos_of {ts : List Tok} (h : Ed ts) : 0 < ts.length := by
  cases ts with
  | nil => exact h.elim
  | cons a r => simp
theorem sim_calls (hL : LSim L X Y room) (n : Tree) {ts : List Tok} (h : Ed ts) (k : Nat) (hk : ts.length ≤ k) : Sim (callLoop L k n (Cl ts)) (reps (callStep X Y) n ts) := by
  refine sim_loop (callLoop L) (fun ts => begins ts) (fun n s => (.node 7 [] [] [n, (atomP L s).1] 0 n.pl, (atomP L s).2)) (callStep X Y) (fun k _ ts => ts.length ≤ k) ?_ ?_ ?_ ts.length k n ts h hk (Nat.le_refl _)
  · intro k n ts hf hc
    have hc : begins ts = false := hc
    exact ⟨call_no (by rw [begins_eq]; exact hc), by unfold callStep; rw [if_neg (by rw [hc]; decide)]⟩
  · intro k n s hs; rw [call_no (sk_atAtom hs)]
  · intro k n ts hf hP hc
    have hc : begins ts = true := hc
    have hc2 : atAtom (Cl ts) = true := by rw [begins_eq]; exact hc
    have hpos := pos_of hf
    obtain ⟨k', rfl⟩ : ∃ k', k = k' + 1 := ⟨k - 1, by omega⟩
    have hs : Sim ((.node 7 [] [] [n, (atomP L (Cl ts)).1] 0 n.pl, (atomP L (Cl ts)).2) : Tree × St) (bnd (atom X Y ts) fun a r => .ok (.node 7 [] [] [n, a] 0 n.pl, r)) :=
      sim_bnd (fun q => (Tree.node 7 [] [] [n, q.1] 0 n.pl, q.2)) (sim_atom hL hf) (fun t r hr => sim_ok hr) (fun _ _ _ => rfl)
    refine ⟨k', _, rfl, by rw [call_yes hc2], fun _ => by rw [call_yes hc2], by unfold callStep; rw [if_pos hc], hs, fun a ha => ?_⟩
    have hl := sim_len hs a ha
    have hlt := atom_lt hL.h (Cl ts) hc2
    have hl : (atomP L (Cl ts)).2.ts.length = a.2.length := hl
    have hlt : (atomP L (Cl ts)).2.ts.length + 1 ≤ ts.length := hlt
    exact ⟨by omega, by omega⟩
theorem sim_app (hL : LSim L X Y room) {ts : List Tok} (h : Ed ts) : Sim (appP L (Cl ts)) (app X Y ts) := by
  unfold appP app
  cases hc : callOf ts with
  | some c =>
    have hm := call_mem hc
    have hk := calls_kind c hm.1
    rw [keyed_some hc, if_pos (show (c.2.1, if c.2.2 = true then 2 else 1).1 ≠ 0 from hk)]
    have ht := Ed.is h hm.2
    show Sim (if (if c.2.2 = true then 2 else 1) = 2 then _ else _) (bnd (atom X Y ts.tail) fun a r => if c.2.2 = true then bnd (atom X Y r) fun b r => (Except.ok (Tree.node c.2.1 [] [] [a, b] 0 (hd ts).p, r) : GR.R Tree) else Except.ok (Tree.node c.2.1 [] [] [a] 0 (hd ts).p, r))
    cases h2 : c.2.2 with
    | true =>
      rw [if_pos rfl]
      refine sim_bnd (fun q => (Tree.node c.2.1 [] [] [q.1, (atomP L q.2).1] 0 (hd ts).p, (atomP L q.2).2)) (sim_atom hL ht) ?_ ?_
      · intro a r hr
        show Sim _ (if true = true then _ else _)
        rw [if_pos rfl]
        exact sim_bnd (fun q => (Tree.node c.2.1 [] [] [a, q.1] 0 (hd ts).p, q.2)) (sim_atom hL hr) (fun t r hr => sim_ok hr) (fun _ _ _ => rfl)
      · intro _ s hs; exact sk_atom L s hs
    | false =>
      rw [if_neg (by decide)]
      refine sim_bnd (fun q => (Tree.node c.2.1 [] [] [q.1] 0 (hd ts).p, q.2)) (sim_atom hL ht) ?_ (fun _ _ _ => rfl)
      intro a r hr
      show Sim _ (if false = true then _ else _)
      rw [if_neg (by decide)]
      exact sim_ok hr
  | none =>
    rw [keyed_none hc, if_neg (by decide)]
    show Sim _ (bnd (atom X Y ts) fun n r => if (hd ts).k = 4 then reps (moreStep X Y) n r else reps (callStep X Y) n r)
    by_cases h4 : (hd ts).k = 4
    · rw [if_pos (show (Cl ts).k = 4 from h4)]
      have e : atom X Y ts = GR.leaf 5 ts := by
        unfold atom
        rw [if_neg (by omega), if_neg (by omega), if_neg (by omega), if_pos h4]
      rw [e]
      show Sim _ (if (hd ts).k = 4 then _ else _)
      rw [if_pos h4]
      unfold conP
      rw [leaf_eq h4 rfl]
      refine sim_con (Z := atom X Y) (fun ts h => sim_atom hL h) (fun ts h hm => atom_lt hL.h (Cl ts) hm) (fun s hs => sk_atAtom hs) ?_ _ rfl (h.tail (by omega))
      intro n ts
      rw [begins_eq]; rfl
    · rw [if_neg (show ¬ (Cl ts).k = 4 from h4)]
      have e : (fun (n : Tree) (r : List Tok) => if (hd ts).k = 4 then reps (moreStep X Y) n r else reps (callStep X Y) n r) = fun n r => reps (callStep X Y) n r := by
        funext n r; rw [if_neg h4]
      rw [e]
      refine sim_bnd (fun q => callLoop L q.2.ts.length q.1 q.2) (sim_atom hL h) ?_ ?_
      · intro a r hr; exact sim_calls hL a hr r.length (Nat.le_refl _)
      · intro a s hs; show (callLoop L s.ts.length a s).2 = s; rw [sk_callLoop hs]

-- signs
theorem any_find (l : List By) (ts : List Tok) : anyOf l (Cl ts) = (l.find? fun s => isT s ts).isSome := by
  unfold anyOf
  induction l with
  | nil => rfl
  | cons a l ih =>
    rw [List.find?_cons, List.any_cons]
    show (isT a ts || l.any fun w => (Cl ts).is w) = _
    cases isT a ts with
    | true => rfl
    | false => rw [Bool.false_or]; exact ih
theorem op_no {l : List By} {Q : Part} {k : Nat} {n : Tree} {s : St} (h : anyOf l s = false) : opLoop l Q k n s = (n, s) := by
  cases k with
  | zero => rfl
  | succ k => unfold opLoop; rw [if_neg (by rw [h]; decide)]
theorem op_yes {l : List By} {Q : Part} {k : Nat} {n : Tree} {s : St} (h : anyOf l s = true) : opLoop l Q (k + 1) n s = opLoop l Q k (opP Q n s).1 (opP Q n s).2 := by
  conv => lhs; unfold opLoop
  rw [if_pos h]
theorem sim_op {l : List By} {Q : Part} {Z : List Tok → GR.R Tree} (hQ : ∀ ts, Ed ts → Sim (Q (Cl ts)) (Z ts)) (n : Tree) {ts : List Tok} (h : Ed ts) (hc : anyOf l (Cl ts) = true) :
    ∃ r, opStep l Z n ts = some r ∧ Sim (opP Q n (Cl ts)) r := by
  rw [any_find] at hc
  unfold opStep
  cases hf : l.find? (fun s => isT s ts) with
  | none => rw [hf] at hc; cases hc
  | some s =>
    have hi : isT s ts = true := by simpa using List.find?_some hf
    have et : (hd ts).t = s := by
      simp only [isT, Bool.and_eq_true, decide_eq_true_eq] at hi
      exact hi.2
    refine ⟨_, rfl, ?_⟩
    show Sim (Tree.node 13 (hd ts).t [] [n, (Q (Cl ts.tail)).1] 0 n.pl, (Q (Cl ts.tail)).2) _
    rw [et]
    exact sim_bnd (fun q => (Tree.node 13 s [] [n, q.1] 0 n.pl, q.2)) (hQ ts.tail (Ed.is h hi)) (fun t r hr => sim_ok hr) (fun _ _ _ => rfl)
theorem op_none {l : List By} {Z : List Tok → GR.R Tree} {n : Tree} {ts : List Tok} (hc : anyOf l (Cl ts) = false) : opStep l Z n ts = none := by
  rw [any_find] at hc
  unfold opStep
  cases hf : l.find? (fun s => isT s ts) with
  | none => rfl
  | some s => rw [hf] at hc; cases hc
theorem any_k {l : List By} {s : St} (h : anyOf l s = true) : s.k ≠ 0 := by
  unfold anyOf at h
  obtain ⟨w, _, hw⟩ := List.any_eq_true.1 h
  exact is_k hw
theorem sim_ops {l : List By} {Q : Part} {Z : List Tok → GR.R Tree} (hQ : ∀ ts, Ed ts → Sim (Q (Cl ts)) (Z ts)) (hS : Sh Q) (n : Tree) {ts : List Tok} (h : Ed ts) (k : Nat) (hk : ts.length ≤ k) :
    Sim (opLoop l Q k n (Cl ts)) (reps (opStep l Z) n ts) := by
  refine sim_loop (opLoop l Q) (fun ts => anyOf l (Cl ts)) (fun n s => opP Q n s) (opStep l Z) (fun k _ ts => ts.length ≤ k) ?_ ?_ ?_ ts.length k n ts h hk (Nat.le_refl _)
  · intro k n ts hf hc
    exact ⟨op_no hc, op_none hc⟩
  · intro k n s hs; rw [op_no (sk_any hs l)]
  · intro k n ts hf hP hc
    have hc : anyOf l (Cl ts) = true := hc
    have hpos := pos_of hf
    obtain ⟨k', rfl⟩ : ∃ k', k = k' + 1 := ⟨k - 1, by omega⟩
    obtain ⟨r, h1, h2⟩ := sim_op hQ n hf hc
    refine ⟨k', r, rfl, by rw [op_yes hc], fun _ => by rw [op_yes hc], h1, h2, fun a ha => ?_⟩
    have hl := sim_len h2 a ha
    have hlt := take_lt (s := Cl ts) (any_k hc)
    have hs2 := hS (Cl ts).take
    have hl : (Q (Cl ts).take).2.ts.length = a.2.length := hl
    have hlt : (Cl ts).take.ts.length + 1 ≤ ts.length := hlt
    exact ⟨by omega, by omega⟩
theorem sim_prod (hL : LSim L X Y room) {ts : List Tok} (h : Ed ts) : Sim (prodP L (Cl ts)) (prod X Y ts) :=
  sim_bnd (fun q => opLoop [[42], [47], [37]] (appP L) q.2.ts.length q.1 q.2) (sim_app hL h) (fun n r hr => sim_ops (fun ts h => sim_app hL h) (app_le hL.h) n hr r.length (Nat.le_refl _))
    (fun a s hs => by show (opLoop _ _ s.ts.length a s).2 = s; rw [sk_opLoop hs])
theorem sim_sum (hL : LSim L X Y room) {ts : List Tok} (h : Ed ts) : Sim (sumP L (Cl ts)) (sum X Y ts) :=
  sim_bnd (fun q => opLoop [[43], [45], [94]] (prodP L) q.2.ts.length q.1 q.2) (sim_prod hL h) (fun n r hr => sim_ops (fun ts h => sim_prod hL h) (prod_le hL.h) n hr r.length (Nat.le_refl _))
    (fun a s hs => by show (opLoop _ _ s.ts.length a s).2 = s; rw [sk_opLoop hs])
theorem sim_cmp (hL : LSim L X Y room) {ts : List Tok} (h : Ed ts) : Sim (cmpP L (Cl ts)) (cmp X Y ts) := by
  refine sim_bnd (fun q => if anyOf [[61], [60]] q.2 = true then opP (sumP L) q.1 q.2 else q) (sim_sum hL h) ?_ ?_
  · intro n r hr
    show Sim (if anyOf [[61], [60]] (Cl r) = true then opP (sumP L) n (Cl r) else (n, Cl r)) (match opStep [[61], [60]] (sum X Y) n r with | some q => q | none => .ok (n, r))
    cases hc : anyOf [[61], [60]] (Cl r) with
    | true =>
      obtain ⟨q, h1, h2⟩ := sim_op (fun ts h => sim_sum hL h) n hr hc
      rw [h1, if_pos rfl]; exact h2
    | false =>
      rw [op_none hc, if_neg (by decide)]; exact sim_ok hr
  · intro a s hs
    show (if anyOf [[61], [60]] s = true then opP (sumP L) a s else (a, s)).2 = s
    rw [if_neg (by rw [sk_any hs]; decide)]
theorem sim_seq (hL : LSim L X Y room) (j : Bool) {ts : List Tok} (h : Ed ts) :
    Sim (seqP L j (Cl ts)) (bnd (cmp X Y ts) fun a r => if isT [59] r = true ∧ (!j) = false then bnd (X (!j) r.tail) fun b r => .ok (.node 14 [] [] [a, b] 0 a.pl, r) else .ok (a, r)) := by
  refine sim_bnd (fun q => if (j && q.2.is [59]) = true then ((Tree.node 14 [] [] [q.1, (L.x j q.2.take).1] 0 q.1.pl, (L.x j q.2.take).2) : Tree × St) else q) (sim_cmp hL h) ?_ ?_
  · intro a r hr
    show Sim (if (j && isT [59] r) = true then ((Tree.node 14 [] [] [a, (L.x j (Cl r.tail)).1] 0 a.pl, (L.x j (Cl r.tail)).2) : Tree × St) else (a, Cl r)) _
    by_cases hc : isT [59] r = true ∧ (!j) = false
    · rw [if_pos hc, if_pos (by rw [hc.1]; cases j <;> simp_all)]
      exact sim_bnd (fun q => (Tree.node 14 [] [] [a, q.1] 0 a.pl, q.2)) (hL.x j r.tail (Ed.is hr hc.1)) (fun t r hr => sim_ok hr) (fun _ _ _ => rfl)
    · rw [if_neg hc, if_neg (by intro h; apply hc; cases j <;> simp_all)]
      exact sim_ok hr
  · intro a s hs
    show ((if (j && s.is [59]) = true then _ else _) : Tree × St).2 = s
    rw [if_neg (by rw [sk_is hs]; simp)]
end Go.Proofs.YtlcapkgbbgpdmaaGreatDoor.MZ

/- The mirror beside the grammar: levels, declarations, the whole. Nothing of the program is in sight. -/
namespace Go.Proofs.YtlcapkgbbgpdmaaGreatDoor.MA
open Go.Proofs.YtlcapkgbbgpdmaaGreatDoor.TK Go.Proofs.YtlcapkgbbgpdmaaGreatDoor.GR Go.Proofs.YtlcapkgbbgpdmaaGreatDoor.MP Go.Proofs.YtlcapkgbbgpdmaaGreatDoor.MS Go.Proofs.YtlcapkgbbgpdmaaGreatDoor.MT Go.Proofs.YtlcapkgbbgpdmaaGreatDoor.MU Go.Proofs.YtlcapkgbbgpdmaaGreatDoor.MV Go.Proofs.YtlcapkgbbgpdmaaGreatDoor.MW Go.Proofs.YtlcapkgbbgpdmaaGreatDoor.MX Go.Proofs.YtlcapkgbbgpdmaaGreatDoor.MY Go.Proofs.YtlcapkgbbgpdmaaGreatDoor.MZ
set_option linter.unusedVariables false
set_option maxRecDepth 100000

variable {L : Lev} {X : Bool → List Tok → GR.R Tree} {Y : List Tok → GR.R Tree} {room : Bool}
/-- What a name is to mean. -/
def valP (L : Lev) (j : Bool) (s : St) : (Bool × By × Tree) × St :=
  let a := accept wRec s
  let n := text 3 a.2
  let v := if a.1 = true then L.f j (expect [61] n.2) else L.x j (expect [61] n.2)
  ((a.1, n.1, v.1), v.2)
theorem bind_eq (j : Bool) (a b : Nat) (s : St) : bindP L j a b s = (.node (if (valP L j (expect wLet s)).1.1 = true then b else a) (valP L j (expect wLet s)).1.2.1 [] [(valP L j (expect wLet s)).1.2.2] 0 s.pl, (valP L j (expect wLet s)).2) := rfl
theorem sk_val (h : LSk L) (j : Bool) {s : St} (hs : Stuck s) : (valP L j s).2 = s := by
  unfold valP
  rw [sk_accept hs]
  show (if false = true then L.f j (expect [61] (text 3 s).2) else L.x j (expect [61] (text 3 s).2)).2 = s
  rw [if_neg (by decide), sk_text hs (by decide), sk_expect hs]; exact h.x j s hs
theorem accept_cl (w : By) (ts : List Tok) : accept w (Cl ts) = (isT w ts, Cl (if isT w ts = true then ts.tail else ts)) := by
  unfold accept
  cases h : isT w ts with
  | true => rw [if_pos (show (Cl ts).is w = true from h), if_pos rfl]; rfl
  | false => rw [if_neg (by rw [show (Cl ts).is w = false from h]; decide), if_neg (by decide)]
theorem sim_val (hL : LSim L X Y room) (j : Bool) {ts : List Tok} (h : Ed ts) : Sim (valP L j (Cl ts)) (value X room (!j) ts) := by
  unfold valP value
  rw [accept_cl]
  cases hr : isT wRec ts with
  | true =>
    have ht := Ed.is h hr
    refine sim_bnd (fun q => ((true, q.1, (L.f j (expect [61] q.2)).1), (L.f j (expect [61] q.2)).2)) (sim_text (by decide) (show Ed (if true = true then ts.tail else ts) from ht)) ?_ ?_
    · intro s r hr
      refine sim_bnd (fun q => ((true, s, (L.f j q.2).1), (L.f j q.2).2)) (sim_expect [61] hr) ?_ ?_
      · intro _ r hr
        have hf := hL.f j r hr
        show Sim ((true, s, (L.f j (Cl r)).1), (L.f j (Cl r)).2) (if true = true ∧ isT wFun r = false ∧ room = true then fail 14 r else bnd (X (!j) r) fun v r => .ok ((true, s, v), r))
        by_cases hc : isT wFun r = false ∧ room = true
        · rw [if_pos ⟨rfl, hc⟩]
          rw [if_pos hc] at hf
          exact ⟨hf.1, hf.2.1, hf.2.2⟩
        · rw [if_neg (fun k => hc k.2)]
          rw [if_neg hc] at hf
          exact sim_bnd (fun q => ((true, s, q.1), q.2)) hf (fun t r hr => sim_ok hr) (fun _ _ _ => rfl)
      · intro _ s hs; exact hL.k.f j s hs
    · intro _ s hs; show (L.f j (expect [61] s)).2 = s; rw [sk_expect hs, hL.k.f j s hs]
  | false =>
    refine sim_bnd (fun q => ((false, q.1, (L.x j (expect [61] q.2)).1), (L.x j (expect [61] q.2)).2)) (sim_text (by decide) (show Ed (if false = true then ts.tail else ts) from h)) ?_ ?_
    · intro s r hr
      refine sim_bnd (fun q => ((false, s, (L.x j q.2).1), (L.x j q.2).2)) (sim_expect [61] hr) ?_ ?_
      · intro _ r hr
        show Sim ((false, s, (L.x j (Cl r)).1), (L.x j (Cl r)).2) (if false = true ∧ isT wFun r = false ∧ room = true then fail 14 r else bnd (X (!j) r) fun v r => .ok ((false, s, v), r))
        rw [if_neg (fun k => absurd k.1 (by decide))]
        exact sim_bnd (fun q => ((false, s, q.1), q.2)) (hL.x j r hr) (fun t r hr => sim_ok hr) (fun _ _ _ => rfl)
      · intro _ s hs; exact hL.k.x j s hs
    · intro _ s hs; show (L.x j (expect [61] s)).2 = s; rw [sk_expect hs, hL.k.x j s hs]

theorem sim_let (hL : LSim L X Y room) (j : Bool) {ts : List Tok} (h : Ed ts) (hi : isT wLet ts = true) :
    Sim (letP L j (Cl ts)) (bnd (value X room (!j) ts.tail) fun v r => bnd (want wIn r) fun _ r => bnd (X (!j) r) fun b r => .ok (.node (if v.1 = true then 9 else 8) v.2.1 [] [v.2.2, b] 0 (hd ts).p, r)) := by
  unfold letP
  rw [bind_eq, expect_is hi]
  have ht := Ed.is h hi
  refine sim_bnd (fun q => ((Tree.node (if q.1.1 = true then 9 else 8) q.1.2.1 [] [q.1.2.2, (L.x j (expect wIn q.2)).1] 0 (hd ts).p, (L.x j (expect wIn q.2)).2) : Tree × St)) (sim_val hL j ht) ?_ ?_
  · intro v r hr
    refine sim_bnd (fun q => ((Tree.node (if v.1 = true then 9 else 8) v.2.1 [] [v.2.2, (L.x j q.2).1] 0 (hd ts).p, (L.x j q.2).2) : Tree × St)) (sim_expect wIn hr) ?_ ?_
    · intro _ r hr
      exact sim_bnd (fun q => ((Tree.node (if v.1 = true then 9 else 8) v.2.1 [] [v.2.2, q.1] 0 (hd ts).p, q.2) : Tree × St)) (hL.x j r hr) (fun t r hr => sim_ok hr) (fun _ _ _ => rfl)
    · intro _ s hs; exact hL.k.x j s hs
  · intro _ s hs; show (L.x j (expect wIn s)).2 = s; rw [sk_expect hs, hL.k.x j s hs]
theorem sim_fun (hL : LSim L X Y room) (j : Bool) {ts : List Tok} (h : Ed ts) (hi : isT wFun ts = true) :
    Sim (funP L j (Cl ts)) (bnd (txt 3 ts.tail) fun s r => bnd (want wArrow r) fun _ r => bnd (X (!j) r) fun b r => .ok (.node 6 s [] [b] 0 (hd ts).p, r)) := by
  unfold funP
  rw [expect_is hi]
  have ht := Ed.is h hi
  refine sim_bnd (fun q => ((Tree.node 6 q.1 [] [(L.x j (expect wArrow q.2)).1] 0 (hd ts).p, (L.x j (expect wArrow q.2)).2) : Tree × St)) (sim_text (by decide) ht) ?_ ?_
  · intro s r hr
    refine sim_bnd (fun q => ((Tree.node 6 s [] [(L.x j q.2).1] 0 (hd ts).p, (L.x j q.2).2) : Tree × St)) (sim_expect wArrow hr) ?_ ?_
    · intro _ r hr
      exact sim_bnd (fun q => ((Tree.node 6 s [] [q.1] 0 (hd ts).p, q.2) : Tree × St)) (hL.x j r hr) (fun t r hr => sim_ok hr) (fun _ _ _ => rfl)
    · intro _ s hs; exact hL.k.x j s hs
  · intro _ s hs; show (L.x j (expect wArrow s)).2 = s; rw [sk_expect hs, hL.k.x j s hs]
theorem sim_cond (hL : LSim L X Y room) (j : Bool) {ts : List Tok} (h : Ed ts) (hi : isT wIf ts = true) :
    Sim (condP L j (Cl ts)) (bnd (X (!j) ts.tail) fun a r => bnd (want wThen r) fun _ r => bnd (X (!j) r) fun b r => bnd (want wElse r) fun _ r => bnd (X (!j) r) fun c r => .ok (.node 10 [] [] [a, b, c] 0 (hd ts).p, r)) := by
  unfold condP
  rw [expect_is hi]
  have ht := Ed.is h hi
  refine sim_bnd (fun q => ((Tree.node 10 [] [] [q.1, (L.x j (expect wThen q.2)).1, (L.x j (expect wElse (L.x j (expect wThen q.2)).2)).1] 0 (hd ts).p, (L.x j (expect wElse (L.x j (expect wThen q.2)).2)).2) : Tree × St)) (hL.x j ts.tail ht) ?_ ?_
  · intro a r hr
    refine sim_bnd (fun q => ((Tree.node 10 [] [] [a, (L.x j q.2).1, (L.x j (expect wElse (L.x j q.2).2)).1] 0 (hd ts).p, (L.x j (expect wElse (L.x j q.2).2)).2) : Tree × St)) (sim_expect wThen hr) ?_ ?_
    · intro _ r hr
      refine sim_bnd (fun q => ((Tree.node 10 [] [] [a, q.1, (L.x j (expect wElse q.2)).1] 0 (hd ts).p, (L.x j (expect wElse q.2)).2) : Tree × St)) (hL.x j r hr) ?_ ?_
      · intro b r hr
        refine sim_bnd (fun q => ((Tree.node 10 [] [] [a, b, (L.x j q.2).1] 0 (hd ts).p, (L.x j q.2).2) : Tree × St)) (sim_expect wElse hr) ?_ ?_
        · intro _ r hr
          exact sim_bnd (fun q => ((Tree.node 10 [] [] [a, b, q.1] 0 (hd ts).p, q.2) : Tree × St)) (hL.x j r hr) (fun t r hr => sim_ok hr) (fun _ _ _ => rfl)
        · intro _ s hs; exact hL.k.x j s hs
      · intro _ s hs; show (L.x j (expect wElse s)).2 = s; rw [sk_expect hs, hL.k.x j s hs]
    · intro _ s hs; show (L.x j (expect wElse (L.x j s).2)).2 = s; rw [hL.k.x j s hs, sk_expect hs, hL.k.x j s hs]
  · intro _ s hs; show (L.x j (expect wElse (L.x j (expect wThen s)).2)).2 = s; rw [sk_expect hs, hL.k.x j s hs, sk_expect hs, hL.k.x j s hs]
theorem expWord_eq (ts : List Tok) : expWord (Cl ts).word = if isT wLet ts = true then 1 else if isT wFun ts = true then 2 else if isT wIf ts = true then 3 else 0 := by
  unfold expWord
  simp only [word_eq (ts := ts) (a := wLet) (by decide), word_eq (ts := ts) (a := wFun) (by decide), word_eq (ts := ts) (a := wIf) (by decide)]
theorem sim_inner (hL : LSim L X Y room) (j : Bool) {ts : List Tok} (h : Ed ts) : Sim (anyExpP L j (Cl ts)) (inner X Y room (!j) ts) := by
  unfold anyExpP inner
  rw [expWord_eq]
  by_cases c1 : isT wLet ts = true
  · rw [if_pos c1, if_pos c1, if_pos rfl]; exact sim_let hL j h c1
  rw [if_neg c1, if_neg c1]
  by_cases c2 : isT wFun ts = true
  · rw [if_pos c2, if_pos c2, if_neg (by decide), if_pos rfl]; exact sim_fun hL j h c2
  rw [if_neg c2, if_neg c2]
  by_cases c3 : isT wIf ts = true
  · rw [if_pos c3, if_pos c3, if_neg (by decide), if_neg (by decide), if_pos rfl]; exact sim_cond hL j h c3
  rw [if_neg c3, if_neg c3, if_neg (by decide), if_neg (by decide), if_neg (by decide)]
  exact sim_seq hL j h
theorem sim_f0 (j : Bool) (ts : List Tok) (h : Ed ts) : Sim ((lev 0).f j (Cl ts)) (if isT wFun ts = false ∧ decide (0 < 0) = true then fail 14 ts else exp 0 (!j) ts) := by
  rw [if_neg (fun k => absurd k.2 (by decide))]; exact sim_fail h (by decide)
theorem sim_fs {g : Nat} (hL : LSim (lev g) (exp g) (pat g) (decide (0 < g))) (j : Bool) (ts : List Tok) (h : Ed ts) : Sim ((lev (g + 1)).f j (Cl ts)) (if isT wFun ts = false ∧ decide (0 < g + 1) = true then fail 14 ts else exp (g + 1) (!j) ts) := by
  cases hi : isT wFun ts with
  | true =>
    rw [if_neg (fun k => absurd k.1 (by decide))]
    show Sim (funP (lev g) j (Cl ts)) (inner (exp g) (pat g) (decide (0 < g)) (!j) ts)
    unfold inner
    rw [is_other wLet hi (by decide), if_neg (by decide), if_pos hi]
    exact sim_fun hL j h hi
  | false =>
    rw [if_pos ⟨rfl, by simp⟩]
    show Sim (funP (lev g) j (Cl ts)) (fail 14 ts)
    have e : expect wFun (Cl ts) = (Cl ts).fail 14 := by unfold expect; rw [if_neg (by rw [show (Cl ts).is wFun = false from hi]; decide)]
    have hf : Sim (((), (Cl ts).fail 14) : Unit × St) (fail 14 ts : GR.R Unit) := sim_fail h (by decide)
    have hst : Stuck ((Cl ts).fail 14) := hf.1
    have e2 : (funP (lev g) j (Cl ts)).2 = (Cl ts).fail 14 := by
      show ((lev g).x j (expect wArrow (text 3 (expect wFun (Cl ts))).2)).2 = _
      rw [e, sk_text hst (by decide), sk_expect hst, (sk_lev g).x j _ hst]
    exact ⟨by rw [e2]; exact hst, by rw [e2]; exact hf.2.1, by rw [e2]; exact hf.2.2⟩
theorem sim_lev : ∀ g, LSim (lev g) (exp g) (pat g) (decide (0 < g))
  | 0 => ⟨fun j ts h => sim_fail h (by decide), fun ts h => sim_fail h (by decide), sim_f0, lev_le 0, sk_lev 0⟩
  | g + 1 => ⟨fun j ts h => sim_inner (sim_lev g) j h, fun ts h => sim_pat (lev_le g) (sim_lev g).y h, sim_fs (sim_lev g), lev_le (g + 1), sk_lev (g + 1)⟩

-- declarations
theorem names_full {k : Nat} {l : List By} {s : St} (h : s.k = 3) (hl : l.length = 4) : namesLoop (k + 1) l s = (none, s.fail 16) := by
  unfold namesLoop; rw [if_pos h, if_pos hl]
theorem names_more {k : Nat} {l : List By} {s : St} (h : s.k = 3) (hl : l.length ≠ 4) : namesLoop (k + 1) l s = namesLoop k (l ++ [(text 3 s).1]) (text 3 s).2 := by
  conv => lhs; unfold namesLoop
  rw [if_pos h, if_neg hl]
theorem names_no {k : Nat} {l : List By} {s : St} (h : s.k ≠ 3) : namesLoop k l s = (some l, s) := by
  cases k with
  | zero => rfl
  | succ k => unfold namesLoop; rw [if_neg h]
theorem sim_names {ts : List Tok} (h : Ed ts) (k : Nat) (l : List By) (hP : l.length + k = 5 ∧ l.length ≤ 4) : OSim (namesLoop k l (Cl ts)) (reps nameStep l ts) := by
  refine osim_loop namesLoop (fun ts => decide ((hd ts).k = 3)) (fun l s => if l.length = 4 then (none, s.fail 16) else (some (l ++ [(text 3 s).1]), (text 3 s).2)) nameStep (fun k l _ => l.length + k = 5 ∧ l.length ≤ 4) ?_ ?_ ts.length k l ts h hP (Nat.le_refl _)
  · intro k n ts hf hP hc
    have hc : (hd ts).k ≠ 3 := by simpa using hc
    exact ⟨names_no hc, by unfold nameStep; rw [if_neg hc]⟩
  · intro k n ts hf hP hc
    have hc : (hd ts).k = 3 := by simpa using hc
    obtain ⟨k', rfl⟩ : ∃ k', k = k' + 1 := ⟨k - 1, by omega⟩
    have et : text 3 (Cl ts) = ((hd ts).t, Cl ts.tail) := by unfold text; rw [if_pos (show (Cl ts).k = 3 from hc)]; rfl
    have hlt := take_lt (s := Cl ts) (show (hd ts).k ≠ 0 by omega)
    have hlt : ts.tail.length + 1 ≤ ts.length := hlt
    by_cases hm : n.length = 4
    · have hst : Stuck ((Cl ts).fail 16) := (sim_fail (a := ()) hf (by decide : (16 : Nat) ≠ 0)).1
      refine ⟨k', fail 16 ts, by unfold nameStep; rw [if_pos hc, if_pos hm], by rw [if_pos hm]; exact osim_fail hf (by decide), fun a us ha => by rw [if_pos hm] at ha; simp at ha, fun _ => by rw [if_pos hm, names_full (show (Cl ts).k = 3 from hc) hm]⟩
    · refine ⟨k', .ok (n ++ [(hd ts).t], ts.tail), by unfold nameStep; rw [if_pos hc, if_neg hm], ?_, ?_, ?_⟩
      · rw [if_neg hm, et]; exact osim_ok (hf.tail (by omega))
      · intro a us ha
        rw [if_neg hm, et] at ha
        simp only [Prod.mk.injEq, Option.some.injEq, St.mk.injEq, and_true] at ha
        obtain ⟨rfl, rfl⟩ := ha
        refine ⟨by rw [names_more (show (Cl ts).k = 3 from hc) hm, et], hlt, ?_, ?_⟩
        · simp; omega
        · simp; omega
      · intro hst
        rw [if_neg hm, et] at hst
        exact absurd rfl hst.e

theorem list_le {word : By} {most : Nat} {Q : Part} (h : Sh Q) : ∀ k l s, (listLoop word most Q k l s).2.ts.length ≤ s.ts.length
  | 0, l, s => Nat.le_refl _
  | k + 1, l, s => by
    unfold listLoop; split
    · exact fail_le s 16
    · split
      · exact Nat.le_trans (list_le h k _ _) (Nat.le_trans (take_le _) (h s))
      · exact h s
theorem def_le {T : Part} (h : Sh T) : Sh (defP T) := by
  intro s; unfold defP; split
  · exact Nat.le_trans (list_le h _ _ _) (Nat.le_trans (take_le _) (text_le 4 s))
  · exact text_le 4 s
theorem conMore_eq : conMore = lpart 20 con := rfl
theorem barStep_eq : barStep = lstep [124] 20 con := rfl
/-- What is made of a type's name, its variables and its constructors. -/
def typeK (F : St → List Tree × St) (s : By) (p : Nat) (q : Option (List By) × St) : Tree × St :=
  match q with
  | (none, r) => (zero, r)
  | (some l, r) => (.node 25 s l (F (expect [61] r)).1 0 p, (F (expect [61] r)).2)
theorem typeDecl_eq (s : St) : typeDeclP s = typeK (list [124] 20 (defP (levT 40))) (text 3 (expect wType s)).1 s.pl (namesLoop 5 [] (text 3 (expect wType s)).2) := rfl
theorem sk_typeK {F : St → List Tree × St} (hF : ∀ s, Stuck s → (F s).2 = s) (n : By) (p : Nat) (a : Option (List By)) {s : St} (hs : Stuck s) : (typeK F n p (a, s)).2 = s := by
  cases a with
  | none => rfl
  | some l =>
    show (F (expect [61] s)).2 = s
    rw [sk_expect hs]; exact hF s hs
theorem sk_names {s : St} (h : Stuck s) (k : Nat) (l : List By) : namesLoop k l s = (some l, s) := names_no (by rw [h.k]; decide)
theorem sim_typeDecl_with {ts : List Tok} (ht : Ed ts.tail) (F : St → List Tree × St) (G : St → Option (List By) × St) (hF : ∀ s, Stuck s → (F s).2 = s) (hG : ∀ s, Stuck s → G s = (some [], s))
    (hFs : ∀ ts, Ed ts → Sim (F (Cl ts)) (bnd (conMore [] ts) (reps barStep))) (hGs : ∀ ts, Ed ts → OSim (G (Cl ts)) (reps nameStep [] ts)) :
    Sim ((typeK F (text 3 (Cl ts.tail)).1 (hd ts).p (G (text 3 (Cl ts.tail)).2)).1, expect [59] (typeK F (text 3 (Cl ts.tail)).1 (hd ts).p (G (text 3 (Cl ts.tail)).2)).2)
     (bnd (txt 3 ts.tail) fun s r => bnd (reps nameStep [] r) fun ns r => bnd (want [61] r) fun _ r => bnd (conMore [] r) fun ks r => bnd (reps barStep ks r) fun ks r => bnd (want [59] r) fun _ r =>
      .ok (.node 25 s ns ks 0 (hd ts).p, r)) := by
  refine sim_bnd (fun q => (((typeK F q.1 (hd ts).p (G q.2)).1, expect [59] (typeK F q.1 (hd ts).p (G q.2)).2) : Tree × St)) (sim_text (by decide) ht) ?_ ?_
  · intro s r hr
    refine osim_bnd (fun q => (((typeK F s (hd ts).p q).1, expect [59] (typeK F s (hd ts).p q).2) : Tree × St)) (hGs r hr) ?_ ?_
    · intro l r hr
      refine sim_bnd (fun q => ((Tree.node 25 s l (F q.2).1 0 (hd ts).p, expect [59] (F q.2).2) : Tree × St)) (sim_expect [61] hr) ?_ ?_
      · intro _ r hr
        have hl2 := sim_bnd (f := fun ks r => bnd (want [59] r) fun _ r => .ok (Tree.node 25 s l ks 0 (hd ts).p, r)) (fun q => ((Tree.node 25 s l q.1 0 (hd ts).p, expect [59] q.2) : Tree × St)) (hFs r hr)
          (fun t r hr => sim_bnd (fun q => ((Tree.node 25 s l t 0 (hd ts).p, q.2) : Tree × St)) (sim_expect [59] hr) (fun _ r hr => sim_ok hr) (fun _ _ _ => rfl)) (fun _ s hs => sk_expect hs _)
        have e : bnd (bnd (conMore [] r) (reps barStep)) (fun ks r => bnd (want [59] r) fun _ r => .ok (Tree.node 25 s l ks 0 (hd ts).p, r)) = bnd (conMore [] r) fun ks r => bnd (reps barStep ks r) fun ks r => bnd (want [59] r) fun _ r => .ok (Tree.node 25 s l ks 0 (hd ts).p, r) := by
          cases conMore [] r with
          | ok a => rfl
          | error d => rfl
        rw [e] at hl2
        exact hl2
      · intro _ s hs
        show expect [59] (F s).2 = s
        rw [hF s hs, sk_expect hs]
    · intro a q hs
      show expect [59] (typeK F s (hd ts).p (a, q)).2 = q
      rw [sk_typeK hF s _ a hs, sk_expect hs]
  · intro n s hs
    show expect [59] (typeK F n (hd ts).p (G s)).2 = s
    rw [hG s hs, sk_typeK hF n _ _ hs, sk_expect hs]
theorem sim_conList {ts : List Tok} (h : Ed ts) : Sim (list [124] 20 (defP (levT 40)) (Cl ts)) (bnd (conMore [] ts) (reps barStep)) := by
  rw [conMore_eq, barStep_eq]
  exact sim_list (by decide) (fun ts h => sim_def h) (def_le (levT_le 40)) h
theorem sim_typeDecl {ts : List Tok} (h : Ed ts) (hi : isT wType ts = true) :
    Sim (declP (Cl ts)) (bnd (txt 3 ts.tail) fun s r => bnd (reps nameStep [] r) fun ns r => bnd (want [61] r) fun _ r => bnd (conMore [] r) fun ks r => bnd (reps barStep ks r) fun ks r => bnd (want [59] r) fun _ r =>
      .ok (.node 25 s ns ks 0 (hd ts).p, r)) := by
  unfold declP
  rw [if_pos (show (Cl ts).is wType = true from hi), typeDecl_eq, expect_is hi]
  exact sim_typeDecl_with (Ed.is h hi) _ _ (fun s hs => sk_list (sk_def (sk_levT 40)) hs 21 []) (fun s hs => sk_names hs 5 []) (fun ts h => sim_conList h) (fun ts h => sim_names h 5 [] ⟨rfl, by decide⟩)
theorem sim_valDecl {ts : List Tok} (h : Ed ts) (hn : isT wType ts = false) (hi : isT wLet ts = true) :
    Sim (declP (Cl ts)) (bnd (value (exp 40) true true ts.tail) fun v r => bnd (want [59] r) fun _ r => .ok (.node (if v.1 = true then 29 else 28) v.2.1 [] [v.2.2] 0 (hd ts).p, r)) := by
  unfold declP
  rw [if_neg (by rw [show (Cl ts).is wType = false from hn]; decide), bind_eq, expect_is hi]
  have ht := Ed.is h hi
  have hv : Sim (valP (lev 40) false (Cl ts.tail)) (value (exp 40) true true ts.tail) := sim_val (sim_lev 40) false ht
  refine sim_bnd (fun q => ((Tree.node (if q.1.1 = true then 29 else 28) q.1.2.1 [] [q.1.2.2] 0 (hd ts).p, expect [59] q.2) : Tree × St)) hv ?_ (fun _ s hs => sk_expect hs _)
  intro v r hr
  exact sim_bnd (fun q => ((Tree.node (if v.1 = true then 29 else 28) v.2.1 [] [v.2.2] 0 (hd ts).p, q.2) : Tree × St)) (sim_expect [59] hr) (fun _ r hr => sim_ok hr) (fun _ _ _ => rfl)
theorem sim_decl {ts : List Tok} (h : Ed ts) (hi : (isT wType ts || isT wLet ts) = true) : Sim (declP (Cl ts)) (decl ts) := by
  unfold decl
  cases ht : isT wType ts with
  | true => rw [if_pos rfl]; exact sim_typeDecl h ht
  | false =>
    rw [ht] at hi
    rw [if_neg (by decide)]
    exact sim_valDecl h ht hi
theorem typeK_le {F : St → List Tree × St} (hF : ∀ s, (F s).2.ts.length ≤ s.ts.length) (n : By) (p : Nat) (q : Option (List By) × St) : (typeK F n p q).2.ts.length ≤ q.2.ts.length := by
  obtain ⟨a, s⟩ := q
  cases a with
  | none => exact Nat.le_refl _
  | some l => exact Nat.le_trans (hF _) (expect_le [61] s)
theorem names_le : ∀ k l s, (namesLoop k l s).2.ts.length ≤ s.ts.length
  | 0, l, s => Nat.le_refl _
  | k + 1, l, s => by
    unfold namesLoop; split
    · split
      · exact fail_le s 16
      · exact Nat.le_trans (names_le k _ _) (text_le 3 s)
    · exact Nat.le_refl _
theorem val_le (h : LSh L) (j : Bool) (s : St) : (valP L j s).2.ts.length ≤ s.ts.length := by
  have h1 := Nat.le_trans (expect_le [61] (text 3 (accept wRec s).2).2) (Nat.le_trans (text_le 3 _) (accept_le wRec s))
  show (if (accept wRec s).1 = true then L.f j _ else L.x j _).2.ts.length ≤ _
  split
  · exact Nat.le_trans (h.f j _) h1
  · exact Nat.le_trans (h.x j _) h1
theorem decl_lt {ts : List Tok} (hi : (isT wType ts || isT wLet ts) = true) : (declP (Cl ts)).2.ts.length + 1 ≤ ts.length := by
  unfold declP
  cases ht : isT wType ts with
  | true =>
    rw [if_pos (show (Cl ts).is wType = true from ht), typeDecl_eq]
    have h1 := typeK_le (F := list [124] 20 (defP (levT 40))) (fun s => list_le (def_le (levT_le 40)) _ _ s) (text 3 (expect wType (Cl ts))).1 (Cl ts).pl (namesLoop 5 [] (text 3 (expect wType (Cl ts))).2)
    have h2 := names_le 5 [] (text 3 (expect wType (Cl ts))).2
    have h3 := text_le 3 (expect wType (Cl ts))
    have h4 := expect_lt (w := wType) (s := Cl ts) ht
    exact Nat.le_trans (Nat.succ_le_succ (Nat.le_trans (expect_le [59] _) (Nat.le_trans h1 (Nat.le_trans h2 h3)))) h4
  | false =>
    rw [ht] at hi
    rw [if_neg (by rw [show (Cl ts).is wType = false from ht]; decide), bind_eq]
    have h4 := expect_lt (w := wLet) (s := Cl ts) hi
    exact Nat.le_trans (Nat.succ_le_succ (Nat.le_trans (expect_le [59] _) (val_le (lev_le 40) false _))) h4

theorem decls_full {k : Nat} {l : List Tree} {s : St} (h : anyOf [wType, wLet] s = true) (hl : l.length = 60) : declsLoop (k + 1) l s = (none, s.fail 16) := by
  unfold declsLoop; rw [if_pos h, if_pos hl]
theorem decls_more {k : Nat} {l : List Tree} {s : St} (h : anyOf [wType, wLet] s = true) (hl : l.length ≠ 60) : declsLoop (k + 1) l s = declsLoop k (l ++ [(declP s).1]) (declP s).2 := by
  conv => lhs; unfold declsLoop
  rw [if_pos h, if_neg hl]
theorem decls_no {k : Nat} {l : List Tree} {s : St} (h : anyOf [wType, wLet] s = false) : declsLoop k l s = (some l, s) := by
  cases k with
  | zero => rfl
  | succ k => unfold declsLoop; rw [if_neg (by rw [h]; decide)]
theorem anyDecl (ts : List Tok) : anyOf [wType, wLet] (Cl ts) = (isT wType ts || isT wLet ts) := by
  unfold anyOf
  show (isT wType ts || (isT wLet ts || false)) = _
  rw [Bool.or_false]
theorem sim_decls {ts : List Tok} (h : Ed ts) (k : Nat) (l : List Tree) (hP : l.length + k = 61 ∧ l.length ≤ 60) : OSim (declsLoop k l (Cl ts)) (reps declStep l ts) := by
  refine osim_loop declsLoop (fun ts => isT wType ts || isT wLet ts) (fun l s => if l.length = 60 then (none, s.fail 16) else (some (l ++ [(declP s).1]), (declP s).2)) declStep (fun k l _ => l.length + k = 61 ∧ l.length ≤ 60) ?_ ?_ ts.length k l ts h hP (Nat.le_refl _)
  · intro k n ts hf hP hc
    have hc : (isT wType ts || isT wLet ts) = false := hc
    exact ⟨decls_no (by rw [anyDecl]; exact hc), by unfold declStep; rw [if_neg (by rw [hc]; decide)]⟩
  · intro k n ts hf hP hc
    have hc : (isT wType ts || isT wLet ts) = true := hc
    have hc2 : anyOf [wType, wLet] (Cl ts) = true := by rw [anyDecl]; exact hc
    obtain ⟨k', rfl⟩ : ∃ k', k = k' + 1 := ⟨k - 1, by omega⟩
    by_cases hm : n.length = 60
    · refine ⟨k', fail 16 ts, by unfold declStep; rw [if_pos hc, if_pos hm], by rw [if_pos hm]; exact osim_fail hf (by decide), fun a us ha => by rw [if_pos hm] at ha; simp at ha, fun _ => by rw [if_pos hm, decls_full hc2 hm]⟩
    · have hs : Sim ((n ++ [(declP (Cl ts)).1], (declP (Cl ts)).2) : List Tree × St) (bnd (decl ts) fun d r => .ok (n ++ [d], r)) :=
        sim_bnd (fun q => (n ++ [q.1], q.2)) (sim_decl hf hc) (fun t r hr => sim_ok hr) (fun _ _ _ => rfl)
      refine ⟨k', _, by unfold declStep; rw [if_pos hc, if_neg hm], by rw [if_neg hm]; exact osim_of hs, ?_, ?_⟩
      · intro a us ha
        rw [if_neg hm] at ha
        have e1 : n ++ [(declP (Cl ts)).1] = a := by simpa using congrArg Prod.fst ha
        have e2 : (declP (Cl ts)).2 = Cl us := congrArg Prod.snd ha
        have hl := decl_lt hc
        rw [e2] at hl
        have hl : us.length + 1 ≤ ts.length := hl
        have hn : a.length = n.length + 1 := by rw [← e1]; simp
        exact ⟨by rw [decls_more hc2 hm, e1, e2], hl, by omega, by omega⟩
      · intro hst
        rw [if_neg hm] at hst
        rw [decls_more hc2 hm, if_neg hm, decls_no (sk_any hst _)]
/-- What is made of the declarations. -/
def progK (Z : Part) (p : Nat) (q : Option (List Tree) × St) : Tree × St :=
  match q with
  | (none, r) => (zero, r)
  | (some l, r) => if (Z (expect wDo r)).2.k ≠ 0 then (zero, (Z (expect wDo r)).2.fail 14) else (.node 30 [] [] (l ++ [(Z (expect wDo r)).1]) 0 p, (Z (expect wDo r)).2)
theorem prog_eq (s : St) : progP s = progK ((lev 40).x true) s.pl (declsLoop 61 [] s) := rfl
theorem sk_end (p : Nat) (l : List Tree) (t : Tree) {s : St} (hs : Stuck s) : (if s.k ≠ 0 then (zero, s.fail 14) else ((.node 30 [] [] (l ++ [t]) 0 p, s) : Tree × St)).2 = s := by
  rw [if_neg (by rw [hs.k]; decide)]
theorem sim_prog_with {ts : List Tok} (h : Ed ts) (Z : Part) (W : List Tok → GR.R Tree) (G : St → Option (List Tree) × St) (hx : ∀ ts, Ed ts → Sim (Z (Cl ts)) (W ts)) (hk : Sk Z) (hG : OSim (G (Cl ts)) (reps declStep [] ts)) :
    Sim (progK Z (hd ts).p (G (Cl ts))) (bnd (reps declStep [] ts) fun ks r => bnd (want wDo r) fun _ r => bnd (W r) fun x r => if (hd r).k = 0 then .ok (.node 30 [] [] (ks ++ [x]) 0 (hd ts).p, r) else fail 14 r) := by
  refine osim_bnd (progK Z (hd ts).p) hG ?_ ?_
  · intro l r hr
    refine sim_bnd (fun q => ((if (Z q.2).2.k ≠ 0 then (zero, (Z q.2).2.fail 14) else (Tree.node 30 [] [] (l ++ [(Z q.2).1]) 0 (hd ts).p, (Z q.2).2)) : Tree × St)) (sim_expect wDo hr) ?_ ?_
    · intro _ r hr
      refine sim_bnd (fun q => ((if q.2.k ≠ 0 then (zero, q.2.fail 14) else (Tree.node 30 [] [] (l ++ [q.1]) 0 (hd ts).p, q.2)) : Tree × St)) (hx r hr) ?_ ?_
      · intro x r hr
        show Sim (if (hd r).k ≠ 0 then (zero, (Cl r).fail 14) else (Tree.node 30 [] [] (l ++ [x]) 0 (hd ts).p, Cl r)) (if (hd r).k = 0 then .ok (.node 30 [] [] (l ++ [x]) 0 (hd ts).p, r) else fail 14 r)
        by_cases hc : (hd r).k = 0
        · rw [if_pos hc, if_neg (by omega)]; exact sim_ok hr
        · rw [if_neg hc, if_pos hc]; exact sim_fail hr (by decide)
      · intro t s hs; exact sk_end _ l t hs
    · intro _ s hs
      show ((if (Z s).2.k ≠ 0 then _ else _) : Tree × St).2 = s
      rw [hk s hs]
      exact sk_end _ l _ hs
  · intro a s hs
    cases a with
    | none => rfl
    | some l =>
      show ((if (Z (expect wDo s)).2.k ≠ 0 then _ else _) : Tree × St).2 = s
      rw [sk_expect hs, hk s hs]
      exact sk_end _ l _ hs
theorem sim_prog {ts : List Tok} (h : Ed ts) : Sim (progP (Cl ts)) (prog ts) := by
  rw [prog_eq]
  exact sim_prog_with h _ (exp 40 false) (declsLoop 61 []) (fun ts h => (sim_lev 40).x true ts h) ((sk_lev 40).x true) (sim_decls h 61 [] ⟨rfl, by decide⟩)
end Go.Proofs.YtlcapkgbbgpdmaaGreatDoor.MA

/- The mirror's answer to a source is the grammar's. Nothing of the program is in sight. -/
namespace Go.Proofs.YtlcapkgbbgpdmaaGreatDoor.MB
open Go.Proofs.YtlcapkgbbgpdmaaGreatDoor.TK Go.Proofs.YtlcapkgbbgpdmaaGreatDoor.TL Go.Proofs.YtlcapkgbbgpdmaaGreatDoor.GR Go.Proofs.YtlcapkgbbgpdmaaGreatDoor.MP Go.Proofs.YtlcapkgbbgpdmaaGreatDoor.MS Go.Proofs.YtlcapkgbbgpdmaaGreatDoor.MT Go.Proofs.YtlcapkgbbgpdmaaGreatDoor.MU Go.Proofs.YtlcapkgbbgpdmaaGreatDoor.MV Go.Proofs.YtlcapkgbbgpdmaaGreatDoor.MW Go.Proofs.YtlcapkgbbgpdmaaGreatDoor.MX Go.Proofs.YtlcapkgbbgpdmaaGreatDoor.MY Go.Proofs.YtlcapkgbbgpdmaaGreatDoor.MZ Go.Proofs.YtlcapkgbbgpdmaaGreatDoor.MA
set_option linter.unusedVariables false
set_option maxRecDepth 100000

theorem ed_of : ∀ {ts : List Tok}, 0 < ts.length → (∀ (j : Nat) (hj : j < ts.length), (ts[j].k = 0 ↔ j + 1 = ts.length)) → Ed ts
  | [], h, _ => absurd h (by decide)
  | [t], _, h => (h 0 (by simp)).2 rfl
  | t :: u :: r, h, h2 => ⟨fun e => by have := (h2 0 (by simp)).1 e; simp at this, ed_of (ts := u :: r) (by simp) (fun j hj => by
      have := h2 (j + 1) (by simpa using hj)
      simp at this ⊢
      exact this)⟩
theorem ed_run {l : List UInt8} {ts : List Tok} (h : run (l.length + 1) l 0 = .ok ts) : Ed ts :=
  ed_of (toks_good h).1 (fun j hj => ((toks_good h).2 j hj).1)
/-- The grammar's answer to a source's tokens: a node, a place, an error. -/
def told (r : GR.R Tree) : Tree × Nat × Nat :=
  match r with
  | .ok (t, _) => (t, 0, 0)
  | .error (p, e) => (zero, p, e)
def gparsed (l : List UInt8) : Tree × Nat × Nat :=
  if (toks l).2.2 = 0 then told (prog (toks l).1) else (zero, (toks l).2.1, (toks l).2.2)
theorem told_eq {q : Tree × St} {r : GR.R Tree} (h : Sim q r) : (if q.2.e = 0 then (q.1, 0, 0) else (zero, q.2.p, q.2.e)) = told r := by
  cases r with
  | ok a =>
    obtain ⟨h1, _⟩ := h
    rw [h1, if_pos rfl]
    rfl
  | error d =>
    obtain ⟨h1, h2, h3⟩ := h
    rw [if_neg h1.e, h2, h3]
    rfl
theorem gparsed_eq (l : List UInt8) : gparsed l = if (toks l).2.2 = 0 then (if (progP ⟨(toks l).1, 0, 0⟩).2.e = 0 then ((progP ⟨(toks l).1, 0, 0⟩).1, 0, 0) else (zero, (progP ⟨(toks l).1, 0, 0⟩).2.p, (progP ⟨(toks l).1, 0, 0⟩).2.e)) else (zero, (toks l).2.1, (toks l).2.2) := by
  unfold gparsed
  by_cases h : (toks l).2.2 = 0
  · rw [if_pos h, if_pos h]
    obtain ⟨ts, h1, h2, h3⟩ := toks_ok h
    rw [h1]
    exact (told_eq (sim_prog (ed_run h3))).symm
  · rw [if_neg h, if_neg h]
end Go.Proofs.YtlcapkgbbgpdmaaGreatDoor.MB
