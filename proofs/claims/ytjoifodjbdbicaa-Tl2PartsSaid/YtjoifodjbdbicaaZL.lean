/- ZL: several texts in one (VE VF). -/
import Derived.Test.YtjoifodjbdbicaaZK

/- Writes of two parts, plainly. -/
namespace Go.Proofs.Ytjoifodjbdbicaa.VE
open Go.RowKit Go.Proofs.Ytjoifodjbdbicaa.RG Go.Proofs.Ytjoifodjbdbicaa.UA Go.Proofs.Ytjoifodjbdbicaa.UB Go.Proofs.Ytjoifodjbdbicaa.UD Go.Proofs.Ytjoifodjbdbicaa.UE Go.Proofs.Ytjoifodjbdbicaa.UG Go.Proofs.Ytjoifodjbdbicaa.UJ Go.Proofs.Ytjoifodjbdbicaa.UL Go.Proofs.Ytjoifodjbdbicaa.UM Go.Proofs.Ytjoifodjbdbicaa.UQ Go.Proofs.Ytjoifodjbdbicaa.UT
set_option linter.unusedVariables false
set_option maxRecDepth 100000
set_option maxRecDepth 100000

/-- What a part has for a var. -/
def get (P : List Pt) (n q : Int) : Option Int := match P with
  | [] => none
  | p :: l => if p.n = n ∧ p.part = q then some p.v else get l n q
def Un (P : List Pt) : Prop := P.Pairwise fun a b => ¬ (a.n = b.n ∧ a.part = b.part)
theorem get_put (n v q n' q' : Int) : ∀ P : List Pt, get (putR n v q P) n' q' = if n' = n ∧ q' = q then some v else get P n' q'
  | [] => by
    show (if n = n' ∧ q = q' then some v else none) = _
    by_cases h : n' = n ∧ q' = q
    · rw [if_pos h, if_pos ⟨h.1.symm, h.2.symm⟩]
    · rw [if_neg h, if_neg (fun h2 => h ⟨h2.1.symm, h2.2.symm⟩)]; rfl
  | p :: l => by
    have ih := get_put n v q n' q' l
    unfold putR
    by_cases h : p.n = n ∧ p.part = q
    · rw [if_pos h]
      show (if p.n = n' ∧ p.part = q' then some v else get l n' q') = if n' = n ∧ q' = q then some v else (if p.n = n' ∧ p.part = q' then some p.v else get l n' q')
      by_cases h2 : n' = n ∧ q' = q
      · rw [if_pos h2, if_pos ⟨h.1.trans h2.1.symm, h.2.trans h2.2.symm⟩]
      · rw [if_neg h2, if_neg (fun h3 => h2 ⟨h3.1.symm.trans h.1, h3.2.symm.trans h.2⟩), if_neg (fun h3 => h2 ⟨h3.1.symm.trans h.1, h3.2.symm.trans h.2⟩)]
    · rw [if_neg h]
      show (if p.n = n' ∧ p.part = q' then some p.v else get (putR n v q l) n' q') = if n' = n ∧ q' = q then some v else (if p.n = n' ∧ p.part = q' then some p.v else get l n' q')
      rw [ih]
      by_cases h2 : n' = n ∧ q' = q
      · rw [if_pos h2, if_pos h2, if_neg (fun h3 => h ⟨h3.1.trans h2.1, h3.2.trans h2.2⟩)]
      · rw [if_neg h2, if_neg h2]
theorem put_parts {n v q : Int} {P : List Pt} {C : Pt → Prop} (hC : ∀ p p' : Pt, p.part = p'.part → C p → C p') (hq : C ⟨n, v, q⟩) : ∀ {P : List Pt}, (∀ p, p ∈ P → C p) → ∀ p, p ∈ putR n v q P → C p
  | [], h, p, hp => by rw [List.mem_singleton.1 hp]; exact hq
  | a :: l, h, p, hp => by
    unfold putR at hp
    split at hp
    · rcases List.mem_cons.1 hp with rfl | hp
      · exact hC a _ rfl (h a List.mem_cons_self)
      · exact h p (List.mem_cons_of_mem _ hp)
    · rcases List.mem_cons.1 hp with rfl | hp
      · exact h p List.mem_cons_self
      · exact put_parts (P := []) hC hq (fun p hp => h p (List.mem_cons_of_mem _ hp)) p hp
theorem put_key {n v q : Int} : ∀ {P : List Pt} {p : Pt}, p ∈ putR n v q P → (p.n = n ∧ p.part = q) ∨ ∃ a, a ∈ P ∧ a.n = p.n ∧ a.part = p.part
  | [], p, hp => by rw [List.mem_singleton.1 hp]; exact .inl ⟨rfl, rfl⟩
  | a :: l, p, hp => by
    unfold putR at hp
    split at hp
    · rcases List.mem_cons.1 hp with rfl | hp
      · exact .inr ⟨a, List.mem_cons_self, rfl, rfl⟩
      · exact .inr ⟨p, List.mem_cons_of_mem _ hp, rfl, rfl⟩
    · rcases List.mem_cons.1 hp with rfl | hp
      · exact .inr ⟨p, List.mem_cons_self, rfl, rfl⟩
      · rcases put_key hp with h | ⟨b, h1, h2⟩
        · exact .inl h
        · exact .inr ⟨b, List.mem_cons_of_mem _ h1, h2⟩
theorem put_un {n v q : Int} : ∀ {P : List Pt}, Un P → Un (putR n v q P)
  | [], h => List.pairwise_singleton _ _
  | a :: l, h => by
    have h1 := List.pairwise_cons.1 h
    unfold putR
    split
    · exact List.pairwise_cons.2 ⟨fun b hb => h1.1 b hb, h1.2⟩
    · next hne =>
      refine List.pairwise_cons.2 ⟨fun b hb => ?_, put_un h1.2⟩
      rcases put_key hb with e | ⟨c, hc, e1, e2⟩
      · exact fun e3 => hne ⟨e3.1.trans e.1, e3.2.trans e.2⟩
      · exact fun e3 => h1.1 c hc ⟨e3.1.trans e1.symm, e3.2.trans e2.symm⟩
/-- The youngest of two parts. -/
theorem best_two (n : Int) : ∀ (P : List Pt) (b : Option Pt), (∀ p, p ∈ P → p.part = 1 ∨ p.part = 2) → (∀ q, b = some q → q.part = 1 ∨ q.part = 2) →
    (P.foldl (bestS n) b).map (·.v) = match b with
      | none => (get P n 2).or (get P n 1)
      | some q => if q.part = 2 then some q.v else (get P n 2).or (some q.v)
  | [], b, _, hb => by
    cases b with
    | none => rfl
    | some q => show some q.v = if q.part = 2 then some q.v else some q.v; split <;> rfl
  | p :: l, b, hP, hb => by
    have hp := hP p List.mem_cons_self
    have hl := fun p h => hP p (List.mem_cons_of_mem _ h)
    show ((l.foldl (bestS n) (bestS n b p)).map (·.v)) = _
    have g2 : get (p :: l) n 2 = if p.n = n ∧ p.part = 2 then some p.v else get l n 2 := rfl
    have g1 : get (p :: l) n 1 = if p.n = n ∧ p.part = 1 then some p.v else get l n 1 := rfl
    rw [g2, g1]
    by_cases hn : p.n = n
    · cases b with
      | none =>
        have e : bestS n none p = some p := if_pos hn
        rw [e, best_two n l (some p) hl (fun q hq => by injection hq with hq; rw [← hq]; exact hp)]
        simp only
        rcases hp with h1 | h2
        · rw [if_neg (by omega), if_neg (fun h => by have := h.2; omega), if_pos ⟨hn, h1⟩]
        · rw [if_pos h2, if_pos ⟨hn, h2⟩]; rfl
      | some q =>
        have hq := hb q rfl
        have e : bestS n (some q) p = if q.part < p.part then some p else some q := if_pos hn
        rw [e]
        by_cases hlt : q.part < p.part
        · rw [if_pos hlt, best_two n l (some p) hl (fun q hq => by injection hq with hq; rw [← hq]; exact hp)]
          simp only
          rw [if_pos (show p.part = 2 by omega), if_neg (show ¬ q.part = 2 by omega), if_pos ⟨hn, by omega⟩]
          rfl
        · rw [if_neg hlt, best_two n l (some q) hl hb]
          simp only
          by_cases h2 : q.part = 2
          · rw [if_pos h2, if_pos h2]
          · rw [if_neg h2, if_neg h2, if_neg (fun h => by have := h.2; omega)]
    · have e : bestS n b p = b := if_neg hn
      rw [e, best_two n l b hl hb, if_neg (fun h => hn h.1), if_neg (fun h => hn h.1)]
theorem best_get {n : Int} {P : List Pt} (h : ∀ p, p ∈ P → p.part = 1 ∨ p.part = 2) : (bestR n P).map (·.v) = (get P n 2).or (get P n 1) := best_two n P none h (fun q hq => by cases hq)
theorem get_none {n q : Int} : ∀ {P : List Pt}, (∀ p, p ∈ P → ¬ p.part = q) → get P n q = none
  | [], _ => rfl
  | p :: l, h => by
    unfold get
    rw [if_neg (fun e => h p List.mem_cons_self e.2)]
    exact get_none (fun p hp => h p (List.mem_cons_of_mem _ hp))
theorem get_rst {n k q : Int} (hq : ¬ q = k) : ∀ P : List Pt, get (rstP k P) n q = get P n q
  | [] => rfl
  | p :: l => by
    have ih := get_rst hq (n := n) l
    unfold rstP at ih ⊢
    by_cases h : p.part = k
    · rw [List.filter_cons_of_neg (by simp [h]), ih]
      show get l n q = if p.n = n ∧ p.part = q then some p.v else get l n q
      rw [if_neg (fun e => hq (e.2.symm.trans h))]
    · rw [List.filter_cons_of_pos (by simp [h])]
      show (if p.n = n ∧ p.part = q then some p.v else get (l.filter _) n q) = if p.n = n ∧ p.part = q then some p.v else get l n q
      rw [ih]
theorem get_own {n k : Int} : ∀ P : List Pt, get (ownP k P) n k = get P n k
  | [] => rfl
  | p :: l => by
    have ih := get_own (n := n) (k := k) l
    unfold ownP at ih ⊢
    by_cases h : p.part = k
    · rw [List.filter_cons_of_pos (by simp [h])]
      show (if p.n = n ∧ p.part = k then some p.v else get (l.filter _) n k) = if p.n = n ∧ p.part = k then some p.v else get l n k
      rw [ih]
    · rw [List.filter_cons_of_neg (by simp [h]), ih]
      show get l n k = if p.n = n ∧ p.part = k then some p.v else get l n k
      rw [if_neg (fun e => h e.2)]
theorem get_fold {n : Int} : ∀ (O R : List Pt), Un O → (∀ p, p ∈ O → p.part = 2) → get (O.foldl (joinS 2) R) n 1 = (get O n 2).or (get R n 1)
  | [], R, _, _ => rfl
  | a :: O, R, hu, hp => by
    have h1 := List.pairwise_cons.1 hu
    have ha := hp a List.mem_cons_self
    show get (O.foldl (joinS 2) (joinS 2 R a)) n 1 = (if a.n = n ∧ a.part = 2 then some a.v else get O n 2).or (get R n 1)
    rw [get_fold O (joinS 2 R a) h1.2 (fun p h => hp p (List.mem_cons_of_mem _ h))]
    have e : get (joinS 2 R a) n 1 = if n = a.n ∧ (1 : Int) = 2 - 1 then some a.v else get R n 1 := get_put a.n a.v (2 - 1) n 1 R
    rw [e]
    by_cases hn : a.n = n
    · rw [if_pos ⟨hn.symm, rfl⟩, if_pos ⟨hn, ha⟩]
      have : get O n 2 = none := by
        have key : ∀ l : List Pt, (∀ b, b ∈ l → ¬ (a.n = b.n ∧ a.part = b.part)) → get l n 2 = none := fun l => by
          induction l with
          | nil => intro _; rfl
          | cons b l ih =>
            intro h
            unfold get
            rw [if_neg (fun e => h b List.mem_cons_self ⟨hn.trans e.1.symm, ha.trans e.2.symm⟩)]
            exact ih (fun c hc => h c (List.mem_cons_of_mem _ hc))
        exact key O h1.1
      rw [this]
      rfl
    · rw [if_neg (fun e => hn e.1.symm), if_neg (fun e => hn e.1)]
/-- What is there when both parts are one. -/
theorem get_join {n : Int} {P : List Pt} (hu : Un P) : get (shutX ⟨true, 0, [], P, 2, false, 0, 0⟩ true) n 1 = (get P n 2).or (get P n 1) := by
  rw [shutX_keep]
  show get ((ownP 2 P).foldl (joinS 2) (rstP 2 P)) n 1 = _
  rw [get_fold (ownP 2 P) (rstP 2 P) (List.Pairwise.filter _ hu) (fun p h => by have := (List.mem_filter.1 (show p ∈ P.filter _ from h)).2; simpa using this), get_own, get_rst (by decide)]
theorem get_undo {n : Int} {P : List Pt} : get (shutX ⟨true, 0, [], P, 2, false, 0, 0⟩ false) n 1 = get P n 1 := by
  rw [shutX_drop]
  exact get_rst (show ¬ (1 : Int) = 2 by decide) P
theorem shut_parts {P : List Pt} {keep : Bool} (hP : ∀ p, p ∈ P → p.part = 1 ∨ p.part = 2) : ∀ p, p ∈ shutX ⟨true, 0, [], P, 2, false, 0, 0⟩ keep → p.part = 1 := by
  have hr : ∀ p, p ∈ rstP 2 P → p.part = 1 := fun p h => by
    have h2 := List.mem_filter.1 (show p ∈ P.filter _ from h)
    have h3 := hP p h2.1
    have h4 : ¬ p.part = 2 := by simpa using h2.2
    rcases h3 with h3 | h3
    · exact h3
    · exact absurd h3 h4
  cases keep with
  | false => rw [shutX_drop]; exact hr
  | true =>
    rw [shutX_keep]
    show ∀ p, p ∈ (ownP 2 P).foldl (joinS 2) (rstP 2 P) → p.part = 1
    have key : ∀ (O R : List Pt), (∀ p, p ∈ R → p.part = 1) → ∀ p, p ∈ O.foldl (joinS 2) R → p.part = 1 := fun O => by
      induction O with
      | nil => intro R h p hp; exact h p hp
      | cons a O ih =>
        intro R h p hp
        refine ih (joinS 2 R a) (fun q hq => ?_) p hp
        exact put_parts (P := []) (C := fun p => p.part = 1) (fun p p' e h => e ▸ h) (show ((2 : Int) - 1) = 1 by decide) h q hq
    exact key _ _ hr
end Go.Proofs.Ytjoifodjbdbicaa.VE

/- Thread 0 alone, with parts, plainly. -/
namespace Go.Proofs.Ytjoifodjbdbicaa.VF
open Go.RowKit Go.Proofs.Ytjoifodjbdbicaa.RG Go.Proofs.Ytjoifodjbdbicaa.UA Go.Proofs.Ytjoifodjbdbicaa.UB Go.Proofs.Ytjoifodjbdbicaa.UD Go.Proofs.Ytjoifodjbdbicaa.UE Go.Proofs.Ytjoifodjbdbicaa.UG Go.Proofs.Ytjoifodjbdbicaa.UJ Go.Proofs.Ytjoifodjbdbicaa.UL Go.Proofs.Ytjoifodjbdbicaa.UM Go.Proofs.Ytjoifodjbdbicaa.UQ Go.Proofs.Ytjoifodjbdbicaa.UT Go.Proofs.Ytjoifodjbdbicaa.UX Go.Proofs.Ytjoifodjbdbicaa.VE
set_option linter.unusedVariables false
set_option maxRecDepth 100000
set_option maxRecDepth 100000

def pX (P : List Pt) (q : Int) (R : List Int) : Tx := ⟨true, 0, R, P, q, false, 0, 0⟩
def V4 : List Vr := [⟨10, 0, -1⟩, ⟨11, 0, -1⟩, ⟨12, 0, -1⟩, ⟨13, 0, -1⟩]
def pE (P : List Pt) (q : Int) (R : List Int) : Eg := ⟨0, V4, [pX P q R, tx0, tx0, tx0, tx0, tx0, tx0, tx0]⟩
theorem p_begin : beginR (bE 4) 0 = (pE [] 1 [], 0) := by decide +kernel
theorem p_th (P : List Pt) (q : Int) (R : List Int) : thR (pE P q R) 0 = some (pX P q R) := rfl
theorem p_set (P : List Pt) (q : Int) (R : List Int) (P' : List Pt) (q' : Int) (R' : List Int) : setT (pE P q R) 0 (pX P' q' R') = pE P' q' R' := rfl
theorem p_part (P : List Pt) (R : List Int) : partR (pE P 1 R) 0 = (pE P 2 R, 0) := by
  unfold partR
  rw [p_th]
  rfl
theorem p_vr {K : Nat} (hK : K < 4) (P : List Pt) (q : Int) (R : List Int) : vrR (pE P q R) (K : Int) = some ⟨10 + (K : Int), 0, -1⟩ := by
  rw [vrR_nat]
  show V4[K]? = _
  match K, hK with
  | 0, _ => rfl
  | 1, _ => rfl
  | 2, _ => rfl
  | 3, _ => rfl
  | K + 4, h => exact absurd h (by omega)
theorem p_write {K : Nat} (hK : K < 4) (P : List Pt) (q : Int) (R : List Int) (v : Int) : writeR (pE P q R) 0 (K : Int) v = (pE (putR (K : Int) v q P) q R, 0) := by
  unfold writeR
  rw [p_th, p_vr hK]
  rfl
theorem p_shut (P : List Pt) (keep : Bool) : shutR (pE P 2 []) 0 keep = (pE (shutX (pX P 2 []) keep) 1 [], 0) := by
  unfold shutR
  rw [p_th]
  simp only
  rw [if_pos ⟨rfl, show ¬ (2 : Int) = 1 by decide⟩]
  rfl
structure Iv (keep : Bool) (fr i : Nat) (P : List Pt) (W : List Int) : Prop where
  len : W.length = 4
  un : Un P
  prt : ∀ p, p ∈ P → p.part = 1 ∨ p.part = 2
  one : i ≤ fr → ∀ p, p ∈ P → p.part = 1
  val : ∀ n : Nat, n < 4 → W[n]? = some ((if keep then (get P (n : Int) 2).or (get P (n : Int) 1) else get P (n : Int) 1).getD (10 + (n : Int)))
theorem iv_begin (keep : Bool) (fr : Nat) : Iv keep fr 0 [] [10, 11, 12, 13] :=
  ⟨rfl, List.Pairwise.nil, (fun p h => by cases h), (fun _ p h => by cases h), fun n hn => by
    have e : ∀ m : Int, (if keep = true then (get [] m 2).or (get [] m 1) else get [] m 1) = none := fun m => by cases keep <;> rfl
    rw [e]
    match n, hn with
    | 0, _ => rfl
    | 1, _ => rfl
    | 2, _ => rfl
    | 3, _ => rfl
    | n + 4, h => exact absurd h (by omega)⟩
/-- The part that writes. -/
def qA (fr i : Nat) : Int := if i < fr then 1 else 2
def qB (fr i : Nat) : Int := if i ≤ fr then 1 else 2
theorem iv_step {keep : Bool} {fr i : Nat} {P : List Pt} {W : List Int} (h : Iv keep fr i P W) {K : Nat} (hK : K < 4) (v : Int) : Iv keep fr (i + 1) (putR (K : Int) v (qA fr i) P) (if i < fr ∨ keep = true then W.set K v else W) := by
  refine ⟨by split; rw [List.length_set]; exact h.len; exact h.len, put_un h.un, ?_, ?_, fun n hn => ?_⟩
  · refine put_parts (P := []) (C := fun p => p.part = 1 ∨ p.part = 2) (fun p p' e h => by rw [← e]; exact h) ?_ h.prt
    show qA fr i = 1 ∨ qA fr i = 2
    unfold qA
    split
    · exact .inl rfl
    · exact .inr rfl
  · intro hi
    refine put_parts (P := []) (C := fun p => p.part = 1) (fun p p' e h => by rw [← e]; exact h) ?_ (h.one (by omega))
    show qA fr i = 1
    unfold qA
    rw [if_pos (by omega)]
  · have hv := h.val n hn
    have hl := h.len
    have hW : (if i < fr ∨ keep = true then W.set K v else W)[n]? = if (i < fr ∨ keep = true) ∧ n = K then some v else W[n]? := by
      by_cases c : i < fr ∨ keep = true
      · rw [if_pos c, List.getElem?_set]
        by_cases e : n = K
        · rw [if_pos e.symm, if_pos (by omega), if_pos ⟨c, e⟩]
        · rw [if_neg (fun h => e h.symm), if_neg (fun h => e h.2)]
      · rw [if_neg c, if_neg (fun h => c h.1)]
    rw [hW]
    by_cases e : n = K
    · subst e
      by_cases c : i < fr
      · have q1 : qA fr i = 1 := if_pos c
        have g2 : get (putR (n : Int) v (qA fr i) P) (n : Int) 2 = none := by
          rw [get_put, q1, if_neg (fun h => absurd h.2 (by decide))]
          exact get_none (fun p hp e => by have := h.one (by omega) p hp; omega)
        have g1 : get (putR (n : Int) v (qA fr i) P) (n : Int) 1 = some v := by rw [get_put, q1, if_pos ⟨rfl, rfl⟩]
        rw [if_pos ⟨.inl c, rfl⟩, g2, g1]
        cases keep <;> rfl
      · have q2 : qA fr i = 2 := if_neg c
        have g2 : get (putR (n : Int) v (qA fr i) P) (n : Int) 2 = some v := by rw [get_put, q2, if_pos ⟨rfl, rfl⟩]
        have g1 : get (putR (n : Int) v (qA fr i) P) (n : Int) 1 = get P (n : Int) 1 := by rw [get_put, q2, if_neg (fun h => absurd h.2 (by decide))]
        rw [g2, g1]
        cases keep with
        | true => rw [if_pos ⟨.inr rfl, rfl⟩]; rfl
        | false =>
          rw [if_neg (fun h => by rcases h.1 with h | h; exact c h; cases h), hv]
          rfl
    · have g2 : get (putR (K : Int) v (qA fr i) P) (n : Int) 2 = get P (n : Int) 2 := by rw [get_put, if_neg (fun h => e (by have := h.1; omega))]
      have g1 : get (putR (K : Int) v (qA fr i) P) (n : Int) 1 = get P (n : Int) 1 := by rw [get_put, if_neg (fun h => e (by have := h.1; omega))]
      rw [if_neg (fun h => e h.2), g2, g1, hv]
/-- What is read at last. -/
structure Fin (P : List Pt) (W : List Int) : Prop where
  len : W.length = 4
  prt : ∀ p, p ∈ P → p.part = 1
  val : ∀ n : Nat, n < 4 → W[n]? = some ((get P (n : Int) 1).getD (10 + (n : Int)))
theorem fin_none {keep : Bool} {fr i : Nat} {P : List Pt} {W : List Int} (h : Iv keep fr i P W) (hi : i ≤ fr) : Fin P W :=
  ⟨h.len, h.one hi, fun n hn => by
    have g2 : get P (n : Int) 2 = none := get_none (fun p hp e => by have := h.one hi p hp; omega)
    rw [h.val n hn, g2]
    cases keep <;> rfl⟩
theorem fin_shut {keep : Bool} {fr i : Nat} {P : List Pt} {W : List Int} (h : Iv keep fr i P W) : Fin (shutX (pX P 2 []) keep) W :=
  ⟨h.len, shut_parts h.prt, fun n hn => by
    rw [h.val n hn]
    cases keep with
    | true => rw [show get (shutX (pX P 2 []) true) (n : Int) 1 = _ from get_join h.un]; rfl
    | false => rw [show get (shutX (pX P 2 []) false) (n : Int) 1 = _ from get_undo]; rfl⟩
theorem p_read {P : List Pt} {W : List Int} (h : Fin P W) {n : Nat} (hn : n < 4) {R : List Int} (hR : ∀ k, k ∈ R → k < (n : Int)) : ∃ R', (∀ k, k ∈ R' → k < ((n + 1 : Nat) : Int)) ∧ ∃ x, W[n]? = some x ∧ readR (pE P 1 R) 0 (n : Int) = (pE P 1 R', x, 0) := by
  have hb := best_get (n := (n : Int)) (P := P) (fun p hp => .inl (h.prt p hp))
  have g2 : get P (n : Int) 2 = none := get_none (fun p hp e => by have := h.prt p hp; omega)
  rw [g2] at hb
  have hv := h.val n hn
  have hr : readR (pE P 1 R) 0 (n : Int) = (setT (pE P 1 R) 0 { pX P 1 R with reads := (readX (pX P 1 R) ⟨10 + (n : Int), 0, -1⟩ 0 (n : Int)).1 }, (readX (pX P 1 R) ⟨10 + (n : Int), 0, -1⟩ 0 (n : Int)).2) := by
    unfold readR
    rw [p_th, p_vr hn]
    exact if_pos rfl
  rw [hr]
  cases hbb : bestR (n : Int) P with
  | some p =>
    rw [hbb] at hb
    have hb : some p.v = get P (n : Int) 1 := hb
    rw [← hb] at hv
    have hx : readX (pX P 1 R) ⟨10 + (n : Int), 0, -1⟩ 0 (n : Int) = (R, p.v, 0) := readX_some hbb
    rw [hx]
    exact ⟨R, fun k hk => by have := hR k hk; omega, p.v, hv, rfl⟩
  | none =>
    rw [hbb] at hb
    have hb : none = get P (n : Int) 1 := hb
    rw [← hb] at hv
    have hx : readX (pX P 1 R) ⟨10 + (n : Int), 0, -1⟩ 0 (n : Int) = (R ++ [(n : Int)], 10 + (n : Int), 0) := readX_new hbb (by unfold lookR; rw [if_neg (fun h => absurd h.1 (show ¬ (0 : Int) ≤ -1 by decide)), if_neg (show ¬ (pX P 1 R).start < (⟨10 + (n : Int), 0, -1⟩ : Vr).ver from (by decide : ¬ (0 : Int) < 0))]) (fun hk => by have := hR _ hk; omega)
    rw [hx]
    refine ⟨R ++ [(n : Int)], fun k hk => ?_, 10 + (n : Int), hv, rfl⟩
    rcases List.mem_append.1 hk with hk | hk
    · have := hR k hk; omega
    · rw [List.mem_singleton.1 hk]; omega
end Go.Proofs.Ytjoifodjbdbicaa.VF
