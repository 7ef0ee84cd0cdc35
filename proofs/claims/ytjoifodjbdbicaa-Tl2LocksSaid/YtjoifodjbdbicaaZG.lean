/- ZG: several texts in one (UQ UR UU). -/
import Derived.Test.YtjoifodjbdbicaaZF

/- Deeds of an engine, plainly: numbers stay small. -/
namespace Go.Proofs.Ytjoifodjbdbicaa.UQ
open Go.RowKit Go.Proofs.Ytjoifodjbdbicaa.RG Go.Proofs.Ytjoifodjbdbicaa.UA Go.Proofs.Ytjoifodjbdbicaa.UB Go.Proofs.Ytjoifodjbdbicaa.UE Go.Proofs.Ytjoifodjbdbicaa.UG Go.Proofs.Ytjoifodjbdbicaa.UL Go.Proofs.Ytjoifodjbdbicaa.UM
set_option linter.unusedVariables false
set_option maxRecDepth 100000
set_option maxRecDepth 100000

/-- Something that is asked: its kind, thread, var, value. -/
structure Dd where
  k : Int
  t : Int
  n : Int
  v : Int
def deedR (E : Eg) (d : Dd) : Eg × Int × Int :=
  if d.k = 0 then ((beginR E d.t).1, 0, (beginR E d.t).2)
  else if d.k = 1 then readR E d.t d.n
  else if d.k = 2 then ((writeR E d.t d.n d.v).1, 0, (writeR E d.t d.n d.v).2)
  else if d.k = 3 then stepR E d.t
  else if d.k = 4 then ((partR E d.t).1, 0, (partR E d.t).2)
  else if d.k = 5 then ((shutR E d.t true).1, 0, (shutR E d.t true).2)
  else if d.k = 6 then ((shutR E d.t false).1, 0, (shutR E d.t false).2)
  else if d.k = 7 then ((abortR E d.t).1, 0, (abortR E d.t).2)
  else if d.k = 8 then makeR E d.v
  else if d.k = 9 then (E, 0, validR E d.t)
  else (E, 0, 0)
/-- Numbers are small; what commits has its stamp, and nothing else has one. -/
structure Wg (m : Nat) (E : Eg) : Prop where
  wf : Wf m E
  com : ∀ x, x ∈ E.T → 0 < x.stamp → x.commits = true
  dn : ∀ x, x ∈ E.T → ¬ 0 < x.stamp → x.done = 0
theorem WfT.mono {m m' N N' : Nat} {x : Tx} (h : WfT m N x) (hm : m ≤ m') (hN : N ≤ N') : WfT m' N' x :=
  ⟨by have := h.parts; omega, h.parts1, Nat.le_trans h.puts hm, Nat.le_trans h.reads hm, fun n hn => by have := h.inr n hn; omega, fun p hp => by have := h.inp p hp; omega, h.stamp⟩
theorem wf_mono {m m' : Nat} {E : Eg} (h : Wf m E) (hm : m ≤ m') : Wf m' E :=
  ⟨h.th, h.vs, ⟨h.ck.1, by have := h.ck.2; omega⟩, fun x hx => WfT.mono (h.tx x hx) hm (Nat.le_refl _)⟩
theorem wg_mono {m m' : Nat} {E : Eg} (h : Wg m E) (hm : m ≤ m') : Wg m' E := ⟨wf_mono h.wf hm, h.com, h.dn⟩
theorem new_tx {x : Tx} (hx : x ∈ newR.T) : x = tx0 := List.eq_of_mem_replicate (show x ∈ List.replicate 8 tx0 from hx)
theorem wg_new : Wg 0 newR where
  wf := ⟨rfl, by decide, by decide, fun x hx => by
    rw [new_tx hx]
    exact ⟨by decide, (by intro h; cases h), by decide, by decide, (fun n hn => by cases hn), (fun p hp => by cases hp), (by intro h; cases h)⟩⟩
  com := fun x hx h => by
    rw [new_tx hx] at h
    cases h
  dn := fun x hx h => by rw [new_tx hx]; rfl
theorem wft_tx0 (m N : Nat) : WfT m N tx0 := ⟨by show (0 : Int) ≤ _; omega, (by intro h; cases h), Nat.zero_le _, Nat.zero_le _, (fun n hn => by cases hn), (fun p hp => by cases hp), (by intro h; cases h)⟩
/-- A thread's transaction is another one. -/
theorem wg_set {m m' : Nat} {E : Eg} (h : Wg m E) (hm : m ≤ m') (t : Int) {V : List Vr} {c : Int} {x : Tx} (hV : V.length = E.V.length) (hc : 0 ≤ c ∧ c ≤ (m' : Int)) (hx : WfT m' E.V.length x) (h1 : 0 < x.stamp → x.commits = true) (h2 : ¬ 0 < x.stamp → x.done = 0) : Wg m' { setT E t x with V := V, clock := c } := by
  have hmem : ∀ y, y ∈ E.T.set t.toNat x → y ∈ E.T ∨ y = x := fun y hy => List.mem_or_eq_of_mem_set hy
  refine ⟨⟨by show (E.T.set _ _).length = 8; rw [List.length_set]; exact h.wf.th, by show V.length ≤ 4000; rw [hV]; exact h.wf.vs, hc, fun y hy => ?_⟩, fun y hy => ?_, fun y hy => ?_⟩
  · show WfT m' V.length y
    rw [hV]
    rcases hmem y hy with h3 | rfl
    · exact WfT.mono (h.wf.tx y h3) hm (Nat.le_refl _)
    · exact hx
  · rcases hmem y hy with h3 | rfl
    · exact h.com y h3
    · exact h1
  · rcases hmem y hy with h3 | rfl
    · exact h.dn y h3
    · exact h2
theorem wg_set0 {m m' : Nat} {E : Eg} (h : Wg m E) (hm : m ≤ m') (t : Int) {x : Tx} (hx : WfT m' E.V.length x) (h1 : 0 < x.stamp → x.commits = true) (h2 : ¬ 0 < x.stamp → x.done = 0) : Wg m' (setT E t x) :=
  wg_set (V := E.V) (c := E.clock) h hm t rfl ⟨h.wf.ck.1, by have := h.wf.ck.2; omega⟩ hx h1 h2
theorem thR_mem {E : Eg} {t : Int} {x : Tx} (h : thR E t = some x) : x ∈ E.T := by
  unfold thR at h
  split at h
  · exact mem_of h
  · cases h
theorem vrR_lt {E : Eg} {n : Int} {v : Vr} (h : vrR E n = some v) : 0 ≤ n ∧ n < (E.V.length : Int) := by
  unfold vrR at h
  split at h
  · next h0 => have := (List.getElem?_eq_some_iff.1 h).1; omega
  · cases h
theorem open_stamp {m : Nat} {E : Eg} (h : Wg m E) {x : Tx} (hx : x ∈ E.T) (ho : opn x = true) : ¬ 0 < x.stamp := fun hs => by
  have := h.com x hx hs
  unfold opn at ho
  rw [this] at ho
  cases hi : x.is <;> simp [hi] at ho
theorem putR_mem {n v part : Int} : ∀ {l : List Pt} {p : Pt}, p ∈ putR n v part l → p.n = n ∨ ∃ q, q ∈ l ∧ q.n = p.n
  | [], p, h => .inl (by rw [List.mem_singleton.1 h])
  | q :: l, p, h => by
    unfold putR at h
    split at h
    · rcases List.mem_cons.1 h with rfl | h
      · exact .inr ⟨q, List.mem_cons_self, rfl⟩
      · exact .inr ⟨p, List.mem_cons_of_mem _ h, rfl⟩
    · rcases List.mem_cons.1 h with rfl | h
      · exact .inr ⟨p, List.mem_cons_self, rfl⟩
      · rcases putR_mem h with h | ⟨y, h1, h2⟩
        · exact .inl h
        · exact .inr ⟨y, List.mem_cons_of_mem _ h1, h2⟩
theorem fold_mem {k : Int} : ∀ {l r : List Pt} {p : Pt}, p ∈ l.foldl (joinS k) r → ∃ q, (q ∈ l ∨ q ∈ r) ∧ q.n = p.n
  | [], r, p, h => ⟨p, .inr h, rfl⟩
  | a :: l, r, p, h => by
    obtain ⟨q, h1, h2⟩ := fold_mem (l := l) (r := joinS k r a) h
    rcases h1 with h1 | h1
    · exact ⟨q, .inl (List.mem_cons_of_mem _ h1), h2⟩
    · rcases putR_mem (show q ∈ putR a.n a.v (k - 1) r from h1) with h3 | ⟨y, h3, h4⟩
      · exact ⟨a, .inl List.mem_cons_self, by rw [← h2, h3]⟩
      · exact ⟨y, .inr h3, h4.trans h2⟩
theorem fold_len {k : Int} : ∀ (l r : List Pt), (l.foldl (joinS k) r).length ≤ l.length + r.length
  | [], r => by simp
  | a :: l, r => by
    have ih := fold_len (k := k) l (joinS k r a)
    have := putR_len a.n a.v (k - 1) r
    have h2 : (joinS k r a).length ≤ r.length + 1 := this
    show (l.foldl (joinS k) (joinS k r a)).length ≤ _
    rw [List.length_cons]
    omega
theorem shut_mem {x : Tx} {keep : Bool} {p : Pt} (h : p ∈ shutX x keep) : ∃ q, q ∈ x.puts ∧ q.n = p.n := by
  cases keep with
  | false => exact ⟨p, (List.mem_filter.1 (show p ∈ x.puts.filter _ from h)).1, rfl⟩
  | true =>
    rw [shutX_keep] at h
    obtain ⟨q, h1, h2⟩ := fold_mem h
    refine ⟨q, ?_, h2⟩
    rcases h1 with h1 | h1
    · exact (List.mem_filter.1 (show q ∈ x.puts.filter _ from h1)).1
    · exact (List.mem_filter.1 (show q ∈ x.puts.filter _ from h1)).1
theorem shut_len (x : Tx) (keep : Bool) : (shutX x keep).length ≤ x.puts.length := by
  have h := ownP_len x.parts x.puts
  cases keep with
  | false => rw [shutX_drop]; omega
  | true =>
    rw [shutX_keep]
    have := fold_len (k := x.parts) (ownP x.parts x.puts) (rstP x.parts x.puts)
    omega
theorem wg_begin {m : Nat} {E : Eg} (h : Wg m E) (t : Int) : Wg (m + 1) (beginR E t).1 := by
  unfold beginR
  split
  · split
    · exact wg_mono h (Nat.le_succ _)
    · refine wg_set0 h (Nat.le_succ _) t ⟨by show (1 : Int) ≤ _; omega, fun _ => Int.le_refl _, Nat.zero_le _, Nat.zero_le _, (fun n hn => by cases hn), (fun p hp => by cases hp), (by intro h; cases h)⟩ (by intro h; cases h) (fun _ => rfl)
  · exact wg_mono h (Nat.le_succ _)
theorem wg_read {m : Nat} {E : Eg} (h : Wg m E) (t n : Int) : Wg (m + 1) (readR E t n).1 := by
  unfold readR
  split
  · next x v hx hv =>
    split
    · next ho =>
      have hw := h.wf.tx x (thR_mem hx)
      have hrl : (readX x v t n).1 = x.reads ∨ (readX x v t n).1 = x.reads ++ [n] := by
        unfold readX
        split
        · exact .inl rfl
        · split
          · simp only
            split
            · exact .inl rfl
            · exact .inr rfl
          · exact .inl rfl
      refine wg_set0 h (Nat.le_succ _) t ⟨by have := hw.parts; show x.parts ≤ _; omega, hw.parts1, Nat.le_trans hw.puts (Nat.le_succ _), ?_, ?_, hw.inp, hw.stamp⟩ (h.com x (thR_mem hx)) (h.dn x (thR_mem hx))
      · show (readX x v t n).1.length ≤ _
        have := hw.reads
        rcases hrl with e | e
        · rw [e]; omega
        · rw [e, List.length_append, List.length_singleton]; omega
      · intro k hk
        have hk : k ∈ (readX x v t n).1 := hk
        rcases hrl with e | e
        · rw [e] at hk; exact hw.inr k hk
        · rw [e] at hk
          rcases List.mem_append.1 hk with hk | hk
          · exact hw.inr k hk
          · rw [List.mem_singleton.1 hk]; exact vrR_lt hv
    · exact wg_mono h (Nat.le_succ _)
  · exact wg_mono h (Nat.le_succ _)
theorem wg_write {m : Nat} {E : Eg} (h : Wg m E) (t n v : Int) : Wg (m + 1) (writeR E t n v).1 := by
  unfold writeR
  split
  · next x vr hx hv =>
    split
    · next ho =>
      have hw := h.wf.tx x (thR_mem hx)
      have hs := open_stamp h (thR_mem hx) ho
      refine wg_set0 h (Nat.le_succ _) t ⟨by have := hw.parts; show x.parts ≤ _; omega, hw.parts1, ?_, Nat.le_trans hw.reads (Nat.le_succ _), hw.inr, ?_, fun h0 => absurd h0 hs⟩ (h.com x (thR_mem hx)) (h.dn x (thR_mem hx))
      · have := putR_len n v x.parts x.puts
        have := hw.puts
        show (putR n v x.parts x.puts).length ≤ _
        omega
      · intro p hp
        rcases putR_mem (show p ∈ putR n v x.parts x.puts from hp) with e | ⟨q, h1, h2⟩
        · rw [e]; exact vrR_lt hv
        · rw [← h2]; exact hw.inp q h1
    · exact wg_mono h (Nat.le_succ _)
  · exact wg_mono h (Nat.le_succ _)
theorem wg_part {m : Nat} {E : Eg} (h : Wg m E) (t : Int) : Wg (m + 1) (partR E t).1 := by
  unfold partR
  split
  · next x hx =>
    split
    · next ho =>
      have hw := h.wf.tx x (thR_mem hx)
      exact wg_set0 h (Nat.le_succ _) t ⟨by have := hw.parts; show x.parts + 1 ≤ _; omega, fun hi => by have := hw.parts1 hi; show 1 ≤ x.parts + 1; omega, Nat.le_trans hw.puts (Nat.le_succ _), Nat.le_trans hw.reads (Nat.le_succ _), hw.inr, hw.inp, hw.stamp⟩ (h.com x (thR_mem hx)) (h.dn x (thR_mem hx))
    · exact wg_mono h (Nat.le_succ _)
  · exact wg_mono h (Nat.le_succ _)
theorem wg_shut {m : Nat} {E : Eg} (h : Wg m E) (t : Int) (keep : Bool) : Wg (m + 1) (shutR E t keep).1 := by
  unfold shutR
  split
  · next x hx =>
    split
    · next ho =>
      have hw := h.wf.tx x (thR_mem hx)
      have hs := open_stamp h (thR_mem hx) ho.1
      have hi : x.is = true := by
        have := ho.1
        unfold opn at this
        cases hi : x.is <;> simp [hi] at this ⊢
      have h1 := hw.parts1 hi
      refine wg_set0 h (Nat.le_succ _) t ⟨by have := hw.parts; show x.parts - 1 ≤ _; omega, fun _ => by have := ho.2; show 1 ≤ x.parts - 1; omega, Nat.le_trans (Nat.le_trans (shut_len x keep) hw.puts) (Nat.le_succ _), Nat.le_trans hw.reads (Nat.le_succ _), hw.inr, ?_, fun h0 => absurd h0 hs⟩ (h.com x (thR_mem hx)) (h.dn x (thR_mem hx))
      intro p hp
      obtain ⟨q, h2, h3⟩ := shut_mem (show p ∈ shutX x keep from hp)
      rw [← h3]
      exact hw.inp q h2
    · exact wg_mono h (Nat.le_succ _)
  · exact wg_mono h (Nat.le_succ _)
theorem wg_step {m : Nat} {E : Eg} (h : Wg m E) (t : Int) : Wg (m + 1) (stepR E t).1 := by
  have hck : (0 : Int) ≤ E.clock ∧ E.clock ≤ ((m + 1 : Nat) : Int) := ⟨h.wf.ck.1, by have := h.wf.ck.2; omega⟩
  unfold stepR
  split
  · exact wg_mono h (Nat.le_succ _)
  · next x hx =>
    have hw := WfT.mono (h.wf.tx x (thR_mem hx)) (Nat.le_succ m) (Nat.le_refl _)
    split
    · exact wg_mono h (Nat.le_succ _)
    · split
      · next hs =>
        split
        · exact wg_mono h (Nat.le_succ _)
        · next p hp =>
          split
          · next hl =>
            exact wg_set h (Nat.le_succ _) t (x := { x with commits := true, done := x.done + 1 }) (c := E.clock) (by rw [List.length_set]) hck ⟨hw.parts, hw.parts1, hw.puts, hw.reads, hw.inr, hw.inp, fun _ => ⟨by have := (hw.stamp hs).1; show 0 ≤ x.done + 1; omega, hl⟩⟩ (fun _ => rfl) (fun h0 => absurd hs h0)
          · exact wg_set h (Nat.le_succ _) t (x := tx0) (c := E.clock) (by rw [List.length_set]) hck (wft_tx0 _ _) (by intro h; cases h) (fun _ => rfl)
      · next hs =>
        split
        · next n v hf =>
          split
          · exact wg_set0 h (Nat.le_succ _) t ⟨hw.parts, hw.parts1, hw.puts, hw.reads, hw.inr, hw.inp, hw.stamp⟩ (fun _ => rfl) (h.dn x (thR_mem hx))
          · exact wg_set h (Nat.le_succ _) t (x := { x with commits := true }) (c := E.clock) (by rw [List.length_set]) hck ⟨hw.parts, hw.parts1, hw.puts, hw.reads, hw.inr, hw.inp, hw.stamp⟩ (fun _ => rfl) (h.dn x (thR_mem hx))
        · split
          · split
            · exact wg_set0 h (Nat.le_succ _) t (wft_tx0 _ _) (by intro h; cases h) (fun _ => rfl)
            · next hl =>
              refine wg_set h (Nat.le_succ _) t (V := E.V) (x := { x with commits := true, stamp := E.clock + 1 }) (c := E.clock + 1) rfl ⟨by have := h.wf.ck.1; omega, by have := h.wf.ck.2; omega⟩ ⟨hw.parts, hw.parts1, hw.puts, hw.reads, hw.inr, hw.inp, fun _ => ?_⟩ (fun _ => rfl) (fun h0 => absurd (show 0 < E.clock + 1 by have := h.wf.ck.1; omega) h0)
              have := h.dn x (thR_mem hx) hs
              have h3 : 0 < (sortR x.puts 1).length := List.length_pos_iff.2 hl
              show 0 ≤ x.done ∧ x.done < _
              rw [this]
              exact ⟨Int.le_refl _, by show (0 : Int) < ((sortR x.puts 1).length : Int); omega⟩
          · exact wg_set0 h (Nat.le_succ _) t ⟨hw.parts, hw.parts1, hw.puts, hw.reads, hw.inr, hw.inp, hw.stamp⟩ (fun _ => rfl) (h.dn x (thR_mem hx))
theorem wg_abort {m : Nat} {E : Eg} (h : Wg m E) (t : Int) : Wg (m + 1) (abortR E t).1 := by
  unfold abortR
  split
  · exact wg_mono h (Nat.le_succ _)
  · split
    · exact wg_mono h (Nat.le_succ _)
    · exact wg_set h (Nat.le_succ _) t (x := tx0) (c := E.clock) (by rw [List.length_map]) ⟨h.wf.ck.1, by have := h.wf.ck.2; omega⟩ (wft_tx0 _ _) (by intro h; cases h) (fun _ => rfl)
theorem wg_make {m : Nat} {E : Eg} (h : Wg m E) (v : Int) : Wg (m + 1) (makeR E v).1 := by
  unfold makeR
  split
  · exact wg_mono h (Nat.le_succ _)
  · next h4 =>
    have hl : (E.V ++ [(⟨v, 0, -1⟩ : Vr)]).length = E.V.length + 1 := by rw [List.length_append]; rfl
    have hv := h.wf.vs
    exact ⟨⟨h.wf.th, by show (E.V ++ [_]).length ≤ 4000; rw [hl]; omega, ⟨h.wf.ck.1, by have := h.wf.ck.2; show E.clock ≤ _; omega⟩, fun x hx => by
      show WfT _ (E.V ++ [_]).length x
      exact WfT.mono (h.wf.tx x hx) (Nat.le_succ _) (by rw [hl]; omega)⟩, h.com, h.dn⟩
theorem wg_deed {m : Nat} {E : Eg} (h : Wg m E) (d : Dd) : Wg (m + 1) (deedR E d).1 := by
  unfold deedR
  split
  · exact wg_begin h _
  split
  · exact wg_read h _ _
  split
  · exact wg_write h _ _ _
  split
  · exact wg_step h _
  split
  · exact wg_part h _
  split
  · exact wg_shut h _ _
  split
  · exact wg_shut h _ _
  split
  · exact wg_abort h _
  split
  · exact wg_make h _
  split
  · exact wg_mono h (Nat.le_succ _)
  · exact wg_mono h (Nat.le_succ _)
end Go.Proofs.Ytjoifodjbdbicaa.UQ

/- What is asked of the program's engine, as far as the laws need it; both engines beside each other. -/
namespace Go.Proofs.Ytjoifodjbdbicaa.UR
open Go.RowKit Go.Proofs.Ytjoifodjbdbicaa.RG Go.Proofs.Ytjoifodjbdbicaa.RB Go.Proofs.Ytjoifodjbdbicaa.RI Go.Proofs.Ytjoifodjbdbicaa.UA Go.Proofs.Ytjoifodjbdbicaa.UB Go.Proofs.Ytjoifodjbdbicaa.UC Go.Proofs.Ytjoifodjbdbicaa.UD Go.Proofs.Ytjoifodjbdbicaa.UE Go.Proofs.Ytjoifodjbdbicaa.UF Go.Proofs.Ytjoifodjbdbicaa.UG Go.Proofs.Ytjoifodjbdbicaa.UH Go.Proofs.Ytjoifodjbdbicaa.UI Go.Proofs.Ytjoifodjbdbicaa.UJ Go.Proofs.Ytjoifodjbdbicaa.UK Go.Proofs.Ytjoifodjbdbicaa.UL Go.Proofs.Ytjoifodjbdbicaa.UM Go.Proofs.Ytjoifodjbdbicaa.UN Go.Proofs.Ytjoifodjbdbicaa.UO Go.Proofs.Ytjoifodjbdbicaa.UP Go.Proofs.Ytjoifodjbdbicaa.UQ
set_option linter.unusedVariables false
set_option maxRecDepth 100000
set_option maxRecDepth 100000

/-- A number of 64 bits. -/
def B64 (x : Int) : Prop := -9223372036854775808 ≤ x ∧ x ≤ 9223372036854775807
/-- What is told of an engine. -/
def startR (E : Eg) (t : Int) : Int := match thR E t with
  | some x => if x.is then x.start else 0
  | none => 0
def readsR (E : Eg) (t : Int) : List Int := match thR E t with
  | some x => if x.is then x.reads else []
  | none => []
def newerR (E : Eg) (n than : Int) : Bool := match vrR E n with
  | some v => decide (than < v.ver)
  | none => false
def valueR (E : Eg) (n : Int) : Int × Int := match vrR E n with
  | some v => (v.val, 0)
  | none => (0, 1)
/-- Other values are set, if there are as many. -/
def SetR (E : Eg) (ws : List Int) (E' : Eg) : Prop := if ws.length = (wordsR E).length then wordsR E' = ws ∧ E'.V.map (·.val) = ws.take E.V.length ∧ (∀ m, Wg m E → Wg m E') else E' = E
/-- What is asked of the program's engine: 'TP w F p E' says that the engine at p, of the blocks F, is E. -/
structure PT (TP : World → (Nat → Prop) → Nat → Eg → Prop) : Prop where
  low : ∀ {w F p E}, TP w F p E → ∀ b, F b → b < w.heap.size
  on : ∀ {w w' F S p E}, TP w F p E → OnS S w w' → (∀ b, F b → ¬ S b) → TP w' F p E
  new : ∀ w, Calls Try.prog 35 #[] w fun e w' => ∃ p F, e = .returned (.pointer (some ⟨p, 0, none⟩)) ∧ TP w' F p newR ∧ (∀ b, F b → w.heap.size ≤ b) ∧ Below w.heap.size w w'
  make : ∀ {w F p E}, TP w F p E → ∀ {m : Nat}, Wg m E → m ≤ 1000 → ∀ v : Int, B64 v → Calls Try.prog 37 #[.pointer (some ⟨p, 0, none⟩), .int .i64 v] w fun e w' => e = .returned (.tuple #[.int .i64 (makeR E v).2.1, .int .i64 (makeR E v).2.2]) ∧ OnS F w w' ∧ ∃ F', TP w' F' p (makeR E v).1 ∧ Gr w F F'
  begin_ : ∀ {w F p E}, TP w F p E → ∀ {m : Nat}, Wg m E → m ≤ 1000 → ∀ t : Int, B64 t → Calls Try.prog 27 #[.pointer (some ⟨p, 0, none⟩), .int .i64 t] w fun e w' => e = .returned (.int .i64 (beginR E t).2) ∧ OnS F w w' ∧ ∃ F', TP w' F' p (beginR E t).1 ∧ Gr w F F'
  read : ∀ {w F p E}, TP w F p E → ∀ {m : Nat}, Wg m E → m ≤ 1000 → ∀ t n : Int, B64 t → B64 n → Calls Try.prog 28 #[.pointer (some ⟨p, 0, none⟩), .int .i64 t, .int .i64 n] w fun e w' => e = .returned (.tuple #[.int .i64 (readR E t n).2.1, .int .i64 (readR E t n).2.2]) ∧ OnS F w w' ∧ ∃ F', TP w' F' p (readR E t n).1 ∧ Gr w F F'
  write : ∀ {w F p E}, TP w F p E → ∀ {m : Nat}, Wg m E → m ≤ 1000 → ∀ t n v : Int, B64 t → B64 n → B64 v → Calls Try.prog 29 #[.pointer (some ⟨p, 0, none⟩), .int .i64 t, .int .i64 n, .int .i64 v] w fun e w' => e = .returned (.int .i64 (writeR E t n v).2) ∧ OnS F w w' ∧ ∃ F', TP w' F' p (writeR E t n v).1 ∧ Gr w F F'
  part : ∀ {w F p E}, TP w F p E → ∀ {m : Nat}, Wg m E → m ≤ 1000 → ∀ t : Int, B64 t → Calls Try.prog 30 #[.pointer (some ⟨p, 0, none⟩), .int .i64 t] w fun e w' => e = .returned (.int .i64 (partR E t).2) ∧ OnS F w w' ∧ ∃ F', TP w' F' p (partR E t).1 ∧ Gr w F F'
  join : ∀ {w F p E}, TP w F p E → ∀ {m : Nat}, Wg m E → m ≤ 1000 → ∀ t : Int, B64 t → Calls Try.prog 31 #[.pointer (some ⟨p, 0, none⟩), .int .i64 t] w fun e w' => e = .returned (.int .i64 (shutR E t true).2) ∧ OnS F w w' ∧ ∃ F', TP w' F' p (shutR E t true).1 ∧ Gr w F F'
  undo : ∀ {w F p E}, TP w F p E → ∀ {m : Nat}, Wg m E → m ≤ 1000 → ∀ t : Int, B64 t → Calls Try.prog 32 #[.pointer (some ⟨p, 0, none⟩), .int .i64 t] w fun e w' => e = .returned (.int .i64 (shutR E t false).2) ∧ OnS F w w' ∧ ∃ F', TP w' F' p (shutR E t false).1 ∧ Gr w F F'
  valid : ∀ {w F p E}, TP w F p E → ∀ {m : Nat}, Wg m E → m ≤ 1000 → ∀ t : Int, B64 t → Calls Try.prog 44 #[.pointer (some ⟨p, 0, none⟩), .int .i64 t] w fun e w' => e = .returned (.int .i64 (validR E t)) ∧ Below w.heap.size w w'
  step : ∀ {w F p E}, TP w F p E → ∀ {m : Nat}, Wg m E → m ≤ 1000 → ∀ t : Int, B64 t → Calls Try.prog 25 #[.pointer (some ⟨p, 0, none⟩), .int .i64 t] w fun e w' => e = .returned (.tuple #[.int .i64 (stepR E t).2.1, .int .i64 (stepR E t).2.2]) ∧ OnS F w w' ∧ ∃ F', TP w' F' p (stepR E t).1 ∧ Gr w F F'
  abort : ∀ {w F p E}, TP w F p E → ∀ {m : Nat}, Wg m E → m ≤ 1000 → ∀ t : Int, B64 t → Calls Try.prog 24 #[.pointer (some ⟨p, 0, none⟩), .int .i64 t] w fun e w' => e = .returned (.int .i64 (abortR E t).2) ∧ OnS F w w' ∧ ∃ F', TP w' F' p (abortR E t).1 ∧ Gr w F F'
  active : ∀ {w F p E}, TP w F p E → ∀ {m : Nat}, Wg m E → m ≤ 1000 → ∀ t : Int, B64 t → Calls Try.prog 23 #[.pointer (some ⟨p, 0, none⟩), .int .i64 t] w fun e w' => e = .returned (.bool (hasR E t)) ∧ Below w.heap.size w w'
  clock : ∀ {w F p E}, TP w F p E → ∀ {m : Nat}, Wg m E → m ≤ 1000 →  Calls Try.prog 26 #[.pointer (some ⟨p, 0, none⟩)] w fun e w' => e = .returned (.int .i64 E.clock) ∧ Below w.heap.size w w'
  start : ∀ {w F p E}, TP w F p E → ∀ {m : Nat}, Wg m E → m ≤ 1000 → ∀ t : Int, B64 t → Calls Try.prog 17 #[.pointer (some ⟨p, 0, none⟩), .int .i64 t] w fun e w' => e = .returned (.int .i64 (startR E t)) ∧ Below w.heap.size w w'
  reads : ∀ {w F p E}, TP w F p E → ∀ {m : Nat}, Wg m E → m ≤ 1000 → ∀ t : Int, B64 t → Calls Try.prog 46 #[.pointer (some ⟨p, 0, none⟩), .int .i64 t] w fun e w' => ∃ x, e = .returned x ∧ RowI w' x (readsR E t) ∧ Below w.heap.size w w'
  newer : ∀ {w F p E}, TP w F p E → ∀ {m : Nat}, Wg m E → m ≤ 1000 → ∀ n u : Int, B64 n → B64 u → Calls Try.prog 47 #[.pointer (some ⟨p, 0, none⟩), .int .i64 n, .int .i64 u] w fun e w' => e = .returned (.bool (newerR E n u)) ∧ Below w.heap.size w w'
  value : ∀ {w F p E}, TP w F p E → ∀ {m : Nat}, Wg m E → m ≤ 1000 → ∀ n : Int, B64 n → Calls Try.prog 22 #[.pointer (some ⟨p, 0, none⟩), .int .i64 n] w fun e w' => e = .returned (.tuple #[.int .i64 (valueR E n).1, .int .i64 (valueR E n).2]) ∧ Below w.heap.size w w'
  words : ∀ {w F p E}, TP w F p E → ∀ {m : Nat}, Wg m E → m ≤ 1000 → Calls Try.prog 18 #[.pointer (some ⟨p, 0, none⟩)] w fun e w' => ∃ x, e = .returned x ∧ RowI w' x (wordsR E) ∧ (∀ b, x.ownBlock = some b → w.heap.size ≤ b) ∧ Below w.heap.size w w'
  set : ∀ {w F p E}, TP w F p E → ∀ {m : Nat}, Wg m E → m ≤ 1000 → ∀ (v : Value) (ws : List Int), RowI w v ws → ws.length ≤ 20000000 → (∀ b, v.ownBlock = some b → ¬ F b) → Calls Try.prog 19 #[.pointer (some ⟨p, 0, none⟩), v] w fun e w' => e = .returned (.tuple #[]) ∧ OnS F w w' ∧ ∃ F' E', TP w' F' p E' ∧ Gr w F F' ∧ (∀ b, v.ownBlock = some b → ¬ F' b) ∧ SetR E ws E'
section
variable {TP : World → (Nat → Prop) → Nat → Eg → Prop}
/-- Both engines, apart, behind the block C. -/
def Two (TP : World → (Nat → Prop) → Nat → Eg → Prop) (w : World) (C p r : Nat) (E E' : Eg) : Prop := ∃ F G, TP w F p E ∧ DE w G r E' ∧ (∀ b, F b → C ≤ b ∧ ¬ G b) ∧ (∀ b, G b → C ≤ b) ∧ C ≤ w.heap.size
theorem Two.keep (hP : PT TP) {w w' : World} {C p r : Nat} {E E' : Eg} (H : Two TP w C p r E E') (h : Below w.heap.size w w') : Two TP w' C p r E E' := by
  obtain ⟨F, G, h1, h2, h3, h4, h5⟩ := H
  exact ⟨F, G, hP.on h1 (OnS.none h) (fun _ _ h => h), h2.keep h, h3, h4, Nat.le_trans h5 h.size⟩
/-- Within a deed: both engines, the deed's block X, what comes of it behind that. -/
structure St (TP : World → (Nat → Prop) → Nat → Eg → Prop) (w W : World) (F0 G0 : Nat → Prop) (C p r X : Nat) (F G : Nat → Prop) (d : Dd) (E E' : Eg) (a0 a1 b0 b1 : Int) : Prop where
  tp : TP W F p E
  de : DE W G r E'
  ap : ∀ b, F b → C ≤ b ∧ ¬ G b
  gc : ∀ b, G b → C ≤ b
  fx : ∀ b, F b → b < X ∨ X + 5 ≤ b
  gx : ∀ b, G b → b < X ∨ X + 5 ≤ b
  kd : Bk W X #[.int .i64 d.k, .int .i64 d.t, .int .i64 d.n, .int .i64 d.v] 33
  k1 : Bk W (X + 1) #[.int .i64 0, .int .i64 0] 29
  k2 : Bk W (X + 2) #[.int .i64 0, .int .i64 0] 29
  k3 : Bk W (X + 3) #[.int .i64 a0, .int .i64 a1] 29
  k4 : Bk W (X + 4) #[.int .i64 b0, .int .i64 b1] 29
  cx : C ≤ X
  be : Below C w W
  xw : w.heap.size ≤ X
  on : OnS (fun b => F0 b ∨ G0 b) w W
  gf : Gr w F0 F
  gg : Gr w G0 G
variable {w W W' : World} {F0 G0 : Nat → Prop} {C p r X : Nat} {F G F' G' : Nat → Prop} {d : Dd} {E E' E1 : Eg} {a0 a1 b0 b1 : Int}
theorem St.sz (S : St TP w W F0 G0 C p r X F G d E E' a0 a1 b0 b1) : X + 5 ≤ W.heap.size := by have := S.k4.lt; omega
/-- Behind a call of the program's. -/
theorem St.callp (S : St TP w W F0 G0 C p r X F G d E E' a0 a1 b0 b1) (ho : OnS F W W') (ht : TP W' F' p E1) (hg : Gr W F F') : St TP w W' F0 G0 C p r X F' G d E1 E' a0 a1 b0 b1 := by
  have hsz := S.sz
  have nf : ∀ k, k < 5 → ¬ F (X + k) := fun k hk hf => by have := S.fx _ hf; omega
  exact ⟨ht, S.de.on ho (fun b hb hf => (S.ap b hf).2 hb), fun b hb => by
    rcases hg b hb with h | h
    · exact S.ap b h
    · exact ⟨by have := S.cx; omega, fun hG => by have := S.de.lt b hG; omega⟩, S.gc, fun b hb => by
    rcases hg b hb with h | h
    · exact S.fx b h
    · exact .inr (by omega), S.gx, ho.bk S.kd (nf 0 (by decide)), ho.bk S.k1 (nf 1 (by decide)), ho.bk S.k2 (nf 2 (by decide)), ho.bk S.k3 (nf 3 (by decide)), ho.bk S.k4 (nf 4 (by decide)), S.cx, S.be.trans (ho.below (by have := S.cx; omega) (fun b hb => (S.ap b hb).1)), S.xw, S.on.next ho (fun b hb => by rcases S.gf b hb with h | h; exact .inl (.inl h); exact .inr h), fun b hb => by
    rcases hg b hb with h | h
    · exact S.gf b h
    · exact .inr (Nat.le_trans S.on.size h), S.gg⟩
/-- Behind a call of the document's. -/
theorem St.callr (hP : PT TP) (S : St TP w W F0 G0 C p r X F G d E E' a0 a1 b0 b1) (ho : OnS G W W') (ht : DE W' G' r E1) (hg : Gr W G G') : St TP w W' F0 G0 C p r X F G' d E E1 a0 a1 b0 b1 := by
  have hsz := S.sz
  have nf : ∀ k, k < 5 → ¬ G (X + k) := fun k hk hf => by have := S.gx _ hf; omega
  exact ⟨hP.on S.tp ho (fun b hb => (S.ap b hb).2), ht, fun b hb => ⟨(S.ap b hb).1, fun hG => by
    rcases hg b hG with h | h
    · exact (S.ap b hb).2 h
    · have := hP.low S.tp b hb; omega⟩, fun b hb => by
    rcases hg b hb with h | h
    · exact S.gc b h
    · have := S.cx; omega, S.fx, fun b hb => by
    rcases hg b hb with h | h
    · exact S.gx b h
    · exact .inr (by omega), ho.bk S.kd (nf 0 (by decide)), ho.bk S.k1 (nf 1 (by decide)), ho.bk S.k2 (nf 2 (by decide)), ho.bk S.k3 (nf 3 (by decide)), ho.bk S.k4 (nf 4 (by decide)), S.cx, S.be.trans (ho.below (by have := S.cx; omega) S.gc), S.xw, S.on.next ho (fun b hb => by rcases S.gg b hb with h | h; exact .inl (.inr h); exact .inr h), S.gf, fun b hb => by
    rcases hg b hb with h | h
    · exact S.gg b h
    · exact .inr (Nat.le_trans S.on.size h)⟩
theorem St.eng (hP : PT TP) (S : St TP w W F0 G0 C p r X F G d E E' a0 a1 b0 b1) (k : Nat) (hk : k < 5) (i : Nat) (v : Value) : TP (W.setCell ⟨X + k, i, none⟩ v) F p E ∧ DE (W.setCell ⟨X + k, i, none⟩ v) G r E' ∧ Below C w (W.setCell ⟨X + k, i, none⟩ v) ∧ OnS (fun b => F0 b ∨ G0 b) w (W.setCell ⟨X + k, i, none⟩ v) :=
  ⟨hP.on S.tp (OnS.cell (X + k) i v) (fun b hb e => by have := S.fx b hb; omega), S.de.on (OnS.cell (X + k) i v) (fun b hb e => by have := S.gx b hb; omega), S.be.setCell (p := ⟨X + k, i, none⟩) (by have := S.cx; show C ≤ X + k; omega) v, S.on.next (OnS.cell (X + k) i v) (fun b e => .inr (by have := S.xw; omega))⟩
/-- What came of the program's is put. -/
theorem St.putA1 (hP : PT TP) (S : St TP w W F0 G0 C p r X F G d E E' a0 a1 b0 b1) (e : Int) : St TP w (W.setCell ⟨X + 3, 1, none⟩ (.int .i64 e)) F0 G0 C p r X F G d E E' a0 e b0 b1 := by
  obtain ⟨h1, h2, h3, h4⟩ := S.eng hP 3 (by decide) 1 (.int .i64 e)
  exact ⟨h1, h2, S.ap, S.gc, S.fx, S.gx, S.kd.other (by omega) _ _, S.k1.other (by omega) _ _, S.k2.other (by omega) _ _, S.k3.set 1 _, S.k4.other (by omega) _ _, S.cx, h3, S.xw, h4, S.gf, S.gg⟩
theorem St.putA0 (hP : PT TP) (S : St TP w W F0 G0 C p r X F G d E E' a0 a1 b0 b1) (e : Int) : St TP w (W.setCell ⟨X + 3, 0, none⟩ (.int .i64 e)) F0 G0 C p r X F G d E E' e a1 b0 b1 := by
  obtain ⟨h1, h2, h3, h4⟩ := S.eng hP 3 (by decide) 0 (.int .i64 e)
  exact ⟨h1, h2, S.ap, S.gc, S.fx, S.gx, S.kd.other (by omega) _ _, S.k1.other (by omega) _ _, S.k2.other (by omega) _ _, S.k3.set 0 _, S.k4.other (by omega) _ _, S.cx, h3, S.xw, h4, S.gf, S.gg⟩
theorem St.putB1 (hP : PT TP) (S : St TP w W F0 G0 C p r X F G d E E' a0 a1 b0 b1) (e : Int) : St TP w (W.setCell ⟨X + 4, 1, none⟩ (.int .i64 e)) F0 G0 C p r X F G d E E' a0 a1 b0 e := by
  obtain ⟨h1, h2, h3, h4⟩ := S.eng hP 4 (by decide) 1 (.int .i64 e)
  exact ⟨h1, h2, S.ap, S.gc, S.fx, S.gx, S.kd.other (by omega) _ _, S.k1.other (by omega) _ _, S.k2.other (by omega) _ _, S.k3.other (by omega) _ _, S.k4.set 1 _, S.cx, h3, S.xw, h4, S.gf, S.gg⟩
theorem St.putB0 (hP : PT TP) (S : St TP w W F0 G0 C p r X F G d E E' a0 a1 b0 b1) (e : Int) : St TP w (W.setCell ⟨X + 4, 0, none⟩ (.int .i64 e)) F0 G0 C p r X F G d E E' a0 a1 e b1 := by
  obtain ⟨h1, h2, h3, h4⟩ := S.eng hP 4 (by decide) 0 (.int .i64 e)
  exact ⟨h1, h2, S.ap, S.gc, S.fx, S.gx, S.kd.other (by omega) _ _, S.k1.other (by omega) _ _, S.k2.other (by omega) _ _, S.k3.other (by omega) _ _, S.k4.set 0 _, S.cx, h3, S.xw, h4, S.gf, S.gg⟩
theorem St.two (S : St TP w W F0 G0 C p r X F G d E E' a0 a1 b0 b1) : Two TP W C p r E E' := ⟨F, G, S.tp, S.de, S.ap, S.gc, by have := S.sz; have := S.cx; omega⟩
/-- The world in which a deed begins. -/
abbrev W5 (w : World) (d : Dd) : World := ((((w.alloc (.cells #[.int .i64 d.k, .int .i64 d.t, .int .i64 d.n, .int .i64 d.v] 33)).alloc (.cells #[.int .i64 0, .int .i64 0] 29)).alloc (.cells #[.int .i64 0, .int .i64 0] 29)).alloc (.cells #[.int .i64 0, .int .i64 0] 29)).alloc (.cells #[.int .i64 0, .int .i64 0] 29)
theorem st_begin (hP : PT TP) (h1 : TP w F p E) (h2 : DE w G r E') (h3 : ∀ b, F b → C ≤ b ∧ ¬ G b) (h4 : ∀ b, G b → C ≤ b) (h5 : C ≤ w.heap.size) (d : Dd) : St TP w (W5 w d) F G C p r w.heap.size F G d E E' 0 0 0 0 := by
  have q0 := balloc w (.cells #[.int .i64 d.k, .int .i64 d.t, .int .i64 d.n, .int .i64 d.v] 33)
  have s0 := World.size_alloc w (.cells #[.int .i64 d.k, .int .i64 d.t, .int .i64 d.n, .int .i64 d.v] 33)
  obtain ⟨w1, hw1⟩ : ∃ w1, w.alloc (.cells #[.int .i64 d.k, .int .i64 d.t, .int .i64 d.n, .int .i64 d.v] 33) = w1 := ⟨_, rfl⟩
  have k0 := Bk.new w #[.int .i64 d.k, .int .i64 d.t, .int .i64 d.n, .int .i64 d.v] 33
  unfold W5
  rw [hw1] at q0 s0 k0 ⊢
  have z : ∀ v : World, Below v.heap.size v (v.alloc (.cells #[.int .i64 0, .int .i64 0] 29)) := fun v => balloc v _
  have n : ∀ v : World, Bk (v.alloc (.cells #[.int .i64 0, .int .i64 0] 29)) v.heap.size #[.int .i64 0, .int .i64 0] 29 := fun v => Bk.new v _ _
  have s : ∀ v : World, (v.alloc (.cells #[.int .i64 0, .int .i64 0] 29)).heap.size = v.heap.size + 1 := fun v => World.size_alloc v _
  have q4 := bnext q0 (bnext (bnext (bnext (z w1) (z _)) (z _)) (z _))
  refine ⟨hP.on h1 (OnS.none q4) (fun _ _ h => h), h2.keep q4, h3, h4, fun b hb => .inl (hP.low h1 b hb), fun b hb => .inl (h2.lt b hb), (((k0.keep (z _)).keep (z _)).keep (z _)).keep (z _), ?_, ?_, ?_, ?_, h5, q4.mono h5, Nat.le_refl _, OnS.of q4, Gr.refl _ _, Gr.refl _ _⟩
  · have := (((n w1).keep (z _)).keep (z _)).keep (z _)
    rwa [s0] at this
  · have := ((n (w1.alloc (.cells #[.int .i64 0, .int .i64 0] 29))).keep (z _)).keep (z _)
    rwa [s, s0] at this
  · have := (n ((w1.alloc (.cells #[.int .i64 0, .int .i64 0] 29)).alloc (.cells #[.int .i64 0, .int .i64 0] 29))).keep (z _)
    rwa [s, s, s0] at this
  · have := n (((w1.alloc (.cells #[.int .i64 0, .int .i64 0] 29)).alloc (.cells #[.int .i64 0, .int .i64 0] 29)).alloc (.cells #[.int .i64 0, .int .i64 0] 29))
    rwa [s, s, s, s0] at this
end
end Go.Proofs.Ytjoifodjbdbicaa.UR

/- Versions and stamps are no newer than the clock, plainly. -/
namespace Go.Proofs.Ytjoifodjbdbicaa.UU
open Go.RowKit Go.Proofs.Ytjoifodjbdbicaa.RG Go.Proofs.Ytjoifodjbdbicaa.UA Go.Proofs.Ytjoifodjbdbicaa.UB Go.Proofs.Ytjoifodjbdbicaa.UE Go.Proofs.Ytjoifodjbdbicaa.UG Go.Proofs.Ytjoifodjbdbicaa.UL Go.Proofs.Ytjoifodjbdbicaa.UM Go.Proofs.Ytjoifodjbdbicaa.UP Go.Proofs.Ytjoifodjbdbicaa.UQ
set_option linter.unusedVariables false
set_option maxRecDepth 100000
set_option maxRecDepth 100000

structure Wv (E : Eg) : Prop where
  ck : 0 ≤ E.clock
  ver : ∀ v, v ∈ E.V → 0 ≤ v.ver ∧ v.ver ≤ E.clock
  stm : ∀ x, x ∈ E.T → x.stamp ≤ E.clock
theorem wv_new : Wv newR := ⟨Int.le_refl _, (fun v hv => by cases hv), (fun x hx => by rw [new_tx hx]; exact Int.le_refl _)⟩
theorem wv_set {E : Eg} (h : Wv E) (t : Int) {V : List Vr} {c : Int} {x : Tx} (hc : E.clock ≤ c) (hV : ∀ v, v ∈ V → v ∈ E.V ∨ (0 ≤ v.ver ∧ v.ver ≤ c)) (hx : x.stamp ≤ c) : Wv { setT E t x with V := V, clock := c } := by
  refine ⟨Int.le_trans h.ck hc, fun v hv => ?_, fun y hy => ?_⟩
  · rcases hV v hv with h1 | h1
    · have := h.ver v h1
      exact ⟨this.1, Int.le_trans this.2 hc⟩
    · exact h1
  · rcases List.mem_or_eq_of_mem_set (show y ∈ E.T.set _ _ from hy) with h1 | rfl
    · exact Int.le_trans (h.stm y h1) hc
    · exact hx
theorem wv_set0 {E : Eg} (h : Wv E) (t : Int) {x : Tx} (hx : x.stamp ≤ E.clock) : Wv (setT E t x) := wv_set (V := E.V) (c := E.clock) h t (Int.le_refl _) (fun v hv => .inl hv) hx
theorem mem_set_at {V : List Vr} {i : Nat} {y v : Vr} (h : v ∈ V.set i y) : v ∈ V ∨ v = y := List.mem_or_eq_of_mem_set h
theorem firstR_mem {V : List Vr} {t n : Int} {v : Vr} : ∀ {l : List Pt}, firstR V t l = some (n, v) → v ∈ V
  | [], h => by cases h
  | p :: l, h => by
    unfold firstR at h
    split at h
    · next v' hv =>
      split at h
      · exact firstR_mem h
      · injection h with h
        injection h with _ h
        subst h
        exact mem_of hv
    · exact firstR_mem h
theorem wv_step {E : Eg} (h : Wv E) (t : Int) : Wv (stepR E t).1 := by
  unfold stepR
  split
  · exact h
  · next x hx =>
    have hs := h.stm x (thR_mem hx)
    split
    · exact h
    · split
      · next hst =>
        split
        · exact h
        · next p hp =>
          have hV : ∀ v, v ∈ E.V.set p.n.toNat ⟨p.v, x.stamp, -1⟩ → v ∈ E.V ∨ (0 ≤ v.ver ∧ v.ver ≤ E.clock) := fun v hv => by
            rcases mem_set_at hv with h1 | rfl
            · exact .inl h1
            · exact .inr ⟨by show 0 ≤ x.stamp; omega, hs⟩
          split
          · exact wv_set h t (x := { x with commits := true, done := x.done + 1 }) (c := E.clock) (Int.le_refl _) hV hs
          · exact wv_set h t (x := tx0) (c := E.clock) (Int.le_refl _) hV h.ck
      · split
        · next n v hf =>
          split
          · exact wv_set0 h t hs
          · exact wv_set h t (x := { x with commits := true }) (c := E.clock) (Int.le_refl _) (fun v' hv => by
              rcases mem_set_at hv with h1 | rfl
              · exact .inl h1
              · exact .inr (h.ver v (firstR_mem hf))) hs
        · split
          · split
            · exact wv_set0 h t h.ck
            · exact wv_set h t (V := E.V) (x := { x with commits := true, stamp := E.clock + 1 }) (c := E.clock + 1) (by omega) (fun v hv => .inl hv) (Int.le_refl _)
          · exact wv_set0 h t hs
theorem wv_deed {E : Eg} (h : Wv E) (d : Dd) : Wv (deedR E d).1 := by
  unfold deedR
  split
  · unfold beginR
    split
    · split
      · exact h
      · exact wv_set0 h _ h.ck
    · exact h
  split
  · unfold readR
    split
    · next x v hx hv =>
      split
      · exact wv_set0 h _ (h.stm x (thR_mem hx))
      · exact h
    · exact h
  split
  · unfold writeR
    split
    · next x v hx hv =>
      split
      · exact wv_set0 h _ (h.stm x (thR_mem hx))
      · exact h
    · exact h
  split
  · exact wv_step h _
  split
  · unfold partR
    split
    · next x hx =>
      split
      · exact wv_set0 h _ (h.stm x (thR_mem hx))
      · exact h
    · exact h
  split
  · unfold shutR
    split
    · next x hx =>
      split
      · exact wv_set0 h _ (h.stm x (thR_mem hx))
      · exact h
    · exact h
  split
  · unfold shutR
    split
    · next x hx =>
      split
      · exact wv_set0 h _ (h.stm x (thR_mem hx))
      · exact h
    · exact h
  split
  · unfold abortR
    split
    · exact h
    · split
      · exact h
      · exact wv_set h _ (x := tx0) (c := E.clock) (Int.le_refl _) (fun v hv => by
          obtain ⟨u, hu, rfl⟩ := List.mem_map.1 hv
          refine .inr ?_
          have := h.ver u hu
          unfold unlock
          split
          · exact this
          · exact this) h.ck
  split
  · unfold makeR
    split
    · exact h
    · exact ⟨h.ck, fun v hv => by
        rcases List.mem_append.1 (show v ∈ E.V ++ [_] from hv) with h1 | h1
        · exact h.ver v h1
        · rw [List.mem_singleton.1 h1]; exact ⟨Int.le_refl _, h.ck⟩, h.stm⟩
  split
  · exact h
  · exact h
theorem partsW_len3 (x : Tx) (hp : x.puts.length ≤ 300) : ∀ k : Nat, (partsW x k).length ≤ k * 300
  | 0 => Nat.le_refl _
  | k + 1 => by
    have ih := partsW_len3 x hp k
    have := sortR_len x.puts ((k : Int) + 1)
    unfold partsW
    rw [List.length_append, List.length_map]
    omega
theorem txW_len3 {m N : Nat} {x : Tx} (h : WfT m N x) (hm : m ≤ 300) : (txW x).length ≤ 90000 := by
  unfold txW
  split
  · have := partsW_len3 x (Nat.le_trans h.puts hm) x.parts.toNat
    have := h.parts
    omega
  · exact Nat.zero_le _
theorem flat_len3 {m N : Nat} (hm : m ≤ 300) : ∀ (l : List Tx), (∀ x, x ∈ l → WfT m N x) → ((l.map txW).flatten).length ≤ l.length * 90000
  | [], _ => Nat.le_refl _
  | x :: l, h => by
    have ih := flat_len3 hm l (fun y hy => h y (List.mem_cons_of_mem _ hy))
    have := txW_len3 (h x List.mem_cons_self) hm
    rw [List.map_cons, List.flatten_cons, List.length_append, List.length_cons]
    omega
theorem words_len {m : Nat} {E : Eg} (h : Wf m E) (hm : m ≤ 300) : (wordsR E).length ≤ 900000 := by
  unfold wordsR
  have h2 := flat_len3 hm E.T h.tx
  have h3 := h.vs
  rw [h.th] at h2
  rw [List.length_append, List.length_map]
  omega
end Go.Proofs.Ytjoifodjbdbicaa.UU
