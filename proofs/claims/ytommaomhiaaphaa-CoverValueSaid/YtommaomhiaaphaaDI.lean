/- What the laws ask of what is reckoned: plainly; appends of rows. -/
import Derived.Test.YtommaomhiaaphaaDC
import Derived.Test.YtommaomhiaaphaaDH
namespace Go.Proofs.Ytommaomhiaaphaa.DI
open Go.RowKit Go.Proofs.Ytommaomhiaaphaa.CA Go.Proofs.Ytommaomhiaaphaa.CB Go.Proofs.Ytommaomhiaaphaa.CC Go.Proofs.Ytommaomhiaaphaa.CD Go.Proofs.Ytommaomhiaaphaa.CE Go.Proofs.Ytommaomhiaaphaa.CF Go.Proofs.Ytommaomhiaaphaa.CG Go.Proofs.Ytommaomhiaaphaa.CH Go.Proofs.Ytommaomhiaaphaa.CK Go.Proofs.Ytommaomhiaaphaa.CI Go.Proofs.Ytommaomhiaaphaa.CO Go.Proofs.Ytommaomhiaaphaa.CT Go.Proofs.Ytommaomhiaaphaa.CU Go.Proofs.Ytommaomhiaaphaa.CV Go.Proofs.Ytommaomhiaaphaa.CW Go.Proofs.Ytommaomhiaaphaa.DB Go.Proofs.Ytommaomhiaaphaa.DA Go.Proofs.Ytommaomhiaaphaa.DE Go.Proofs.Ytommaomhiaaphaa.DF Go.Proofs.Ytommaomhiaaphaa.DG Go.Proofs.Ytommaomhiaaphaa.DH
set_option linter.unusedVariables false
set_option maxRecDepth 100000

theorem tog_any {C : List Cn} (p : Nd) : together C anyNd p = true := by
  obtain ⟨k, n, s, l⟩ := p
  show together C (.mk 24 0 [] []) _ = true
  rw [together_eq]
  rfl
theorem tog_any2 {C : List Cn} (p : Nd) : together C p anyNd = true := by
  obtain ⟨k, n, s, l⟩ := p
  show together C _ (.mk 24 0 [] []) = true
  rw [together_eq]
  have h : (anyB (.mk k n s l) || anyB (.mk 24 0 [] [])) = true := by simp [anyB, Nd.k]
  rw [h]; rfl
theorem ok_any {C : List Cn} {rows : List Nd} : Ok C (anyNd :: rows) ↔ Ok C rows := by
  constructor
  · rintro ⟨h1, h2⟩
    exact ⟨fun p hp => h1 p (List.mem_cons_of_mem _ hp), (List.pairwise_cons.1 h2).2⟩
  · rintro ⟨h1, h2⟩
    refine ⟨fun p hp => ?_, List.pairwise_cons.2 ⟨fun p _ => tog_any p, h2⟩⟩
    rcases List.mem_cons.1 hp with rfl | hp
    · show 0 ≤ room C (.mk 24 0 [] []) 30
      unfold room
      have : formedB C (.mk 24 0 [] []) = true := rfl
      rw [this]
      simp [roomL]
    · exact h1 p hp
theorem ok_snocAny {C : List Cn} {rows : List Nd} : Ok C (rows ++ [anyNd]) ↔ Ok C rows := by
  constructor
  · rintro ⟨h1, h2⟩
    exact ⟨fun p hp => h1 p (List.mem_append_left _ hp), (List.pairwise_append.1 h2).1⟩
  · rintro ⟨h1, h2⟩
    refine ⟨fun p hp => ?_, List.pairwise_append.2 ⟨h2, by simp, fun p _ q hq => by rw [List.mem_singleton.1 hq]; exact tog_any2 p⟩⟩
    rcases List.mem_append.1 hp with hp | hp
    · exact h1 p hp
    · exact ((ok_any (rows := [])).2 ⟨fun p hp => (by cases hp), List.Pairwise.nil⟩).1 p hp
theorem may_no {C : List Cn} {rows : List Nd} (h : mayB C rows = false) : chk C rows = (0, 1) := by unfold chk; rw [h]; rfl
/-- Behind rows that may be handed in no answer is that they may not. -/
theorem may_yes {C : List Cn} {rows : List Nd} (h : mayB C rows = true) : (∃ i, firstBad C [] rows 0 = some i ∧ chk C rows = ((i : Int), 27)) ∨ (firstBad C [] rows 0 = none ∧ ((us C [anyNd] (sing rows) = true ∧ chk C rows = (0, 26)) ∨ (us C [anyNd] (sing rows) = false ∧ chk C rows = (0, 0)))) := by
  unfold chk
  rw [if_pos h]
  cases hb : firstBad C [] rows 0 with
  | some i => exact .inl ⟨i, rfl, rfl⟩
  | none =>
    right
    refine ⟨rfl, ?_⟩
    cases hu : us C [anyNd] (sing rows) with
    | true => exact .inl ⟨rfl, by show (if us C [anyNd] (sing rows) = true then _ else _) = _; rw [if_pos hu]⟩
    | false => exact .inr ⟨rfl, by show (if us C [anyNd] (sing rows) = true then _ else _) = _; rw [if_neg (by rw [hu]; simp)]⟩
/-- A row that means any, ahead of all. -/
theorem any_first {C : List Cn} (L : List Nd) (hl : L.length ≤ 19) (n e : Int) (h : chk C L = (n, e)) :
    (e = 1 ∧ chk C (anyNd :: L) = (0, 1)) ∨ ((e == 1) = false ∧ L = [] ∧ chk C (anyNd :: L) = (0, 0)) ∨ ((e == 1) = false ∧ L ≠ [] ∧ chk C (anyNd :: L) = (1, 27)) := by
  have hm : mayB C (anyNd :: L) = mayB C L := by
    rw [Bool.eq_iff_iff, may_iff, may_iff, ok_any]
    simp only [List.length_cons]
    constructor <;> (rintro ⟨h1, h2⟩; exact ⟨by omega, h2⟩)
  cases hL : mayB C L with
  | false =>
    rw [hL] at hm
    rw [may_no hL] at h
    exact .inl ⟨(Prod.mk.inj h).2.symm, may_no hm⟩
  | true =>
    rw [hL] at hm
    have he : (e == 1) = false := by
      rcases may_yes hL with ⟨i, _, hc⟩ | ⟨_, ⟨_, hc⟩ | ⟨_, hc⟩⟩ <;> (rw [hc] at h; obtain ⟨_, h2⟩ := Prod.mk.inj h; subst h2; rfl)
    have u0 : us C [anyNd] [] = true := rfl
    cases L with
    | nil =>
      refine .inr (.inl ⟨he, rfl, ?_⟩)
      unfold chk
      rw [hm]
      rfl
    | cons p rest =>
      refine .inr (.inr ⟨he, by simp, ?_⟩)
      unfold chk
      rw [hm]
      have h2 : us C [p] [[anyNd]] = false := rfl
      have hfb : firstBad C [] (anyNd :: p :: rest) 0 = some 1 := by
        unfold firstBad
        rw [if_pos (by exact u0)]
        unfold firstBad
        rw [if_neg (by show ¬ us C [p] [[anyNd]] = true; rw [h2]; simp)]
      rw [hfb]; rfl
theorem fm_of {C : List Cn} {rows : List Nd} (h : Ok C rows) : ∀ p, p ∈ rows → Fm C p := fun p hp => room_fm p 30 (h.1 p hp)
theorem ok_rev {C : List Cn} {rows : List Nd} (h : Ok C rows) : Ok C rows.reverse := by
  refine ⟨fun p hp => h.1 p (List.mem_reverse.1 hp), ?_⟩
  rw [List.pairwise_reverse]
  exact h.2.imp_of_mem fun {a b} ha hb hab => together_symm a b (fm_of h a ha) (fm_of h b hb) hab
theorem useful_same {C : List Cn} {G : List Ty} {r : List Nd} {A B : List (List Nd)} (h : ∀ a, a ∈ B → a ∈ A) (hu : Useful C G r A) : Useful C G r B := by
  obtain ⟨vs, h1, h2, h3⟩ := hu
  exact ⟨vs, h1, h2, fun a ha => h3 a (h a ha)⟩
/-- Rows and the same turned round. -/
theorem order_same {C : List Cn} (Sd : Sound C) (L : List Nd) (n e m f : Int) (h : chk C L = (n, e)) (k : chk C L.reverse = (m, f)) : (e == 27) = true ∨ (f == 27) = true ∨ e = f := by
  have hm : mayB C L.reverse = mayB C L := by
    rw [Bool.eq_iff_iff, may_iff, may_iff, List.length_reverse]
    exact and_congr_right fun _ => ⟨fun h => by have := ok_rev h; rwa [List.reverse_reverse] at this, ok_rev⟩
  cases hL : mayB C L with
  | false =>
    rw [hL] at hm
    rw [may_no hL] at h
    rw [may_no hm] at k
    exact .inr (.inr ((Prod.mk.inj h).2.symm.trans (Prod.mk.inj k).2))
  | true =>
    rw [hL] at hm
    have hok := (may_iff.1 hL).2
    obtain ⟨t, hg, ht⟩ := type_rows Sd hok
    have ht2 : ∀ p, p ∈ L.reverse → Conf C t p := fun p hp => ht p (List.mem_reverse.1 hp)
    have u1 := us_ok Sd (mx_sing hg (Conf.any t (p := anyNd) rfl rfl) ht)
    have u2 := us_ok Sd (mx_sing hg (Conf.any t (p := anyNd) rfl rfl) ht2)
    have hs : us C [anyNd] (sing L) = us C [anyNd] (sing L.reverse) := by
      rw [Bool.eq_iff_iff, u1, u2]
      constructor
      · exact useful_same fun a ha => by
          obtain ⟨p, hp, rfl⟩ := List.mem_map.1 ha
          exact List.mem_map.2 ⟨p, List.mem_reverse.1 hp, rfl⟩
      · exact useful_same fun a ha => by
          obtain ⟨p, hp, rfl⟩ := List.mem_map.1 ha
          exact List.mem_map.2 ⟨p, List.mem_reverse.2 hp, rfl⟩
    rcases may_yes hL with ⟨i, _, hc⟩ | ⟨_, h1⟩
    · rw [hc] at h
      left; rw [← (Prod.mk.inj h).2]; rfl
    · rcases may_yes hm with ⟨i, _, hc⟩ | ⟨_, h2⟩
      · rw [hc] at k
        right; left; rw [← (Prod.mk.inj k).2]; rfl
      · right; right
        rcases h1 with ⟨a1, b1⟩ | ⟨a1, b1⟩ <;> rcases h2 with ⟨a2, b2⟩ | ⟨a2, b2⟩
        · rw [b1] at h; rw [b2] at k; exact (Prod.mk.inj h).2.symm.trans (Prod.mk.inj k).2
        · rw [hs, a2] at a1; cases a1
        · rw [hs, a2] at a1; cases a1
        · rw [b1] at h; rw [b2] at k; exact (Prod.mk.inj h).2.symm.trans (Prod.mk.inj k).2
/-- Rows of numbers, each its own. -/
def ints (n : Nat) : List Nd := (List.range n).map fun (i : Nat) => .mk 1 (3 * (i : Int)) [] []
theorem ints_snoc (n : Nat) : ints (n + 1) = ints n ++ [.mk 1 (3 * (n : Int)) [] []] := by
  unfold ints; rw [List.range_succ, List.map_append]; rfl
theorem ints_len (n : Nat) : (ints n).length = n := by unfold ints; simp
theorem ints_sz {n : Nat} {p : Nd} (h : p ∈ ints n) : sz p ≤ 5000 := by
  obtain ⟨i, _, rfl⟩ := List.mem_map.1 h
  simp [sz, szL]
def manyB (n : Nat) : Bool := decide ((chk [] (ints n)).2 = if n ≤ 20 then 26 else 1) && decide ((chk [] (ints n ++ [anyNd])).2 = if n ≤ 19 then 0 else 1)
theorem many_all : (List.range 26).all manyB = true := by kernel_rfl
theorem many_ok {n : Nat} (h : n < 26) : (chk [] (ints n)).2 = (if n ≤ 20 then 26 else 1) ∧ (chk [] (ints n ++ [anyNd])).2 = (if n ≤ 19 then 0 else 1) := by
  have := List.all_eq_true.1 many_all n (List.mem_range.2 h)
  simpa [manyB] using this

/-! ## A row behind a row -/
theorem app_ty2 (ty : TypeId) (ao : Option Addr) (n c : Nat) (x : Value) (w : World) : (Builtin.append_ #[22, 22] ty #[.slice ao n c, x]).run Try.prog w = (Builtin.append_ #[62, 62] ty #[.slice ao n c, x]).run Try.prog w := by
  simp [Builtin.append_, run_underlying Try.underlying62, run_underlying Try.underlying22]
theorem wpList_app {W : World} {S : Nat → Prop} (w : World) {ops : Array Oper} {rest : List Oper} {o : Oper} {a : Act} {Q : Exit → Act → World → Prop} (hg : o.guard = none) (s x : Operand)
    (hop : o.op = Op.call { callee := Callee.builtin Builtin.append, args := #[s, x], argTypes := #[22, 22] })
    (v xv : Value) (l l2 : List Nd) (hs : a.eval s = v) (hx : a.eval x = xv) (h : AppD W w S v l) (h2 : RowN W S xv l2) (hn : l.length + l2.length ≤ 1000000)
    (hK : ∀ v' w', AppD W w' S v' (l ++ l2) → wpList Try.prog ops Q rest (a.put o.dst v') w') :
    wpList Try.prog ops Q (o :: rest) a w := by
  refine wpList_plain hg fun K hKK => ?_
  obtain ⟨v', w', hrun, r1⟩ := app_run h h2 hn o.type
  have hrun2 : (Builtin.append_ #[22, 22] o.type #[v, xv]).run Try.prog w = .ok v' w' := by
    obtain ⟨ao, cap, rfl, _⟩ := h.row.1.val
    rw [app_ty2]; exact hrun
  unfold Oper.wp
  simp [execOp, hop, resolve, invoke, builtin, hs, hx, hrun2, Result.andThen]
  exact hKK _ _ (hK v' w' r1)
end Go.Proofs.Ytommaomhiaaphaa.DI
