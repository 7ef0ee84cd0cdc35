/- The examples: the walks. -/
import Derived.Test.YtommaomhiaaphaaCW
import Derived.Test.YtommaomhiaaphaaDB
namespace Go.Proofs.Ytommaomhiaaphaa.DA
open Go.RowKit Go.Proofs.Ytommaomhiaaphaa.CA Go.Proofs.Ytommaomhiaaphaa.CB Go.Proofs.Ytommaomhiaaphaa.CC Go.Proofs.Ytommaomhiaaphaa.CD Go.Proofs.Ytommaomhiaaphaa.CE Go.Proofs.Ytommaomhiaaphaa.CF Go.Proofs.Ytommaomhiaaphaa.CG Go.Proofs.Ytommaomhiaaphaa.CH Go.Proofs.Ytommaomhiaaphaa.CK Go.Proofs.Ytommaomhiaaphaa.CI Go.Proofs.Ytommaomhiaaphaa.CL Go.Proofs.Ytommaomhiaaphaa.CO Go.Proofs.Ytommaomhiaaphaa.CT Go.Proofs.Ytommaomhiaaphaa.CU Go.Proofs.Ytommaomhiaaphaa.CV Go.Proofs.Ytommaomhiaaphaa.CW Go.Proofs.Ytommaomhiaaphaa.DB
set_option linter.unusedVariables false
set_option maxRecDepth 100000

/-- What Check tells is what is reckoned. -/
theorem bad_some {C : List Cn} : ∀ (rest done : List Nd) (i k : Nat), firstBad C done rest i = some k → ∃ j p, rest[j]? = some p ∧ k = i + j ∧ us C [p] (sing (done ++ rest.take j)) = false ∧ ∀ (m : Nat) q, m < j → rest[m]? = some q → us C [q] (sing (done ++ rest.take m)) = true
  | [], done, i, k, h => by cases h
  | p :: rest, done, i, k, h => by
    unfold firstBad at h
    by_cases hu : us C [p] (done.map fun q => [q]) = true
    · rw [if_pos hu] at h
      obtain ⟨j, q, h1, h2, h3, h4⟩ := bad_some rest (done ++ [p]) (i + 1) k h
      refine ⟨j + 1, q, by simpa using h1, by omega, by simpa using h3, fun m q' hm hq => ?_⟩
      cases m with
      | zero => simp at hq; subst hq; simpa [sing] using hu
      | succ m => have := h4 m q' (by omega) (by simpa using hq); simpa using this
    · rw [if_neg hu] at h
      cases h
      exact ⟨0, p, rfl, rfl, by simpa [sing] using hu, fun m q hm => by omega⟩
theorem bad_none {C : List Cn} : ∀ (rest done : List Nd) (i : Nat), firstBad C done rest i = none → ∀ (m : Nat) q, rest[m]? = some q → us C [q] (sing (done ++ rest.take m)) = true
  | [], done, i, h, m, q, hq => by simp at hq
  | p :: rest, done, i, h, m, q, hq => by
    unfold firstBad at h
    by_cases hu : us C [p] (done.map fun q => [q]) = true
    · rw [if_pos hu] at h
      cases m with
      | zero => simp at hq; subst hq; simpa [sing] using hu
      | succ m => have := bad_none rest (done ++ [p]) (i + 1) h m q (by simpa using hq); simpa using this
    · rw [if_neg hu] at h; cases h
theorem told_chk {C : List Cn} {rows : List Nd} {n e : Int} (Sd : Sound C) (h : CW.Told C rows n e) : (n, e) = chk C rows := by
  unfold chk
  rcases h with ⟨hm, rfl, rfl⟩ | ⟨hm, t, hg, hct, h⟩
  · rw [if_neg (by rw [hm]; simp)]
  · rw [if_pos hm]
    have U : ∀ (j : Nat) q, rows[j]? = some q → (us C [q] (sing (rows.take j)) = true ↔ Useful C [t] [q] (sing (rows.take j))) := fun j q hq =>
      us_ok Sd (mx_sing hg (hct q (List.mem_of_getElem? hq)) fun p hp => hct p (List.mem_of_mem_take hp))
    have U9 : us C [anyNd] (sing rows) = true ↔ Useful C [t] [anyNd] (sing rows) := us_ok Sd (mx_sing hg (Conf.any t rfl rfl) hct)
    cases hb : firstBad C [] rows 0 with
    | some k =>
      obtain ⟨j, p, h1, h2, h3, h4⟩ := bad_some rows [] 0 k hb
      simp only [List.nil_append] at h3 h4
      rcases h with ⟨i, p', hp', rfl, rfl, hnu, hall⟩ | ⟨hall, _⟩
      · have hij : i = j := by
          rcases Nat.lt_trichotomy i j with hlt | heq | hgt
          · exact absurd ((U i p' hp').1 (h4 i p' hlt hp')) hnu
          · exact heq
          · have := (U j p h1).2 (hall j p hgt h1)
            rw [h3] at this; cases this
        rw [hij, h2]; simp
      · have := (U j p h1).2 (hall j p h1)
        rw [h3] at this; cases this
    | none =>
      have h4 := bad_none rows [] 0 hb
      simp only [List.nil_append] at h4
      rcases h with ⟨i, p', hp', rfl, rfl, hnu, hall⟩ | ⟨hall, rfl, h⟩
      · exact absurd ((U i p' hp').1 (h4 i p' hp')) hnu
      · show _ = if us C [anyNd] (sing rows) = true then _ else _
        rcases h with ⟨rfl, hu⟩ | ⟨rfl, hu⟩
        · rw [if_pos (U9.2 hu)]
        · rw [if_neg fun h => hu (U9.1 h)]
def kon (s : By) (l : List Nd) : Nd := .mk 5 0 s l
theorem ex1 : chk C8 [kon [84, 114, 117, 101] [], kon [70, 97, 108, 115, 101] []] = (0, 0) := by kernel_rfl
theorem ex2 : chk C8 [kon [84, 114, 117, 101] [], anyNd, kon [70, 97, 108, 115, 101] []] = (2, 27) := by kernel_rfl
theorem ex3 : chk C8 [kon [78, 105, 108] [], kon [67, 111, 110, 115] [anyNd, kon [78, 105, 108] []]] = (0, 26) := by kernel_rfl
theorem ex4 : chk C8 [.mk 1 0 [] [], .mk 1 1 [] []] = (0, 26) := by kernel_rfl
theorem cons_c (w : World) : Calls Try.prog 6 #[] w fun e w' => e = .returned (.slice (some ⟨w.heap.size, 0, none⟩) 8 8) ∧ RowC w' (.slice (some ⟨w.heap.size, 0, none⟩) 8 8) C8 ∧ Below w.heap.size w w' := by
  go_enter Try.func6, Try.ntmps6
  go_wp2
  go_ret
  refine ⟨rfl, ⟨_, 8, rfl, Nat.le_refl _, .inr ⟨w.heap.size, 0, rfl, ⟨trivial, by simp⟩, fun j u hj => ?_⟩⟩, balloc _ _⟩
  rw [Nat.zero_add, cell_of_row _ _ _ _ _ (0, 0) (heap_alloc_new w _)]
  simpa [crow, C8] using hj
theorem con_c (s : By) (ao : Option Addr) (n cap : Nat) (w : World) : Calls Try.prog 28 #[.string ⟨s.toArray⟩, .slice ao n cap] w fun e w' => e = .returned (.agg #[.int .i64 5, .string ⟨s.toArray⟩, .int .i64 0, .int .i64 0, .slice none 0 0, .slice ao n cap]) ∧ Below w.heap.size w w' := by
  go_enter Try.func28, Try.ntmps28
  go_wp2
  exact bodyPost_ret (v := .agg #[.int .i64 5, .string ⟨s.toArray⟩, .int .i64 0, .int .i64 0, .slice none 0 0, .slice ao n cap]) (by simp [results, Try.results28, go_sem]) rfl ⟨rfl, balloc _ _⟩
theorem any_c (w : World) : Calls Try.prog 12 #[] w fun e w' => e = .returned (.agg #[.int .i64 24, .string ⟨#[]⟩, .int .i64 0, .int .i64 0, .slice none 0 0, .slice none 0 0]) ∧ Below w.heap.size w w' := by
  go_enter Try.func12, Try.ntmps12
  go_wp2
  exact bodyPost_ret (v := .agg #[.int .i64 24, .string ⟨#[]⟩, .int .i64 0, .int .i64 0, .slice none 0 0, .slice none 0 0]) (by simp [results, Try.results12, go_sem]) rfl ⟨rfl, balloc _ _⟩
theorem RowC.keep {w w' : World} {v : Value} {C : List Cn} (h : RowC w v C) (hb : Below w.heap.size w w') : RowC w' v C := Rw.keep hb h
theorem cons_in {w : World} {v : Value} (h : RowC w v C8) : ConsIn w v C8 := ⟨h, sound8, by decide, fun w' hb => sound_c8 v w' (RowC.keep h hb)⟩
theorem nil_in (w : World) (ao : Option Addr) (cap : Nat) : ConsIn w (.slice ao 0 cap) [] :=
  ⟨⟨ao, cap, rfl, Nat.zero_le _, .inl rfl⟩, sound0, by decide, fun w' hb => sound_nil ao cap w'⟩
/-- Check, reckoned. -/
theorem check_is (C : List Cn) (rows : List Nd) (rv cvv : Value) (w : World) (n e : Int) (hc : ConsIn w cvv C) (hr : RowN w Any rv rows) (hn : rows.length ≤ 1000) (hs : ∀ p, p ∈ rows → sz p ≤ 5000) (h : chk C rows = (n, e)) :
    Calls Try.prog 7 #[rv, cvv] w fun x w' => x = .returned (.tuple #[.int .i64 n, .int .i64 e]) ∧ Below w.heap.size w w' :=
  (check_c C rows rv cvv w hc hr (by omega) hs).mono fun x w' ⟨n', e', hx, ht, hb⟩ => by
    have := told_chk hc.ok ht
    rw [h] at this
    obtain ⟨h1, h2⟩ := Prod.mk.inj this
    subst h1; subst h2
    exact ⟨hx, hb⟩
theorem rowN_cells {w : World} {b : Nat} {c : Array Value} {t : TypeId} {l : List Nd} {qs : List Value} (hb : w.heap[b]? = some (.cells c t (0, 0))) (hc : c.toList = nrow l qs) (hq : HasNs w Any l qs) (cap : Nat) (hcap : l.length ≤ cap) : RowN w Any (.slice (some ⟨b, 0, none⟩) l.length cap) l := by
  refine ⟨qs, ⟨_, cap, rfl, hcap, .inr ⟨b, 0, rfl, ⟨trivial, (Array.getElem?_eq_some_iff.1 hb).1⟩, fun j u hj => ?_⟩⟩, hq⟩
  rw [Nat.zero_add, cell_of_row _ _ _ _ _ (0, 0) hb]
  rw [← hc] at hj; simpa using hj
theorem leafN (w : World) (k n : Int) (s : By) : HasN w Any (.mk k n s []) (.slice none 0 0) := ⟨[], ⟨none, 0, rfl, Nat.le_refl _, .inl rfl⟩, trivial⟩
end Go.Proofs.Ytommaomhiaaphaa.DA
