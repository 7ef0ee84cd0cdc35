/- Codes in memory; how many of A and B an Op uses; whether an instruction may be: the walks of the document's answers. -/
import Derived.Test.YtkhdkepjhifffaaChecked
import Derived.Test.YtkhdkepjhifffaaRG
import Derived.Test.YtkhdkepjhifffaaKA
import Derived.WalkSmall
namespace Go.Proofs.Ytkhdkepjhifffaa.KB
open Go.RowKit Go.Proofs.Ytkhdkepjhifffaa.RG Go.Proofs.Ytkhdkepjhifffaa.KA
set_option linter.unusedVariables false
set_option maxRecDepth 100000
set_option maxRecDepth 100000

theorem ret_bool {a b : Bool} (h : a = b) : Ending.returned (.bool a) = .returned (.bool b) := by rw [h]
theorem ret_int {a b : Int} (h : a = b) : Ending.returned (.int .i64 a) = .returned (.int .i64 b) := by rw [h]
theorem getElem?_of_lt {α : Type} {l : List α} {k : Nat} (h : k < l.length) : ∃ x, l[k]? = some x := ⟨l[k], List.getElem?_eq_getElem h⟩
theorem str_eq (s t : By) : ((ByteArray.mk s.toArray) == (ByteArray.mk t.toArray)) = (s == t) := by
  rw [Bool.eq_iff_iff, MapKept.bytes_beq, beq_iff_eq]
  constructor
  · intro h; have := congrArg (fun b => b.data.toList) h; simpa using this
  · intro h; rw [h]
/-- Integers, texts, bytes, instructions. -/
def TI : Ty Try.prog Int := Ty.flat 24 3 1 8 (.int .i64 0) (fun n => [.int .i64 n]) Try.underlying24 (by kernel_rfl) rfl (by decide) (by decide) (fun _ => rfl) (fun a u hu => by rw [List.mem_singleton.1 hu]; rfl)
def TT : Ty Try.prog By := Ty.flat 25 9 1 16 (.string ⟨#[]⟩) (fun s => [.string ⟨s.toArray⟩]) Try.underlying25 (by kernel_rfl) rfl (by decide) (by decide) (fun _ => rfl) (fun a u hu => by rw [List.mem_singleton.1 hu]; rfl)
def TB : Ty Try.prog UInt8 := Ty.flat 22 5 1 1 (.int .u8 0) (fun b => [.int .u8 (b.toNat : Int)]) Try.underlying22 (by kernel_rfl) rfl (by decide) (by decide) (fun _ => rfl) (fun a u hu => by rw [List.mem_singleton.1 hu]; rfl)
def icells (i : In) : List Value := [.int .i64 i.op, .int .i64 i.a, .int .i64 i.b]
def TN : Ty Try.prog In := Ty.flat 47 45 3 24 (.agg #[.int .i64 0, .int .i64 0, .int .i64 0]) icells Try.underlying47 (by kernel_rfl) rfl (by decide) (by decide) (fun _ => rfl) (fun a u hu => by
  simp only [icells, List.mem_cons, List.not_mem_nil, or_false] at hu
  rcases hu with rfl | rfl | rfl <;> rfl)
/-- A body: its code is a row of instructions. -/
def hasBd (w : World) (S : Nat → Prop) (f : Bd) (qs : List Value) : Prop := ∃ q qs2, qs = [q] ∧ Rw w S q f.code.length (rowOf TN f.code qs2) ∧ Hs TN w S f.code qs2
def bcells (f : Bd) (qs : List Value) : List Value := [.int .i64 f.kept, .int .i64 f.locals, .int .i64 f.stack, qs.headD (.slice none 0 0)]
def TF : Ty Try.prog Bd :=
  { t := 23, e := 49, size := 4, bytes := 48, z := .agg #[.int .i64 0, .int .i64 0, .int .i64 0, .slice none 0 0], enc := bcells, has := hasBd, ht := Try.underlying23, info := by kernel_rfl, hzs := rfl, hsz := by decide, hby := by decide
    len := fun _ => rfl
    one := fun {w S a qs} h u hu => by
      obtain ⟨q, qs2, rfl, h2, _⟩ := h
      simp only [bcells, List.headD_cons, List.mem_cons, List.not_mem_nil, or_false] at hu
      rcases hu with rfl | rfl | rfl | rfl
      · rfl
      · rfl
      · rfl
      · exact h2.one
    mv := fun {w w' S S' a qs} hm h => by
      obtain ⟨q, qs2, h1, h2, h3⟩ := h
      exact ⟨q, qs2, h1, h2.mv hm, Hs.mv hm _ _ h3⟩ }
/-- A code's four values. -/
structure HasC (w : World) (S : Nat → Prop) (c : Cd) (fv iv tv : Value) : Prop where
  funs : RowR TF w S fv c.funs
  ints : RowR TI w S iv c.ints
  texts : RowR TT w S tv c.texts
theorem HasC.keep {w w' : World} {S : Nat → Prop} {c : Cd} {fv iv tv : Value} (h : HasC w S c fv iv tv) (hb : Below w.heap.size w w') : HasC w' S c fv iv tv := ⟨h.funs.keep hb, h.ints.keep hb, h.texts.keep hb⟩
theorem hasBd_row {w : World} {S : Nat → Prop} {f : Bd} {qs : List Value} (h : hasBd w S f qs) : ∃ q, qs = [q] ∧ RowR TN w S q f.code := by
  obtain ⟨q, qs2, h1, h2, h3⟩ := h
  exact ⟨q, h1, qs2, h2.mv (Mv.weak w fun _ _ _ => trivial), h3⟩

/-- Constants in a block. -/
def iconst (l : List Int) : Array Value := (l.map fun n => Value.int .i64 n).toArray
theorem iconst_at {l : List Int} {i : Nat} {n : Int} (h : l[i]? = some n) : (iconst l)[i]? = some (.int .i64 n) := by
  unfold iconst
  simp [h]
set_option maxHeartbeats 2000000 in
theorem uses_c (op : Int) (w : World) : Calls Try.prog 36 #[.int .i64 op] w fun e w' => e = .returned (.int .i64 (uses op)) ∧ Below w.heap.size w w' := by
  obtain ⟨R, HR⟩ : ∃ R, Hid (uses op = R) := ⟨_, Lib.hid rfl⟩
  rw [HR.out]
  by_cases h1 : op < 1
  · have HRR := Lib.hid (show (-1 : Int) = R from by rw [← HR.out]; unfold uses; rw [if_pos (.inl h1)])
    go_enter Try.func36, Try.ntmps36
    go_wp2_with fail
    go_ret
    exact ⟨ret_int HRR.out, Below.refl _ _⟩
  by_cases h2 : 33 < op
  · have HRR := Lib.hid (show (-1 : Int) = R from by rw [← HR.out]; unfold uses; rw [if_pos (.inr h2)])
    have h3 : op > 33 := h2
    go_enter Try.func36, Try.ntmps36
    go_wp2_with fail
    go_ret
    exact ⟨ret_int HRR.out, Below.refl _ _⟩
  have HU := Lib.hid (show (if op ∈ twoL then 2 else if op ∈ noneL then 0 else 1) = R from by rw [← HR.out]; unfold uses; rw [if_neg (show ¬ (op < 1 ∨ 33 < op) by omega)])
  have h3 : ¬ op > 33 := h2
  have B1 := Lib.hid (show Bk ((w.alloc (.cells #[.int .i64 10, .int .i64 11, .int .i64 18] 3)).alloc (.cells (iconst noneL) 3)) w.heap.size (iconst twoL) 3 from (Bk.new w _ _).alloc _)
  have B2 := Lib.hid (Bk.new (w.alloc (.cells #[.int .i64 10, .int .i64 11, .int .i64 18] 3)) (iconst noneL) 3)
  have HX := Lib.hid (bnext (balloc w (.cells #[.int .i64 10, .int .i64 11, .int .i64 18] 3)) (balloc _ (.cells (iconst noneL) 3)))
  rw [World.size_alloc] at B2
  clear h2
  go_enter Try.func36, Try.ntmps36
  go_wp2_with fail
  obtain ⟨B, hB⟩ : ∃ B, Hid (w.heap.size = B) := ⟨_, Lib.hid rfl⟩
  change Code.wp _ _ _ _ ((w.alloc (.cells #[.int .i64 10, .int .i64 11, .int .i64 18] 3)).alloc (.cells (iconst noneL) 3))
  rw [hB.out] at B1 B2 ⊢
  generalize World.alloc (World.alloc w _) _ = W at B1 B2 HX ⊢
  go_loopg [5] 3 (fun g iv wr => ∃ i : Nat, i + g = 3 ∧ iv = .int .i64 (i : Int) ∧ W = wr ∧ Hid (∀ (j : Nat) n, j < i → twoL[j]? = some n → n ≠ op))
  case atStart => exact ⟨0, Nat.zero_add _, rfl, rfl, Lib.hid (fun j n h => by omega)⟩
  case round =>
    obtain ⟨i, hi, rfl, rfl, HN⟩ := hrel
    by_cases hlt : i < 3
    · obtain ⟨g, rfl⟩ : ∃ g, gk = g + 1 := ⟨gk - 1, by omega⟩
      obtain ⟨n, hn⟩ := getElem?_of_lt (l := twoL) (k := i) hlt
      have x0 := B1.out.cell i _ (iconst_at hn)
      have HM := Lib.hid hn
      have i0 : (0 : Int) ≤ (i : Int) := by omega
      have i1 : (i : Int) < 3 := by omega
      clear hn
      cases he : (n == op)
      · go_wp2_with fail
        go_roundg g
        case rel =>
          refine ⟨i + 1, by omega, by go_num, rfl, Lib.hid fun j m hj hm => ?_⟩
          by_cases hji : j = i
          · subst hji
            rw [HM.out] at hm
            cases hm
            simpa using he
          · exact HN.out j m (by omega) hm
        case measure => omega
      · have HRR := Lib.hid (show (2 : Int) = R from by
          rw [← HU.out, if_pos]
          have : n = op := by simpa using he
          rw [← this]; exact List.mem_of_getElem? HM.out)
        go_wp2_with fail
        go_ret
        exact ⟨ret_int HRR.out, HX.out⟩
    · have HNO := Lib.hid (show op ∉ twoL from fun h => by
        obtain ⟨j, hj, he⟩ := List.getElem_of_mem h
        have hj3 : j < 3 := hj
        exact HN.out j op (by omega) (by rw [← he]; exact List.getElem?_eq_getElem hj) rfl)
      have HU2 := Lib.hid (show (if op ∈ noneL then 0 else 1) = R from by rw [← HU.out, if_neg HNO.out])
      go_wp2_with fail
      go_loopg [6] 17 (fun g iv wr => ∃ i : Nat, i + g = 17 ∧ iv = .int .i64 (i : Int) ∧ W = wr ∧ Hid (∀ (j : Nat) n, j < i → noneL[j]? = some n → n ≠ op))
      case atStart => exact ⟨0, Nat.zero_add _, rfl, rfl, Lib.hid (fun j n h => by omega)⟩
      case round =>
        obtain ⟨i2, hi2, rfl, rfl, HN2⟩ := hrel
        by_cases hlt2 : i2 < 17
        · obtain ⟨g, rfl⟩ : ∃ g, gk = g + 1 := ⟨gk - 1, by omega⟩
          obtain ⟨n, hn⟩ := getElem?_of_lt (l := noneL) (k := i2) hlt2
          have x0 := B2.out.cell i2 _ (iconst_at hn)
          have HM := Lib.hid hn
          have i0 : (0 : Int) ≤ (i2 : Int) := by omega
          have i1 : (i2 : Int) < 17 := by omega
          clear hn
          cases he : (n == op)
          · go_wp2_with fail
            go_roundg g
            case rel =>
              refine ⟨i2 + 1, by omega, by go_num, rfl, Lib.hid fun j m hj hm => ?_⟩
              by_cases hji : j = i2
              · subst hji
                rw [HM.out] at hm
                cases hm
                simpa using he
              · exact HN2.out j m (by omega) hm
            case measure => omega
          · have HRR := Lib.hid (show (0 : Int) = R from by
              rw [← HU2.out, if_pos]
              have : n = op := by simpa using he
              rw [← this]; exact List.mem_of_getElem? HM.out)
            go_wp2_with fail
            go_ret
            exact ⟨ret_int HRR.out, HX.out⟩
        · have HRR := Lib.hid (show (1 : Int) = R from by
            rw [← HU2.out, if_neg]
            intro h
            obtain ⟨j, hj, he⟩ := List.getElem_of_mem h
            have hj3 : j < 17 := hj
            exact HN2.out j op (by omega) (by rw [← he]; exact List.getElem?_eq_getElem hj) rfl)
          go_wp2_with fail
          go_ret
          exact ⟨ret_int HRR.out, HX.out⟩
set_option maxHeartbeats 4000000 in
theorem instr_c (i : In) (w : World) : Calls Try.prog 23 #[.agg #[.int .i64 i.op, .int .i64 i.a, .int .i64 i.b]] w fun e w' => e = .returned (.bool (insOk i)) ∧ Below w.heap.size w w' := by
  obtain ⟨op, a, b⟩ := i
  obtain ⟨R, HR⟩ : ∃ R, Hid (insOk ⟨op, a, b⟩ = R) := ⟨_, Lib.hid rfl⟩
  rw [HR.out]
  have U0 := fun w => uses_c op w
  have B1 := Lib.hid (Bk.new w #[.int .i64 op, .int .i64 a, .int .i64 b] 45)
  have HX := Lib.hid (balloc w (.cells #[.int .i64 op, .int .i64 a, .int .i64 b] 45))
  have HRR := HR
  unfold insOk at HRR
  simp only at HRR
  show Calls Try.prog 23 #[.agg #[.int .i64 op, .int .i64 a, .int .i64 b]] w _
  have hu := uses_three op
  generalize uses op = U at U0 HRR hu
  rcases hu with rfl | rfl | rfl | rfl
  · go_enter Try.func23, Try.ntmps23
    go_wp2_with (go_at_call 36; refine (U0 _).mono ?_; rintro e w3 ⟨rfl, hb⟩; have HX3 := Lib.hid (bnext HX.out hb); have B3 := Lib.hid (B1.out.keep hb); clear hb; have x0 := B3.out.cell 0 _ rfl; have x1 := B3.out.cell 1 _ rfl; have x2 := B3.out.cell 2 _ rfl)
    go_ret
    refine ⟨ret_bool ?_, HX3.out⟩
    rw [← HRR.out]
    first | rfl | (simp; done) | (simp; omega)
  · by_cases a0 : a < 0
    · go_enter Try.func23, Try.ntmps23
      go_wp2_with (go_at_call 36; refine (U0 _).mono ?_; rintro e w3 ⟨rfl, hb⟩; have HX3 := Lib.hid (bnext HX.out hb); have B3 := Lib.hid (B1.out.keep hb); clear hb; have x0 := B3.out.cell 0 _ rfl; have x1 := B3.out.cell 1 _ rfl; have x2 := B3.out.cell 2 _ rfl)
      go_ret
      refine ⟨ret_bool ?_, HX3.out⟩
      rw [← HRR.out]
      first | rfl | (simp; done) | (simp; omega)
    by_cases a1 : a > 65535
    · go_enter Try.func23, Try.ntmps23
      go_wp2_with (go_at_call 36; refine (U0 _).mono ?_; rintro e w3 ⟨rfl, hb⟩; have HX3 := Lib.hid (bnext HX.out hb); have B3 := Lib.hid (B1.out.keep hb); clear hb; have x0 := B3.out.cell 0 _ rfl; have x1 := B3.out.cell 1 _ rfl; have x2 := B3.out.cell 2 _ rfl)
      go_ret
      refine ⟨ret_bool ?_, HX3.out⟩
      rw [← HRR.out]
      first | rfl | (simp; done) | (simp; omega)
    by_cases a2 : a = 0
    · subst a2
      by_cases b0 : b < 0
      · go_enter Try.func23, Try.ntmps23
        go_wp2_with (go_at_call 36; refine (U0 _).mono ?_; rintro e w3 ⟨rfl, hb⟩; have HX3 := Lib.hid (bnext HX.out hb); have B3 := Lib.hid (B1.out.keep hb); clear hb; have x0 := B3.out.cell 0 _ rfl; have x1 := B3.out.cell 1 _ rfl; have x2 := B3.out.cell 2 _ rfl)
        go_ret
        refine ⟨ret_bool ?_, HX3.out⟩
        rw [← HRR.out]
        first | rfl | (simp; done) | (simp; omega)
      by_cases b1 : b > 65535
      · go_enter Try.func23, Try.ntmps23
        go_wp2_with (go_at_call 36; refine (U0 _).mono ?_; rintro e w3 ⟨rfl, hb⟩; have HX3 := Lib.hid (bnext HX.out hb); have B3 := Lib.hid (B1.out.keep hb); clear hb; have x0 := B3.out.cell 0 _ rfl; have x1 := B3.out.cell 1 _ rfl; have x2 := B3.out.cell 2 _ rfl)
        go_ret
        refine ⟨ret_bool ?_, HX3.out⟩
        rw [← HRR.out]
        first | rfl | (simp; done) | (simp; omega)
      by_cases b2 : b = 0
      · subst b2
        go_enter Try.func23, Try.ntmps23
        go_wp2_with (go_at_call 36; refine (U0 _).mono ?_; rintro e w3 ⟨rfl, hb⟩; have HX3 := Lib.hid (bnext HX.out hb); have B3 := Lib.hid (B1.out.keep hb); clear hb; have x0 := B3.out.cell 0 _ rfl; have x1 := B3.out.cell 1 _ rfl; have x2 := B3.out.cell 2 _ rfl)
        go_ret
        refine ⟨ret_bool ?_, HX3.out⟩
        rw [← HRR.out]
        first | rfl | (simp; done) | (simp; omega)
      have b3 : (b == 0) = false := by simpa using b2
      go_enter Try.func23, Try.ntmps23
      go_wp2_with (go_at_call 36; refine (U0 _).mono ?_; rintro e w3 ⟨rfl, hb⟩; have HX3 := Lib.hid (bnext HX.out hb); have B3 := Lib.hid (B1.out.keep hb); clear hb; have x0 := B3.out.cell 0 _ rfl; have x1 := B3.out.cell 1 _ rfl; have x2 := B3.out.cell 2 _ rfl)
      go_ret
      refine ⟨ret_bool ?_, HX3.out⟩
      rw [← HRR.out]
      first | rfl | (simp; done) | (simp; omega)
    have a3 : (a == 0) = false := by simpa using a2
    by_cases b0 : b < 0
    · go_enter Try.func23, Try.ntmps23
      go_wp2_with (go_at_call 36; refine (U0 _).mono ?_; rintro e w3 ⟨rfl, hb⟩; have HX3 := Lib.hid (bnext HX.out hb); have B3 := Lib.hid (B1.out.keep hb); clear hb; have x0 := B3.out.cell 0 _ rfl; have x1 := B3.out.cell 1 _ rfl; have x2 := B3.out.cell 2 _ rfl)
      go_ret
      refine ⟨ret_bool ?_, HX3.out⟩
      rw [← HRR.out]
      first | rfl | (simp; done) | (simp; omega)
    by_cases b1 : b > 65535
    · go_enter Try.func23, Try.ntmps23
      go_wp2_with (go_at_call 36; refine (U0 _).mono ?_; rintro e w3 ⟨rfl, hb⟩; have HX3 := Lib.hid (bnext HX.out hb); have B3 := Lib.hid (B1.out.keep hb); clear hb; have x0 := B3.out.cell 0 _ rfl; have x1 := B3.out.cell 1 _ rfl; have x2 := B3.out.cell 2 _ rfl)
      go_ret
      refine ⟨ret_bool ?_, HX3.out⟩
      rw [← HRR.out]
      first | rfl | (simp; done) | (simp; omega)
    by_cases b2 : b = 0
    · subst b2
      go_enter Try.func23, Try.ntmps23
      go_wp2_with (go_at_call 36; refine (U0 _).mono ?_; rintro e w3 ⟨rfl, hb⟩; have HX3 := Lib.hid (bnext HX.out hb); have B3 := Lib.hid (B1.out.keep hb); clear hb; have x0 := B3.out.cell 0 _ rfl; have x1 := B3.out.cell 1 _ rfl; have x2 := B3.out.cell 2 _ rfl)
      go_ret
      refine ⟨ret_bool ?_, HX3.out⟩
      rw [← HRR.out]
      first | rfl | (simp; done) | (simp; omega)
    have b3 : (b == 0) = false := by simpa using b2
    go_enter Try.func23, Try.ntmps23
    go_wp2_with (go_at_call 36; refine (U0 _).mono ?_; rintro e w3 ⟨rfl, hb⟩; have HX3 := Lib.hid (bnext HX.out hb); have B3 := Lib.hid (B1.out.keep hb); clear hb; have x0 := B3.out.cell 0 _ rfl; have x1 := B3.out.cell 1 _ rfl; have x2 := B3.out.cell 2 _ rfl)
    go_ret
    refine ⟨ret_bool ?_, HX3.out⟩
    rw [← HRR.out]
    first | rfl | (simp; done) | (simp; omega)
  · by_cases a0 : a < 0
    · go_enter Try.func23, Try.ntmps23
      go_wp2_with (go_at_call 36; refine (U0 _).mono ?_; rintro e w3 ⟨rfl, hb⟩; have HX3 := Lib.hid (bnext HX.out hb); have B3 := Lib.hid (B1.out.keep hb); clear hb; have x0 := B3.out.cell 0 _ rfl; have x1 := B3.out.cell 1 _ rfl; have x2 := B3.out.cell 2 _ rfl)
      go_ret
      refine ⟨ret_bool ?_, HX3.out⟩
      rw [← HRR.out]
      first | rfl | (simp; done) | (simp; omega)
    by_cases a1 : a > 65535
    · go_enter Try.func23, Try.ntmps23
      go_wp2_with (go_at_call 36; refine (U0 _).mono ?_; rintro e w3 ⟨rfl, hb⟩; have HX3 := Lib.hid (bnext HX.out hb); have B3 := Lib.hid (B1.out.keep hb); clear hb; have x0 := B3.out.cell 0 _ rfl; have x1 := B3.out.cell 1 _ rfl; have x2 := B3.out.cell 2 _ rfl)
      go_ret
      refine ⟨ret_bool ?_, HX3.out⟩
      rw [← HRR.out]
      first | rfl | (simp; done) | (simp; omega)
    by_cases a2 : a = 0
    · subst a2
      by_cases b0 : b < 0
      · go_enter Try.func23, Try.ntmps23
        go_wp2_with (go_at_call 36; refine (U0 _).mono ?_; rintro e w3 ⟨rfl, hb⟩; have HX3 := Lib.hid (bnext HX.out hb); have B3 := Lib.hid (B1.out.keep hb); clear hb; have x0 := B3.out.cell 0 _ rfl; have x1 := B3.out.cell 1 _ rfl; have x2 := B3.out.cell 2 _ rfl)
        go_ret
        refine ⟨ret_bool ?_, HX3.out⟩
        rw [← HRR.out]
        first | rfl | (simp; done) | (simp; omega)
      by_cases b1 : b > 65535
      · go_enter Try.func23, Try.ntmps23
        go_wp2_with (go_at_call 36; refine (U0 _).mono ?_; rintro e w3 ⟨rfl, hb⟩; have HX3 := Lib.hid (bnext HX.out hb); have B3 := Lib.hid (B1.out.keep hb); clear hb; have x0 := B3.out.cell 0 _ rfl; have x1 := B3.out.cell 1 _ rfl; have x2 := B3.out.cell 2 _ rfl)
        go_ret
        refine ⟨ret_bool ?_, HX3.out⟩
        rw [← HRR.out]
        first | rfl | (simp; done) | (simp; omega)
      by_cases b2 : b = 0
      · subst b2
        go_enter Try.func23, Try.ntmps23
        go_wp2_with (go_at_call 36; refine (U0 _).mono ?_; rintro e w3 ⟨rfl, hb⟩; have HX3 := Lib.hid (bnext HX.out hb); have B3 := Lib.hid (B1.out.keep hb); clear hb; have x0 := B3.out.cell 0 _ rfl; have x1 := B3.out.cell 1 _ rfl; have x2 := B3.out.cell 2 _ rfl)
        go_ret
        refine ⟨ret_bool ?_, HX3.out⟩
        rw [← HRR.out]
        first | rfl | (simp; done) | (simp; omega)
      have b3 : (b == 0) = false := by simpa using b2
      go_enter Try.func23, Try.ntmps23
      go_wp2_with (go_at_call 36; refine (U0 _).mono ?_; rintro e w3 ⟨rfl, hb⟩; have HX3 := Lib.hid (bnext HX.out hb); have B3 := Lib.hid (B1.out.keep hb); clear hb; have x0 := B3.out.cell 0 _ rfl; have x1 := B3.out.cell 1 _ rfl; have x2 := B3.out.cell 2 _ rfl)
      go_ret
      refine ⟨ret_bool ?_, HX3.out⟩
      rw [← HRR.out]
      first | rfl | (simp; done) | (simp; omega)
    have a3 : (a == 0) = false := by simpa using a2
    by_cases b0 : b < 0
    · go_enter Try.func23, Try.ntmps23
      go_wp2_with (go_at_call 36; refine (U0 _).mono ?_; rintro e w3 ⟨rfl, hb⟩; have HX3 := Lib.hid (bnext HX.out hb); have B3 := Lib.hid (B1.out.keep hb); clear hb; have x0 := B3.out.cell 0 _ rfl; have x1 := B3.out.cell 1 _ rfl; have x2 := B3.out.cell 2 _ rfl)
      go_ret
      refine ⟨ret_bool ?_, HX3.out⟩
      rw [← HRR.out]
      first | rfl | (simp; done) | (simp; omega)
    by_cases b1 : b > 65535
    · go_enter Try.func23, Try.ntmps23
      go_wp2_with (go_at_call 36; refine (U0 _).mono ?_; rintro e w3 ⟨rfl, hb⟩; have HX3 := Lib.hid (bnext HX.out hb); have B3 := Lib.hid (B1.out.keep hb); clear hb; have x0 := B3.out.cell 0 _ rfl; have x1 := B3.out.cell 1 _ rfl; have x2 := B3.out.cell 2 _ rfl)
      go_ret
      refine ⟨ret_bool ?_, HX3.out⟩
      rw [← HRR.out]
      first | rfl | (simp; done) | (simp; omega)
    by_cases b2 : b = 0
    · subst b2
      go_enter Try.func23, Try.ntmps23
      go_wp2_with (go_at_call 36; refine (U0 _).mono ?_; rintro e w3 ⟨rfl, hb⟩; have HX3 := Lib.hid (bnext HX.out hb); have B3 := Lib.hid (B1.out.keep hb); clear hb; have x0 := B3.out.cell 0 _ rfl; have x1 := B3.out.cell 1 _ rfl; have x2 := B3.out.cell 2 _ rfl)
      go_ret
      refine ⟨ret_bool ?_, HX3.out⟩
      rw [← HRR.out]
      first | rfl | (simp; done) | (simp; omega)
    have b3 : (b == 0) = false := by simpa using b2
    go_enter Try.func23, Try.ntmps23
    go_wp2_with (go_at_call 36; refine (U0 _).mono ?_; rintro e w3 ⟨rfl, hb⟩; have HX3 := Lib.hid (bnext HX.out hb); have B3 := Lib.hid (B1.out.keep hb); clear hb; have x0 := B3.out.cell 0 _ rfl; have x1 := B3.out.cell 1 _ rfl; have x2 := B3.out.cell 2 _ rfl)
    go_ret
    refine ⟨ret_bool ?_, HX3.out⟩
    rw [← HRR.out]
    first | rfl | (simp; done) | (simp; omega)
  · by_cases a0 : a < 0
    · go_enter Try.func23, Try.ntmps23
      go_wp2_with (go_at_call 36; refine (U0 _).mono ?_; rintro e w3 ⟨rfl, hb⟩; have HX3 := Lib.hid (bnext HX.out hb); have B3 := Lib.hid (B1.out.keep hb); clear hb; have x0 := B3.out.cell 0 _ rfl; have x1 := B3.out.cell 1 _ rfl; have x2 := B3.out.cell 2 _ rfl)
      go_ret
      refine ⟨ret_bool ?_, HX3.out⟩
      rw [← HRR.out]
      first | rfl | (simp; done) | (simp; omega)
    by_cases a1 : a > 65535
    · go_enter Try.func23, Try.ntmps23
      go_wp2_with (go_at_call 36; refine (U0 _).mono ?_; rintro e w3 ⟨rfl, hb⟩; have HX3 := Lib.hid (bnext HX.out hb); have B3 := Lib.hid (B1.out.keep hb); clear hb; have x0 := B3.out.cell 0 _ rfl; have x1 := B3.out.cell 1 _ rfl; have x2 := B3.out.cell 2 _ rfl)
      go_ret
      refine ⟨ret_bool ?_, HX3.out⟩
      rw [← HRR.out]
      first | rfl | (simp; done) | (simp; omega)
    by_cases a2 : a = 0
    · subst a2
      by_cases b0 : b < 0
      · go_enter Try.func23, Try.ntmps23
        go_wp2_with (go_at_call 36; refine (U0 _).mono ?_; rintro e w3 ⟨rfl, hb⟩; have HX3 := Lib.hid (bnext HX.out hb); have B3 := Lib.hid (B1.out.keep hb); clear hb; have x0 := B3.out.cell 0 _ rfl; have x1 := B3.out.cell 1 _ rfl; have x2 := B3.out.cell 2 _ rfl)
        go_ret
        refine ⟨ret_bool ?_, HX3.out⟩
        rw [← HRR.out]
        first | rfl | (simp; done) | (simp; omega)
      by_cases b1 : b > 65535
      · go_enter Try.func23, Try.ntmps23
        go_wp2_with (go_at_call 36; refine (U0 _).mono ?_; rintro e w3 ⟨rfl, hb⟩; have HX3 := Lib.hid (bnext HX.out hb); have B3 := Lib.hid (B1.out.keep hb); clear hb; have x0 := B3.out.cell 0 _ rfl; have x1 := B3.out.cell 1 _ rfl; have x2 := B3.out.cell 2 _ rfl)
        go_ret
        refine ⟨ret_bool ?_, HX3.out⟩
        rw [← HRR.out]
        first | rfl | (simp; done) | (simp; omega)
      by_cases b2 : b = 0
      · subst b2
        go_enter Try.func23, Try.ntmps23
        go_wp2_with (go_at_call 36; refine (U0 _).mono ?_; rintro e w3 ⟨rfl, hb⟩; have HX3 := Lib.hid (bnext HX.out hb); have B3 := Lib.hid (B1.out.keep hb); clear hb; have x0 := B3.out.cell 0 _ rfl; have x1 := B3.out.cell 1 _ rfl; have x2 := B3.out.cell 2 _ rfl)
        go_ret
        refine ⟨ret_bool ?_, HX3.out⟩
        rw [← HRR.out]
        first | rfl | (simp; done) | (simp; omega)
      have b3 : (b == 0) = false := by simpa using b2
      go_enter Try.func23, Try.ntmps23
      go_wp2_with (go_at_call 36; refine (U0 _).mono ?_; rintro e w3 ⟨rfl, hb⟩; have HX3 := Lib.hid (bnext HX.out hb); have B3 := Lib.hid (B1.out.keep hb); clear hb; have x0 := B3.out.cell 0 _ rfl; have x1 := B3.out.cell 1 _ rfl; have x2 := B3.out.cell 2 _ rfl)
      go_ret
      refine ⟨ret_bool ?_, HX3.out⟩
      rw [← HRR.out]
      first | rfl | (simp; done) | (simp; omega)
    have a3 : (a == 0) = false := by simpa using a2
    by_cases b0 : b < 0
    · go_enter Try.func23, Try.ntmps23
      go_wp2_with (go_at_call 36; refine (U0 _).mono ?_; rintro e w3 ⟨rfl, hb⟩; have HX3 := Lib.hid (bnext HX.out hb); have B3 := Lib.hid (B1.out.keep hb); clear hb; have x0 := B3.out.cell 0 _ rfl; have x1 := B3.out.cell 1 _ rfl; have x2 := B3.out.cell 2 _ rfl)
      go_ret
      refine ⟨ret_bool ?_, HX3.out⟩
      rw [← HRR.out]
      first | rfl | (simp; done) | (simp; omega)
    by_cases b1 : b > 65535
    · go_enter Try.func23, Try.ntmps23
      go_wp2_with (go_at_call 36; refine (U0 _).mono ?_; rintro e w3 ⟨rfl, hb⟩; have HX3 := Lib.hid (bnext HX.out hb); have B3 := Lib.hid (B1.out.keep hb); clear hb; have x0 := B3.out.cell 0 _ rfl; have x1 := B3.out.cell 1 _ rfl; have x2 := B3.out.cell 2 _ rfl)
      go_ret
      refine ⟨ret_bool ?_, HX3.out⟩
      rw [← HRR.out]
      first | rfl | (simp; done) | (simp; omega)
    by_cases b2 : b = 0
    · subst b2
      go_enter Try.func23, Try.ntmps23
      go_wp2_with (go_at_call 36; refine (U0 _).mono ?_; rintro e w3 ⟨rfl, hb⟩; have HX3 := Lib.hid (bnext HX.out hb); have B3 := Lib.hid (B1.out.keep hb); clear hb; have x0 := B3.out.cell 0 _ rfl; have x1 := B3.out.cell 1 _ rfl; have x2 := B3.out.cell 2 _ rfl)
      go_ret
      refine ⟨ret_bool ?_, HX3.out⟩
      rw [← HRR.out]
      first | rfl | (simp; done) | (simp; omega)
    have b3 : (b == 0) = false := by simpa using b2
    go_enter Try.func23, Try.ntmps23
    go_wp2_with (go_at_call 36; refine (U0 _).mono ?_; rintro e w3 ⟨rfl, hb⟩; have HX3 := Lib.hid (bnext HX.out hb); have B3 := Lib.hid (B1.out.keep hb); clear hb; have x0 := B3.out.cell 0 _ rfl; have x1 := B3.out.cell 1 _ rfl; have x2 := B3.out.cell 2 _ rfl)
    go_ret
    refine ⟨ret_bool ?_, HX3.out⟩
    rw [← HRR.out]
    first | rfl | (simp; done) | (simp; omega)
end Go.Proofs.Ytkhdkepjhifffaa.KB
