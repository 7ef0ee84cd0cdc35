/- The document's heap in memory. -/
import Derived.Test.YtphebogjmbaboaaDoorHF
namespace Go.Proofs.YtphebogjmbaboaaDoor.HG
open Go.RowKit Go.Proofs.YtphebogjmbaboaaDoor.RG Go.Proofs.YtphebogjmbaboaaDoor.RB Go.Proofs.YtphebogjmbaboaaDoor.HA Go.Proofs.YtphebogjmbaboaaDoor.HB
set_option linter.unusedVariables false
set_option maxRecDepth 100000
set_option maxRecDepth 100000

/-- A word of the document's. -/
abbrev Wd := Bool × Int
def TW : Ty Tryd.prog Wd := Ty.flat 75 80 2 16 (.agg #[.bool false, .int .i64 0]) (fun x => [.bool x.1, .int .i64 x.2]) Tryd.underlying75 (by kernel_rfl) rfl (by decide) (by decide) (fun _ => rfl) (fun a u hu => by
  simp only [List.mem_cons, List.not_mem_nil, or_false] at hu
  rcases hu with rfl | rfl <;> rfl)
/-- A block of the document's: its tag, its words, its raw numbers. -/
structure Db where
  tag : Int
  ws : List Wd
  raw : List Int
def hasDb (w : World) (S : Nat → Prop) (d : Db) (qs : List Value) : Prop :=
  ∃ a b qa qb, qs = [a, b] ∧ (Rw w S a d.ws.length (rowOf TW d.ws qa) ∧ Hs TW w S d.ws qa) ∧ (Rw w S b d.raw.length (rowOf TI d.raw qb) ∧ Hs TI w S d.raw qb)
def dcells (d : Db) (qs : List Value) : List Value := [.int .i64 d.tag, qs.headD (.slice none 0 0), qs.tail.headD (.slice none 0 0)]
def TD : Ty Tryd.prog Db :=
  { t := 32, e := 77, size := 3, bytes := 56, z := .agg #[.int .i64 0, .slice none 0 0, .slice none 0 0], enc := dcells, has := hasDb, ht := Tryd.underlying32, info := by kernel_rfl, hzs := rfl, hsz := by decide, hby := by decide
    len := fun _ => rfl
    one := fun {w S a qs} h u hu => by
      obtain ⟨x, y, qa, qb, rfl, ⟨h1, _⟩, ⟨h2, _⟩⟩ := h
      simp only [dcells, List.headD_cons, List.tail_cons, List.mem_cons, List.not_mem_nil, or_false] at hu
      rcases hu with rfl | rfl | rfl
      · rfl
      · exact h1.one
      · exact h2.one
    mv := fun {w w' S S' a qs} hm h => by
      obtain ⟨x, y, qa, qb, e, ⟨h1, h2⟩, ⟨h3, h4⟩⟩ := h
      exact ⟨x, y, qa, qb, e, ⟨h1.mv hm, Hs.mv hm _ _ h2⟩, ⟨h3.mv hm, Hs.mv hm _ _ h4⟩⟩ }
/-- A word, as the document has it in a heap. -/
def wordOf (h : Hp) (n : Int) : Wd := match blk h n with
  | some k => (true, (k : Int))
  | none => (false, n)
def docB (h : Hp) (b : Bl) : Db := if b.1 = 201 then ⟨b.1, [], b.2⟩ else ⟨b.1, b.2.map (wordOf h), []⟩
def docs (h : Hp) : List Db := h.map (docB h)
/-- Each word may stand. -/
def Wf (h : Hp) : Prop := ∀ b, b ∈ h → b.1 ≠ 201 → b.2.all (mayW h) = true
theorem may_app {h g : Hp} {n : Int} (hm : mayW h n = true) : mayW (h ++ g) n = true ∧ wordOf (h ++ g) n = wordOf h n := by
  unfold mayW at hm ⊢
  simp only [Bool.or_eq_true, decide_eq_true_eq] at hm ⊢
  unfold wordOf
  cases hb : blk h n with
  | some k => rw [blk_app hb]; exact ⟨.inr rfl, rfl⟩
  | none =>
    rw [hb] at hm
    rcases hm with hm | hm
    · have hn : blk (h ++ g) n = none := Go.Proofs.YtphebogjmbaboaaDoor.HC.blk_bad (.inr (by omega))
      rw [hn]
      exact ⟨.inl hm, rfl⟩
    · cases hm
theorem docs_snoc {h : Hp} {b : Bl} (hw : Wf h) (hb : b.1 ≠ 201 → b.2.all (mayW h) = true) : docs (h ++ [b]) = docs h ++ [docB h b] ∧ Wf (h ++ [b]) := by
  have key : ∀ c : Bl, (c.1 ≠ 201 → c.2.all (mayW h) = true) → docB (h ++ [b]) c = docB h c := fun c hc => by
    unfold docB
    by_cases h201 : c.1 = 201
    · rw [if_pos h201, if_pos h201]
    · rw [if_neg h201, if_neg h201]
      congr 1
      apply List.map_congr_left
      intro n hn
      exact (may_app (List.all_eq_true.1 (hc h201) n hn)).2
  constructor
  · unfold docs
    rw [List.map_append]
    congr 1
    · apply List.map_congr_left
      intro c hc
      exact key c (hw c hc)
    · show [docB (h ++ [b]) b] = [docB h b]
      rw [key b hb]
  · intro c hc h201
    have : c.2.all (mayW h) = true := by
      rcases List.mem_append.1 hc with hc | hc
      · exact hw c hc h201
      · rw [List.mem_singleton.1 hc] at h201 ⊢; exact hb h201
    exact List.all_eq_true.2 fun n hn => (may_app (List.all_eq_true.1 this n hn)).1
theorem docB_size (h : Hp) (b : Bl) : 1 + (docB h b).ws.length + (docB h b).raw.length = size b := by
  unfold docB size
  by_cases h201 : b.1 = 201
  · rw [if_pos h201]; simp
  · rw [if_neg h201]; simp
/-- The document's heap: the block r of the heap; N words; the heap h; B: from which block on its rows lie. -/
structure HDoc (w : World) (r B N : Nat) (h : Hp) : Prop where
  blk : ∃ v, Bk w r #[.int .i64 N, v] 34 ∧ OwnR TD w B (fun b => B ≤ b) v (docs h)
  wf : Wf h
  lt : r < B
  ge : B ≤ w.heap.size
  fit : used h ≤ N ∧ N ≤ 65536
  good : ∀ b, b ∈ h → (0 ≤ b.1 ∧ b.1 ≤ 201) ∧ b.2.length ≤ 60
  bd : ∀ b, b ∈ h → ∀ z, z ∈ b.2 → z ≤ 9223372036854775807
theorem HDoc.keep {w w' : World} {r B N : Nat} {h : Hp} (H : HDoc w r B N h) (hb : Below w.heap.size w w') : HDoc w' r B N h := by
  obtain ⟨v, h1, h2⟩ := H.blk
  exact ⟨⟨v, h1.keep hb, h2.keep hb⟩, H.wf, H.lt, Nat.le_trans H.ge hb.size, H.fit, H.good, H.bd⟩
theorem rnew_c (n : Nat) (w : World) (h0 : 64 ≤ n) (h1 : n ≤ 65536) : Calls Tryd.prog 10 #[.int .i64 n] w fun e w' => ∃ r, e = .returned (.pointer (some ⟨r, 0, none⟩)) ∧ w.heap.size ≤ r ∧ HDoc w' r (r + 1) n [] ∧ Below w.heap.size w w' := by
  have i0 : ¬ (n : Int) < 64 := by omega
  have i1 : ¬ (n : Int) > 65536 := by omega
  go_enter Tryd.func10, Tryd.ntmps10
  go_wp2_with fail
  go_ret
  exact ⟨_, rfl, Nat.le_refl _, ⟨⟨_, Bk.new w _ _, OwnR.nil _ _ _⟩, fun b hb => (by cases hb), Nat.lt_succ_self _, (by simp), ⟨Nat.zero_le _, h1⟩, fun b hb => (by cases hb), fun b hb => (by cases hb)⟩, balloc _ _⟩
end Go.Proofs.YtphebogjmbaboaaDoor.HG
