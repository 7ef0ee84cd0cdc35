/- Values in memory; rows of values that the call owns. -/
import Derived.Test.YtommaomhiaaphaaDP
namespace Go.Proofs.Ytommaomhiaaphaa.DR
open Go.RowKit Go.Proofs.Ytommaomhiaaphaa.CA Go.Proofs.Ytommaomhiaaphaa.CB Go.Proofs.Ytommaomhiaaphaa.CC Go.Proofs.Ytommaomhiaaphaa.CD Go.Proofs.Ytommaomhiaaphaa.CE Go.Proofs.Ytommaomhiaaphaa.CF Go.Proofs.Ytommaomhiaaphaa.CG Go.Proofs.Ytommaomhiaaphaa.CH Go.Proofs.Ytommaomhiaaphaa.CI Go.Proofs.Ytommaomhiaaphaa.CO Go.Proofs.Ytommaomhiaaphaa.DE
set_option linter.unusedVariables false
set_option maxRecDepth 100000
variable {S : Nat → Prop}

def vnm : Vl → By
  | .num _ => []
  | .con nm _ => nm
def vno : Vl → Int
  | .num n => n
  | .con _ _ => 0
def vps : Vl → List Vl
  | .num _ => []
  | .con _ l => l
def vcells (p : Vl) (q : Value) : List Value := [.string ⟨(vnm p).toArray⟩, .int .i64 (vno p), q]
def vrow : List Vl → List Value → List Value
  | p :: ps, q :: qs => vcells p q ++ vrow ps qs
  | _, _ => []
mutual
def HasV (w : World) (S : Nat → Prop) : Vl → Value → Prop
  | .num _, v => ∃ qs, Rw w S v 0 (vrow [] qs) ∧ qs = []
  | .con _ l, v => ∃ qs, Rw w S v l.length (vrow l qs) ∧ HasVs w S l qs
def HasVs (w : World) (S : Nat → Prop) : List Vl → List Value → Prop
  | [], [] => True
  | t :: ts, q :: qs => HasV w S t q ∧ HasVs w S ts qs
  | _, _ => False
end
/-- A row of values: the row lies anywhere, what its values have in S. -/
def RowV (w : World) (S : Nat → Prop) (v : Value) (l : List Vl) : Prop := ∃ qs, Rw w Any v l.length (vrow l qs) ∧ HasVs w S l qs
theorem hasV_row {w : World} {p : Vl} {v : Value} (h : HasV w S p v) : RowV w S v (vps p) := by
  cases p with
  | num n => obtain ⟨qs, h, e⟩ := h; exact ⟨qs, h.mv (Mv.weak w fun _ _ _ => trivial), by subst e; trivial⟩
  | con nm l => obtain ⟨qs, h, e⟩ := h; exact ⟨qs, h.mv (Mv.weak w fun _ _ _ => trivial), e⟩
mutual
theorem HasV.mv {w w' : World} {S' : Nat → Prop} (hb : Mv w w' S S') : ∀ (t : Vl) (q : Value), HasV w S t q → HasV w' S' t q
  | .num _, q, h => by
    obtain ⟨qs, h2, h3⟩ := h
    exact ⟨qs, h2.mv hb, h3⟩
  | .con _ l, q, h => by
    obtain ⟨qs, h2, h3⟩ := h
    exact ⟨qs, h2.mv hb, HasVs.mv hb l qs h3⟩
theorem HasVs.mv {w w' : World} {S' : Nat → Prop} (hb : Mv w w' S S') : ∀ (ts : List Vl) (qs : List Value), HasVs w S ts qs → HasVs w' S' ts qs
  | [], [], _ => trivial
  | t :: ts, q :: qs, h => ⟨HasV.mv hb t q h.1, HasVs.mv hb ts qs h.2⟩
  | [], _ :: _, h => h
  | _ :: _, [], h => h
end
theorem RowV.mv {w w' : World} {S' : Nat → Prop} {v : Value} {l : List Vl} (h : RowV w S v l) (hb : Mv w w' S S') (hx : ∀ b, b < w.heap.size → w'.heap[b]? = w.heap[b]?) : RowV w' S' v l := by
  obtain ⟨qs, h2, h3⟩ := h
  exact ⟨qs, h2.mv ⟨hb.1, fun b _ hlt => ⟨trivial, hx b hlt⟩⟩, HasVs.mv hb l qs h3⟩
theorem HasV.keep {w w' : World} (hb : Below w.heap.size w w') (t : Vl) (q : Value) (h : HasV w S t q) : HasV w' S t q := HasV.mv (Mv.low hb) t q h
theorem HasVs.keep {w w' : World} (hb : Below w.heap.size w w') (ts : List Vl) (qs : List Value) (h : HasVs w S ts qs) : HasVs w' S ts qs := HasVs.mv (Mv.low hb) ts qs h
theorem RowV.keep {w w' : World} {v : Value} {l : List Vl} (h : RowV w S v l) (hb : Below w.heap.size w w') : RowV w' S v l := h.mv (Mv.low hb) fun b h => hb.block b h
theorem RowV.weak {w : World} {S' : Nat → Prop} {v : Value} {l : List Vl} (h : RowV w S v l) (hs : ∀ b, S b → b < w.heap.size → S' b) : RowV w S' v l := h.mv (Mv.weak w hs) fun _ _ => rfl
theorem HasVs.len {w : World} : ∀ {ts : List Vl} {qs : List Value}, HasVs w S ts qs → qs.length = ts.length
  | [], [], _ => rfl
  | t :: ts, q :: qs, h => by simp [HasVs.len h.2]
  | [], _ :: _, h => h.elim
  | _ :: _, [], h => h.elim
theorem vrow_len : ∀ (ts : List Vl) (qs : List Value), qs.length = ts.length → (vrow ts qs).length = ts.length * 3
  | [], [], _ => rfl
  | t :: ts, q :: qs, h => by
    show (vcells t q ++ vrow ts qs).length = _
    rw [List.length_append, vrow_len ts qs (by simpa using h)]
    simp [vcells]; omega
  | [], _ :: _, h => by simp at h
  | _ :: _, [], h => by simp at h
theorem vrow_app : ∀ (ts us : List Vl) (qs rs : List Value), qs.length = ts.length → vrow (ts ++ us) (qs ++ rs) = vrow ts qs ++ vrow us rs
  | [], us, [], rs, _ => rfl
  | t :: ts, us, q :: qs, rs, h => by
    show vcells t q ++ vrow (ts ++ us) (qs ++ rs) = (vcells t q ++ vrow ts qs) ++ vrow us rs
    rw [vrow_app ts us qs rs (by simpa using h), List.append_assoc]
  | [], _, _ :: _, _, h => by simp at h
  | _ :: _, _, [], _, h => by simp at h
theorem HasVs.app {w : World} : ∀ {ts us : List Vl} {qs rs : List Value}, HasVs w S ts qs → HasVs w S us rs → HasVs w S (ts ++ us) (qs ++ rs)
  | [], us, [], rs, _, h => h
  | t :: ts, us, q :: qs, rs, h1, h2 => ⟨h1.1, HasVs.app h1.2 h2⟩
  | [], _, _ :: _, _, h, _ => h.elim
  | _ :: _, _, [], _, h, _ => h.elim
theorem vrow_at : ∀ (ts : List Vl) (qs : List Value), qs.length = ts.length → ∀ (i : Nat) p, ts[i]? = some p → ∃ q, qs[i]? = some q ∧ ∀ (k : Nat) u, (vcells p q)[k]? = some u → (vrow ts qs)[i * 3 + k]? = some u
  | t :: ts, q :: qs, h, 0, p, hp => by
    simp at hp; subst hp
    refine ⟨q, rfl, fun k u hu => ?_⟩
    show (vcells t q ++ vrow ts qs)[0 * 3 + k]? = some u
    rw [Nat.zero_mul, Nat.zero_add, List.getElem?_append_left (List.getElem?_eq_some_iff.1 hu).1]
    exact hu
  | t :: ts, q :: qs, h, i + 1, p, hp => by
    obtain ⟨q', h1, h2⟩ := vrow_at ts qs (by simpa using h) i p (by simpa using hp)
    refine ⟨q', by simpa using h1, fun k u hu => ?_⟩
    show (vcells t q ++ vrow ts qs)[(i + 1) * 3 + k]? = some u
    rw [List.getElem?_append_right (by simp [vcells]; omega), show (i + 1) * 3 + k - (vcells t q).length = i * 3 + k from by simp [vcells]; omega]
    exact h2 k u hu
  | [], _, _, _, _, hp => by simp at hp
  | _ :: _, [], h, _, _, _ => by simp at h
theorem HasVs.at_ {w : World} : ∀ {ts : List Vl} {qs : List Value}, HasVs w S ts qs → ∀ (i : Nat) p q, ts[i]? = some p → qs[i]? = some q → HasV w S p q
  | t :: ts, q :: qs, h, 0, p, q', h1, h2 => by simp at h1 h2; subst h1; subst h2; exact h.1
  | t :: ts, q :: qs, h, i + 1, p, q', h1, h2 => HasVs.at_ h.2 i p q' (by simpa using h1) (by simpa using h2)
  | [], [], _, _, _, _, h1, _ => by simp at h1
  | [], _ :: _, h, _, _, _, _, _ => h.elim
  | _ :: _, [], h, _, _, _, _, _ => h.elim
def LiesV (w : World) (b o : Nat) (p : Vl) (q : Value) : Prop :=
  w.cell? ⟨b, o, none⟩ = some (.string ⟨(vnm p).toArray⟩) ∧ w.cell? ⟨b, o + 1, none⟩ = some (.int .i64 (vno p)) ∧ w.cell? ⟨b, o + 2, none⟩ = some q
theorem RowV.open_ {w : World} {v : Value} {l : List Vl} (h : RowV w S v l) (h0 : l ≠ []) : ∃ b off cap, v = .slice (some ⟨b, off, none⟩) l.length cap ∧ l.length ≤ cap ∧ b < w.heap.size ∧ ∀ (i : Nat) p, l[i]? = some p → ∃ q, LiesV w b (off + i * 3) p q ∧ HasV w S p q := by
  obtain ⟨qs, ⟨ao, cap, rfl, hc, hr⟩, hq⟩ := h
  rcases hr with hr | ⟨b, off, rfl, ⟨hS, hlt⟩, hcell⟩
  · exact absurd (List.eq_nil_of_length_eq_zero hr) h0
  · refine ⟨b, off, cap, rfl, hc, hlt, fun i p hp => ?_⟩
    obtain ⟨q, h1, h2⟩ := vrow_at l qs hq.len i p hp
    have hk : ∀ (k : Nat) u, (vcells p q)[k]? = some u → w.cell? ⟨b, off + i * 3 + k, none⟩ = some u := fun k u hu => by
      have := hcell _ _ (h2 k u hu)
      rw [Nat.add_assoc]; exact this
    exact ⟨q, ⟨hk 0 _ rfl, hk 1 _ rfl, hk 2 _ rfl⟩, hq.at_ i p q hp h1⟩
theorem RowV.val {w : World} {v : Value} {l : List Vl} (h : RowV w S v l) : ∃ ao cap, v = .slice ao l.length cap ∧ l.length ≤ cap := by
  obtain ⟨qs, ⟨ao, cap, rfl, hc, hr⟩, hq⟩ := h
  exact ⟨ao, cap, rfl, hc⟩
theorem LiesV.keep {w w' : World} {b o B : Nat} {p : Vl} {q : Value} (h : LiesV w b o p q) (hb : Below B w w') (hB : b < B) : LiesV w' b o p q := by
  obtain ⟨h0, h1, h2⟩ := h
  exact ⟨(hb.cell (p := ⟨b, o, none⟩) hB).trans h0, (hb.cell (p := ⟨b, o + 1, none⟩) hB).trans h1, (hb.cell (p := ⟨b, o + 2, none⟩) hB).trans h2⟩
theorem HasV.one {w : World} {p : Vl} {q : Value} (h : HasV w S p q) : q.oneCell' = true := by
  obtain ⟨ao, cap, rfl, _⟩ := (hasV_row h).val
  rfl
theorem HasV.val {w : World} {p : Vl} {q : Value} (h : HasV w S p q) : ∃ x y z, q = .slice x y z := by
  obtain ⟨ao, cap, e, _⟩ := (hasV_row h).val
  exact ⟨_, _, _, e⟩
theorem vrow_one : ∀ {w : World} {ts : List Vl} {qs : List Value}, HasVs w S ts qs → ∀ u ∈ vrow ts qs, u.oneCell' = true
  | w, [], [], _, u, hu => by cases hu
  | w, t :: ts, q :: qs, h, u, hu => by
    rcases List.mem_append.1 (show u ∈ vcells t q ++ vrow ts qs from hu) with hu | hu
    · simp only [vcells, List.mem_cons, List.not_mem_nil, or_false] at hu
      rcases hu with rfl | rfl | rfl
      · rfl
      · rfl
      · exact h.1.one
    · exact vrow_one h.2 u hu
  | w, [], _ :: _, h, _, _ => h.elim
  | w, _ :: _, [], h, _, _ => h.elim
theorem rowV_nil {w : World} (ao : Option Addr) (cap : Nat) : RowV w S (.slice ao 0 cap) [] := ⟨[], ⟨ao, cap, rfl, Nat.zero_le _, .inl rfl⟩, trivial⟩
/-- A block of one value. -/
theorem rowV_new {w : World} {p : Vl} {q : Value} (h : HasV w S p q) (t : TypeId) : RowV (w.alloc (.cells #[.string ⟨(vnm p).toArray⟩, .int .i64 (vno p), q] t)) S (.slice (some ⟨w.heap.size, 0, none⟩) 1 1) [p] := by
  refine ⟨[q], ⟨_, 1, rfl, Nat.le_refl _, .inr ⟨_, 0, rfl, ⟨trivial, by simp⟩, fun j u hj => ?_⟩⟩, HasV.keep (balloc _ _) _ _ h, trivial⟩
  rw [Nat.zero_add, cell_of_row _ _ _ _ _ (0, 0) (heap_alloc_new w _)]
  have e : vrow [p] [q] = [.string ⟨(vnm p).toArray⟩, .int .i64 (vno p), q] := rfl
  rw [e] at hj
  simpa using hj
/-- .. that is known whole. -/
theorem rowV_block {w : World} {p : Vl} {q : Value} {b : Nat} {t : TypeId} (hk : Bk w b #[.string ⟨(vnm p).toArray⟩, .int .i64 (vno p), q] t) (h : HasV w S p q) : RowV w S (.slice (some ⟨b, 0, none⟩) 1 1) [p] := by
  refine ⟨[q], ⟨_, 1, rfl, Nat.le_refl _, .inr ⟨_, 0, rfl, ⟨trivial, hk.lt⟩, fun j u hj => ?_⟩⟩, h, trivial⟩
  rw [Nat.zero_add, cell_of_row _ _ _ _ _ (0, 0) hk]
  have e : vrow [p] [q] = [.string ⟨(vnm p).toArray⟩, .int .i64 (vno p), q] := rfl
  rw [e] at hj
  simpa using hj

/-! ## Rows that the call owns -/
theorem infoV : (Try.prog.info? 35).map (fun i => (i.zero, i.size, i.bytes)) = some (some (.agg #[.string ⟨#[]⟩, .int .i64 0, .slice none 0 0]), 3, 48) := by kernel_rfl
def OwnV (w : World) (B : Nat) (T : Nat → Prop) (v : Value) (L : List Vl) : Prop :=
  ∃ qs, w.ownsRow B 35 3 v L.length (vrow L qs) ∧ HasVs w (fun b => T b ∧ v.ownBlock ≠ some b) L qs
theorem OwnV.nil (w : World) (B : Nat) (T : Nat → Prop) : OwnV w B T (.slice none 0 0) [] := ⟨[], World.ownsRow_nil _ _ _ _, trivial⟩
theorem OwnV.keep {w w' : World} {B : Nat} {T : Nat → Prop} {v : Value} {L : List Vl} (h : OwnV w B T v L) (hb : Below w.heap.size w w') : OwnV w' B T v L := by
  obtain ⟨qs, h1, h2⟩ := h
  exact ⟨qs, own_below h1 hb (Nat.le_refl _), HasVs.keep hb _ _ h2⟩
theorem OwnV.row {w : World} {B : Nat} {T : Nat → Prop} {v : Value} {L : List Vl} (h : OwnV w B T v L) : RowV w T v L := by
  obtain ⟨qs, h1, h2⟩ := h
  exact ⟨qs, (rw_own h1).mv (Mv.weak w fun _ _ _ => trivial), HasVs.mv (Mv.weak w fun _ h _ => h.1) _ _ h2⟩
/-- A constructor's value, its parts a row that the call owns. -/
theorem OwnV.hasV {w : World} {B : Nat} {T : Nat → Prop} {v : Value} {L : List Vl} (h : OwnV w B T v L) (nm : By) (h1 : ∀ b, B ≤ b → S b) (h2 : ∀ b, T b → S b) : HasV w S (.con nm L) v := by
  obtain ⟨qs, h3, h4⟩ := h
  exact ⟨qs, (rw_own h3).mv (Mv.weak w fun b h _ => h1 b h), HasVs.mv (Mv.weak w fun b h _ => h2 b h.1) _ _ h4⟩
theorem OwnV.other {w : World} {B b' : Nat} {T : Nat → Prop} {v : Value} {L : List Vl} (h : OwnV w B T v L) (hT : ∀ b, T b → b ≠ b') (hB : b' < B) (i : Nat) (x : Value) : OwnV (w.setCell ⟨b', i, none⟩ x) B T v L := by
  have hs : (w.setCell ⟨b', i, none⟩ x).heap.size = w.heap.size := by simp
  obtain ⟨qs, h1, h2⟩ := h
  refine ⟨qs, ?_, HasVs.mv ⟨by omega, fun b hb hlt => ⟨hb, Below.heap_setCell _ _ _ _ (hT b hb.1)⟩⟩ _ _ h2⟩
  refine ⟨h1.1, ?_⟩
  rcases h1.2 with h3 | ⟨g, cap, cur, hv, hg, hh, r⟩
  · exact .inl h3
  · exact .inr ⟨g, cap, cur, hv, hg, by rw [Below.heap_setCell _ _ _ _ (show g ≠ b' by omega)]; exact hh, r⟩
theorem OwnV.val {w : World} {B : Nat} {T : Nat → Prop} {v : Value} {L : List Vl} (h : OwnV w B T v L) : ∃ ao cap, v = .slice ao L.length cap := by
  obtain ⟨qs, h1, h2⟩ := h
  obtain ⟨ao, cap, e, _⟩ := rw_own h1
  exact ⟨ao, cap, e⟩
theorem OwnV.own {w : World} {B : Nat} {T : Nat → Prop} {v : Value} {L : List Vl} (h : OwnV w B T v L) {b : Nat} (hb : v.ownBlock = some b) : B ≤ b ∧ b < w.heap.size := by
  obtain ⟨qs, h1, h2⟩ := h
  exact h1.lt b hb
theorem app_runV {w : World} {B : Nat} {T : Nat → Prop} {v x : Value} {L l2 : List Vl} (h : OwnV w B T v L) (h2 : RowV w (fun b => T b ∧ v.ownBlock ≠ some b) x l2) (hn : L.length + l2.length ≤ 2000000000000) (hB : B ≤ w.heap.size) (ty : TypeId) :
    ∃ v' w', (Builtin.append_ #[31, 31] ty #[v, x]).run Try.prog w = .ok v' w' ∧ OwnV w' B T v' (L ++ l2) ∧ w.grownBy w' v.ownBlock := by
  obtain ⟨i, hi, hz, hs, hby⟩ := info_parts infoV
  obtain ⟨qs, hown, hq⟩ := h
  obtain ⟨qs2, ⟨ao2, cap2, rfl, hc2, hr2⟩, hq2⟩ := h2
  by_cases h0 : l2 = []
  · subst h0
    have hsrc : Src Try.prog i.size 31 (.slice ao2 0 cap2) 0 [] w := by
      cases ao2 with
      | none => exact Src.ofNil w Try.underlying31 cap2
      | some a => exact Src.ofSlice w Try.underlying31 a 0 cap2 [] (by simp) (fun j u h => by simp at h) (fun u h => by cases h)
    obtain ⟨ao, cap, rfl, hle, _⟩ := rw_own hown
    refine ⟨_, w, run_append_nothing (P := Try.prog) w 31 31 ty 35 i Try.underlying31 hi ao L.length cap hle _ hsrc, ⟨qs, by simpa using hown, by simpa using hq⟩, ⟨rfl, rfl, rfl, Nat.le_refl _, fun k hk _ => rfl⟩⟩
  · have hpos : 0 < l2.length := List.length_pos_iff.2 h0
    obtain ⟨b2, off2, rfl, ⟨hS2, hlt2⟩, hcell2⟩ := hr2.resolve_left (by omega)
    have hnews : ∀ j u, (vrow l2 qs2)[j]? = some u → w.cell? ((⟨b2, off2, none⟩ : Addr).add j) = some u := fun j u hj => by
      rw [Addr.add_lit]
      exact hcell2 j u hj
    obtain ⟨g, cap, w', hrun, r1, r2, r3, r4⟩ := run_append_lies (P := Try.prog) w 31 ty B 35 i _ 3 48 Try.underlying31 hi hz hs hby rfl (by decide) v L.length (vrow L qs) hown ⟨b2, off2, none⟩ l2.length cap2 _ (vrow_len l2 qs2 hq2.len) hnews (vrow_one hq2) hpos (by unfold maxLen; omega) (by omega) hB _ rfl
    have hk : Mv w w' (fun b => T b ∧ v.ownBlock ≠ some b) (fun b => T b ∧ (Value.slice (some ⟨g, 0, none⟩) (L.length + l2.length) cap).ownBlock ≠ some b) := ⟨r2.size, fun b hb hlt => ⟨⟨hb.1, fun e => by
      have e : g = b := Option.some.inj e
      rcases r3 with hat | hat
      · exact hb.2 (by rw [hat, e])
      · omega⟩, r2.block b hlt (fun e => hb.2 e.symm)⟩⟩
    refine ⟨_, w', hrun, ⟨qs ++ qs2, ?_, HasVs.app (HasVs.mv hk _ _ hq) (HasVs.mv hk _ _ hq2)⟩, r2⟩
    rw [List.length_append, vrow_app _ _ _ _ hq.len]; exact r1
theorem wpList_vals (w : World) {ops : Array Oper} {rest : List Oper} {o : Oper} {a : Act} {Q : Exit → Act → World → Prop} (hg : o.guard = none) (s x : Operand)
    (hop : o.op = Op.call { callee := Callee.builtin Builtin.append, args := #[s, x], argTypes := #[31, 31] })
    (B : Nat) (T : Nat → Prop) (v xv : Value) (L l2 : List Vl) (hs : a.eval s = v) (hx : a.eval x = xv)
    (h : OwnV w B T v L) (h2 : RowV w (fun b => T b ∧ v.ownBlock ≠ some b) xv l2) (hn : L.length + l2.length ≤ 2000000000000) (hB : B ≤ w.heap.size)
    (hK : ∀ ao n cap w', OwnV w' B T (.slice ao n cap) (L ++ l2) → n = L.length + l2.length → w.grownBy w' v.ownBlock → wpList Try.prog ops Q rest (a.put o.dst (.slice ao n cap)) w') :
    wpList Try.prog ops Q (o :: rest) a w := by
  refine wpList_plain hg fun K hKK => ?_
  obtain ⟨v', w', hrun, r1, r2⟩ := app_runV h h2 hn hB o.type
  obtain ⟨ao, cap, rfl⟩ := r1.val
  unfold Oper.wp execOp
  simp only [hop, resolve, invoke, builtin, Sem.run_bind, Sem.run_pure, Result.andThen_ok, List.map_toArray, List.map_cons, List.map_nil, hs, hx, hrun]
  exact hKK _ _ (hK _ _ _ w' r1 (by simp) r2)
theorem step_vals (w : World) {ops : Array Oper} {o : Oper} {a : Act} {K : Act → World → Prop} {Q : Exit → Act → World → Prop} {E' : Prop} (hg : o.guard = none) (s x : Operand)
    (hop : o.op = Op.call { callee := Callee.builtin Builtin.append, args := #[s, x], argTypes := #[31, 31] })
    (B : Nat) (T : Nat → Prop) (v xv : Value) (L l2 : List Vl) (hs : a.eval s = v) (hx : a.eval x = xv)
    (h : OwnV w B T v L) (h2 : RowV w (fun b => T b ∧ v.ownBlock ≠ some b) xv l2) (hn : L.length + l2.length ≤ 2000000000000) (hB : B ≤ w.heap.size)
    (hK : ∀ ao n cap w', OwnV w' B T (.slice ao n cap) (L ++ l2) → n = L.length + l2.length → w.grownBy w' v.ownBlock → K (a.put o.dst (.slice ao n cap)) w') :
    if Region.wanted o (yielded ops a.tmps) = true then Oper.wp Try.prog o a w K Q else E' := by
  have hw : Region.wanted o (yielded ops a.tmps) = true := by simp [Region.wanted, hg]
  rw [if_pos hw]
  obtain ⟨v', w', hrun, r1, r2⟩ := app_runV h h2 hn hB o.type
  obtain ⟨ao, cap, rfl⟩ := r1.val
  unfold Oper.wp execOp
  simp only [hop, resolve, invoke, builtin, Sem.run_bind, Sem.run_pure, Result.andThen_ok, List.map_toArray, List.map_cons, List.map_nil, hs, hx, hrun]
  exact hK _ _ _ w' r1 (by simp) r2
end Go.Proofs.Ytommaomhiaaphaa.DR
