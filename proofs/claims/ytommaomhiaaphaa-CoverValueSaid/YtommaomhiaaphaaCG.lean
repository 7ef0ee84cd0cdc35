/- A row behind a head, in memory: two appends in one region. -/
import Derived.Test.YtommaomhiaaphaaCF
import Derived.Deep.Upon
namespace Go.Proofs.Ytommaomhiaaphaa.CG
open Go.RowKit Go.Proofs.Ytommaomhiaaphaa.CA Go.Proofs.Ytommaomhiaaphaa.CB Go.Proofs.Ytommaomhiaaphaa.CC Go.Proofs.Ytommaomhiaaphaa.CD Go.Proofs.Ytommaomhiaaphaa.CE Go.Proofs.Ytommaomhiaaphaa.CF
set_option linter.unusedVariables false
set_option maxRecDepth 100000
variable {S : Nat → Prop}

theorem hasN_one {w : World} {p : Nd} {q : Value} (h : HasN w S p q) : q.oneCell' = true := by
  obtain ⟨k, n, s, l⟩ := p
  obtain ⟨qs, ⟨ao, cap, rfl, _⟩, _⟩ := h
  rfl
theorem nrow_one : ∀ {w : World} {ts : List Nd} {qs : List Value}, HasNs w S ts qs → ∀ u ∈ nrow ts qs, u.oneCell' = true
  | w, [], [], _, u, hu => by cases hu
  | w, t :: ts, q :: qs, h, u, hu => by
    rcases List.mem_append.1 (show u ∈ ncells t q ++ nrow ts qs from hu) with hu | hu
    · simp only [ncells, List.mem_cons, List.not_mem_nil, or_false] at hu
      rcases hu with rfl | rfl | rfl | rfl | rfl | rfl
      · rfl
      · rfl
      · rfl
      · rfl
      · rfl
      · exact hasN_one h.1
    · exact nrow_one h.2 u hu
  | w, [], _ :: _, h, _, _ => h.elim
  | w, _ :: _, [], h, _, _ => h.elim

/-- A row in the making: as it lay in W, with no room behind it; or the call's own. -/
def AppD (W w : World) (S : Nat → Prop) (v : Value) (l : List Nd) : Prop :=
  ∃ qs, HasNs W S l qs ∧ Below W.heap.size W w ∧ ((∃ ao, v = .slice ao l.length l.length ∧ Rw W S v l.length (nrow l qs)) ∨ w.ownsRow W.heap.size 38 6 v l.length (nrow l qs))
theorem rw_own {w : World} {base : Nat} {e : TypeId} {size : Nat} {v : Value} {n : Nat} {xs : List Value} (h : w.ownsRow base e size v n xs) : Rw w (fun b => base ≤ b) v n xs := by
  rcases h.2 with ⟨hv, hn⟩ | ⟨g, cap, cur, hv, hb, hg, hn, hcm, hcs, htake⟩
  · subst hn
    exact ⟨none, 0, hv, Nat.le_refl _, .inl rfl⟩
  · refine ⟨_, cap, hv, hn, .inr ⟨g, 0, rfl, ⟨hb, (Array.getElem?_eq_some_iff.1 hg).1⟩, fun j u hj => ?_⟩⟩
    rw [cell_of_row w g (0 + j) cur e (0, 0) hg]
    rw [← htake, List.getElem?_take] at hj
    split at hj
    · simpa using hj
    · simp at hj
theorem AppD.row {W w : World} {v : Value} {l : List Nd} (h : AppD W w S v l) : RowN w (Nw W S) v l ∧ Below W.heap.size W w := by
  obtain ⟨qs, h1, hb, h2⟩ := h
  refine ⟨⟨qs, ?_, HasNs.mv ((Mv.weak W (fun b h _ => .inl h)).trans (Mv.low hb)) _ _ h1⟩, hb⟩
  rcases h2 with ⟨ao, _, h2⟩ | h2
  · exact h2.mv ((Mv.weak W (fun b h _ => .inl h)).trans (Mv.low hb))
  · exact (rw_own h2).mv (Mv.weak w fun b h _ => .inr h)
theorem below_grown {W w w' : World} {v : Value} {n : Nat} {xs : List Value} {e : TypeId} {size : Nat} (hb : Below W.heap.size W w) (hown : w.ownsRow W.heap.size e size v n xs) (hg : w.grownBy w' v.ownBlock) : Below W.heap.size W w' := by
  refine hb.trans ⟨hg.os, hg.tape, hg.output, hg.size, fun k hk => hg.block k (Nat.lt_of_lt_of_le hk hb.size) fun e => ?_⟩
  rcases hown.2 with ⟨rfl, _⟩ | ⟨g, cap, cur, rfl, hbb, _⟩
  · simp [Value.ownBlock] at e
  · simp [Value.ownBlock] at e; omega
theorem app_ty (ty : TypeId) (ao : Option Addr) (n c : Nat) (x : Value) (w : World) : (Builtin.append_ #[62, 22] ty #[.slice ao n c, x]).run Try.prog w = (Builtin.append_ #[62, 62] ty #[.slice ao n c, x]).run Try.prog w := by
  simp [Builtin.append_, run_underlying Try.underlying62, run_underlying Try.underlying22]
theorem app_run {W w : World} {v x : Value} {l l2 : List Nd} (h : AppD W w S v l) (h2 : RowN W S x l2) (hn : l.length + l2.length ≤ 1000000) (ty : TypeId) :
    ∃ v' w', (Builtin.append_ #[62, 62] ty #[v, x]).run Try.prog w = .ok v' w' ∧ AppD W w' S v' (l ++ l2) := by
  obtain ⟨i, hi, hz, hs, hby⟩ := info_parts infoN
  obtain ⟨qs, hq, hb, hv⟩ := h
  obtain ⟨qs2, ⟨ao2, cap2, rfl, hc2, hr2⟩, hq2⟩ := h2
  by_cases h0 : l2 = []
  · subst h0
    have hsrc : Src Try.prog i.size 62 (.slice ao2 0 cap2) 0 [] w := by
      cases ao2 with
      | none => exact Src.ofNil w Try.underlying62 cap2
      | some a => exact Src.ofSlice w Try.underlying62 a 0 cap2 [] (by simp) (fun j u h => by simp at h) (fun u h => by cases h)
    have hval : ∃ ao cap, v = .slice ao l.length cap ∧ l.length ≤ cap := by
      rcases hv with ⟨ao, rfl, _⟩ | hv
      · exact ⟨_, _, rfl, Nat.le_refl _⟩
      · obtain ⟨ao, cap, h1, h2, _⟩ := rw_own hv
        exact ⟨ao, cap, h1, h2⟩
    obtain ⟨ao, cap, rfl, hle⟩ := hval
    refine ⟨_, w, run_append_nothing (P := Try.prog) w 62 62 ty 38 i Try.underlying62 hi ao l.length cap hle _ hsrc, qs, by simpa using hq, hb, ?_⟩
    simpa using hv
  · have hpos : 0 < l2.length := List.length_pos_iff.2 h0
    obtain ⟨b2, off2, rfl, ⟨hS2, hlt2⟩, hcell2⟩ := hr2.resolve_left (by omega)
    have hnews : ∀ j u, (nrow l2 qs2)[j]? = some u → w.cell? ((⟨b2, off2, none⟩ : Addr).add j) = some u := fun j u hj => by
      rw [Addr.add_lit]
      exact (hb.cell (p := ⟨b2, off2 + j, none⟩) hlt2).trans (hcell2 j u hj)
    have hcat : nrow (l ++ l2) (qs ++ qs2) = nrow l qs ++ nrow l2 qs2 := nrow_app l l2 qs qs2 hq.len
    have key : ∃ v' w', (Builtin.append_ #[62, 62] ty #[v, .slice (some ⟨b2, off2, none⟩) l2.length cap2]).run Try.prog w = .ok v' w' ∧ w'.ownsRow W.heap.size 38 6 v' (l.length + l2.length) (nrow l qs ++ nrow l2 qs2) ∧ Below W.heap.size W w' := by
      rcases hv with ⟨ao, rfl, ⟨ao', cap', e, _, hcell⟩⟩ | hv
      · cases e
        rcases hcell with h0 | ⟨b, off, rfl, ⟨hS, hlt⟩, hcell⟩
        · have := List.eq_nil_of_length_eq_zero h0
          subst this
          have hq0 : qs = [] := List.eq_nil_of_length_eq_zero (by simpa using hq.len)
          subst hq0
          cases ao with
          | none =>
            obtain ⟨v', w', hrun, r1, r2, _⟩ := run_append_own (P := Try.prog) w W.heap.size 62 ty 38 i _ 6 88 Try.underlying62 hi hz hs hby rfl (by decide) (.slice none 0 0) 0 [] (World.ownsRow_nil w _ _ _) ⟨b2, off2, none⟩ l2.length cap2 _ (nrow_len l2 qs2 hq2.len) hnews (nrow_one hq2) (by unfold maxLen; simp at hn; omega) (by simp at hn; omega) hb.size
            exact ⟨v', w', hrun, r1, below_grown hb (World.ownsRow_nil w W.heap.size 38 6) r2⟩
          | some b =>
            obtain ⟨v', w', hrun, r1, r2⟩ := run_append_arg_grows (P := Try.prog) w 62 ty 38 i _ 6 88 Try.underlying62 hi hz hs hby rfl (by decide) b 0 0 [] (by simp) (fun j u h => by simp at h) ⟨b2, off2, none⟩ l2.length cap2 _ (nrow_len l2 qs2 hq2.len) hnews (by omega) (by unfold maxLen; simp at hn; omega) (by simp at hn; omega)
            exact ⟨v', w', hrun, ⟨r1.1, r1.2.imp id fun ⟨g, cap, cur, a1, a2, a3⟩ => ⟨g, cap, cur, a1, Nat.le_trans hb.size a2, a3⟩⟩, hb.trans ⟨r2.os, r2.tape, r2.output, r2.size, fun k hk => r2.block k (Nat.lt_of_lt_of_le hk hb.size) (by simp)⟩⟩
        · obtain ⟨v', w', hrun, r1, r2⟩ := run_append_arg_grows (P := Try.prog) w 62 ty 38 i _ 6 88 Try.underlying62 hi hz hs hby rfl (by decide) ⟨b, off, none⟩ l.length l.length (nrow l qs) (nrow_len l qs hq.len) (fun j u hj => by rw [Addr.add_lit]; exact (hb.cell (p := ⟨b, off + j, none⟩) hlt).trans (hcell j u hj)) ⟨b2, off2, none⟩ l2.length cap2 _ (nrow_len l2 qs2 hq2.len) hnews (by omega) (by unfold maxLen; omega) (by omega)
          exact ⟨v', w', hrun, ⟨r1.1, r1.2.imp id fun ⟨g, cap, cur, a1, a2, a3⟩ => ⟨g, cap, cur, a1, Nat.le_trans hb.size a2, a3⟩⟩, hb.trans ⟨r2.os, r2.tape, r2.output, r2.size, fun k hk => r2.block k (Nat.lt_of_lt_of_le hk hb.size) (by simp)⟩⟩
      · obtain ⟨v', w', hrun, r1, r2, _⟩ := run_append_own (P := Try.prog) w W.heap.size 62 ty 38 i _ 6 88 Try.underlying62 hi hz hs hby rfl (by decide) v l.length _ hv ⟨b2, off2, none⟩ l2.length cap2 _ (nrow_len l2 qs2 hq2.len) hnews (nrow_one hq2) (by unfold maxLen; omega) (by omega) hb.size
        exact ⟨v', w', hrun, r1, below_grown hb hv r2⟩
    obtain ⟨v', w', hrun, r1, r2⟩ := key
    exact ⟨v', w', hrun, qs ++ qs2, HasNs.app hq hq2, r2, .inr (by rw [hcat, List.length_append]; exact r1)⟩
theorem AppD.drew {W w : World} {v : Value} {l : List Nd} (h : AppD W w S v l) : AppD W w.drew S v l := by
  obtain ⟨qs, h1, hb, h2⟩ := h
  exact ⟨qs, h1, hb.trans ⟨rfl, rfl, rfl, Nat.le_refl _, fun _ _ => rfl⟩, h2⟩
theorem step_app {W : World} {ops : Array Oper} {o : Oper} {a : Act} {w : World} {K : Act → World → Prop} {Q : Exit → Act → World → Prop} {E : Prop}
    (hg : o.guard = none) (s x : Operand) (t2 : TypeId) (ht : t2 = 62 ∨ t2 = 22) (hop : o.op = Op.call { callee := Callee.builtin Builtin.append, args := #[s, x], argTypes := #[62, t2] })
    (v xv : Value) (l l2 : List Nd) (hs : a.eval s = v) (hx : a.eval x = xv) (h : AppD W w S v l) (h2 : RowN W S xv l2) (hn : l.length + l2.length ≤ 1000000)
    (hK : ∀ v' w', AppD W w' S v' (l ++ l2) → K (a.put o.dst v') w') :
    if Region.wanted o (yielded ops a.tmps) = true then Oper.wp Try.prog o a w K Q else E := by
  have hw : Region.wanted o (yielded ops a.tmps) = true := by simp [Region.wanted, hg]
  rw [if_pos hw]
  obtain ⟨v', w', hrun, r1⟩ := app_run h h2 hn o.type
  have hrun2 : (Builtin.append_ #[62, t2] o.type #[v, xv]).run Try.prog w = .ok v' w' := by
    rcases ht with rfl | rfl
    · exact hrun
    · obtain ⟨ao, cap, rfl, _⟩ := h.row.1.val
      rw [app_ty]; exact hrun
  unfold Oper.wp
  simp [execOp, hop, resolve, invoke, builtin, hs, hx, hrun2, Result.andThen]
  exact hK v' w' r1

/-! ## A row behind a head -/
theorem rowN_take {W : World} {b off cap : Nat} {r : List Nd} (h : RowN W S (.slice (some ⟨b, off, none⟩) r.length cap) r) (i : Nat) (hi : i ≤ r.length) (h0 : r ≠ []) : AppD W W S (.slice (some ⟨b, off, none⟩) i i) (r.take i) := by
  obtain ⟨qs, ⟨ao, cap', e, hc, hr⟩, hq⟩ := h
  cases e
  have hpos : 0 < r.length := List.length_pos_iff.2 h0
  obtain ⟨b', off', e, ⟨hS, hlt⟩, hcell⟩ := hr.resolve_left (by omega)
  cases e
  have hl : (r.take i).length = i := by simp; omega
  have hql := hq.len
  refine ⟨qs.take i, ?_, Below.refl _ _, .inl ⟨some ⟨b, off, none⟩, by rw [hl], ⟨some ⟨b, off, none⟩, (r.take i).length, by rw [hl], Nat.le_refl _, .inr ⟨b, off, rfl, ⟨hS, hlt⟩, fun j u hj => hcell j u ?_⟩⟩⟩⟩
  · have : ∀ (ts : List Nd) (us : List Value) (i : Nat), HasNs W S ts us → HasNs W S (ts.take i) (us.take i) := by
      intro ts
      induction ts with
      | nil => intro us i h; cases us with
        | nil => simpa using h
        | cons u us => exact h.elim
      | cons t ts ih => intro us i h; cases us with
        | nil => exact h.elim
        | cons u us => cases i with
          | zero => exact trivial
          | succ i => exact ⟨h.1, ih us i h.2⟩
    exact this r qs i hq
  · have e : nrow r qs = nrow (r.take i) (qs.take i) ++ nrow (r.drop i) (qs.drop i) := by
      rw [← nrow_app _ _ _ _ (by simp; omega), List.take_append_drop, List.take_append_drop]
    rw [e, List.getElem?_append_left (List.getElem?_eq_some_iff.1 hj).1]; exact hj
theorem rowN_drop {W : World} {b off cap : Nat} {r : List Nd} (h : RowN W S (.slice (some ⟨b, off, none⟩) r.length cap) r) (i : Nat) (hi : i ≤ r.length) (h0 : r ≠ []) (cap' : Nat) (hc' : r.length - i ≤ cap') : RowN W S (.slice (some ⟨b, off + i * 6, none⟩) (r.length - i) cap') (r.drop i) := by
  obtain ⟨qs, ⟨ao, cap'', e, hc, hr⟩, hq⟩ := h
  cases e
  have hpos : 0 < r.length := List.length_pos_iff.2 h0
  obtain ⟨b', off', e, ⟨hS, hlt⟩, hcell⟩ := hr.resolve_left (by omega)
  cases e
  have hql := hq.len
  have hl : (r.drop i).length = r.length - i := by simp
  refine ⟨qs.drop i, ⟨_, cap', by rw [hl], by rw [hl]; exact hc', .inr ⟨b, off + i * 6, rfl, ⟨hS, hlt⟩, fun j u hj => ?_⟩⟩, ?_⟩
  · rw [Nat.add_assoc]
    refine hcell (i * 6 + j) u ?_
    have e : nrow r qs = nrow (r.take i) (qs.take i) ++ nrow (r.drop i) (qs.drop i) := by
      rw [← nrow_app _ _ _ _ (by simp; omega), List.take_append_drop, List.take_append_drop]
    have hln : (nrow (r.take i) (qs.take i)).length = i * 6 := by rw [nrow_len _ _ (by simp; omega)]; simp; omega
    rw [e, List.getElem?_append_right (by omega), hln, Nat.add_sub_cancel_left]; exact hj
  · have : ∀ (ts : List Nd) (us : List Value) (i : Nat), HasNs W S ts us → HasNs W S (ts.drop i) (us.drop i) := by
      intro ts
      induction ts with
      | nil => intro us i h; cases us with
        | nil => simpa using h
        | cons u us => exact h.elim
      | cons t ts ih => intro us i h; cases us with
        | nil => exact h.elim
        | cons u us => cases i with
          | zero => exact h
          | succ i => exact ih us i h.2
    exact this r qs i hq
theorem rep1_new (w : World) (t : TypeId) : ∀ (j : Nat) u, (rep 1)[j]? = some u → (w.alloc (.cells #[.int .i64 24, .string ⟨#[]⟩, .int .i64 0, .int .i64 0, .slice none 0 0, .slice none 0 0] t)).cell? ⟨w.heap.size, 0 + j, none⟩ = some u := by
  intro j u hj
  rw [Nat.zero_add, cell_of_row _ _ _ _ _ (0, 0) (heap_alloc_new w _)]
  have e : rep 1 = [.int .i64 24, .string ⟨#[]⟩, .int .i64 0, .int .i64 0, .slice none 0 0, .slice none 0 0] := rfl
  rw [e] at hj
  simpa using hj
theorem rowN_nil {W : World} {S : Nat → Prop} (ao : Option Addr) (cap : Nat) : RowN W S (.slice ao 0 cap) [] := ⟨[], ⟨ao, cap, rfl, Nat.zero_le _, .inl rfl⟩, trivial⟩
set_option maxHeartbeats 1000000 in
theorem rbehind_c (r : List Nd) (rv : Value) (i : Nat) (k n : Int) (s : By) (l : List Nd) (q : Value) (w : World) (hr : RowN w S rv r) (hq : HasN w S (.mk k n s l) q) (hi : i < r.length) (hn : r.length ≤ 900000) (hl : l.length ≤ 4) (hp : (parts (col r i) (.mk k n s l)).length ≤ 1000) :
    Calls Try.prog 45 #[rv, .int .i64 (i : Int), .agg #[.int .i64 k, .string ⟨s.toArray⟩, .int .i64 n, .int .i64 0, .slice none 0 0, q]] w (RowRes w S (rbehind r i (.mk k n s l))) := by
  have h0 : r ≠ [] := by intro e; rw [e] at hi; cases hi
  obtain ⟨b, off, cap, rfl, hcap, hlt, hop⟩ := hr.open_ h0
  obtain ⟨q', hL, hQ'⟩ := hop i _ (col_at hi)
  clear hop
  have HR := Lib.hid hr
  have HQ := Lib.hid hq
  have HP := Lib.hid (show RowN w S q' (col r i).kids from hasN_row.1 hQ')
  obtain ⟨ah, caph, hqe, hqc⟩ := (hasN_row.1 hq).val
  obtain ⟨M, hM⟩ : ∃ M, Hid (l.length = M) := ⟨_, Lib.hid rfl⟩
  simp only [Nd.kids] at hqe hqc
  rw [hM.out] at hqe hqc hl
  subst hqe
  clear hr hq hQ'
  have C0 := fun w => isAny_c (col r i).k (col r i).n (col r i).s (col r i).kids q' w
  rw [show Nd.mk (col r i).k (col r i).n (col r i).s (col r i).kids = col r i from by cases col r i; rfl] at C0
  obtain ⟨RES, HRES⟩ : ∃ RES, Hid (rbehind r i (.mk k n s l) = RES) := ⟨_, Lib.hid rfl⟩
  rw [HRES.out]
  obtain ⟨X, HX⟩ : ∃ X, Hid (anyB (col r i) = X) := ⟨_, Lib.hid rfl⟩
  rw [HX.out] at C0
  have HPL := Lib.hid hp
  clear hp
  obtain ⟨x0, x1, x2, x3, x4, x5⟩ := hL
  generalize (col r i).k = k' at *
  generalize (col r i).n = n' at *
  generalize (col r i).s = s' at *
  obtain ⟨N, hN⟩ : ∃ N, Hid (r.length = N) := ⟨_, Lib.hid rfl⟩
  rw [hN.out] at hi hn hcap ⊢
  have i0 : (0 : Int) ≤ (i : Int) := by omega
  have i1 : (i : Int) < (N : Int) := by omega
  cases X
  · go_enter Try.func45, Try.ntmps45
    go_wp2_with (go_at_call 67; refine (C0 _).mono ?_; rintro e w2 ⟨rfl, hb⟩; have HB := Lib.hid (b1 hb); clear hb)
    have HR2 := Lib.hid ((HR.out.keep HB.out).mv (Mv.weak w2 (S' := Nw w S) fun b h _ => .inl h))
    have A0 := Lib.hid (rowN_take HR2.out i (by rw [hN.out]; omega) h0).drew
    have HP2 := Lib.hid ((HP.out.keep HB.out).mv (Mv.weak w2 (S' := Nw w S) fun b h _ => .inl h))
    have HRES2 := Lib.hid (show (r.take i ++ (col r i).kids) ++ r.drop (i + 1) = RES from by rw [← HRES.out, rbehind, parts, HX.out]; rfl)
    have HLN := Lib.hid (show (r.take i).length + ((col r i).kids).length ≤ 1000000 ∧ (r.take i ++ (col r i).kids).length + (r.drop (i + 1)).length ≤ 1000000 from by
      have h := HPL.out
      rw [parts, HX.out] at h
      simp only [Bool.false_eq_true, if_false] at h
      have hl2 := hN.out
      simp only [List.length_append, List.length_take, List.length_drop]
      first | omega | (simp only [Nd.kids] at h; omega))
    have hw : IntKind.i64.wrap ((i : Int) + 1) = (i : Int) + 1 := IntWalk.i64_in _ (by omega)
    have j0 : (0 : Int) ≤ (i : Int) + 1 := by omega
    have j1 : (i : Int) + 1 ≤ (N : Int) := by omega
    have j2 : ((i : Int) + 1).toNat = i + 1 := by omega
    have j3 : (i : Int) ≤ (cap : Int) := by omega
    have j4 : (i : Int) ≤ (i : Int) + 1 := by omega
    by_cases hci : cap = i + 1
    · have HD2 := Lib.hid (show RowN w2 (Nw w S) (.slice (some ⟨b, off, none⟩) (N - (i + 1)) (0)) (r.drop (i + 1)) from by
        have : r.drop (i + 1) = [] := List.drop_eq_nil_of_le (by rw [hN.out]; omega)
        rw [this, show N - (i + 1) = 0 from by omega]; exact rowN_nil _ _)
      go_region_law (first | (refine step_app (W := w2) rfl (.tmp 27) (.tmp 28) 22 (.inr rfl) rfl (.slice (some ⟨b, off, none⟩) i i) q' (r.take i) ((col r i).kids) (by simp [Act.eval, Act.put]) (by simp [Act.eval, Act.put]) A0.out HP2.out HLN.out.1 ?_; intro v1 w8 hA1; have A1 := Lib.hid hA1; clear hA1) | (refine step_app (W := w2) rfl (.tmp 29) (.tmp 33) 62 (.inl rfl) rfl v1 (.slice (some ⟨b, off, none⟩) (N - (i + 1)) (0)) (r.take i ++ (col r i).kids) (r.drop (i + 1)) (by simp [Act.eval, Act.put]) (by simp [Act.eval, Act.put]) A1.out HD2.out HLN.out.2 ?_; intro v2 w9 hA2; have A2 := Lib.hid hA2; clear hA2))
      go_simp
      go_wp2
      go_ret
      have hrow := A2.out.row
      rw [HRES2.out] at hrow
      exact ⟨v2, rfl, hrow.1.mv (Mv.weak w9 fun b h _ => by rcases h with h | h; exact h; exact .inr (Nat.le_trans HB.out.size h)), bnext HB.out hrow.2⟩
    · have HD2 := Lib.hid (show RowN w2 (Nw w S) (.slice (some ⟨b, off + (i + 1) * 6, none⟩) (N - (i + 1)) (cap - (i + 1))) (r.drop (i + 1)) from by
        have h := rowN_drop HR2.out (i + 1) (by rw [hN.out]; omega) h0 (cap - (i + 1)) (by rw [hN.out]; omega)
        rw [hN.out] at h; exact h)
      go_region_law (first | (refine step_app (W := w2) rfl (.tmp 27) (.tmp 28) 22 (.inr rfl) rfl (.slice (some ⟨b, off, none⟩) i i) q' (r.take i) ((col r i).kids) (by simp [Act.eval, Act.put]) (by simp [Act.eval, Act.put]) A0.out HP2.out HLN.out.1 ?_; intro v1 w8 hA1; have A1 := Lib.hid hA1; clear hA1) | (refine step_app (W := w2) rfl (.tmp 29) (.tmp 33) 62 (.inl rfl) rfl v1 (.slice (some ⟨b, off + (i + 1) * 6, none⟩) (N - (i + 1)) (cap - (i + 1))) (r.take i ++ (col r i).kids) (r.drop (i + 1)) (by simp [Act.eval, Act.put]) (by simp [Act.eval, Act.put]) A1.out HD2.out HLN.out.2 ?_; intro v2 w9 hA2; have A2 := Lib.hid hA2; clear hA2))
      go_simp
      go_wp2
      go_ret
      have hrow := A2.out.row
      rw [HRES2.out] at hrow
      exact ⟨v2, rfl, hrow.1.mv (Mv.weak w9 fun b h _ => by rcases h with h | h; exact h; exact .inr (Nat.le_trans HB.out.size h)), bnext HB.out hrow.2⟩
  · go_enter Try.func45, Try.ntmps45
    go_wp2_with (go_at_call 67; refine (C0 _).mono ?_; rintro e w2 ⟨rfl, hb⟩; have y5 := (hb.cell (p := ⟨w.heap.size, 5, none⟩) (by simp)).trans (own6 w _ _ _ _ _ _ _).2.2.2.2.2; have HB := Lib.hid (b1 hb); have hlt2 := hb.size; clear hb)
    simp only [World.size_alloc] at hlt2
    generalize w.heap.size = B at y5 hlt2 ⊢
    have C1 := fun w => anything_c w
    have y5d : w2.drew.cell? ⟨B, 5, none⟩ = some (.slice ah M caph) := y5
    go_region_held3 (fun w' => w'.cell? ⟨B, 5, none⟩ = some (.slice ah M caph)) (first | exact y5 | exact y5d | exact y53 | exact y54 _ | exact y55)
      (first | (go_at_call 24; refine (C1 _).mono ?_; rintro e w3 ⟨rfl, hb3⟩; have HB3 := Lib.hid (bdrew hb3); have y53 := (hb3.cell (p := ⟨B, 5, none⟩) (show B < w2.heap.size by omega)).trans y5d; have y54 := fun o => ((balloc w3 o).cell (p := ⟨B, 5, none⟩) (show B < w3.heap.size by have := HB3.out.size; omega)).trans y53; clear hb3) | (go_at_call 73; refine (repeat_c (S := fun _ => False) M hl w3.heap.size _ (by simp) (rep1_new w3 _)).mono ?_; rintro e w5 ⟨v5, rfl, hr5, hb5⟩; have y55 := (hb5.cell (p := ⟨B, 5, none⟩) (show B < (w3.alloc _).heap.size by simp; have := HB3.out.size; omega)).trans (y54 _); have HR5 := Lib.hid hr5; have HB5 := Lib.hid (bnext HB.out (bnext HB3.out (b1 hb5))); clear hr5 hb5))
    clear y5 y5d y53 y54 y55
    go_simp
    go_wp2_with fail
    have HR2 := Lib.hid ((HR.out.keep HB5.out).mv (Mv.weak w5 (S' := Nw w S) fun b h _ => .inl h))
    have A0 := Lib.hid (rowN_take HR2.out i (by rw [hN.out]; omega) h0).drew
    have HP2 := Lib.hid (HR5.out.mv (Mv.weak w5 (S' := Nw w S) fun b h _ => .inr (by rcases h with h | h; exact h.elim; have := HB.out.size; have := HB3.out.size; simp at h; omega)))
    have HRES2 := Lib.hid (show (r.take i ++ (List.replicate M anyNd)) ++ r.drop (i + 1) = RES from by rw [← HRES.out, ← hM.out, rbehind, parts, HX.out]; rfl)
    have HLN := Lib.hid (show (r.take i).length + ((List.replicate M anyNd)).length ≤ 1000000 ∧ (r.take i ++ (List.replicate M anyNd)).length + (r.drop (i + 1)).length ≤ 1000000 from by
      have h := HPL.out
      rw [parts, HX.out] at h
      simp only [if_true] at h
      have hl2 := hN.out
      simp only [List.length_append, List.length_take, List.length_drop]
      rw [← hM.out]; simp only [Nd.kids, List.length_replicate] at h ⊢; omega)
    have hw : IntKind.i64.wrap ((i : Int) + 1) = (i : Int) + 1 := IntWalk.i64_in _ (by omega)
    have j0 : (0 : Int) ≤ (i : Int) + 1 := by omega
    have j1 : (i : Int) + 1 ≤ (N : Int) := by omega
    have j2 : ((i : Int) + 1).toNat = i + 1 := by omega
    have j3 : (i : Int) ≤ (cap : Int) := by omega
    have j4 : (i : Int) ≤ (i : Int) + 1 := by omega
    by_cases hci : cap = i + 1
    · have HD2 := Lib.hid (show RowN w5 (Nw w S) (.slice (some ⟨b, off, none⟩) (N - (i + 1)) (0)) (r.drop (i + 1)) from by
        have : r.drop (i + 1) = [] := List.drop_eq_nil_of_le (by rw [hN.out]; omega)
        rw [this, show N - (i + 1) = 0 from by omega]; exact rowN_nil _ _)
      go_region_law (first | (refine step_app (W := w5) rfl (.tmp 27) (.tmp 28) 22 (.inr rfl) rfl (.slice (some ⟨b, off, none⟩) i i) v5 (r.take i) ((List.replicate M anyNd)) (by simp [Act.eval, Act.put]) (by simp [Act.eval, Act.put]) A0.out HP2.out HLN.out.1 ?_; intro v1 w8 hA1; have A1 := Lib.hid hA1; clear hA1) | (refine step_app (W := w5) rfl (.tmp 29) (.tmp 33) 62 (.inl rfl) rfl v1 (.slice (some ⟨b, off, none⟩) (N - (i + 1)) (0)) (r.take i ++ (List.replicate M anyNd)) (r.drop (i + 1)) (by simp [Act.eval, Act.put]) (by simp [Act.eval, Act.put]) A1.out HD2.out HLN.out.2 ?_; intro v2 w9 hA2; have A2 := Lib.hid hA2; clear hA2))
      go_simp
      go_wp2
      go_ret
      have hrow := A2.out.row
      rw [HRES2.out] at hrow
      exact ⟨v2, rfl, hrow.1.mv (Mv.weak w9 fun b h _ => by rcases h with h | h; exact h; exact .inr (Nat.le_trans HB5.out.size h)), bnext HB5.out hrow.2⟩
    · have HD2 := Lib.hid (show RowN w5 (Nw w S) (.slice (some ⟨b, off + (i + 1) * 6, none⟩) (N - (i + 1)) (cap - (i + 1))) (r.drop (i + 1)) from by
        have h := rowN_drop HR2.out (i + 1) (by rw [hN.out]; omega) h0 (cap - (i + 1)) (by rw [hN.out]; omega)
        rw [hN.out] at h; exact h)
      go_region_law (first | (refine step_app (W := w5) rfl (.tmp 27) (.tmp 28) 22 (.inr rfl) rfl (.slice (some ⟨b, off, none⟩) i i) v5 (r.take i) ((List.replicate M anyNd)) (by simp [Act.eval, Act.put]) (by simp [Act.eval, Act.put]) A0.out HP2.out HLN.out.1 ?_; intro v1 w8 hA1; have A1 := Lib.hid hA1; clear hA1) | (refine step_app (W := w5) rfl (.tmp 29) (.tmp 33) 62 (.inl rfl) rfl v1 (.slice (some ⟨b, off + (i + 1) * 6, none⟩) (N - (i + 1)) (cap - (i + 1))) (r.take i ++ (List.replicate M anyNd)) (r.drop (i + 1)) (by simp [Act.eval, Act.put]) (by simp [Act.eval, Act.put]) A1.out HD2.out HLN.out.2 ?_; intro v2 w9 hA2; have A2 := Lib.hid hA2; clear hA2))
      go_simp
      go_wp2
      go_ret
      have hrow := A2.out.row
      rw [HRES2.out] at hrow
      exact ⟨v2, rfl, hrow.1.mv (Mv.weak w9 fun b h _ => by rcases h with h | h; exact h; exact .inr (Nat.le_trans HB5.out.size h)), bnext HB5.out hrow.2⟩
end Go.Proofs.Ytommaomhiaaphaa.CG
