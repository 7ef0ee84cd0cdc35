/- ZD: several texts in one (UG UH). -/
import Derived.Test.YtjoifodjbdbicaaZC

/- The document's engine: Sorted. -/
namespace Go.Proofs.Ytjoifodjbdbicaa.UG
open Go.RowKit Go.Proofs.Ytjoifodjbdbicaa.RG Go.Proofs.Ytjoifodjbdbicaa.RB Go.Proofs.Ytjoifodjbdbicaa.RI Go.Proofs.Ytjoifodjbdbicaa.UA Go.Proofs.Ytjoifodjbdbicaa.UB Go.Proofs.Ytjoifodjbdbicaa.UC Go.Proofs.Ytjoifodjbdbicaa.UD Go.Proofs.Ytjoifodjbdbicaa.UE Go.Proofs.Ytjoifodjbdbicaa.UF
set_option linter.unusedVariables false
set_option maxRecDepth 100000
set_option maxRecDepth 100000

def cand (part last : Int) (p : Pt) : Bool := decide (p.part = part) && decide (last < p.n)
theorem next_from (part last : Int) : ∀ (l : List Pt) (b : Option Pt) (p : Pt), l.foldl (nextS part last) b = some p → b = some p ∨ (p ∈ l ∧ p.part = part ∧ last < p.n)
  | [], b, p, h => .inl h
  | q :: l, b, p, h => by
    have h : l.foldl (nextS part last) (nextS part last b q) = some p := h
    rcases next_from part last l _ p h with h1 | ⟨h1, h2⟩
    · unfold nextS at h1
      split at h1
      · next hc =>
        cases b with
        | none => injection h1 with h1; subst h1; exact .inr ⟨List.mem_cons_self, hc⟩
        | some q' =>
          simp only at h1
          split at h1
          · injection h1 with h1; subst h1; exact .inr ⟨List.mem_cons_self, hc⟩
          · exact .inl h1
      · exact .inl h1
    · exact .inr ⟨List.mem_cons_of_mem _ h1, h2⟩
theorem next_some {l : List Pt} {part last : Int} {p : Pt} (h : nextR l part last = some p) : p ∈ l ∧ p.part = part ∧ last < p.n := by
  rcases next_from part last l none p h with h | h
  · cases h
  · exact h
def cnt (l : List Pt) (part last : Int) : Nat := (l.filter (cand part last)).length
theorem filt_le {α : Type} (p q : α → Bool) (h : ∀ a, p a = true → q a = true) : ∀ l : List α, (l.filter p).length ≤ (l.filter q).length
  | [] => Nat.le_refl _
  | a :: l => by
    have ih := filt_le p q h l
    by_cases hp : p a = true
    · rw [List.filter_cons_of_pos hp, List.filter_cons_of_pos (h a hp), List.length_cons, List.length_cons]; omega
    · rw [List.filter_cons_of_neg hp]
      by_cases hq : q a = true
      · rw [List.filter_cons_of_pos hq, List.length_cons]; omega
      · rw [List.filter_cons_of_neg hq]; exact ih
theorem filt_lt {α : Type} (p q : α → Bool) (h : ∀ a, p a = true → q a = true) : ∀ (l : List α) (x : α), x ∈ l → p x = false → q x = true → (l.filter p).length < (l.filter q).length
  | [], x, hx, _, _ => by cases hx
  | a :: l, x, hx, hpx, hqx => by
    rcases List.mem_cons.1 hx with rfl | hx
    · rw [List.filter_cons_of_neg (by rw [hpx]; decide), List.filter_cons_of_pos hqx, List.length_cons]
      have := filt_le p q h l
      omega
    · have ih := filt_lt p q h l x hx hpx hqx
      by_cases hp : p a = true
      · rw [List.filter_cons_of_pos hp, List.filter_cons_of_pos (h a hp), List.length_cons, List.length_cons]; omega
      · rw [List.filter_cons_of_neg hp]
        by_cases hq : q a = true
        · rw [List.filter_cons_of_pos hq, List.length_cons]; omega
        · rw [List.filter_cons_of_neg hq]; exact ih
theorem cnt_next {l : List Pt} {part last : Int} {p : Pt} (h : nextR l part last = some p) : cnt l part p.n < cnt l part last := by
  obtain ⟨h1, h2, h3⟩ := next_some h
  refine filt_lt _ _ (fun a ha => ?_) l p h1 ?_ ?_
  · simp only [cand, Bool.and_eq_true, decide_eq_true_eq] at ha ⊢
    exact ⟨ha.1, by omega⟩
  · simp [cand]
  · simp [cand, h2, h3]
theorem cnt_le (l : List Pt) (part last : Int) : cnt l part last ≤ l.length := List.length_filter_le _ _
theorem sortF_len (l : List Pt) (part : Int) : ∀ (f : Nat) (last : Int), (sortF l part f last).length ≤ cnt l part last
  | 0, _ => Nat.zero_le _
  | f + 1, last => by
    unfold sortF
    cases h : nextR l part last with
    | none => exact Nat.zero_le _
    | some p =>
      have := sortF_len l part f p.n
      have := cnt_next h
      simp only [List.length_cons]
      omega
theorem sortR_len (l : List Pt) (part : Int) : (sortR l part).length ≤ l.length := Nat.le_trans (sortF_len _ _ _ _) (cnt_le _ _ _)
theorem sortF_mem (l : List Pt) (part : Int) : ∀ (f : Nat) (last : Int) (p : Pt), p ∈ sortF l part f last → p ∈ l ∧ p.part = part ∧ last < p.n
  | 0, _, p, h => by cases h
  | f + 1, last, p, h => by
    unfold sortF at h
    cases h1 : nextR l part last with
    | none => rw [h1] at h; cases h
    | some q =>
      rw [h1] at h
      have hq := next_some h1
      rcases List.mem_cons.1 h with rfl | h
      · exact hq
      · obtain ⟨a, b, c⟩ := sortF_mem l part f q.n p h
        exact ⟨a, b, by omega⟩
theorem sortR_mem {l : List Pt} {part : Int} {p : Pt} (h : p ∈ sortR l part) : p ∈ l ∧ p.part = part := by
  obtain ⟨a, b, _⟩ := sortF_mem _ _ _ _ _ h
  exact ⟨a, b⟩
/-- A cell of a row of writes. -/
theorem row_pt {w : World} {S : Nat → Prop} {v : Value} {L : List Pt} (h : RowR TPt w S v L) (h0 : L ≠ []) : ∃ b off cap, v = .slice (some ⟨b, off, none⟩) L.length cap ∧ b < w.heap.size ∧ ∀ (i : Nat) (p : Pt), L[i]? = some p → w.cell? ⟨b, off + i * 3, none⟩ = some (.int .i64 p.n) ∧ w.cell? ⟨b, off + i * 3 + 1, none⟩ = some (.int .i64 p.v) ∧ w.cell? ⟨b, off + i * 3 + 2, none⟩ = some (.int .i64 p.part) := by
  obtain ⟨b, off, cap, hv, _, hlt, hc⟩ := h.open_ h0
  exact ⟨b, off, cap, hv, hlt, fun i p hp => by
    obtain ⟨q, hL, _⟩ := hc i p hp
    exact ⟨hL 0 _ rfl, hL 1 _ rfl, hL 2 _ rfl⟩⟩
/-- Where the best one of the first j stands. -/
def Best (L : List Pt) (part last : Int) (j : Nat) (bv : Value) : Prop :=
  (bv = .int .i64 (-1) ∧ (L.take j).foldl (nextS part last) none = none) ∨ ∃ (b : Nat) (q : Pt), bv = .int .i64 (b : Int) ∧ b < L.length ∧ L[b]? = some q ∧ (L.take j).foldl (nextS part last) none = some q
theorem fold_take {L : List Pt} {j : Nat} {p : Pt} (h : L[j]? = some p) (f : Option Pt → Pt → Option Pt) : (L.take (j + 1)).foldl f none = f ((L.take j).foldl f none) p := by
  rw [List.take_add_one, h, List.foldl_append]
  rfl
set_option maxHeartbeats 3200000 in
theorem rsorted_c (w : World) (S : Nat → Prop) (v : Value) (L : List Pt) (H : RowR TPt w S v L) (hL : L.length ≤ 1000000) (part : Int) :
    Calls Try.prog 14 #[v, .int .i64 part] w fun e w' => ∃ x, e = .returned x ∧ OwnR TPt w' w.heap.size Nobody x (sortR L part) ∧ Below w.heap.size w w' := by
  have HH := Lib.hid H
  obtain ⟨va, vc, rfl, _⟩ := H.val
  obtain ⟨n, hn⟩ : ∃ n, Hid (L.length = n) := ⟨_, Lib.hid rfl⟩
  rw [hn.out] at HH hL ⊢
  clear H
  go_enter Try.func14, Try.ntmps14
  go_wp2_with fail
  go_loopg [5, 6, 7, 8] (n + 1) (fun g ov lv bv iv wr => ∃ (D : List Pt) (last : Int), lv = .int .i64 last ∧ Hid (OwnR TPt wr w.heap.size Nobody ov D) ∧ Hid (D ++ sortF L part g last = sortR L part ∧ cnt L part last < g ∧ D.length + g ≤ n + 1) ∧ Hid (Below w.heap.size w wr))
  case atStart => exact ⟨[], -1, rfl, Lib.hid (OwnR.nil _ _ _), Lib.hid ⟨by rw [← hn.out]; rfl, by rw [← hn.out]; exact Nat.lt_succ_of_le (cnt_le _ _ _), by simp⟩, Lib.hid (Below.refl _ _)⟩
  case round =>
    obtain ⟨D, last, rfl, HO, HD, HB⟩ := hrel
    obtain ⟨G', rfl⟩ : ∃ g, gk = g + 1 := ⟨gk - 1, by have := HD.out.2.1; omega⟩
    obtain ⟨da, dc, hov, _⟩ := HO.out.val
    obtain ⟨nD, hnD⟩ : ∃ n, Hid (D.length = n) := ⟨_, Lib.hid rfl⟩
    rw [hnD.out] at hov
    subst hov
    go_wp2_with fail
    rename World => w0
    go_loopg [7, 8] n (fun g bv iv w2 => ∃ j : Nat, j + g = n ∧ iv = .int .i64 (j : Int) ∧ Hid (Best L part last j bv) ∧ Hid (Below w0.heap.size w0 w2))
    case atStart => exact ⟨0, Nat.zero_add _, rfl, Lib.hid (.inl ⟨rfl, rfl⟩), Lib.hid (Below.refl _ _)⟩
    case round =>
      obtain ⟨j, hj, rfl, HBV, HB2⟩ := hrel
      have HJ := Lib.hid hj
      have HR := Lib.hid (HH.out.keep (bnext HB.out HB2.out))
      by_cases hlt : j < n
      · obtain ⟨g2, rfl⟩ : ∃ g, gk = g + 1 := ⟨gk - 1, by omega⟩
        obtain ⟨p, hp⟩ := getElem?_of_lt (l := L) (k := j) (by rw [hn.out]; exact hlt)
        obtain ⟨b, off, cap, hv, hbl, hcs⟩ := row_pt HR.out (by intro e; rw [e] at hp; simp at hp)
        rw [hn.out] at hv
        injection hv with e1 e2 e3
        subst e1
        subst e3
        clear e2
        obtain ⟨x0, x1, x2⟩ := hcs j p hp
        have HF := Lib.hid (fold_take hp (nextS part last))
        have HP := Lib.hid hp
        have j0 : (0 : Int) ≤ (j : Int) := by omega
        have j1 : (j : Int) < (n : Int) := by omega
        have HCS := Lib.hid hcs
        obtain ⟨pn, pv, pp⟩ := p
        simp only at x0 x1 x2
        clear hp hcs
        by_cases q1 : pp = part
        · subst q1
          by_cases q2 : last < pn
          · rcases HBV.out with ⟨rfl, hb⟩ | ⟨bi, q, rfl, hbi, hq, hb⟩
            · have HN := Lib.hid (show Best L pp last (j + 1) (.int .i64 (j : Int)) from .inr ⟨j, ⟨pn, pv, pp⟩, rfl, by rw [hn.out]; exact hlt, HP.out, by rw [HF.out, hb]; exact if_pos ⟨rfl, q2⟩⟩)
              clear hb HF
              go_wp2_with fail
              go_quiet (fail)
              go_wp2_with fail
              go_roundg g2
              case rel => exact ⟨j + 1, by have := HJ.out; omega, by go_num, HN, Lib.hid (below_dN HB2.out _)⟩
              case measure => omega
            · obtain ⟨z0, z1, z2⟩ := HCS.out bi q hq
              obtain ⟨qn, qv, qp⟩ := q
              simp only at z0 z1 z2
              have b0 : ¬ (bi : Int) < 0 := by omega
              have b1 : (0 : Int) ≤ (bi : Int) := by omega
              rw [hn.out] at hbi
              have b2 : (bi : Int) < (n : Int) := by omega
              by_cases q3 : pn < qn
              · have HN := Lib.hid (show Best L pp last (j + 1) (.int .i64 (j : Int)) from .inr ⟨j, ⟨pn, pv, pp⟩, rfl, by rw [hn.out]; exact hlt, HP.out, by rw [HF.out, hb]; exact (if_pos ⟨rfl, q2⟩).trans (if_pos q3)⟩)
                clear hb hq HF
                go_wp2_with fail
                go_quiet (fail)
                go_wp2_with fail
                go_roundg g2
                case rel => exact ⟨j + 1, by have := HJ.out; omega, by go_num, HN, Lib.hid (below_dN HB2.out _)⟩
                case measure => omega
              · have HN := Lib.hid (show Best L pp last (j + 1) (.int .i64 (bi : Int)) from .inr ⟨bi, ⟨qn, qv, qp⟩, rfl, by rw [hn.out]; exact hbi, hq, by rw [HF.out, hb]; exact (if_pos ⟨rfl, q2⟩).trans (if_neg q3)⟩)
                clear hb hq HF
                go_wp2_with fail
                go_quiet (fail)
                go_wp2_with fail
                go_roundg g2
                case rel => exact ⟨j + 1, by have := HJ.out; omega, by go_num, HN, Lib.hid (below_dN HB2.out _)⟩
                case measure => omega
          · have HN := Lib.hid (show Best L pp last (j + 1) u7 from by
              rcases HBV.out with ⟨h1, hb⟩ | ⟨bi, q, h1, hbi, hq, hb⟩
              · exact .inl ⟨h1, by rw [HF.out, hb]; exact if_neg (fun h => q2 h.2)⟩
              · exact .inr ⟨bi, q, h1, hbi, hq, by rw [HF.out, hb]; exact if_neg (fun h => q2 h.2)⟩)
            have q2' : decide (last < pn) = false := decide_eq_false q2
            clear HF q2
            go_wp2_with fail
            go_quiet (fail)
            go_wp2_with fail
            go_roundg g2
            case rel => exact ⟨j + 1, by have := HJ.out; omega, by go_num, HN, Lib.hid (below_dN HB2.out _)⟩
            case measure => omega
        · have HN := Lib.hid (show Best L part last (j + 1) u7 from by
            rcases HBV.out with ⟨h1, hb⟩ | ⟨bi, q, h1, hbi, hq, hb⟩
            · exact .inl ⟨h1, by rw [HF.out, hb]; exact if_neg (fun h => q1 h.1)⟩
            · exact .inr ⟨bi, q, h1, hbi, hq, by rw [HF.out, hb]; exact if_neg (fun h => q1 h.1)⟩)
          have e1 : (pp == part) = false := by rw [beq_eq_false_iff_ne]; exact q1
          clear HF
          go_wp2_with fail
          go_quiet (fail)
          go_wp2_with fail
          go_roundg g2
          case rel => exact ⟨j + 1, by have := HJ.out; omega, by go_num, HN, Lib.hid (below_dN HB2.out _)⟩
          case measure => omega
      · have hjn : j = n := by omega
        subst hjn
        have hbx : Best L part last j u7 := HBV.out
        have HTK : L.take j = L := List.take_of_length_le (by rw [hn.out]; exact Nat.le_refl _)
        unfold Best at hbx
        rw [HTK] at hbx
        have HBB := Lib.hid (bnext HB.out HB2.out)
        have HOO := Lib.hid (HO.out.keep HB2.out)
        clear HTK HBV
        rcases hbx with ⟨rfl, hb⟩ | ⟨bi, q, rfl, hbi, hq, hb⟩
        · have HE := Lib.hid (show D = sortR L part from by
            have h := HD.out.1
            unfold sortF at h
            rw [show nextR L part last = none from hb] at h
            simpa using h)
          clear hb
          go_wp2_with fail
          go_ret
          exact ⟨_, rfl, by rw [← HE.out]; exact HOO.out, HBB.out⟩
        · have HC := Lib.hid (show D ++ [q] ++ sortF L part G' q.n = sortR L part ∧ cnt L part q.n < G' ∧ (D ++ [q]).length + G' ≤ j + 1 from by
            have h := HD.out.1
            unfold sortF at h
            rw [show nextR L part last = some q from hb] at h
            refine ⟨by rw [List.append_assoc]; exact h, ?_, ?_⟩
            · have := cnt_next (show nextR L part last = some q from hb)
              have := HD.out.2.1
              omega
            · have := HD.out.2.2
              rw [List.length_append, List.length_singleton]
              omega)
          obtain ⟨b, off, cap, hv, hbl0, hcs0⟩ := row_pt HH.out (by intro e; rw [e] at hq; simp at hq)
          rw [hn.out] at hv
          injection hv with e1 e2 e3
          subst e1
          subst e3
          clear e2
          obtain ⟨y0, y1, y2⟩ := hcs0 bi q hq
          have z0 := (HBB.out.cell (p := ⟨b, off + bi * 3, none⟩) hbl0).trans y0
          have z1 := (HBB.out.cell (p := ⟨b, off + bi * 3 + 1, none⟩) hbl0).trans y1
          have z2 := (HBB.out.cell (p := ⟨b, off + bi * 3 + 2, none⟩) hbl0).trans y2
          have hbl : b < wr.heap.size := Nat.lt_of_lt_of_le hbl0 HBB.out.size
          clear y1 y2
          rw [hn.out] at hbi
          have b0 : ¬ (bi : Int) < 0 := by omega
          have b1 : (0 : Int) ≤ (bi : Int) := by omega
          have b2 : (bi : Int) < (j : Int) := by omega
          obtain ⟨qn, qv, qp⟩ := q
          simp only at z0 z1 z2 y0 HC
          clear hq hb hcs0
          have HOA := Lib.hid (HOO.out.keep (balloc wr (.cells #[.int .i64 qn, .int .i64 qv, .int .i64 qp] 53)))
          have HRN := Lib.hid (show RowR TPt (wr.alloc (.cells #[.int .i64 qn, .int .i64 qv, .int .i64 qp] 53)) (fun b => Nobody b ∧ (Value.slice da nD dc).ownBlock ≠ some b) (.slice (some ⟨wr.heap.size, 0, none⟩) 1 1) [⟨qn, qv, qp⟩] from rowR_new (q := []) #[.int .i64 qn, .int .i64 qv, .int .i64 qp] 53 rfl rfl)
          have HLN := Lib.hid (show D.length + [(⟨qn, qv, qp⟩ : Pt)].length ≤ 100000000000 from by have := HD.out.2.2; simp; omega)
          have HBS := Lib.hid (show w.heap.size ≤ (wr.alloc (.cells #[.int .i64 qn, .int .i64 qv, .int .i64 qp] 53)).heap.size from (bnext HBB.out (balloc wr _)).size)
          have HZ0 := Lib.hid (show b < w.heap.size ∧ w.cell? ⟨b, off + bi * 3, none⟩ = some (.int .i64 qn) from ⟨hbl0, y0⟩)
          clear y0 hbl0
          go_wp2_with (at_builtin; go_loud (refine wpList_row TPt (wr.alloc (.cells #[.int .i64 qn, .int .i64 qv, .int .i64 qp] 53)) rfl (.tmp 52) (.tmp 57) rfl w.heap.size Nobody (.slice da nD dc) (.slice (some ⟨wr.heap.size, 0, none⟩) 1 1) D [⟨qn, qv, qp⟩] rfl rfl HOA.out HRN.out HLN.out HBS.out ?_); intro ao6 n6 cap6 w6 hO6 hn6 hg6 ha6; clear hn6; have HO6 := Lib.hid hO6; have HB6 := Lib.hid ((bnext HBB.out (balloc wr (.cells #[.int .i64 qn, .int .i64 qv, .int .i64 qp] 53))).trans (bgrown hg6 (fun b hb => (HOA.out.own hb).1) HBS.out)); clear hO6 hg6 ha6; have z6 := (HB6.out.cell (p := ⟨b, off + bi * 3, none⟩) HZ0.out.1).trans HZ0.out.2)
          go_roundg G'
          case rel => exact ⟨D ++ [⟨qn, qv, qp⟩], qn, rfl, HO6, HC, HB6⟩
          case measure => omega
end Go.Proofs.Ytjoifodjbdbicaa.UG

/- The document's engine: a write of a part. -/
namespace Go.Proofs.Ytjoifodjbdbicaa.UH
open Go.RowKit Go.Proofs.Ytjoifodjbdbicaa.RG Go.Proofs.Ytjoifodjbdbicaa.RB Go.Proofs.Ytjoifodjbdbicaa.RI Go.Proofs.Ytjoifodjbdbicaa.UA Go.Proofs.Ytjoifodjbdbicaa.UB Go.Proofs.Ytjoifodjbdbicaa.UC Go.Proofs.Ytjoifodjbdbicaa.UD Go.Proofs.Ytjoifodjbdbicaa.UE Go.Proofs.Ytjoifodjbdbicaa.UF Go.Proofs.Ytjoifodjbdbicaa.UG
set_option linter.unusedVariables false
set_option maxRecDepth 100000
set_option maxRecDepth 100000

theorem putR_at {n x part : Int} {L : List Pt} {i : Nat} {p : Pt} (h : L[i]? = some p) (hm : p.n = n ∧ p.part = part) : L.take i ++ putR n x part (L.drop i) = L.set i ⟨p.n, x, p.part⟩ := by
  obtain ⟨hi, hp⟩ := List.getElem?_eq_some_iff.1 h
  rw [List.drop_eq_getElem_cons hi, hp, List.set_eq_take_append_cons_drop, if_pos hi]
  show L.take i ++ (if p.n = n ∧ p.part = part then ⟨p.n, x, p.part⟩ :: L.drop (i + 1) else p :: putR n x part (L.drop (i + 1))) = _
  rw [if_pos hm]
theorem putR_next {n x part : Int} {L : List Pt} {i : Nat} {p : Pt} (h : L[i]? = some p) (hm : ¬ (p.n = n ∧ p.part = part)) : L.take i ++ putR n x part (L.drop i) = L.take (i + 1) ++ putR n x part (L.drop (i + 1)) := by
  obtain ⟨hi, hp⟩ := List.getElem?_eq_some_iff.1 h
  rw [List.drop_eq_getElem_cons hi, hp, List.take_add_one, h, List.append_assoc]
  show L.take i ++ (if p.n = n ∧ p.part = part then ⟨p.n, x, p.part⟩ :: L.drop (i + 1) else p :: putR n x part (L.drop (i + 1))) = _
  rw [if_neg hm]
  rfl
theorem own_rec {α : Type} {R : Ty Try.prog α} {w : World} {v : Value} {L : List α} (h : OwnF R w v L) (h0 : L ≠ []) : ∃ g cap cur, v = .slice (some ⟨g, 0, none⟩) L.length cap ∧ Bk w g cur R.e ∧ g < w.heap.size ∧ (∀ i, w.frozen? ⟨g, i, none⟩ = false) ∧ ∀ (i : Nat) p, L[i]? = some p → ∃ q, LiesR R w g (i * R.size) p q := by
  obtain ⟨g, cap, cur, hv, hk, hg, hf⟩ := own_block h h0
  obtain ⟨b, off, cap', hv', _, _, hc⟩ := h.row.open_ h0
  rw [hv] at hv'
  injection hv' with e1 e2
  injection e1 with e1
  injection e1 with e1 e3
  subst e1
  subst e3
  exact ⟨g, cap, cur, hv, hk, hg, hf, fun i p hp => by
    obtain ⟨q, hL, _⟩ := hc i p hp
    rw [Nat.zero_add] at hL
    exact ⟨q, hL⟩⟩
/-- A writes' cells. -/
theorem own_pt {w : World} {v : Value} {L : List Pt} (h : OwnF TPt w v L) {i : Nat} {p : Pt} (hp : L[i]? = some p) : ∃ g cap cur, v = .slice (some ⟨g, 0, none⟩) L.length cap ∧ Bk w g cur 53 ∧ g < w.heap.size ∧ (∀ i, w.frozen? ⟨g, i, none⟩ = false) ∧ w.cell? ⟨g, i * 3, none⟩ = some (.int .i64 p.n) ∧ w.cell? ⟨g, i * 3 + 1, none⟩ = some (.int .i64 p.v) ∧ w.cell? ⟨g, i * 3 + 2, none⟩ = some (.int .i64 p.part) := by
  obtain ⟨g, cap, cur, hv, hk, hg, hf, hc⟩ := own_rec h (by intro e; rw [e] at hp; simp at hp)
  obtain ⟨q, hL⟩ := hc i p hp
  exact ⟨g, cap, cur, hv, hk, hg, hf, hL 0 _ rfl, hL 1 _ rfl, hL 2 _ rfl⟩
/-- What a row's block is behind a step: the same, or new. -/
def Blk (w : World) (v v' : Value) : Prop := ∀ b, v'.ownBlock = some b → v.ownBlock = some b ∨ w.heap.size ≤ b
set_option maxHeartbeats 1600000 in
theorem rput_c (w : World) (v : Value) (L : List Pt) (H : OwnF TPt w v L) (hL : L.length ≤ 1000000) (n x part : Int) :
    Calls Try.prog 71 #[v, .int .i64 n, .int .i64 x, .int .i64 part] w fun e w' => ∃ v', e = .returned v' ∧ OwnF TPt w' v' (putR n x part L) ∧ OnS (fun b => v.ownBlock = some b) w w' ∧ Blk w v v' := by
  have HH := Lib.hid H
  obtain ⟨va, vc, rfl, _⟩ := H.val
  obtain ⟨m, hm⟩ : ∃ n, Hid (L.length = n) := ⟨_, Lib.hid rfl⟩
  rw [hm.out] at HH hL ⊢
  clear H
  go_enter Try.func71, Try.ntmps71
  go_wp2_with fail
  go_loopg [9] m (fun g iv wr => ∃ i : Nat, i + g = m ∧ iv = .int .i64 (i : Int) ∧ Hid (putR n x part L = L.take i ++ putR n x part (L.drop i)) ∧ Hid (wr = w))
  case atStart => exact ⟨0, Nat.zero_add _, rfl, Lib.hid rfl, Lib.hid rfl⟩
  case round =>
    obtain ⟨i, hi, rfl, HP, HWR⟩ := hrel
    have hwr := HWR.out
    subst hwr
    clear HWR
    have HI := Lib.hid hi
    by_cases hlt : i < m
    · obtain ⟨g', rfl⟩ : ∃ g, gk = g + 1 := ⟨gk - 1, by omega⟩
      obtain ⟨p, hp⟩ := getElem?_of_lt (l := L) (k := i) (by rw [hm.out]; exact hlt)
      obtain ⟨g, cap, cur, hv, hk, hg, hf, x0, x1, x2⟩ := own_pt HH.out hp
      rw [hm.out] at hv
      injection hv with e1 e2 e3
      subst e1
      subst e3
      clear e2
      have i0 : (0 : Int) ≤ (i : Int) := by omega
      have i1 : (i : Int) < (m : Int) := by omega
      have f1 := hf (i * 3 + 1)
      by_cases q : p.n = n ∧ p.part = part
      · have HN := Lib.hid (HP.out.trans (putR_at hp q))
        have HS := Lib.hid (own_set HH.out hp (j := 1) (p := ⟨p.n, x, p.part⟩) (v := .int .i64 x) (by decide) (fun q0 hq0 => ⟨[], rfl, rfl⟩))
        obtain ⟨q1, q2⟩ := q
        rw [q1] at x0
        rw [q2] at x2
        clear hk hf hp q1 q2
        go_wp2_with fail
        go_ret
        exact ⟨_, rfl, by rw [HN.out]; exact HS.out, (OnS.cell g _ _).weak (fun b _ hb => by rw [hb]; rfl), fun b hb => .inl hb⟩
      · have HN := Lib.hid (HP.out.trans (putR_next hp q))
        obtain ⟨pn, pv, pp⟩ := p
        simp only at x0 x1 x2 q
        have q' : (¬ pn = n) ∨ (pn = n ∧ ¬ pp = part) := by
          by_cases h : pn = n
          · exact .inr ⟨h, fun h2 => q ⟨h, h2⟩⟩
          · exact .inl h
        clear hk hf hp q
        rcases q' with q' | ⟨rfl, q'⟩
        · have e1 : (pn == n) = false := by rw [beq_eq_false_iff_ne]; exact q'
          go_wp2_with fail
          go_roundg g'
          case rel => exact ⟨i + 1, by have := HI.out; omega, by go_num, HN, Lib.hid rfl⟩
          case measure => omega
        · have e1 : (pp == part) = false := by rw [beq_eq_false_iff_ne]; exact q'
          go_wp2_with fail
          go_roundg g'
          case rel => exact ⟨i + 1, by have := HI.out; omega, by go_num, HN, Lib.hid rfl⟩
          case measure => omega
    · have him : i = m := by omega
      subst him
      have HN := Lib.hid (show putR n x part L = L ++ [⟨n, x, part⟩] from HP.out.trans (by rw [List.take_of_length_le (by rw [hm.out]; exact Nat.le_refl _), List.drop_eq_nil_of_le (by rw [hm.out]; exact Nat.le_refl _)]; rfl))
      have HOA := Lib.hid (HH.out.keep (balloc wr (.cells #[.int .i64 n, .int .i64 x, .int .i64 part] 53)))
      have HRN := Lib.hid (show RowR TPt (wr.alloc (.cells #[.int .i64 n, .int .i64 x, .int .i64 part] 53)) (fun b => Nobody b ∧ (Value.slice va i vc).ownBlock ≠ some b) (.slice (some ⟨wr.heap.size, 0, none⟩) 1 1) [⟨n, x, part⟩] from rowR_new (q := []) #[.int .i64 n, .int .i64 x, .int .i64 part] 53 rfl rfl)
      have HLN := Lib.hid (show L.length + [(⟨n, x, part⟩ : Pt)].length ≤ 100000000000 from by rw [hm.out]; simp; omega)
      have HBA := Lib.hid (balloc wr (.cells #[.int .i64 n, .int .i64 x, .int .i64 part] 53))
      go_wp2_with (at_builtin; go_loud (refine wpList_row TPt (wr.alloc (.cells #[.int .i64 n, .int .i64 x, .int .i64 part] 53)) rfl (.tmp 38) (.tmp 43) rfl 0 Nobody (.slice va i vc) (.slice (some ⟨wr.heap.size, 0, none⟩) 1 1) L [⟨n, x, part⟩] rfl rfl HOA.out HRN.out HLN.out (Nat.zero_le _) ?_); intro ao6 n6 cap6 w6 hO6 hn6 hg6 ha6; clear hn6; have HO6 := Lib.hid hO6; have HG6 := Lib.hid hg6; have HA6 := Lib.hid ha6; clear hO6 hg6 ha6)
      go_ret
      refine ⟨.slice ao6 n6 cap6, rfl, by rw [HN.out]; exact HO6.out, (OnS.of HBA.out).trans (ons_grown HG6.out), fun b hb => ?_⟩
      rcases HA6.out with h | h
      · exact .inl (h ▸ hb)
      · rw [h, World.size_alloc] at hb
        exact .inr (by have := Option.some.inj hb; omega)
end Go.Proofs.Ytjoifodjbdbicaa.UH
