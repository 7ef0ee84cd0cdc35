/- A column's heads, in memory. -/
import Derived.Test.YtommaomhiaaphaaCK
namespace Go.Proofs.Ytommaomhiaaphaa.CI
open Go.RowKit Go.Proofs.Ytommaomhiaaphaa.CA Go.Proofs.Ytommaomhiaaphaa.CB Go.Proofs.Ytommaomhiaaphaa.CC Go.Proofs.Ytommaomhiaaphaa.CD Go.Proofs.Ytommaomhiaaphaa.CE Go.Proofs.Ytommaomhiaaphaa.CF Go.Proofs.Ytommaomhiaaphaa.CG Go.Proofs.Ytommaomhiaaphaa.CH Go.Proofs.Ytommaomhiaaphaa.CK
set_option linter.unusedVariables false
set_option maxRecDepth 100000
variable {S : Nat → Prop}

/-- Nodes that the call owns, in the making; what they hold lay in W. -/
def OwnN (W w : World) (S : Nat → Prop) (v : Value) (L : List Nd) : Prop :=
  ∃ qs, HasNs W S L qs ∧ Below W.heap.size W w ∧ w.ownsRow W.heap.size 38 6 v L.length (nrow L qs)
theorem OwnN.row {W w : World} {v : Value} {L : List Nd} (h : OwnN W w S v L) : RowN w (Nw W S) v L := by
  obtain ⟨qs, h1, hb, h2⟩ := h
  exact ⟨qs, (rw_own h2).mv (Mv.weak w fun b h _ => .inr h), HasNs.mv ((Mv.weak W (fun b h _ => .inl h)).trans (Mv.low hb)) _ _ h1⟩
theorem OwnN.keep {W w w' : World} {v : Value} {L : List Nd} (h : OwnN W w S v L) (hb : Below w.heap.size w w') : OwnN W w' S v L := by
  obtain ⟨qs, h1, hb1, h2⟩ := h
  exact ⟨qs, h1, bnext hb1 hb, own_below h2 hb (Nat.le_refl _)⟩
theorem OwnN.below {W w : World} {v : Value} {L : List Nd} (h : OwnN W w S v L) : Below W.heap.size W w := by
  obtain ⟨qs, h1, hb, h2⟩ := h
  exact hb
theorem OwnN.val {W w : World} {v : Value} {L : List Nd} (h : OwnN W w S v L) : ∃ ao cap, v = .slice ao L.length cap := by
  obtain ⟨qs, h1, hb, h2⟩ := h
  obtain ⟨ao, cap, e, _⟩ := rw_own h2
  exact ⟨ao, cap, e⟩
theorem OwnN.nil (W w : World) (hb : Below W.heap.size W w) : OwnN W w S (.slice none 0 0) [] := ⟨[], trivial, hb, World.ownsRow_nil _ _ _ _⟩
/-- One node more, at the operation. -/
theorem wpList_node (W w : World) {ops : Array Oper} {rest : List Oper} {o : Oper} {a : Act} {Q : Exit → Act → World → Prop} (hg : o.guard = none) (s x : Operand)
    (hop : o.op = Op.call { callee := Callee.builtin Builtin.append, args := #[s, x], argTypes := #[22, 22] })
    (v : Value) (L : List Nd) (p : Nd) (q : Value) (nb : Nat) (hs : a.eval s = v) (hx : a.eval x = .slice (some ⟨nb, 0, none⟩) 1 1)
    (hO : OwnN W w S v L) (hcell : ∀ (j : Nat) u, (ncells p q)[j]? = some u → w.cell? ⟨nb, 0 + j, none⟩ = some u) (hn : HasN W S p q) (hlen : L.length ≤ 10000)
    (hK : ∀ v' w', OwnN W w' S v' (L ++ [p]) → wpList Try.prog ops Q rest (a.put o.dst v') w') :
    wpList Try.prog ops Q (o :: rest) a w := by
  obtain ⟨i, hi, hz, hsz, hby⟩ := info_parts infoN
  obtain ⟨qs, hq, hb, hown⟩ := hO
  refine wpList_append_lies w hg s x 22 hop W.heap.size 38 i _ 6 88 Try.underlying22 hi hz hsz hby rfl (by decide) v L.length (nrow L qs) hs hown ⟨nb, 0, none⟩ 1 1 (ncells p q) hx rfl (fun j u hj => ?_) (fun u hu => ?_) (by decide) (by unfold maxLen; omega) (by omega) hb.size _ rfl ?_
  · rw [Addr.add_lit]; exact hcell j u hj
  · simp only [ncells, List.mem_cons, List.not_mem_nil, or_false] at hu
    rcases hu with rfl | rfl | rfl | rfl | rfl | rfl
    · rfl
    · rfl
    · rfl
    · rfl
    · rfl
    · exact hasN_one hn
  · intro g cap w' h1 h2 h3 h4
    refine hK _ w' ⟨qs ++ [q], HasNs.app hq ⟨hn, trivial⟩, below_grown hb hown h2, ?_⟩
    have e : nrow (L ++ [p]) (qs ++ [q]) = nrow L qs ++ ncells p q := by rw [nrow_app _ _ _ _ hq.len]; simp [nrow]
    rw [e, List.length_append]; exact h1
theorem rowN_one {w : World} {b off n cap : Nat} {r : List Nd} (h : RowN w S (.slice (some ⟨b, off, none⟩) n cap) r) (i : Nat) (hi : i < r.length) (capx : Nat) (hc : 1 ≤ capx) : RowN w S (.slice (some ⟨b, off + i * 6, none⟩) 1 capx) [col r i] := by
  obtain ⟨qs, ⟨ao, cap', e, _, hr⟩, hq⟩ := h
  obtain ⟨q, h1, h2⟩ := nrow_at r qs hq.len i _ (col_at hi)
  cases e
  obtain ⟨b', off', e, hlt, hcell⟩ := hr.resolve_left (by omega)
  cases e
  refine ⟨[q], ⟨_, capx, rfl, hc, .inr ⟨b, off + i * 6, rfl, hlt, fun j u hj => ?_⟩⟩, hq.at_ i _ q (col_at hi) h1, trivial⟩
  have hj : (ncells (col r i) q)[j]? = some u := by simpa [nrow] using hj
  rw [Nat.add_assoc]; exact hcell _ u (h2 j u hj)
theorem headsOf_snoc {ahead : List (List Nd)} {i j : Nat} {a : List Nd} (ha : ahead[j]? = some a) : headsOf (ahead.take (j + 1)) i = addHead i (headsOf (ahead.take j) i) a := by
  have e : ahead.take (j + 1) = ahead.take j ++ [a] := by
    rw [List.take_add_one, ha]; rfl
  unfold headsOf
  rw [e, List.foldl_append]; rfl
theorem headsOf_len (i : Nat) : ∀ (ahead : List (List Nd)) (hs : List Nd), (ahead.foldl (addHead i) hs).length ≤ hs.length + ahead.length
  | [], hs => by simp
  | a :: ahead, hs => by
    have := headsOf_len i ahead (addHead i hs a)
    have h2 : (addHead i hs a).length ≤ hs.length + 1 := by unfold addHead; split <;> simp
    simp only [List.foldl_cons, List.length_cons]; omega
theorem ncells_new (w : World) (p : Nd) (q : Value) (t : TypeId) : ∀ (j : Nat) u, (ncells p q)[j]? = some u → (w.alloc (.cells #[.int .i64 p.k, .string ⟨p.s.toArray⟩, .int .i64 p.n, .int .i64 0, .slice none 0 0, q] t)).cell? ⟨w.heap.size, 0 + j, none⟩ = some u := by
  intro j u hj
  rw [Nat.zero_add, cell_of_row _ _ _ _ _ (0, 0) (heap_alloc_new w _)]
  simpa [ncells] using hj
theorem any_row (w : World) (T : Nat → Prop) (t : TypeId) (hT : T w.heap.size) : RowN (w.alloc (.cells #[.int .i64 24, .string ⟨#[]⟩, .int .i64 0, .int .i64 0, .slice none 0 0, .slice none 0 0] t)) T (.slice (some ⟨w.heap.size, 0, none⟩) 1 1) [anyNd] :=
  ⟨[.slice none 0 0], ⟨_, 1, rfl, Nat.le_refl _, .inr ⟨w.heap.size, 0, rfl, ⟨hT, by simp⟩, fun j u hj => rep1_new w t j u hj⟩⟩, ⟨[], ⟨none, 0, rfl, Nat.le_refl _, .inl rfl⟩, trivial⟩, trivial⟩
set_option maxRecDepth 100000 in
set_option maxHeartbeats 4000000 in
theorem heads_c (C : List Cn) (f : Value) (c : Nat) (r : List Nd) (ahead : List (List Nd)) (rv av : Value) (i : Nat) (w : World) (hf : CK.Fd w f C c) (hr : RowN w S rv r) (hh : RowsN w S av ahead) (hi : i < r.length) (hn : r.length ≤ 900000) (ha : ∀ a, a ∈ ahead → i < a.length ∧ a.length ≤ 900000) (hal : ahead.length ≤ 1000) :
    Calls Try.prog 44 #[f, rv, av, .int .i64 (i : Int)] w (RowRes w S (heads C r ahead i)) := by
  obtain ⟨RES, HRES⟩ : ∃ RES, Hid (heads C r ahead i = RES) := ⟨_, Lib.hid rfl⟩
  rw [HRES.out]
  have h0 : r ≠ [] := by intro e; rw [e] at hi; cases hi
  obtain ⟨b, off, cap, rfl, hcap, hlt, hop⟩ := hr.open_ h0
  obtain ⟨q', hL, hQ'⟩ := hop i _ (col_at hi)
  have HR := Lib.hid hr
  have HH := Lib.hid hh
  have HF := Lib.hid hf
  have HA := Lib.hid ha
  have hfv := hf.val
  subst hfv
  have C0 := fun w => isAny_c (col r i).k (col r i).n (col r i).s (col r i).kids q' w
  rw [show Nd.mk (col r i).k (col r i).n (col r i).s (col r i).kids = col r i from by cases col r i; rfl] at C0
  obtain ⟨X, HX⟩ : ∃ X, Hid (anyB (col r i) = X) := ⟨_, Lib.hid rfl⟩
  rw [HX.out] at C0
  obtain ⟨x0, x1, x2, x3, x4, x5⟩ := hL
  generalize (col r i).k = k' at *
  generalize (col r i).n = n' at *
  generalize (col r i).s = s' at *
  obtain ⟨N, hN⟩ : ∃ N, Hid (r.length = N) := ⟨_, Lib.hid rfl⟩
  rw [hN.out] at hi hn hcap ⊢
  clear hr hh hf ha hop hQ' h0
  have i0 : (0 : Int) ≤ (i : Int) := by omega
  have i1 : (i : Int) < (N : Int) := by omega
  have hw : IntKind.i64.wrap ((i : Int) + 1) = (i : Int) + 1 := IntWalk.i64_in _ (by omega)
  have j0 : (0 : Int) ≤ (i : Int) + 1 := by omega
  have j1 : (i : Int) + 1 ≤ (N : Int) := by omega
  have j2 : ((i : Int) + 1).toNat = i + 1 := by omega
  have j3 : (i : Int) + 1 ≤ (cap : Int) := by omega
  have j4 : (i : Int) ≤ (i : Int) + 1 := by omega
  have j5 : ¬ cap = i := by omega
  have hb7 : (w.alloc (.cells #[.int .i64 (i : Int)] 3)).cell? ⟨w.heap.size, 0, none⟩ = some (.int .i64 (i : Int)) := cell_one _ _ _
  cases X
  · go_enter Try.func44, Try.ntmps44
    go_wp2_with (go_at_call 67; refine (C0 _).mono ?_; rintro e w2 ⟨rfl, hb⟩; have y7 := (hb.cell (p := ⟨w.heap.size, 0, none⟩) (by simp)).trans hb7; have HB := Lib.hid (b1 hb); clear hb)
    go_ret
    refine ⟨.slice (some ⟨b, off + i * 6, none⟩) 1 (cap - i), rfl, ?_, HB.out⟩
    rw [← HRES.out, heads, HX.out]
    exact ((rowN_one HR.out i (by rw [hN.out]; exact hi) (cap - i) (by omega)).keep HB.out).mv (Mv.weak w2 fun b h _ => .inl h)
  · have C1 := fun w => anything_c w
    by_cases hah : ahead = []
    · subst hah
      obtain ⟨ao, acap, rfl, _⟩ := HH.out.val
      go_enter Try.func44, Try.ntmps44
      go_wp2_with (go_at_call 67; refine (C0 _).mono ?_; rintro e w2 ⟨rfl, hb⟩; have HB := Lib.hid (b1 hb); clear hb)
      refine wp_loop_rounds 1 ?_
      rw [rounds_succ]
      go_wp2_with (go_at_call 24; refine (C1 _).mono ?_; rintro e w3 ⟨rfl, hb⟩; have HB3 := Lib.hid hb; clear hb)
      go_ret
      refine ⟨_, rfl, ?_, bnext HB.out (bnext HB3.out (balloc _ _))⟩
      rw [← HRES.out, heads, HX.out]
      exact any_row _ _ _ (.inr (by have := HB.out.size; have := HB3.out.size; omega))
    · obtain ⟨ab, aoff, acap, rfl, hacap, halt, haop⟩ := HH.out.open_ hah
      have HAO := Lib.hid haop
      obtain ⟨NA, hNA⟩ : ∃ NA, Hid (ahead.length = NA) := ⟨_, Lib.hid rfl⟩
      rw [hNA.out] at hal hacap ⊢
      clear haop hah
      go_enter Try.func44, Try.ntmps44
      go_wp2_with (go_at_call 67; refine (C0 _).mono ?_; rintro e w2 ⟨rfl, hb⟩; have Y7 := Lib.hid ((hb.cell (p := ⟨w.heap.size, 0, none⟩) (by simp)).trans hb7); have hz2 : w.heap.size < w2.heap.size := (by have := hb.size; simp at this; omega); have HB := Lib.hid (b1 hb); clear hb)
      clear hb7 x0 x1 x2 x3 x4 x5 C0
      obtain ⟨B, hB⟩ : ∃ B, Hid (w.heap.size = B) := ⟨_, Lib.hid rfl⟩
      rw [hB.out] at Y7 hz2 ⊢
      go_loopg [9, 28] NA (fun g hv jv wr => ∃ j : Nat, j + g = NA ∧ jv = .int .i64 (j : Int) ∧ Hid (OwnN w2 wr S hv (headsOf (ahead.take j) i)) ∧ Hid (Below w2.heap.size w2 wr))
      case atStart => exact ⟨0, Nat.zero_add _, rfl, Lib.hid (OwnN.nil _ _ (Below.refl _ _)), Lib.hid (Below.refl _ _)⟩
      case round =>
        obtain ⟨j, hj, rfl, HO, HX2⟩ := hrel
        by_cases hlt2 : j < NA
        · obtain ⟨g, rfl⟩ : ∃ g, gk = g + 1 := ⟨gk - 1, by omega⟩
          obtain ⟨a, ha⟩ := getElem?_of_lt (l := ahead) (k := j) (by rw [hNA.out]; exact hlt2)
          obtain ⟨q1, hc1, hrow⟩ := HAO.out j a ha
          obtain ⟨ia1, ia2⟩ := HA.out a (List.mem_of_getElem? ha)
          have HIA := Lib.hid (show i < a.length ∧ a.length ≤ 900000 from ⟨ia1, ia2⟩)
          have HAA := Lib.hid ha
          have d0 := (HX2.out.cell (p := ⟨ab, aoff + j, none⟩) (by have := HB.out.size; show ab < w2.heap.size; omega)).trans ((HB.out.cell (p := ⟨ab, aoff + j, none⟩) halt).trans hc1)
          have hR2 : RowN w2 S q1 a := hrow.keep HB.out
          obtain ⟨rb, ro, rcap, rfl, hrc, hrlt, hrl⟩ := hR2.open_ (by intro e; rw [e] at ia1; cases ia1)
          obtain ⟨q2, hL, hQ2⟩ := hrl i _ (col_at ia1)
          have HQ2 := Lib.hid hQ2
          have HL2 := Lib.hid hL
          have hzr := HX2.out.size
          have HCap0 := Lib.hid (show Cap (wr.alloc (.cells #[.slice (some ⟨rb, ro, none⟩) a.length rcap] 62)) (fun _ => True) wr.heap.size B i (.slice (some ⟨rb, ro, none⟩) a.length rcap) a from
            ⟨by simp, by simp; omega, cell_one _ _ _, ((balloc wr _).cell (p := ⟨B, 0, none⟩) (show B < wr.heap.size by omega)).trans ((HX2.out.cell (p := ⟨B, 0, none⟩) hz2).trans Y7.out), ((hR2.keep HX2.out).keep (balloc wr _)).mv (Mv.weak _ fun _ _ _ => trivial), ia1, by omega⟩)
          have HLW0 := Lib.hid ((HL2.out.keep HX2.out hrlt).keep (balloc wr (.cells #[.slice (some ⟨rb, ro, none⟩) a.length rcap] 62)) (show rb < wr.heap.size by omega))
          clear hrl hR2 hrow hc1 ha hL hQ2
          have D0 := fun w => isAny_c (col a i).k (col a i).n (col a i).s (col a i).kids q2 w
          rw [show Nd.mk (col a i).k (col a i).n (col a i).s (col a i).kids = col a i from by cases col a i; rfl] at D0
          obtain ⟨X1, HX1⟩ : ∃ X, Hid (anyB (col a i) = X) := ⟨_, Lib.hid rfl⟩
          rw [HX1.out] at D0
          obtain ⟨hs, HS⟩ : ∃ hs, Hid (headsOf (ahead.take j) i = hs) := ⟨_, Lib.hid rfl⟩
          rw [HS.out] at HO
          have HSL := Lib.hid (show hs.length ≤ 1000 from by
            rw [← HS.out]
            have := headsOf_len i (ahead.take j) []
            unfold headsOf
            simp only [List.length_nil, List.length_take] at this ⊢
            omega)
          obtain ⟨X2, HXX2⟩ : ∃ X, Hid ((hs.any fun x => meets x (col a i)) = X) := ⟨_, Lib.hid rfl⟩
          have D1 := fun (w' : World) (h : RowN w' (fun _ => True) u9 hs) (E : Cap w' (fun _ => True) wr.heap.size B i (.slice (some ⟨rb, ro, none⟩) a.length rcap) a) => contains46 hs u9 w' h (by have := HSL.out; omega) wr.heap.size B i _ a E
          rw [HXX2.out] at D1
          obtain ⟨x0, x1, x2, x3, x4, x5⟩ := HL2.out.keep HX2.out hrlt
          have z7 : wr.cell? ⟨B, 0, none⟩ = some (.int .i64 (i : Int)) := (HX2.out.cell (p := ⟨B, 0, none⟩) hz2).trans Y7.out
          have hzB : B < wr.heap.size := by omega
          have hzb : rb < wr.heap.size := by omega
          generalize hk' : (col a i).k = k1 at *
          generalize hn' : (col a i).n = n1 at *
          generalize hs' : (col a i).s = s1 at *
          have HKN := Lib.hid (show (col a i).k = k1 ∧ (col a i).n = n1 ∧ (col a i).s = s1 from ⟨hk', hn', hs'⟩)
          clear hk' hn' hs'
          obtain ⟨M, hM⟩ : ∃ M, Hid (a.length = M) := ⟨_, Lib.hid rfl⟩
          rw [hM.out] at ia1 ia2 hrc d0 HCap0 HLW0 D1
          have i2 : (0 : Int) ≤ (j : Int) := by omega
          have i3 : (j : Int) < (NA : Int) := by omega
          have i4 : (i : Int) < (M : Int) := by omega
          cases X1
          · cases X2
            · have HT := Lib.hid (show headsOf (ahead.take (j + 1)) i = hs ++ [col a i] from by rw [headsOf_snoc HAA.out, HS.out, addHead, newHead, HX1.out, HXX2.out]; rfl)
              go_wp2_with fail
              refine (D0 _).mono ?_
              rintro e w3 ⟨rfl, hb⟩
              have HB3 := Lib.hid (b1 hb)
              have HCap3 := Lib.hid (HCap0.out.keep hb)
              have HLW3 := Lib.hid (HLW0.out.keep hb (show rb < (wr.alloc _).heap.size by simp; omega))
              have HRS3 := Lib.hid (show RowN w3 (fun _ => True) u9 hs from ((HO.out.keep (b1 hb)).row).mv (Mv.weak _ fun _ _ _ => trivial))
              clear hb x0 x1 x2 x3 x4 x5 z7
              go_wp2_with fail
              refine (D1 _ HRS3.out HCap3.out).mono ?_
              rintro e w4 ⟨rfl, hb⟩
              have HB4 := Lib.hid (bnext HB3.out hb)
              have HCap4 := Lib.hid (HCap3.out.keep hb)
              have HLW4 := Lib.hid (HLW3.out.keep hb (by have := HB3.out.size; omega))
              clear hb
              have HO4 := Lib.hid ((HO.out.keep HB4.out).keep (balloc w4 (.cells #[.int .i64 k1, .string ⟨s1.toArray⟩, .int .i64 n1, .int .i64 0, .slice none 0 0, q2] 38)))
              have z7 := HCap4.out.ht
              have z11 := HCap4.out.ha
              obtain ⟨x0, x1, x2, x3, x4, x5⟩ := HLW4.out
              rw [HKN.out.1] at x0
              rw [HKN.out.2.2] at x1
              rw [HKN.out.2.1] at x2
              have HNC := Lib.hid (ncells_new w4 (col a i) q2 38)
              rw [HKN.out.1, HKN.out.2.1, HKN.out.2.2] at HNC
              go_wp2_with (at_builtin; go_loud (refine wpList_node w2 _ rfl (.tmp 45) (.tmp 50) rfl u9 hs (col a i) q2 w4.heap.size rfl rfl HO4.out HNC.out HQ2.out (by have := HSL.out; omega) ?_); intro v5 w5 hO5; have HO5 := Lib.hid hO5; clear hO5)
              go_roundg g
              case rel => exact ⟨j + 1, by omega, by go_num, Lib.hid (by rw [HT.out]; exact HO5.out), Lib.hid HO5.out.below⟩
              case measure => omega
            · have HT := Lib.hid (show headsOf (ahead.take (j + 1)) i = hs from by rw [headsOf_snoc HAA.out, HS.out, addHead, newHead, HX1.out, HXX2.out]; rfl)
              go_wp2_with fail
              refine (D0 _).mono ?_
              rintro e w3 ⟨rfl, hb⟩
              have HB3 := Lib.hid (b1 hb)
              have HCap3 := Lib.hid (HCap0.out.keep hb)
              have HLW3 := Lib.hid (HLW0.out.keep hb (show rb < (wr.alloc _).heap.size by simp; omega))
              have HRS3 := Lib.hid (show RowN w3 (fun _ => True) u9 hs from ((HO.out.keep (b1 hb)).row).mv (Mv.weak _ fun _ _ _ => trivial))
              clear hb x0 x1 x2 x3 x4 x5 z7
              go_wp2_with fail
              refine (D1 _ HRS3.out HCap3.out).mono ?_
              rintro e w4 ⟨rfl, hb⟩
              have HB4 := Lib.hid (bnext HB3.out hb)
              have HCap4 := Lib.hid (HCap3.out.keep hb)
              have HLW4 := Lib.hid (HLW3.out.keep hb (by have := HB3.out.size; omega))
              clear hb
              go_wp2_with fail
              go_roundg g
              case rel => exact ⟨j + 1, by omega, by go_num, Lib.hid (by rw [HT.out]; exact HO.out.keep HB4.out), Lib.hid (bnext HX2.out HB4.out)⟩
              case measure => omega
          · have HT := Lib.hid (show headsOf (ahead.take (j + 1)) i = hs from by rw [headsOf_snoc HAA.out, HS.out, addHead, newHead, HX1.out]; rfl)
            go_wp2_with (go_at_call 67; refine (D0 _).mono ?_; rintro e w3 ⟨rfl, hb⟩; have HB3 := Lib.hid (b1 hb); clear hb)
            go_roundg g
            case rel => exact ⟨j + 1, by omega, by go_num, Lib.hid (by rw [HT.out]; exact HO.out.keep HB3.out), Lib.hid (bnext HX2.out HB3.out)⟩
            case measure => omega
        · have hjn : j = NA := by omega
          have HO' := HO.out
          rw [List.take_of_length_le (by rw [hNA.out, hjn]; exact Nat.le_refl _)] at HO'
          obtain ⟨hs, HS⟩ : ∃ hs, Hid (headsOf ahead i = hs) := ⟨_, Lib.hid rfl⟩
          rw [HS.out] at HO'
          have HSL := Lib.hid (show hs.length ≤ 1000 from by
            rw [← HS.out]
            have := headsOf_len i ahead []
            have h2 := hNA.out
            unfold headsOf
            simp only [List.length_nil] at this
            omega)
          clear HO
          obtain ⟨hao, hcp, e⟩ := HO'.val
          subst e
          have HO := Lib.hid HO'
          clear HO'
          have hzr := HX2.out.size
          have HRES2 := Lib.hid (show (if whole C hs then hs else [anyNd]) = RES from by rw [← HRES.out, heads, HX.out, HS.out]; rfl)
          by_cases hnil : hs = []
          · subst hnil
            go_wp2_with (go_at_call 24; refine (C1 _).mono ?_; rintro e w3 ⟨rfl, hb⟩; have HB3 := Lib.hid hb; clear hb)
            go_ret
            refine ⟨_, rfl, ?_, bnext HB.out (bnext HX2.out (bnext HB3.out (balloc _ _)))⟩
            rw [← HRES2.out]
            exact any_row _ _ _ (.inr (by have := HB.out.size; have := HB3.out.size; omega))
          · obtain ⟨h0, t0, hcons⟩ : ∃ h0 t0, hs = h0 :: t0 := by
              cases hs with
              | nil => exact absurd rfl hnil
              | cons a l => exact ⟨a, l, rfl⟩
            obtain ⟨hbk, hof, hcp2, hve, hcl, hhlt, hcells⟩ := HO.out.row.open_ hnil
            cases hve
            obtain ⟨q0, hL0, _⟩ := hcells 0 h0 (by rw [hcons]; rfl)
            rw [Nat.zero_mul, Nat.add_zero] at hL0
            obtain ⟨x0, x1, x2, x3, x4, x5⟩ := hL0
            have hpos : 0 < hs.length := List.length_pos_iff.2 hnil
            have hle := HSL.out
            have HW := Lib.hid (show whole C hs = (h0.k == 5 && manyOf C h0.s == hs.length) from by rw [hcons]; rfl)
            clear hcells hnil hcons
            have HK := Lib.hid (show h0.k = h0.k ∧ h0.s = h0.s from ⟨rfl, rfl⟩)
            generalize hk0 : h0.k = kk at *
            generalize hs0 : h0.s = ss at *
            obtain ⟨L, hL⟩ : ∃ L, Hid (hs.length = L) := ⟨_, Lib.hid rfl⟩
            rw [hL.out] at hpos hle hcl HW ⊢
            clear hk0 hs0
            have p0 : (0 : Int) < (L : Int) := by omega
            have p1 : (0 : Int) ≤ (L : Int) := by omega
            have FF := Lib.hid (((HF.out.keep HB.out).keep HX2.out))
            have C2 := fun (w' : World) (h : CK.Fd w' (.func (.func 38) #[] #[.pointer (some ⟨c, 0, none⟩)]) C c) => find_c C ss c _ w' h
            cases h5 : (kk == 5)
            · rw [h5] at HW
              go_wp2_with (go_at_call 24; refine (C1 _).mono ?_; rintro e w3 ⟨rfl, hb⟩; have HB3 := Lib.hid hb; clear hb)
              go_ret
              refine ⟨_, rfl, ?_, bnext HB.out (bnext HX2.out (bnext HB3.out (balloc _ _)))⟩
              rw [← HRES2.out, HW.out]
              exact any_row _ _ _ (.inr (by have := HB.out.size; have := HB3.out.size; omega))
            · rw [h5] at HW
              have HMM := Lib.hid (show manyOf C ss = ((conOf C ss).getD zeroCn).many from by unfold manyOf; cases conOf C ss <;> rfl)
              obtain ⟨⟨nm, of, tg, ar, mn⟩, hK⟩ : ∃ K, Hid ((conOf C ss).getD zeroCn = K) := ⟨_, Lib.hid rfl⟩
              rw [hK.out] at C2 HMM
              unfold cv at C2
              simp only at C2
              obtain ⟨XS, hXS⟩ : ∃ X, Hid ((conOf C ss).isSome = X) := ⟨_, Lib.hid rfl⟩
              rw [hXS.out] at C2
              have HEQ := Lib.hid (show ((mn : Int) == (L : Int)) = (manyOf C ss == L) from by rw [HMM.out, Bool.eq_iff_iff]; simp; omega)
              cases h6 : ((mn : Int) == (L : Int))
              · rw [← HEQ.out, h6] at HW
                go_wp2_with (first | (go_at_call 38; refine (C2 _ FF.out).mono ?_; rintro e w4 ⟨rfl, hb⟩; have HB4 := Lib.hid hb; clear hb) | (go_at_call 24; refine (C1 _).mono ?_; rintro e w3 ⟨rfl, hb⟩; have HB3 := Lib.hid hb; clear hb))
                go_ret
                refine ⟨_, rfl, ?_, bnext HB.out (bnext HX2.out (bnext HB4.out (bnext (balloc _ _) (bnext HB3.out (balloc _ _)))))⟩
                rw [← HRES2.out, HW.out]
                exact any_row _ _ _ (.inr (by have := HB.out.size; have := HB3.out.size; have := HB4.out.size; simp at *; omega))
              · rw [← HEQ.out, h6] at HW
                go_wp2_with (first | (go_at_call 38; refine (C2 _ FF.out).mono ?_; rintro e w4 ⟨rfl, hb⟩; have HB4 := Lib.hid hb; clear hb))
                go_ret
                refine ⟨_, rfl, ?_, bnext HB.out (bnext HX2.out (bnext HB4.out (balloc _ _)))⟩
                rw [← HRES2.out, HW.out]
                have hrow := ((HO.out.keep HB4.out).keep (balloc w4 (.cells #[.string ⟨nm.toArray⟩, .string ⟨of.toArray⟩, .int .i64 (tg : Int), .int .i64 (ar : Int), .int .i64 (mn : Int)] 54))).row
                rw [hL.out] at hrow
                exact hrow.mv (Mv.weak _ fun b h _ => by rcases h with h | h; exact .inl h; exact .inr (Nat.le_trans HB.out.size h))
end Go.Proofs.Ytommaomhiaaphaa.CI
