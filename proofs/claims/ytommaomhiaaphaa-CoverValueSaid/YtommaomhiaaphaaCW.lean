/- Check: the walk. -/
import Derived.Test.YtommaomhiaaphaaCT
import Derived.Test.YtommaomhiaaphaaCV
namespace Go.Proofs.Ytommaomhiaaphaa.CW
open Go.RowKit Go.Proofs.Ytommaomhiaaphaa.CA Go.Proofs.Ytommaomhiaaphaa.CB Go.Proofs.Ytommaomhiaaphaa.CC Go.Proofs.Ytommaomhiaaphaa.CD Go.Proofs.Ytommaomhiaaphaa.CE Go.Proofs.Ytommaomhiaaphaa.CF Go.Proofs.Ytommaomhiaaphaa.CG Go.Proofs.Ytommaomhiaaphaa.CH Go.Proofs.Ytommaomhiaaphaa.CK Go.Proofs.Ytommaomhiaaphaa.CI Go.Proofs.Ytommaomhiaaphaa.CL Go.Proofs.Ytommaomhiaaphaa.CO Go.Proofs.Ytommaomhiaaphaa.CT Go.Proofs.Ytommaomhiaaphaa.CU Go.Proofs.Ytommaomhiaaphaa.CV
set_option linter.unusedVariables false
set_option maxRecDepth 100000

def sing (rows : List Nd) : List (List Nd) := rows.map fun p => [p]
/-- What Check tells. -/
def Told (C : List Cn) (rows : List Nd) (n e : Int) : Prop :=
  (mayB C rows = false ∧ n = 0 ∧ e = 1) ∨ (mayB C rows = true ∧ ∃ t, CA.Good C t ∧ (∀ p, p ∈ rows → Conf C t p) ∧
    ((∃ (i : Nat) (p : Nd), rows[i]? = some p ∧ n = (i : Int) ∧ e = 27 ∧ ¬ Useful C [t] [p] (sing (rows.take i)) ∧ ∀ (j : Nat) (q : Nd), j < i → rows[j]? = some q → Useful C [t] [q] (sing (rows.take j))) ∨
     ((∀ (j : Nat) (q : Nd), rows[j]? = some q → Useful C [t] [q] (sing (rows.take j))) ∧ n = 0 ∧ ((e = 26 ∧ Useful C [t] [anyNd] (sing rows)) ∨ (e = 0 ∧ ¬ Useful C [t] [anyNd] (sing rows))))))
def ToldRes (w : World) (C : List Cn) (rows : List Nd) (x : Ending) (w' : World) : Prop := ∃ n e : Int, x = .returned (.tuple #[.int .i64 n, .int .i64 e]) ∧ Told C rows n e ∧ Below w.heap.size w w'
mutual
theorem cnt_sz : ∀ p : Nd, cnt p ≤ sz p
  | .mk k n s l => by
    have := cntL_sz l
    unfold cnt sz
    split <;> omega
theorem cntL_sz : ∀ l : List Nd, cntL l ≤ szL l
  | [] => Nat.le_refl _
  | p :: l => by
    have := cnt_sz p
    have := cntL_sz l
    simp only [cntL, szL]; omega
end
theorem cntR_sing : ∀ (l : List Nd), (∀ p, p ∈ l → sz p ≤ 5000) → cntR (sing l) ≤ 5000 * l.length
  | [], _ => Nat.le_refl _
  | p :: l, h => by
    have h1 := cntR_sing l fun q hq => h q (List.mem_cons_of_mem _ hq)
    have h2 := h p List.mem_cons_self
    have h3 := cnt_sz p
    have e : cntR (sing (p :: l)) = cntL [p] + cntR (sing l) := rfl
    have e2 : cntL [p] = cnt p := by simp [cntL]
    rw [e, e2]; simp only [List.length_cons]; omega
theorem meas_sing {p : Nd} {l : List Nd} (hp : sz p ≤ 5000) (h : ∀ q, q ∈ l → sz q ≤ 5000) (hl : l.length ≤ 20) : meas [p] (sing l) < 700000 := by
  have h1 := cntR_sing l h
  have h3 := cnt_sz p
  have e2 : cntL [p] = cnt p := by simp [cntL]
  unfold meas
  rw [e2]; simp only [List.length_cons, List.length_nil]; omega
theorem mx_sing {C : List Cn} {t : Ty} {p : Nd} {l : List Nd} (hg : CA.Good C t) (hp : Conf C t p) (hl : ∀ q, q ∈ l → Conf C t q) : Mx C [t] [p] (sing l) :=
  ⟨⟨hp, trivial⟩, fun a ha => by
    obtain ⟨q, hq, rfl⟩ := List.mem_map.1 ha
    exact ⟨hl q hq, trivial⟩, fun u hu => by rw [List.mem_singleton.1 hu]; exact hg⟩
theorem sing_snoc {rows : List Nd} {j : Nat} {p : Nd} (h : rows[j]? = some p) : sing (rows.take (j + 1)) = sing (rows.take j) ++ [[p]] := by
  have e : rows.take (j + 1) = rows.take j ++ [p] := by rw [List.take_add_one, h]; rfl
  unfold sing; rw [e, List.map_append]; rfl
theorem row_new (w : World) (k n : Int) (s : By) (l : List Nd) (q : Value) (T : Nat → Prop) (t : TypeId) (hT : T w.heap.size) (hq : HasN w T (.mk k n s l) q) : RowN (w.alloc (.cells #[.int .i64 k, .string ⟨s.toArray⟩, .int .i64 n, .int .i64 0, .slice none 0 0, q] t)) T (.slice (some ⟨w.heap.size, 0, none⟩) 1 1) [.mk k n s l] :=
  ⟨[q], ⟨_, 1, rfl, Nat.le_refl _, .inr ⟨w.heap.size, 0, rfl, ⟨hT, by simp⟩, fun j u hj => ncells_new w (.mk k n s l) q t j u (by simpa [nrow] using hj)⟩⟩, HasN.keep (balloc w _) _ _ hq, trivial⟩
theorem together_eq {C : List Cn} (k n : Int) (s : By) (l : List Nd) (k' n' : Int) (s' : By) (l' : List Nd) : together C (.mk k n s l) (.mk k' n' s' l') = (if (anyB (.mk k n s l) || anyB (.mk k' n' s' l')) = true then true else if k ≠ k' then false else if k = 1 then true else if ((conOf C s).getD zeroCn).of ≠ ((conOf C s').getD zeroCn).of then false else if ((conOf C s).getD zeroCn).nm = ((conOf C s').getD zeroCn).nm then togL C l l' else true) := by
  unfold together; rfl
mutual
theorem together_symm {C : List Cn} : ∀ (p q : Nd), Fm C p → Fm C q → together C p q = true → together C q p = true
  | .mk k n s l, .mk k' n' s' l', hp, hq, h => by
    rw [together_eq] at h ⊢
    by_cases ha : anyB (.mk k n s l) || anyB (.mk k' n' s' l')
    · rw [if_pos (by rw [Bool.or_comm]; exact ha)]
    · rw [if_neg ha] at h
      rw [if_neg (by rw [Bool.or_comm]; exact ha)]
      by_cases hk : k = k'
      · subst hk
        have e1 : ¬ (k ≠ k) := fun h => h rfl
        rw [if_neg e1] at h ⊢
        by_cases h1 : k = 1
        · rw [if_pos h1]
        · rw [if_neg h1] at h ⊢
          by_cases ho : ((conOf C s).getD zeroCn).of = ((conOf C s').getD zeroCn).of
          · rw [if_neg (fun h => h ho)] at h
            rw [if_neg (fun h => h ho.symm)]
            by_cases hn : ((conOf C s).getD zeroCn).nm = ((conOf C s').getD zeroCn).nm
            · rw [if_pos hn] at h
              rw [if_pos hn.symm]
              refine togL_symm l l' hp.2 hq.2 ?_ h
              rcases hp.cases with h' | h' | ⟨k5, _, c, hc, _, hcn, hl⟩
              · simp [h'.1] at ha
              · exact absurd h'.1 h1
              · rcases hq.cases with h'' | h'' | ⟨_, _, d, hd, _, hdn, hl'⟩
                · simp [h''.1] at ha
                · exact absurd h''.1 h1
                · have hc : conOf C s = some c := hc
                  have hd : conOf C s' = some d := hd
                  have hcn : c.nm = s := hcn
                  have hdn : d.nm = s' := hdn
                  rw [hc, hd] at hn
                  simp only [Option.getD_some] at hn
                  have e : s = s' := by rw [← hcn, ← hdn, hn]
                  rw [e, hd] at hc
                  have hl : l.length = c.ar := hl
                  have hl' : l'.length = d.ar := hl'
                  rw [hl, hl', Option.some.inj hc]
            · rw [if_neg fun e => hn e.symm]
          · rw [if_pos ho] at h; cases h
      · rw [if_pos hk] at h; cases h
theorem togL_symm {C : List Cn} : ∀ (l m : List Nd), FmL C l → FmL C m → l.length = m.length → togL C l m = true → togL C m l = true
  | [], [], _, _, _, _ => rfl
  | p :: l, q :: m, hl, hm, he, h => by
    simp only [togL, Bool.and_eq_true] at h ⊢
    exact ⟨together_symm p q hl.1 hm.1 h.1, togL_symm l m hl.2 hm.2 (by simpa using he) h.2⟩
  | [], _ :: _, _, _, he, _ => by simp at he
  | _ :: _, [], _, _, he, _ => by simp at he
end
theorem pair_all {R : Nd → Nd → Prop} (hs : ∀ a b, R a b → R b a) (hr : ∀ a, R a a) : ∀ {l : List Nd}, l.Pairwise R → ∀ a b, a ∈ l → b ∈ l → R a b
  | x :: l, h, a, b, ha, hb => by
    rw [List.pairwise_cons] at h
    rcases List.mem_cons.1 ha with ha | ha
    · rcases List.mem_cons.1 hb with hb | hb
      · rw [ha, hb]; exact hr _
      · rw [ha]; exact h.1 b hb
    · rcases List.mem_cons.1 hb with hb | hb
      · rw [hb]; exact hs _ _ (h.1 a ha)
      · exact pair_all hs hr h.2 a b ha hb
theorem type_rows {C : List Cn} {rows : List Nd} (Sd : Sound C) (h : Ok C rows) : ∃ t, CA.Good C t ∧ ∀ p, p ∈ rows → Conf C t p := by
  have hf : ∀ p, p ∈ rows → Fm C p := fun p hp => room_fm p 30 (h.1 p hp)
  refine type_of Sd (szL rows) rows (Nat.le_refl _) hf fun p q hp hq => ?_
  have h2 : rows.Pairwise fun a b => (Fm C a ∧ Fm C b → together C a b = true) := List.Pairwise.imp (R := fun a b => together C a b = true) (S := fun a b => (Fm C a ∧ Fm C b → together C a b = true)) (fun {a b} h _ => h) h.2
  exact pair_all (R := fun a b => Fm C a ∧ Fm C b → together C a b = true) (fun a b hab hf => together_symm a b hf.2 hf.1 (hab ⟨hf.2, hf.1⟩)) (fun a _ => together_self a) h2 p q hp hq ⟨hf p hp, hf q hq⟩
/-- Constructors that are handed in. -/
structure ConsIn (w : World) (v : Value) (C : List Cn) : Prop where
  row : RowC w v C
  ok : Sound C
  few : C.length ≤ 1000
  snd : ∀ w', Below w.heap.size w w' → Calls Try.prog 21 #[v] w' fun e w2 => e = .returned (.bool true) ∧ Below w'.heap.size w' w2
set_option maxRecDepth 100000 in
set_option maxHeartbeats 8000000 in
theorem check_c (C : List Cn) (rows : List Nd) (rv cvv : Value) (w : World) (hc : ConsIn w cvv C) (hr : RowN w Any rv rows) (hn : rows.length ≤ 1000000) (hs : ∀ p, p ∈ rows → sz p ≤ 5000) :
    Calls Try.prog 7 #[rv, cvv] w (ToldRes w C rows) := by
  have C0 := finds_c C cvv w hc.row hc.ok.names hc.few
  have HCS := Lib.hid hc
  have HR := Lib.hid hr
  have HSZ := Lib.hid hs
  obtain ⟨X, HX⟩ : ∃ X, Hid (mayB C rows = X) := ⟨_, Lib.hid rfl⟩
  have CM := fun (c : Nat) (f : Value) (w' : World) (h1 : CK.Fd w' f C c) (h2 : RowN w' Any rv rows) => may_c C c f rows rv w' h1 h2 hn (fun p hp => by have := hs p hp; omega)
  rw [HX.out] at CM
  clear hc hr hs
  go_enter Try.func7, Try.ntmps7
  go_wp2_with fail
  refine C0.mono ?_
  rintro e w1 ⟨f, c, rfl, hf, hb1⟩
  have HF1 := Lib.hid hf
  have HB1 := Lib.hid hb1
  clear hf hb1 C0
  go_wp2_with fail
  refine (HCS.out.snd _ HB1.out).mono ?_
  rintro e w2 ⟨rfl, hb2⟩
  have HF2 := Lib.hid (HF1.out.keep hb2)
  have HB2 := Lib.hid (bnext HB1.out hb2)
  clear hb2
  go_wp2_with fail
  refine (CM c f _ HF2.out (HR.out.keep HB2.out)).mono ?_
  rintro e w3 ⟨rfl, hb3⟩
  have HF3 := Lib.hid (HF2.out.keep hb3)
  have HB3 := Lib.hid (bnext HB2.out hb3)
  clear hb3 CM
  cases X
  · go_wp2_with fail
    go_ret2
    exact ⟨0, 1, rfl, .inl ⟨HX.out, rfl, rfl⟩, HB3.out⟩
  · obtain ⟨h20, hok⟩ := may_iff.1 HX.out
    obtain ⟨t, hg, hct⟩ := type_rows HCS.out.ok hok
    have HG := Lib.hid hg
    have HCT := Lib.hid hct
    have A0 := fun (q : Nd) (j : Nat) (hq : Conf C t q) (hqs : sz q ≤ 5000) (rv' av' : Value) (w' : World) (h1 : CK.Fd w' f C c) (h2 : RowN w' Any rv' [q]) (h3 : RowsN w' Any av' (sing (rows.take j))) =>
      adds_c C HCS.out.ok c f 700000 (by omega) [t] [q] (sing (rows.take j)) rv' av' w' h1 h2 h3 (mx_sing HG.out hq fun p hp => HCT.out p (List.mem_of_mem_take hp)) (meas_sing hqs (fun p hp => HSZ.out p (List.mem_of_mem_take hp)) (by simp; omega)) (by unfold sing; simp; omega)
    have HOK := Lib.hid hok
    clear hok hg hct hn
    have C9 := fun w => anything_c w
    by_cases hnil : rows = []
    · subst hnil
      obtain ⟨ao, cap, rfl, _⟩ := HR.out.val
      obtain ⟨U, hU⟩ : ∃ U, Hid (usefulB C [t] [anyNd] [] = U) := ⟨_, Lib.hid rfl⟩
      have A1 := A0 anyNd 0 (Conf.any t rfl rfl) (by decide)
      rw [show sing ([].take 0) = [] from rfl, hU.out] at A1
      clear A0
      go_wp2_with fail
      refine wp_loop_rounds 1 ?_
      rw [rounds_succ]
      go_wp2_with fail
      refine (C9 _).mono ?_
      rintro e w5 ⟨rfl, hb5⟩
      have HB5 := Lib.hid (bnext HB3.out (bnext hb5 (balloc w5 (.cells #[.int .i64 24, .string ⟨#[]⟩, .int .i64 0, .int .i64 0, .slice none 0 0, .slice none 0 0] 38))))
      have HF5 := Lib.hid (HF3.out.keep (bnext hb5 (balloc w5 (.cells #[.int .i64 24, .string ⟨#[]⟩, .int .i64 0, .int .i64 0, .slice none 0 0, .slice none 0 0] 38))))
      have HRW := Lib.hid (any_row w5 Any 38 trivial)
      have HRS := Lib.hid (show RowsN (w5.alloc (.cells #[.int .i64 24, .string ⟨#[]⟩, .int .i64 0, .int .i64 0, .slice none 0 0, .slice none 0 0] 38)) Any (.slice none 0 0) [] from ⟨[], ⟨none, 0, rfl, Nat.le_refl _, .inl rfl⟩, trivial⟩)
      clear hb5
      go_wp2_with fail
      refine (A1 _ _ _ HF5.out HRW.out HRS.out).mono ?_
      rintro e w6 ⟨rfl, hb6⟩
      cases U
      · go_wp2_with fail
        go_ret2
        exact ⟨0, 0, rfl, .inr ⟨HX.out, t, HG.out, HCT.out, .inr ⟨fun j q hq => by simp at hq, rfl, .inr ⟨rfl, usefulB_no.1 hU.out⟩⟩⟩, bnext HB5.out hb6⟩
      · go_wp2_with fail
        go_ret2
        exact ⟨0, 26, rfl, .inr ⟨HX.out, t, HG.out, HCT.out, .inr ⟨fun j q hq => by simp at hq, rfl, .inl ⟨rfl, usefulB_iff.1 hU.out⟩⟩⟩, bnext HB5.out hb6⟩
    · obtain ⟨b, off, cap, rfl, hcap, hlt, hcells⟩ := HR.out.open_ hnil
      have HC := Lib.hid hcells
      obtain ⟨N, hN⟩ : ∃ N, Hid (rows.length = N) := ⟨_, Lib.hid rfl⟩
      rw [hN.out] at hcap h20 ⊢
      clear hcells hnil
      go_wp2_with fail
      obtain ⟨B, hB⟩ : ∃ B, Hid (w3.heap.size = B) := ⟨_, Lib.hid rfl⟩
      go_loopg [7, 23] N (fun g lv jv wr => ∃ j : Nat, j + g = N ∧ jv = .int .i64 (j : Int) ∧ Hid (OwnRs wr B Any lv (sing (rows.take j))) ∧ Hid (∀ (i : Nat) q, i < j → rows[i]? = some q → Useful C [t] [q] (sing (rows.take i))) ∧ Hid (Below w3.heap.size w3 wr))
      case atStart => exact ⟨0, Nat.zero_add _, rfl, Lib.hid (OwnRs.nil _ _ _), Lib.hid (fun i q hi _ => by omega), Lib.hid (Below.refl _ _)⟩
      case round =>
        obtain ⟨j, hj, rfl, HO, HU, HY⟩ := hrel
        by_cases hlt2 : j < N
        · obtain ⟨g, rfl⟩ : ∃ g, gk = g + 1 := ⟨gk - 1, by omega⟩
          obtain ⟨p, hp⟩ := getElem?_of_lt (l := rows) (k := j) (by rw [hN.out]; exact hlt2)
          obtain ⟨q, hLs, hq⟩ := HC.out j p hp
          obtain ⟨qa, ql, qc, rfl⟩ := hasN_shape hq
          have hmem := List.mem_of_getElem? hp
          have A1 := A0 p j (HCT.out p hmem) (HSZ.out p hmem)
          obtain ⟨U, hU⟩ : ∃ U, Hid (usefulB C [t] [p] (sing (rows.take j)) = U) := ⟨_, Lib.hid rfl⟩
          rw [hU.out] at A1
          have HP := Lib.hid hp
          have HQ := Lib.hid (HasN.mv (Mv.weak w (S' := fun b => b < w.heap.size) fun b _ h => h) _ _ hq)
          have HSN := Lib.hid (sing_snoc hp)
          have HBW := Lib.hid (bnext HB3.out HY.out)
          obtain ⟨x0, x1, x2, x3, x4, x5⟩ := hLs.keep HBW.out hlt
          obtain ⟨k1, n1, s1, l1⟩ := p
          simp only [Nd.k, Nd.n, Nd.s] at x0 x1 x2
          have i0 : (0 : Int) ≤ (j : Int) := by omega
          have i1 : (j : Int) < (N : Int) := by omega
          have HW5 := Lib.hid (balloc wr (.cells #[.int .i64 k1, .string ⟨s1.toArray⟩, .int .i64 n1, .int .i64 0, .slice none 0 0, .slice qa ql qc] 38))
          have HW6 := Lib.hid (bnext HW5.out (balloc _ (.cells #[.int .i64 k1, .string ⟨s1.toArray⟩, .int .i64 n1, .int .i64 0, .slice none 0 0, .slice qa ql qc] 38)))
          have HRN := Lib.hid (row_new (wr.alloc (.cells #[.int .i64 k1, .string ⟨s1.toArray⟩, .int .i64 n1, .int .i64 0, .slice none 0 0, .slice qa ql qc] 38)) k1 n1 s1 l1 (.slice qa ql qc) Any 38 trivial (HasN.mv (Mv.weak _ fun _ _ _ => trivial) _ _ (HasN.keep (bnext HBW.out HW5.out) _ _ HQ.out)))
          have HBX := Lib.hid ((Bx.new wr k1 n1 s1 (.slice qa ql qc) 38).keep (balloc _ (.cells #[.int .i64 k1, .string ⟨s1.toArray⟩, .int .i64 n1, .int .i64 0, .slice none 0 0, .slice qa ql qc] 38)))
          rw [World.size_alloc] at HRN
          clear hLs hq hp hmem
          go_wp2_with fail
          refine (A1 _ _ _ (HF3.out.keep (bnext HY.out HW6.out)) HRN.out ((HO.out.keep HW6.out).rows.mv (Mv.weak _ fun _ _ _ => trivial))).mono ?_
          rintro e w7 ⟨rfl, hb7⟩
          have HW7 := Lib.hid (bnext HW6.out hb7)
          have HBX7 := Lib.hid (HBX.out.keep hb7)
          clear hb7 x0 x1 x2 x3 x4 x5
          cases U
          · go_wp2_with fail
            go_ret2
            exact ⟨(j : Int), 27, rfl, .inr ⟨HX.out, t, HG.out, HCT.out, .inl ⟨j, _, HP.out, rfl, rfl, usefulB_no.1 hU.out, HU.out⟩⟩, bnext HBW.out HW7.out⟩
          · obtain ⟨hl7, y0, y1, y2, y3, y4, y5⟩ := HBX7.out
            have HO7 := Lib.hid (HO.out.keep HW7.out)
            have HB37 := Lib.hid (bnext HY.out HW7.out)
            have HTT := Lib.hid (show HasN w7 (fun b => Any b ∧ u7.ownBlock ≠ some b) (.mk k1 n1 s1 l1) (.slice qa ql qc) from HasN.mv (Mv.weak w7 fun b h _ => ⟨trivial, fun e => by have h1 := (HO7.out.own e).1; have h2 := HB3.out.size; have h3 := hB.out; have h4 : b < w.heap.size := h; omega⟩) _ _ (HasN.keep (bnext HBW.out HW7.out) _ _ HQ.out))
            have HR8 := Lib.hid ((row_new w7 k1 n1 s1 l1 (.slice qa ql qc) (fun b => Any b ∧ u7.ownBlock ≠ some b) 38 ⟨trivial, fun e => by have := (HO7.out.own e).2; omega⟩ HTT.out).keep (balloc _ (.cells #[.slice (some ⟨w7.heap.size, 0, none⟩) 1 1] 62)))
            have HO9 := Lib.hid ((HO7.out.keep (balloc w7 (.cells #[.int .i64 k1, .string ⟨s1.toArray⟩, .int .i64 n1, .int .i64 0, .slice none 0 0, .slice qa ql qc] 38))).keep (balloc _ (.cells #[.slice (some ⟨w7.heap.size, 0, none⟩) 1 1] 62)))
            have hce := cell_one (w7.alloc (.cells #[.int .i64 k1, .string ⟨s1.toArray⟩, .int .i64 n1, .int .i64 0, .slice none 0 0, .slice qa ql qc] 38)) (.slice (some ⟨w7.heap.size, 0, none⟩) 1 1) 62
            rw [World.size_alloc] at hce
            have HCE := Lib.hid hce
            have HB39 := Lib.hid (bnext HB37.out (bnext (balloc w7 (.cells #[.int .i64 k1, .string ⟨s1.toArray⟩, .int .i64 n1, .int .i64 0, .slice none 0 0, .slice qa ql qc] 38)) (balloc _ (.cells #[.slice (some ⟨w7.heap.size, 0, none⟩) 1 1] 62))))
            have hLJ : (sing (rows.take j)).length ≤ 10000 := by unfold sing; simp; omega
            have HLJ := Lib.hid hLJ
            clear hce hLJ
            go_wp2_with (at_builtin; go_loud (refine wpList_rows _ rfl (.tmp 35) (.tmp 38) rfl B Any u7 (sing (rows.take j)) [.mk k1 n1 s1 l1] (.slice (some ⟨w7.heap.size, 0, none⟩) 1 1) (w7.heap.size + 1) rfl rfl HO9.out HCE.out HR8.out HLJ.out (by rw [← hB.out]; exact HB39.out.size) ?_); intro g3 cap3 w10 hO10 hg10; have HO10 := Lib.hid hO10; have HG10 := Lib.hid hg10; clear hO10 hg10)
            go_roundg g
            case rel =>
              refine ⟨j + 1, by omega, by go_num, Lib.hid (by rw [HSN.out]; exact HO10.out), Lib.hid ?_, Lib.hid (HB39.out.trans (bgrown HG10.out (fun x hx => by rw [hB.out]; exact (HO9.out.own hx).1) HB39.out.size))⟩
              intro i q hi hq
              by_cases hij : i = j
              · subst hij
                rw [HP.out] at hq
                cases hq
                exact usefulB_iff.1 hU.out
              · exact HU.out i q (by omega) hq
            case measure => omega
        · have hjn : j = N := by omega
          have hall := HO.out
          rw [List.take_of_length_le (by rw [hN.out, hjn]; exact Nat.le_refl _)] at hall
          have HALL := Lib.hid hall
          obtain ⟨ao5, cp5, e⟩ := hall.val
          have hUU : ∀ (i : Nat) q, rows[i]? = some q → Useful C [t] [q] (sing (rows.take i)) := fun i q hq => HU.out i q (by have := (List.getElem?_eq_some_iff.1 hq).1; have := hN.out; omega) hq
          have HUU := Lib.hid hUU
          obtain ⟨U, hU⟩ : ∃ U, Hid (usefulB C [t] [anyNd] (sing rows) = U) := ⟨_, Lib.hid rfl⟩
          have A1 := A0 anyNd N (Conf.any t rfl rfl) (by decide)
          rw [List.take_of_length_le (by rw [hN.out]; exact Nat.le_refl _), hU.out] at A1
          clear A0 hall e hUU
          go_wp2_with fail
          refine (C9 _).mono ?_
          rintro e w5 ⟨rfl, hb5⟩
          have hal5 := balloc w5 (.cells #[.int .i64 24, .string ⟨#[]⟩, .int .i64 0, .int .i64 0, .slice none 0 0, .slice none 0 0] 38)
          have HB5 := Lib.hid (bnext HY.out (bnext hb5 hal5))
          have HF5 := Lib.hid (HF3.out.keep HB5.out)
          have HRW := Lib.hid (any_row w5 Any 38 trivial)
          have HRS := Lib.hid (((HALL.out.keep hb5).keep hal5).rows.mv (Mv.weak _ (S' := Any) fun _ _ _ => trivial))
          clear hb5 hal5
          go_wp2_with fail
          refine (A1 _ _ _ HF5.out HRW.out HRS.out).mono ?_
          rintro e w6 ⟨rfl, hb6⟩
          cases U
          · go_wp2_with fail
            go_ret2
            exact ⟨0, 0, rfl, .inr ⟨HX.out, t, HG.out, HCT.out, .inr ⟨HUU.out, rfl, .inr ⟨rfl, usefulB_no.1 hU.out⟩⟩⟩, bnext HB3.out (bnext HB5.out hb6)⟩
          · go_wp2_with fail
            go_ret2
            exact ⟨0, 26, rfl, .inr ⟨HX.out, t, HG.out, HCT.out, .inr ⟨HUU.out, rfl, .inl ⟨rfl, usefulB_iff.1 hU.out⟩⟩⟩, bnext HB3.out (bnext HB5.out hb6)⟩
end Go.Proofs.Ytommaomhiaaphaa.CW
