/- Whether rows may be handed in: the walk. -/
import Derived.Test.YtommaomhiaaphaaCQ
import Derived.Test.YtommaomhiaaphaaCS
namespace Go.Proofs.Ytommaomhiaaphaa.CT
open Go.RowKit Go.Proofs.Ytommaomhiaaphaa.CA Go.Proofs.Ytommaomhiaaphaa.CB Go.Proofs.Ytommaomhiaaphaa.CC Go.Proofs.Ytommaomhiaaphaa.CD Go.Proofs.Ytommaomhiaaphaa.CE Go.Proofs.Ytommaomhiaaphaa.CF Go.Proofs.Ytommaomhiaaphaa.CG Go.Proofs.Ytommaomhiaaphaa.CH Go.Proofs.Ytommaomhiaaphaa.CK Go.Proofs.Ytommaomhiaaphaa.CI Go.Proofs.Ytommaomhiaaphaa.CL Go.Proofs.Ytommaomhiaaphaa.CO Go.Proofs.Ytommaomhiaaphaa.CP Go.Proofs.Ytommaomhiaaphaa.CQ Go.Proofs.Ytommaomhiaaphaa.CS
set_option linter.unusedVariables false
set_option maxRecDepth 100000
variable {S : Nat → Prop}

theorem pairs_iff {C : List Cn} : ∀ (rest done : List Nd), pairsFrom C done rest = true ↔ rest.Pairwise (fun a b => together C a b = true) ∧ ∀ a, a ∈ done → ∀ r, r ∈ rest → together C a r = true
  | [], done => by simp [pairsFrom]
  | r :: rest, done => by
    unfold pairsFrom
    rw [Bool.and_eq_true, pairs_iff rest (done ++ [r]), List.all_eq_true, List.pairwise_cons]
    constructor
    · rintro ⟨h1, h2, h3⟩
      refine ⟨⟨fun a ha => h3 r (by simp) a ha, h2⟩, fun a ha x hx => ?_⟩
      rcases List.mem_cons.1 hx with rfl | hx
      · exact h1 a ha
      · exact h3 a (List.mem_append_left _ ha) x hx
    · rintro ⟨⟨h1, h2⟩, h3⟩
      refine ⟨fun a ha => h3 a ha r List.mem_cons_self, h2, fun a ha x hx => ?_⟩
      rcases List.mem_append.1 ha with ha | ha
      · exact h3 a ha x (List.mem_cons_of_mem _ hx)
      · rw [List.mem_singleton.1 ha]; exact h1 x hx
def Ok (C : List Cn) (rows : List Nd) : Prop := (∀ p, p ∈ rows → 0 ≤ room C p 30) ∧ rows.Pairwise fun a b => together C a b = true
theorem may_iff {C : List Cn} {rows : List Nd} : mayB C rows = true ↔ rows.length ≤ 20 ∧ Ok C rows := by
  unfold mayB Ok
  rw [Bool.and_eq_true, Bool.and_eq_true, pairs_iff, List.all_eq_true]
  simp
theorem ok_snoc {C : List Cn} {rows : List Nd} {j : Nat} {p : Nd} (hp : rows[j]? = some p) : Ok C (rows.take (j + 1)) ↔ Ok C (rows.take j) ∧ 0 ≤ room C p 30 ∧ ∀ a, a ∈ rows.take j → together C a p = true := by
  have e : rows.take (j + 1) = rows.take j ++ [p] := by rw [List.take_add_one, hp]; rfl
  unfold Ok
  rw [e, List.pairwise_append]
  constructor
  · rintro ⟨h1, h2, _, h3⟩
    exact ⟨⟨fun q hq => h1 q (List.mem_append_left _ hq), h2⟩, h1 p (by simp), fun a ha => h3 a ha p (by simp)⟩
  · rintro ⟨⟨h1, h2⟩, h3, h4⟩
    refine ⟨fun q hq => ?_, h2, by simp, fun a ha b hb => ?_⟩
    · rcases List.mem_append.1 hq with hq | hq
      · exact h1 q hq
      · rw [List.mem_singleton.1 hq]; exact h3
    · rw [List.mem_singleton.1 hb]; exact h4 a ha
theorem ok_take {C : List Cn} {rows : List Nd} (h : Ok C rows) (j : Nat) : Ok C (rows.take j) :=
  ⟨fun p hp => h.1 p (List.mem_of_mem_take hp), h.2.sublist (List.take_sublist j rows)⟩
set_option maxRecDepth 100000 in
set_option maxHeartbeats 4000000 in
theorem may_c (C : List Cn) (c : Nat) (f : Value) (rows : List Nd) (rv : Value) (w : World) (hf : CK.Fd w f C c) (hr : RowN w Any rv rows) (hn : rows.length ≤ 1000000) (hs : ∀ p, p ∈ rows → sz p ≤ 800000) :
    Calls Try.prog 22 #[f, rv] w fun e w' => e = .returned (.bool (mayB C rows)) ∧ Below w.heap.size w w' := by
  obtain ⟨R, HR⟩ : ∃ R, Hid (mayB C rows = R) := ⟨_, Lib.hid rfl⟩
  rw [HR.out]
  have HNo := Lib.hid (fun (h : ¬ (rows.length ≤ 20 ∧ Ok C rows)) => show R = false from by rw [← HR.out, Bool.eq_false_iff]; exact fun e => h (may_iff.1 e))
  by_cases hnil : rows = []
  · subst hnil
    obtain ⟨ao, cap, rfl, _⟩ := hr.val
    have hR : R = true := by rw [← HR.out]; rfl
    go_enter Try.func22, Try.ntmps22
    go_wp2
    refine wp_loop_rounds 1 ?_
    rw [rounds_succ]
    go_wp2
    go_ret
    exact ⟨ret_bool hR.symm, Below.refl _ _⟩
  · obtain ⟨b, off, cap, rfl, hcap, hlt, hcells⟩ := hr.open_ hnil
    have HC := Lib.hid hcells
    have HF := Lib.hid hf
    have HSZ := Lib.hid hs
    obtain ⟨N, hN⟩ : ∃ N, Hid (rows.length = N) := ⟨_, Lib.hid rfl⟩
    rw [hN.out] at hn hcap ⊢
    clear hf hr hs hcells hnil
    by_cases h20 : 20 < N
    · have hL : (20 : Int) < (N : Int) := by omega
      go_enter Try.func22, Try.ntmps22
      go_wp2
      go_ret
      exact ⟨ret_bool (HNo.out (fun h => by have := h.1; have := hN.out; omega)).symm, Below.refl _ _⟩
    · have hL : ¬ (20 : Int) < (N : Int) := by omega
      go_enter Try.func22, Try.ntmps22
      go_wp2
      go_loopg [14] N (fun g jv wr => ∃ j : Nat, j + g = N ∧ jv = .int .i64 (j : Int) ∧ Hid (Ok C (rows.take j)) ∧ Hid (Below w.heap.size w wr))
      case atStart => exact ⟨0, Nat.zero_add _, rfl, Lib.hid ⟨fun p hp => by simp at hp, by simp⟩, Lib.hid (Below.refl _ _)⟩
      case round =>
        obtain ⟨j, hj, rfl, HO, HX⟩ := hrel
        by_cases hlt2 : j < N
        · obtain ⟨g1, rfl⟩ : ∃ g, gk = g + 1 := ⟨gk - 1, by omega⟩
          obtain ⟨wo, rfl⟩ : ∃ wo : World, wo = wr := ⟨_, rfl⟩
          obtain ⟨p, hp⟩ := getElem?_of_lt (l := rows) (k := j) (by rw [hN.out]; exact hlt2)
          obtain ⟨q, hLs, hq⟩ := HC.out j p hp
          obtain ⟨qa, ql, qc, rfl⟩ := hasN_shape hq
          have HP := Lib.hid hp
          have HQ := Lib.hid hq
          have hszp := HSZ.out p (List.mem_of_getElem? hp)
          obtain ⟨x0, x1, x2, x3, x4, x5⟩ := hLs.keep HX.out hlt
          have HSN := Lib.hid (ok_snoc (C := C) hp)
          obtain ⟨k1, n1, s1, l1⟩ := p
          simp only [Nd.k, Nd.n, Nd.s] at x0 x1 x2
          have C0 := fun (w' : World) (hb : Below w.heap.size w w') => room_c C c f 900000 (by omega) k1 n1 s1 l1 _ 30 w' (by omega) (HF.out.keep hb) (HasN.keep hb _ _ HQ.out) (by omega) (by omega)
          obtain ⟨z, hz⟩ : ∃ z, Hid (room C (.mk k1 n1 s1 l1) 30 = z) := ⟨_, Lib.hid rfl⟩
          rw [hz.out] at C0
          have i0 : (0 : Int) ≤ (j : Int) := by omega
          have i1 : (j : Int) < (N : Int) := by omega
          have i2 : (j : Int) ≤ (cap : Int) := by omega
          have HW1 := Lib.hid (bnext HX.out (balloc wo (.cells #[.int .i64 k1, .string ⟨s1.toArray⟩, .int .i64 n1, .int .i64 0, .slice none 0 0, .slice qa ql qc] 38)))
          have HBX := Lib.hid (Bx.new wo k1 n1 s1 (.slice qa ql qc) 38)
          clear hLs hq hp hszp
          by_cases hzz : z < 0
          · go_wp2_with (go_at_call 39; refine (C0 _ HW1.out).mono ?_; rintro e w3 ⟨rfl, hb⟩; have HB3 := Lib.hid (bnext HW1.out hb); clear hb)
            go_ret
            refine ⟨ret_bool (HNo.out fun h => ?_).symm, HB3.out⟩
            have := (HSN.out.1 (ok_take h.2 (j + 1))).2.1
            rw [hz.out] at this; omega
          · go_wp2_with (go_at_call 39; refine (C0 _ HW1.out).mono ?_; rintro e w3 ⟨rfl, hb⟩; have HB3 := Lib.hid (bnext HW1.out hb); have HBX3 := Lib.hid (HBX.out.keep hb); clear hb)
            have HRM := Lib.hid (show 0 ≤ room C (.mk k1 n1 s1 l1) 30 by rw [hz.out]; omega)
            clear x0 x1 x2 x3 x4 x5 C0
            generalize wo.heap.size = Bp at HBX3 ⊢
            go_loopg [27] j (fun g kv w5 => ∃ k : Nat, k + g = j ∧ kv = .int .i64 (k : Int) ∧ Hid (∀ a, a ∈ rows.take k → together C a (.mk k1 n1 s1 l1) = true) ∧ Hid (Below w.heap.size w w5) ∧ Hid (Bx w5 Bp k1 n1 s1 (.slice qa ql qc)))
            case atStart => exact ⟨0, Nat.zero_add _, rfl, Lib.hid (fun a ha => by simp at ha), HB3, HBX3⟩
            case round =>
              obtain ⟨k, hk, rfl, HT, HX5, HB5⟩ := hrel
              clear HBX3 HB3
              by_cases hlt3 : k < j
              · obtain ⟨g2, rfl⟩ : ∃ g, gk = g + 1 := ⟨gk - 1, by omega⟩
                obtain ⟨p2, hp2⟩ := getElem?_of_lt (l := rows) (k := k) (by rw [hN.out]; omega)
                obtain ⟨q2, hL2, hq2⟩ := HC.out k p2 hp2
                obtain ⟨qa2, ql2, qc2, rfl⟩ := hasN_shape hq2
                have hszp2 := HSZ.out p2 (List.mem_of_getElem? hp2)
                obtain ⟨x0, x1, x2, x3, x4, x5⟩ := hL2.keep HX5.out hlt
                have HTK := Lib.hid (show rows.take (k + 1) = rows.take k ++ [p2] from by rw [List.take_add_one, hp2]; rfl)
                have HMM := Lib.hid (show p2 ∈ rows.take j from List.mem_of_getElem? (i := k) (by rw [List.getElem?_take, if_pos hlt3]; exact hp2))
                have hfm := room_fm p2 30 (HO.out.1 p2 HMM.out)
                obtain ⟨k2, n2, s2, l2⟩ := p2
                simp only [Nd.k, Nd.n, Nd.s] at x0 x1 x2
                have C1 := fun (w' : World) (hb : Below w.heap.size w w') => together_c C c f 900000 (by omega) k2 n2 s2 l2 _ k1 n1 s1 l1 _ w' (by omega) hfm (room_fm _ 30 HRM.out) (HF.out.keep hb) (HasN.keep hb _ _ hq2) (HasN.keep hb _ _ HQ.out)
                obtain ⟨X, HX1⟩ : ∃ X, Hid (together C (.mk k2 n2 s2 l2) (.mk k1 n1 s1 l1) = X) := ⟨_, Lib.hid rfl⟩
                rw [HX1.out] at C1
                have HW6 := Lib.hid (bnext HX5.out (balloc wr (.cells #[.int .i64 k2, .string ⟨s2.toArray⟩, .int .i64 n2, .int .i64 0, .slice none 0 0, .slice qa2 ql2 qc2] 38)))
                have HB6 := Lib.hid (HB5.out.keep (balloc wr (.cells #[.int .i64 k2, .string ⟨s2.toArray⟩, .int .i64 n2, .int .i64 0, .slice none 0 0, .slice qa2 ql2 qc2] 38)))
                obtain ⟨hly, y0, y1, y2, y3, y4, y5⟩ := HB5.out
                have i3 : (0 : Int) ≤ (k : Int) := by omega
                have i4 : (k : Int) < (j : Int) := by omega
                clear hL2 hp2 hszp2
                cases X
                · go_wp2_with (go_at_call 40; refine (C1 _ HW6.out).mono ?_; rintro e w7 ⟨rfl, hb⟩; have HB7 := Lib.hid (bnext HW6.out hb); clear hb)
                  go_ret
                  refine ⟨ret_bool (HNo.out fun h => ?_).symm, HB7.out⟩
                  have := (HSN.out.1 (ok_take h.2 (j + 1))).2.2 _ HMM.out
                  rw [HX1.out] at this; cases this
                · go_wp2_with (go_at_call 40; refine (C1 _ HW6.out).mono ?_; rintro e w7 ⟨rfl, hb⟩; have HB7 := Lib.hid (bnext HW6.out hb); have HBX7 := Lib.hid (HB6.out.keep hb); clear hb)
                  go_roundg g2
                  case rel =>
                    refine ⟨k + 1, by omega, by go_num, Lib.hid ?_, HB7, HBX7⟩
                    rw [HTK.out]
                    intro a ha
                    rcases List.mem_append.1 ha with ha | ha
                    · exact HT.out a ha
                    · rw [List.mem_singleton.1 ha]; exact HX1.out
                  case measure => omega
              · have hkj : k = j := by omega
                go_wp2_with fail
                go_roundg g1
                case rel => exact ⟨j + 1, by omega, by go_num, Lib.hid (HSN.out.2 ⟨HO.out, HRM.out, by rw [← hkj]; exact HT.out⟩), HX5⟩
                case measure => omega
        · go_wp2_with fail
          go_ret
          refine ⟨ret_bool ?_, HX.out⟩
          rw [← HR.out]
          refine (may_iff.2 ⟨by rw [hN.out]; omega, ?_⟩).symm
          have := HO.out
          rw [List.take_of_length_le (by rw [hN.out]; omega)] at this; exact this
end Go.Proofs.Ytommaomhiaaphaa.CT
