/- Whether a row means something that none ahead does: the walk. -/
import Derived.Test.YtommaomhiaaphaaCL
namespace Go.Proofs.Ytommaomhiaaphaa.CO
open Go.RowKit Go.Proofs.Ytommaomhiaaphaa.CA Go.Proofs.Ytommaomhiaaphaa.CB Go.Proofs.Ytommaomhiaaphaa.CC Go.Proofs.Ytommaomhiaaphaa.CD Go.Proofs.Ytommaomhiaaphaa.CE Go.Proofs.Ytommaomhiaaphaa.CF Go.Proofs.Ytommaomhiaaphaa.CG Go.Proofs.Ytommaomhiaaphaa.CH Go.Proofs.Ytommaomhiaaphaa.CK Go.Proofs.Ytommaomhiaaphaa.CI Go.Proofs.Ytommaomhiaaphaa.CL
set_option linter.unusedVariables false
set_option maxRecDepth 100000

abbrev Any : Nat → Prop := fun _ => True
theorem parts_le {C : List Cn} {t : Ty} {p h : Nd} (Sd : Sound C) (hp : Conf C t p) (hh : h.kids.length ≤ 4) : (parts p h).length ≤ 4 := by
  unfold parts
  cases hany : anyB p with
  | true => simp; exact hh
  | false => exact conf_ar Sd hp hany
theorem head_facts {C : List Cn} {G : List Ty} {r : List Nd} {ahead : List (List Nd)} {i : Nat} {h : Nd} (Sd : Sound C) (M : Mx C G r ahead) (hi : i < r.length) (hh : h ∈ heads C r ahead i) :
    h.kids.length ≤ 4 ∧ (parts (col r i) h).length ≤ 1000 ∧ ∀ a, a ∈ ahead → (parts (col a i) h).length ≤ 1000 := by
  have h4 : h.kids.length ≤ 4 := by
    rcases (heads_conf M hi hh).2 with ⟨rfl, _⟩ | ⟨ha, hc, _⟩
    · exact Nat.zero_le _
    · exact conf_ar Sd hc ha
  refine ⟨h4, ?_, fun a ha => ?_⟩
  · have := parts_le Sd (ConfL.split M.1 hi).2.1 h4; omega
  · have := parts_le Sd (ConfL.split (M.2.1 a ha) (i := i) (by rw [(M.2.1 a ha).len, ← M.1.len]; exact hi)).2.1 h4; omega
theorem mx_len {C : List Cn} {G : List Ty} {r : List Nd} {ahead : List (List Nd)} (M : Mx C G r ahead) : ∀ a, a ∈ ahead → a.length = r.length := fun a ha => by rw [(M.2.1 a ha).len, M.1.len]
theorem mx_ne {C : List Cn} {G : List Ty} {r : List Nd} {ahead : List (List Nd)} (M : Mx C G r ahead) (h0 : ahead ≠ []) (ha : ahead.any allAny = false) : r ≠ [] := by
  rintro rfl
  cases ahead with
  | nil => exact h0 rfl
  | cons a l =>
    have := mx_len M a List.mem_cons_self
    have : a = [] := List.eq_nil_of_length_eq_zero this
    subst this
    simp [allAny] at ha
theorem lbehind_len (rows : List (List Nd)) (i : Nat) (h : Nd) : (lbehind rows i h).length ≤ rows.length := by
  unfold lbehind
  rw [List.length_map]
  exact List.length_filter_le _ _
set_option maxRecDepth 100000 in
set_option maxHeartbeats 8000000 in
theorem adds_c (C : List Cn) (Sd : Sound C) (c : Nat) (f : Value) : ∀ (m : Nat), m ≤ 800000 → ∀ (G : List Ty) (r : List Nd) (ahead : List (List Nd)) (rv av : Value) (w : World), CK.Fd w f C c → RowN w Any rv r → RowsN w Any av ahead → Mx C G r ahead → meas r ahead < m → ahead.length ≤ 1000 →
    Calls Try.prog 23 #[f, rv, av] w fun e w' => e = .returned (.bool (usefulB C G r ahead)) ∧ Below w.heap.size w w' := by
  intro m
  induction m with
  | zero =>
    intro hm G r ahead rv av w hf hr hh M hme hal
    omega
  | succ m ih =>
    intro hm G r ahead rv av w hf hr hh M hme hal
    have IH := Lib.hid (ih (by omega))
    clear ih
    obtain ⟨R, HR⟩ : ∃ R, Hid (usefulB C G r ahead = R) := ⟨_, Lib.hid rfl⟩
    rw [HR.out]
    have hlen := mx_len M
    have hrl : r.length ≤ 800000 := by unfold meas at hme; omega
    by_cases hnil : ahead = []
    · subst hnil
      obtain ⟨ao, cap, rfl, _⟩ := hh.val
      have hR : R = true := by rw [← HR.out]; exact useful_nil M
      subst hR
      go_enter Try.func23, Try.ntmps23
      go_wp2
      go_ret
      exact ⟨rfl, Below.refl _ _⟩
    · have C0 := contains32 ahead av w hh (by omega) (fun a ha => by rw [hlen a ha]; omega)
      obtain ⟨ab, aoff, acap, rfl, hacap, halt, _⟩ := hh.open_ hnil
      have hpos : 0 < ahead.length := List.length_pos_iff.2 hnil
      have hL0 : ((ahead.length : Int) == 0) = false := by rw [beq_eq_false_iff_ne]; omega
      cases hany : ahead.any allAny
      · have hrne := mx_ne M hnil hany
        have C1 := fun (w' : World) (h1 : CK.Fd w' f C c) (h2 : RowN w' Any rv r) (h3 : RowsN w' Any (.slice (some ⟨ab, aoff, none⟩) ahead.length acap) ahead) => column_c C f c r ahead rv _ w' h1 h2 h3 hrne (by omega) hlen hal hnil
        have C2 := fun (i : Nat) (hi : i < r.length) (w' : World) (h1 : CK.Fd w' f C c) (h2 : RowN w' Any rv r) (h3 : RowsN w' Any (.slice (some ⟨ab, aoff, none⟩) ahead.length acap) ahead) => heads_c C f c r ahead rv _ i w' h1 h2 h3 hi (by omega) (fun a ha => by rw [hlen a ha]; exact ⟨hi, by omega⟩) hal
        rw [hany] at C0
        have HF := Lib.hid hf
        have HRW := Lib.hid hr
        have HRS := Lib.hid hh
        have HM := Lib.hid M
        have HME := Lib.hid hme
        have HNE := Lib.hid (fun i => heads_ne C r ahead i)
        have HHL := Lib.hid (fun i => headsOf_foldl_len C r ahead i hal)
        have HLEN := Lib.hid hlen
        obtain ⟨NA, hNA⟩ : ∃ NA, Hid (ahead.length = NA) := ⟨_, Lib.hid rfl⟩
        rw [hNA.out] at hL0 C0 C1 C2 hpos hacap hal ⊢
        clear hf hr hh M hme hrne hlen hany hnil
        go_enter Try.func23, Try.ntmps23
        go_wp2_with fail
        refine C0.mono ?_
        rintro e w1 ⟨rfl, hb1⟩
        have HB1 := Lib.hid hb1
        have F1 := Lib.hid (HF.out.keep hb1)
        have R1 := Lib.hid (HRW.out.keep hb1)
        have A1 := Lib.hid (by have := HRS.out.keep hb1; rw [hNA.out] at this; exact this)
        clear hb1
        go_wp2_with fail
        refine (C1 _ F1.out R1.out A1.out).mono ?_
        rintro e w2 ⟨i, hi, rfl, hb2⟩
        have HB2 := Lib.hid (bnext HB1.out hb2)
        have F2 := Lib.hid (F1.out.keep hb2)
        have R2 := Lib.hid (R1.out.keep hb2)
        have A2 := Lib.hid (A1.out.keep hb2)
        have HI := Lib.hid hi
        clear hb2
        go_wp2_with fail
        refine (C2 i hi _ F2.out R2.out A2.out).mono ?_
        rintro e w3 ⟨hv, rfl, hrow, hb3⟩
        have HB3 := Lib.hid (bnext HB2.out hb3)
        have F3 := Lib.hid (F2.out.keep hb3)
        have R3 := Lib.hid (R2.out.keep hb3)
        have A3 := Lib.hid (A2.out.keep hb3)
        obtain ⟨hb, ho, hcp, rfl, hcl, hhlt, hcells⟩ := hrow.open_ (HNE.out i)
        have HC := Lib.hid hcells
        have hLL := HHL.out i
        obtain ⟨hs, HS⟩ : ∃ hs, Hid (heads C r ahead i = hs) := ⟨_, Lib.hid rfl⟩
        rw [HS.out] at HC hLL hcl ⊢
        obtain ⟨L, hL⟩ : ∃ L, Hid (hs.length = L) := ⟨_, Lib.hid rfl⟩
        rw [hL.out] at hLL hcl ⊢
        clear hb3 hrow hcells hi C0 C1 C2
        go_wp2_with fail
        go_loopg [25] L (fun g kv wr => ∃ k : Nat, k + g = L ∧ kv = .int .i64 (k : Int) ∧ Hid (∀ h, h ∈ hs.take k → ¬ Useful C (tbehind G i h) (rbehind r i h) (lbehind ahead i h)) ∧ Hid (Below w3.heap.size w3 wr))
        case atStart => exact ⟨0, Nat.zero_add _, rfl, Lib.hid (fun h hh => by simp at hh), Lib.hid (Below.refl _ _)⟩
        case round =>
          obtain ⟨k, hk, rfl, HU, HX⟩ := hrel
          by_cases hlt : k < L
          · obtain ⟨g, rfl⟩ : ∃ g, gk = g + 1 := ⟨gk - 1, by omega⟩
            obtain ⟨hd, hhd⟩ := getElem?_of_lt (l := hs) (k := k) (by rw [hL.out]; exact hlt)
            obtain ⟨q, hLs, hqs⟩ := HC.out k hd hhd
            obtain ⟨qa, ql, qc, rfl⟩ := hasN_shape hqs
            have HQ := Lib.hid (HasN.mv (Mv.weak w3 (S' := Any) fun _ _ _ => trivial) _ _ hqs)
            have hmem : hd ∈ heads C r ahead i := by rw [HS.out]; exact List.mem_of_getElem? hhd
            obtain ⟨f1, f2, f3⟩ := head_facts Sd HM.out HI.out hmem
            have M2 := Lib.hid (Mx.behind Sd HM.out HI.out hmem)
            have hms := meas_lt Sd HM.out HI.out hmem
            have IHk := fun (w' : World) (rv' av' : Value) (h1 : CK.Fd w' f C c) (h2 : RowN w' Any rv' (rbehind r i hd)) (h3 : RowsN w' Any av' (lbehind ahead i hd)) => IH.out (tbehind G i hd) (rbehind r i hd) (lbehind ahead i hd) rv' av' w' h1 h2 h3 M2.out (by have := HME.out; omega) (by have := lbehind_len ahead i hd; have := hNA.out; omega)
            obtain ⟨X, HXX⟩ : ∃ X, Hid (usefulB C (tbehind G i hd) (rbehind r i hd) (lbehind ahead i hd) = X) := ⟨_, Lib.hid rfl⟩
            rw [HXX.out] at IHk
            have HTK := Lib.hid (show hs.take (k + 1) = hs.take k ++ [hd] from by rw [List.take_add_one, hhd]; rfl)
            have HMEM := Lib.hid hmem
            obtain ⟨y0, y1, y2, y3, y4, y5⟩ := hLs.keep HX.out hhlt
            obtain ⟨k5, n5, s5, l5⟩ := hd
            simp only [Nd.k, Nd.n, Nd.s] at y0 y1 y2
            have CR := fun (w' : World) (h1 : RowN w' Any rv r) (h2 : HasN w' Any (.mk k5 n5 s5 l5) (.slice qa ql qc)) => rbehind_c r rv i k5 n5 s5 l5 _ w' h1 h2 HI.out (by omega) f1 f2
            have CB := fun (w' : World) (h1 : RowsN w' Any (.slice (some ⟨ab, aoff, none⟩) NA acap) ahead) (h2 : HasN w' Any (.mk k5 n5 s5 l5) (.slice qa ql qc)) => lbehind_c ahead _ i k5 n5 s5 l5 _ w' h1 h2 (fun a ha => ⟨by rw [HLEN.out a ha]; exact HI.out, by rw [HLEN.out a ha]; omega, f3 a ha⟩) (by rw [hNA.out]; exact hal) f1
            generalize hRB : rbehind r i (.mk k5 n5 s5 l5) = RB at CR IHk
            generalize hLB : lbehind ahead i (.mk k5 n5 s5 l5) = LB at CB IHk
            have HRB := Lib.hid (show rbehind r i (.mk k5 n5 s5 l5) = RB ∧ lbehind ahead i (.mk k5 n5 s5 l5) = LB from ⟨hRB, hLB⟩)
            clear hLs hqs hhd hmem f1 f2 f3 hms hRB hLB
            have i0 : (0 : Int) ≤ (k : Int) := by omega
            have i1 : (k : Int) < (L : Int) := by omega
            go_wp2_with fail
            have HBX := Lib.hid (Bx.new wr k5 n5 s5 (.slice qa ql qc) 38)
            have HW3 := Lib.hid (bnext HX.out (balloc wr (.cells #[.int .i64 k5, .string ⟨s5.toArray⟩, .int .i64 n5, .int .i64 0, .slice none 0 0, .slice qa ql qc] 38)))
            clear y0 y1 y2 y3 y4 y5
            generalize wr.alloc _ = W at HBX HW3 ⊢
            generalize wr.heap.size = Bh at HBX ⊢
            have FW := Lib.hid (F3.out.keep HW3.out)
            have RW := Lib.hid (R3.out.keep HW3.out)
            have AW := Lib.hid (A3.out.keep HW3.out)
            have QW := Lib.hid (HasN.keep HW3.out _ _ HQ.out)
            clear HX
            have hlB := HBX.out.lt
            have c00 := HBX.out.c0
            have c01 := HBX.out.c1
            have c02 := HBX.out.c2
            have c03 := HBX.out.c3
            have c04 := HBX.out.c4
            have c05 := HBX.out.c5
            have hWd : Below W.heap.size W W.drew := ⟨rfl, rfl, rfl, Nat.le_refl _, fun _ _ => rfl⟩
            have HWd := Lib.hid hWd
            clear hWd
            cases X
            case false =>
              go_region_held3 (fun w' => w'.cell? ⟨Bh, 0, none⟩ = some (.int .i64 k5) ∧ w'.cell? ⟨Bh, 1, none⟩ = some (.string ⟨s5.toArray⟩) ∧ w'.cell? ⟨Bh, 2, none⟩ = some (.int .i64 n5) ∧ w'.cell? ⟨Bh, 3, none⟩ = some (.int .i64 0) ∧ w'.cell? ⟨Bh, 4, none⟩ = some (.slice none 0 0) ∧ w'.cell? ⟨Bh, 5, none⟩ = some (.slice qa ql qc))
                (first | with_reducible exact ⟨HBX6.out.c0, HBX6.out.c1, HBX6.out.c2, HBX6.out.c3, HBX6.out.c4, HBX6.out.c5⟩ | with_reducible exact ⟨HBX7.out.c0, HBX7.out.c1, HBX7.out.c2, HBX7.out.c3, HBX7.out.c4, HBX7.out.c5⟩ | with_reducible exact ⟨HBX9.out.c0, HBX9.out.c1, HBX9.out.c2, HBX9.out.c3, HBX9.out.c4, HBX9.out.c5⟩ | with_reducible exact ⟨HBX8.out.c0, HBX8.out.c1, HBX8.out.c2, HBX8.out.c3, HBX8.out.c4, HBX8.out.c5⟩ | exact ⟨c00, c01, c02, c03, c04, c05⟩)
                (first
                  | (go_at_call 45; refine (CR W.drew (RW.out.keep HWd.out) (HasN.keep HWd.out _ _ QW.out)).mono ?_; rintro e w6 ⟨v6, rfl, hr6, hb6⟩; have HB6 := Lib.hid (bnext HWd.out hb6); have HR6 := Lib.hid (hr6.mv (Mv.weak w6 (S' := Any) fun _ _ _ => trivial)); have HBX6 := Lib.hid (HBX.out.keep HB6.out); clear hr6 hb6)
                  | (go_at_call 46; refine (CB w6 (AW.out.keep HB6.out) (HasN.keep HB6.out _ _ QW.out)).mono ?_; rintro e w8 ⟨v8, rfl, hr8, hb8⟩; have HB8 := Lib.hid (bnext HB6.out hb8); have HR8 := Lib.hid (HR6.out.keep hb8); have HA8 := Lib.hid (hr8.mv (Mv.weak w8 (S' := Any) fun _ _ _ => trivial)); have HBX8 := Lib.hid (HBX6.out.keep hb8); clear hr8 hb8)
                  | (go_at_call 46; refine (CB W.drew (AW.out.keep HWd.out) (HasN.keep HWd.out _ _ QW.out)).mono ?_; rintro e w7 ⟨v8, rfl, hr7, hb7⟩; have HB7 := Lib.hid (bnext HWd.out hb7); have HA7 := Lib.hid (hr7.mv (Mv.weak w7 (S' := Any) fun _ _ _ => trivial)); have HBX7 := Lib.hid (HBX.out.keep HB7.out); clear hr7 hb7)
                  | (go_at_call 45; refine (CR w7 (RW.out.keep HB7.out) (HasN.keep HB7.out _ _ QW.out)).mono ?_; rintro e w8 ⟨v6, rfl, hr8, hb8⟩; have HB8 := Lib.hid (bnext HB7.out hb8); have HA8 := Lib.hid (HA7.out.keep hb8); have HR8 := Lib.hid (hr8.mv (Mv.weak w8 (S' := Any) fun _ _ _ => trivial)); have HBX8 := Lib.hid (HBX7.out.keep hb8); clear hr8 hb8)
                  | (go_at_call 23; refine (IHk w8 v6 v8 (FW.out.keep HB8.out) HR8.out HA8.out).mono ?_; rintro e w9 ⟨rfl, hb9⟩; have HB9 := Lib.hid (bnext HB8.out hb9); have HBX9 := Lib.hid (HBX8.out.keep hb9); clear hb9))
              all_goals
                clear c00 c01 c02 c03 c04 c05
                go_simp
                go_wp2_with fail
                go_roundg g
                case rel =>
                  refine ⟨k + 1, by omega, by go_num, Lib.hid ?_, Lib.hid (bnext HW3.out HB9.out)⟩
                  rw [HTK.out]
                  intro h hh
                  rcases List.mem_append.1 hh with hh | hh
                  · exact HU.out h hh
                  · rw [List.mem_singleton.1 hh, HRB.out.1, HRB.out.2]
                    have := HXX.out
                    first | exact usefulB_no.1 this | (rw [HRB.out.1, HRB.out.2] at this; exact usefulB_no.1 this)
                case measure => omega
            case true =>
              go_region_held3 (fun w' => w'.cell? ⟨Bh, 0, none⟩ = some (.int .i64 k5) ∧ w'.cell? ⟨Bh, 1, none⟩ = some (.string ⟨s5.toArray⟩) ∧ w'.cell? ⟨Bh, 2, none⟩ = some (.int .i64 n5) ∧ w'.cell? ⟨Bh, 3, none⟩ = some (.int .i64 0) ∧ w'.cell? ⟨Bh, 4, none⟩ = some (.slice none 0 0) ∧ w'.cell? ⟨Bh, 5, none⟩ = some (.slice qa ql qc))
                (first | with_reducible exact ⟨HBX6.out.c0, HBX6.out.c1, HBX6.out.c2, HBX6.out.c3, HBX6.out.c4, HBX6.out.c5⟩ | with_reducible exact ⟨HBX7.out.c0, HBX7.out.c1, HBX7.out.c2, HBX7.out.c3, HBX7.out.c4, HBX7.out.c5⟩ | with_reducible exact ⟨HBX9.out.c0, HBX9.out.c1, HBX9.out.c2, HBX9.out.c3, HBX9.out.c4, HBX9.out.c5⟩ | with_reducible exact ⟨HBX8.out.c0, HBX8.out.c1, HBX8.out.c2, HBX8.out.c3, HBX8.out.c4, HBX8.out.c5⟩ | exact ⟨c00, c01, c02, c03, c04, c05⟩)
                (first
                  | (go_at_call 45; refine (CR W.drew (RW.out.keep HWd.out) (HasN.keep HWd.out _ _ QW.out)).mono ?_; rintro e w6 ⟨v6, rfl, hr6, hb6⟩; have HB6 := Lib.hid (bnext HWd.out hb6); have HR6 := Lib.hid (hr6.mv (Mv.weak w6 (S' := Any) fun _ _ _ => trivial)); have HBX6 := Lib.hid (HBX.out.keep HB6.out); clear hr6 hb6)
                  | (go_at_call 46; refine (CB w6 (AW.out.keep HB6.out) (HasN.keep HB6.out _ _ QW.out)).mono ?_; rintro e w8 ⟨v8, rfl, hr8, hb8⟩; have HB8 := Lib.hid (bnext HB6.out hb8); have HR8 := Lib.hid (HR6.out.keep hb8); have HA8 := Lib.hid (hr8.mv (Mv.weak w8 (S' := Any) fun _ _ _ => trivial)); have HBX8 := Lib.hid (HBX6.out.keep hb8); clear hr8 hb8)
                  | (go_at_call 46; refine (CB W.drew (AW.out.keep HWd.out) (HasN.keep HWd.out _ _ QW.out)).mono ?_; rintro e w7 ⟨v8, rfl, hr7, hb7⟩; have HB7 := Lib.hid (bnext HWd.out hb7); have HA7 := Lib.hid (hr7.mv (Mv.weak w7 (S' := Any) fun _ _ _ => trivial)); have HBX7 := Lib.hid (HBX.out.keep HB7.out); clear hr7 hb7)
                  | (go_at_call 45; refine (CR w7 (RW.out.keep HB7.out) (HasN.keep HB7.out _ _ QW.out)).mono ?_; rintro e w8 ⟨v6, rfl, hr8, hb8⟩; have HB8 := Lib.hid (bnext HB7.out hb8); have HA8 := Lib.hid (HA7.out.keep hb8); have HR8 := Lib.hid (hr8.mv (Mv.weak w8 (S' := Any) fun _ _ _ => trivial)); have HBX8 := Lib.hid (HBX7.out.keep hb8); clear hr8 hb8)
                  | (go_at_call 23; refine (IHk w8 v6 v8 (FW.out.keep HB8.out) HR8.out HA8.out).mono ?_; rintro e w9 ⟨rfl, hb9⟩; have HB9 := Lib.hid (bnext HB8.out hb9); have HBX9 := Lib.hid (HBX8.out.keep hb9); clear hb9))
              all_goals
                clear c00 c01 c02 c03 c04 c05
                go_simp
                go_wp2_with fail
                go_ret
                refine ⟨ret_bool ?_, bnext HB3.out (bnext HW3.out HB9.out)⟩
                rw [← HR.out]
                exact (usefulB_iff.2 ((useful_step Sd HM.out HI.out).2 ⟨_, HMEM.out, usefulB_iff.1 HXX.out⟩)).symm
          · go_wp2_with fail
            go_ret
            have hkl : k = L := by omega
            refine ⟨ret_bool ?_, bnext HB3.out HX.out⟩
            rw [← HR.out]
            refine (usefulB_no.2 fun hu => ?_).symm
            obtain ⟨h, hh, hu2⟩ := (useful_step Sd HM.out HI.out).1 hu
            rw [HS.out] at hh
            exact HU.out h (by rw [List.take_of_length_le (by rw [hL.out, hkl]; exact Nat.le_refl _)]; exact hh) hu2
      · have hR : R = false := by rw [← HR.out]; exact useful_all M hany
        subst hR
        rw [hany] at C0
        generalize ahead.length = NA at *
        go_enter Try.func23, Try.ntmps23
        go_wp2_with (go_at_call 41; refine C0.mono ?_; rintro e w1 ⟨rfl, hb1⟩)
        go_ret
        exact ⟨rfl, hb1⟩
end Go.Proofs.Ytommaomhiaaphaa.CO
