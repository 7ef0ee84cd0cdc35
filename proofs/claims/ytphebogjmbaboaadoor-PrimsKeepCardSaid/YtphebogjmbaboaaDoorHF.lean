/- The program's heap: Make. -/
import Derived.Test.YtphebogjmbaboaaDoorHE
namespace Go.Proofs.YtphebogjmbaboaaDoor.HF
open Go.RowKit Go.Proofs.YtphebogjmbaboaaDoor.RG Go.Proofs.YtphebogjmbaboaaDoor.RB Go.Proofs.YtphebogjmbaboaaDoor.RM Go.Proofs.YtphebogjmbaboaaDoor.HA Go.Proofs.YtphebogjmbaboaaDoor.HB Go.Proofs.YtphebogjmbaboaaDoor.HC Go.Proofs.YtphebogjmbaboaaDoor.HD Go.Proofs.YtphebogjmbaboaaDoor.HE Go.Proofs.YtphebogjmbaboaaDoor.K1
set_option linter.unusedVariables false
set_option maxRecDepth 100000
set_option maxRecDepth 100000

theorem make_no {room : Int} {N : Nat} {h : Hp} {t : Int} {f : List Int} (hc : ¬ (isTag t = true ∧ f.length ≤ 60 ∧ (t = 201 ∨ f.all (mayW h) = true))) : make room N h t f = (h, 0, 1) := by unfold make; rw [if_neg hc]
theorem make_c (w : World) (p x m o N : Nat) (h : Hp) (H : HP w p x m o N h) (t : Int) (v : Value) (l : List Int) (hv : RowI w v l) (hx : ∀ b, v.ownBlock = some b → b ≠ x) (hl : l.length ≤ 1000000) :
    Calls Tryd.prog 39 #[.pointer (some ⟨p, 0, none⟩), .int .i64 t, v] w fun e w' => e = .returned (.tuple #[.int .i64 (make 2 N h t l).2.1, .int .i64 (make 2 N h t l).2.2]) ∧ HP w' p x m o N (make 2 N h t l).1 ∧ On3 p x m w w' := by
  obtain ⟨ao, cap, rfl, _⟩ := hv.val
  obtain ⟨n, hn⟩ : ∃ n, Hid (l.length = n) := ⟨_, Lib.hid rfl⟩
  have HH := Lib.hid H
  rw [hn.out] at hv hl hx ⊢
  have HV := Lib.hid hv
  have HIT := Lib.hid (istag_c t w)
  have HN := H.fit
  clear H hv
  cases hT : isTag t with
  | false =>
    rw [hT] at HIT
    rw [make_no (fun h => by rw [hT] at h; cases h.1)]
    go_enter Tryd.func39, Tryd.ntmps39
    go_wp2_with fail
    refine HIT.out.mono ?_
    rintro e w1 ⟨rfl, rfl⟩
    go_wp2_with fail
    go_ret2
    exact ⟨rfl, HH.out, On3.refl _ _ _ _⟩
  | true =>
    rw [hT] at HIT
    have HT := Lib.hid hT
    have t0 : 0 ≤ t ∧ t ≤ 201 := by unfold isTag at hT; simp only [Bool.and_eq_true, decide_eq_true_eq] at hT; exact hT
    obtain ⟨t0, t1⟩ := t0
    clear hT
    by_cases hl6 : n ≤ 60
    · have j0 : ¬ (n : Int) > 60 := by omega
      by_cases h201 : t = 201
      · have HMAY := Lib.hid (show t = 201 ∨ l.all (mayW h) = true from .inl h201)
        have k1 : (t != 201) = false := by rw [h201]; rfl
        clear h201
        go_enter Tryd.func39, Tryd.ntmps39
        go_wp2_with fail
        refine HIT.out.mono ?_
        rintro e w1 ⟨rfl, rfl⟩
        go_wp2_with fail
        refine (used_c w p x m o N h HH.out).mono ?_
        rintro e wu ⟨rfl, rfl⟩
        go_wp2_with fail
        refine (half_c w p x m o N h HH.out).mono ?_
        rintro e wu ⟨rfl, rfl⟩
        by_cases hroom : used h + 1 + n ≤ N
        · have j1 : ¬ (used h : Int) + 1 + (n : Int) > (N : Int) := by omega
          have hmk : make 2 N h t l = (h ++ [(t, l)], ptr h h.length, 0) := by unfold make; rw [if_pos ⟨HT.out, by rw [hn.out]; exact hl6, HMAY.out⟩, if_pos (by rw [hn.out]; exact hroom)]
          have HMK := Lib.hid hmk
          have HADD := Lib.hid (add_c w p x m o N h HH.out t (.slice ao n cap) l HV.out hx t0 t1 (by rw [hn.out]; exact hl6) (by rw [hn.out]; exact hroom))
          have hpl := place_pos h h.length
          have hpl2 := place_end h
          have HPT := Lib.hid (fun w' => point_yes (place h h.length : Int) w' (by omega) (by omega))
          have HPR := Lib.hid (show (2 * (place h h.length : Int)) = ptr h h.length from rfl)
          clear hmk hpl hpl2
          go_wp2_with fail
          refine HADD.out.mono ?_
          rintro e w5 ⟨rfl, hp5, ho5⟩
          have HP5 := Lib.hid hp5
          have HO5 := Lib.hid ho5
          clear hp5 ho5
          go_wp2_with fail
          refine (HPT.out w5).mono ?_
          rintro e w6 ⟨rfl, rfl⟩
          go_wp2_with fail
          go_ret2
          rw [HMK.out]
          exact ⟨by rw [HPR.out]; rfl, HP5.out, HO5.out⟩
        · have j1 : (used h : Int) + 1 + (n : Int) > (N : Int) := by omega
          have hmk : make 2 N h t l = (h, 0, 2) := by unfold make; rw [if_pos ⟨HT.out, by rw [hn.out]; exact hl6, HMAY.out⟩, if_neg (by rw [hn.out]; exact hroom)]
          have HMK := Lib.hid hmk
          clear hmk
          go_wp2_with fail
          go_ret2
          rw [HMK.out]
          exact ⟨rfl, HH.out, On3.refl _ _ _ _⟩
      · have k1 : (t != 201) = true := by rw [bne_iff_ne]; exact h201
        obtain ⟨R, hR⟩ : ∃ R, l.all (mayW h) = R := ⟨_, rfl⟩
        have HAM := allmay_c w p x m o N h HH.out (.slice ao n cap) l HV.out (by rw [hn.out]; exact hl)
        rw [hR] at HAM
        have HAL := Lib.hid HAM
        clear HAM
        cases R with
        | false =>
          rw [make_no (fun hh => by rcases hh.2.2 with hh | hh; exact h201 hh; rw [hR] at hh; cases hh)]
          clear hR h201
          go_enter Tryd.func39, Tryd.ntmps39
          go_wp2_with fail
          refine HIT.out.mono ?_
          rintro e w1 ⟨rfl, rfl⟩
          go_wp2_with fail
          refine HAL.out.mono ?_
          rintro e w1 ⟨rfl, hb⟩
          have HB := Lib.hid hb
          clear hb
          go_wp2_with fail
          go_ret2
          exact ⟨rfl, HH.out.keep HB.out, On3.of HB.out⟩
        | true =>
          have HMAY := Lib.hid (show t = 201 ∨ l.all (mayW h) = true from .inr hR)
          clear hR h201
          go_enter Tryd.func39, Tryd.ntmps39
          go_wp2_with fail
          refine HIT.out.mono ?_
          rintro e w1 ⟨rfl, rfl⟩
          go_wp2_with fail
          refine HAL.out.mono ?_
          rintro e w1 ⟨rfl, hb⟩
          have HB := Lib.hid hb
          have HH1 := Lib.hid (HH.out.keep hb)
          have HV1 := Lib.hid (HV.out.keep hb)
          clear hb
          go_wp2_with fail
          refine (used_c w1 p x m o N h HH1.out).mono ?_
          rintro e wu ⟨rfl, rfl⟩
          go_wp2_with fail
          refine (half_c w1 p x m o N h HH1.out).mono ?_
          rintro e wu ⟨rfl, rfl⟩
          by_cases hroom : used h + 1 + n ≤ N
          · have j1 : ¬ (used h : Int) + 1 + (n : Int) > (N : Int) := by omega
            have hmk : make 2 N h t l = (h ++ [(t, l)], ptr h h.length, 0) := by unfold make; rw [if_pos ⟨HT.out, by rw [hn.out]; exact hl6, HMAY.out⟩, if_pos (by rw [hn.out]; exact hroom)]
            have HMK := Lib.hid hmk
            have HADD := Lib.hid (add_c w1 p x m o N h HH1.out t (.slice ao n cap) l HV1.out hx t0 t1 (by rw [hn.out]; exact hl6) (by rw [hn.out]; exact hroom))
            have hpl := place_pos h h.length
            have hpl2 := place_end h
            have HPT := Lib.hid (fun w' => point_yes (place h h.length : Int) w' (by omega) (by omega))
            have HPR := Lib.hid (show (2 * (place h h.length : Int)) = ptr h h.length from rfl)
            clear hmk hpl hpl2
            go_wp2_with fail
            refine HADD.out.mono ?_
            rintro e w5 ⟨rfl, hp5, ho5⟩
            have HP5 := Lib.hid hp5
            have HO5 := Lib.hid ho5
            clear hp5 ho5
            go_wp2_with fail
            refine (HPT.out w5).mono ?_
            rintro e w6 ⟨rfl, rfl⟩
            go_wp2_with fail
            go_ret2
            rw [HMK.out]
            exact ⟨by rw [HPR.out]; rfl, HP5.out, (On3.of HB.out).trans HO5.out⟩
          · have j1 : (used h : Int) + 1 + (n : Int) > (N : Int) := by omega
            have hmk : make 2 N h t l = (h, 0, 2) := by unfold make; rw [if_pos ⟨HT.out, by rw [hn.out]; exact hl6, HMAY.out⟩, if_neg (by rw [hn.out]; exact hroom)]
            have HMK := Lib.hid hmk
            clear hmk
            go_wp2_with fail
            go_ret2
            rw [HMK.out]
            exact ⟨rfl, HH1.out, On3.of HB.out⟩
    · have j0 : (n : Int) > 60 := by omega
      rw [make_no (fun h => by rw [hn.out] at h; exact hl6 h.2.1)]
      go_enter Tryd.func39, Tryd.ntmps39
      go_wp2_with fail
      refine HIT.out.mono ?_
      rintro e w1 ⟨rfl, rfl⟩
      go_wp2_with fail
      go_ret2
      exact ⟨rfl, HH.out, On3.refl _ _ _ _⟩
end Go.Proofs.YtphebogjmbaboaaDoor.HF
