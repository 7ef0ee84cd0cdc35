/- A part that is forgotten leaves no write, and one that is joined leaves its own: the law. -/
import Derived.Test.YtjoifodjbdbicaaZL
namespace Go.Proofs.Ytjoifodjbdbicaa.VG
open Go.RowKit Go.Proofs.Ytjoifodjbdbicaa.RG Go.Proofs.Ytjoifodjbdbicaa.RB Go.Proofs.Ytjoifodjbdbicaa.RI Go.Proofs.Ytjoifodjbdbicaa.UA Go.Proofs.Ytjoifodjbdbicaa.UB Go.Proofs.Ytjoifodjbdbicaa.UC Go.Proofs.Ytjoifodjbdbicaa.UD Go.Proofs.Ytjoifodjbdbicaa.UE Go.Proofs.Ytjoifodjbdbicaa.UF Go.Proofs.Ytjoifodjbdbicaa.UG Go.Proofs.Ytjoifodjbdbicaa.UH Go.Proofs.Ytjoifodjbdbicaa.UI Go.Proofs.Ytjoifodjbdbicaa.UJ Go.Proofs.Ytjoifodjbdbicaa.UK Go.Proofs.Ytjoifodjbdbicaa.UL Go.Proofs.Ytjoifodjbdbicaa.UM Go.Proofs.Ytjoifodjbdbicaa.UN Go.Proofs.Ytjoifodjbdbicaa.UO Go.Proofs.Ytjoifodjbdbicaa.UP Go.Proofs.Ytjoifodjbdbicaa.UQ Go.Proofs.Ytjoifodjbdbicaa.UR Go.Proofs.Ytjoifodjbdbicaa.US Go.Proofs.Ytjoifodjbdbicaa.UT Go.Proofs.Ytjoifodjbdbicaa.UU Go.Proofs.Ytjoifodjbdbicaa.UV Go.Proofs.Ytjoifodjbdbicaa.UW Go.Proofs.Ytjoifodjbdbicaa.UX Go.Proofs.Ytjoifodjbdbicaa.UZ Go.Proofs.Ytjoifodjbdbicaa.VA Go.Proofs.Ytjoifodjbdbicaa.VC Go.Proofs.Ytjoifodjbdbicaa.VD Go.Proofs.Ytjoifodjbdbicaa.VF
set_option linter.unusedVariables false
set_option maxRecDepth 100000
set_option maxRecDepth 100000

variable {TP : World → (Nat → Prop) → Nat → Eg → Prop}
theorem qB_next (fr i : Nat) : qB fr (i + 1) = qA fr i := by
  unfold qB qA
  by_cases h : i < fr
  · rw [if_pos (by omega), if_pos h]
  · rw [if_neg (by omega), if_neg h]
theorem qB_eq {fr i : Nat} (h : ¬ i = fr) : qB fr i = qA fr i := by
  unfold qB qA
  by_cases h2 : i < fr
  · rw [if_pos (by omega), if_pos h2]
  · rw [if_neg (by omega), if_neg h2]
/-- The program's engine, and a block that is not its own. -/
def OnX (TP : World → (Nat → Prop) → Nat → Eg → Prop) (w : World) (C p : Nat) (E : Eg) (X : Nat) : Prop := ∃ F, TP w F p E ∧ (∀ b, F b → C ≤ b) ∧ ¬ F X ∧ C ≤ w.heap.size ∧ X < w.heap.size
theorem onx_p {w w' : World} {C p X : Nat} {E1 : Eg} {F F' : Nat → Prop} (h2 : ∀ b, F b → C ≤ b) (h3 : ¬ F X) (h4 : C ≤ w.heap.size) (h5 : X < w.heap.size) (ho : OnS F w w') (ht : TP w' F' p E1) (hg : Gr w F F') : OnX TP w' C p E1 X ∧ Below C w w' ∧ (∀ {c : Array Value} {T : TypeId}, Bk w X c T → Bk w' X c T) :=
  ⟨⟨F', ht, gr_low hg h2 h4, fun h => by
    rcases hg X h with h | h
    · exact h3 h
    · omega, Nat.le_trans h4 ho.size, Nat.lt_of_lt_of_le h5 ho.size⟩, ho.below h4 h2, fun hk => ho.bk hk h3⟩
theorem onx_of (hP : PT TP) {w : World} {C p : Nat} {E : Eg} (h : One TP w C p E) (o : Obj) : OnX TP (w.alloc o) C p E w.heap.size := by
  obtain ⟨F, h1, h2, h3⟩ := h
  exact ⟨F, hP.on h1 (OnS.none (balloc w o)) (fun _ _ h => h), h2, fun h => Nat.lt_irrefl _ (hP.low h1 _ h), Nat.le_trans h3 (balloc w o).size, by rw [World.size_alloc]; exact Nat.lt_succ_self _⟩
theorem onx_set (hP : PT TP) {w : World} {C p X : Nat} {E : Eg} (h : OnX TP w C p E X) (i : Nat) (v : Value) : OnX TP (w.setCell ⟨X, i, none⟩ v) C p E X := by
  obtain ⟨F, h1, h2, h3, h4, h5⟩ := h
  exact ⟨F, hP.on h1 (OnS.cell X i v) (fun b hb e => h3 (e ▸ hb)), h2, h3, by rw [World.size_setCell]; exact h4, by rw [World.size_setCell]; exact h5⟩
set_option maxHeartbeats 12800000 in
theorem lparts_c (hP : PT TP) (w : World) (S : Nat → Prop) (v : Value) (ds : List Dd) (hv : RowR TDd w S v ds) (hd : D64 ds) (fr : Int) (hfr : B64 fr) (keep : Bool) : Calls Try.prog 8 #[v, .int .i64 fr, .bool keep] w fun e w' => e = .returned (.bool true) ∧ Below w.heap.size w w' := by
  have HBEG := Lib.hid (begin_c hP w)
  have HLIV := Lib.hid (fun w1 => lives_c hP w1)
  have HPP := Lib.hid hP
  have HR := Lib.hid hv
  have HD := Lib.hid hd
  obtain ⟨va, vc, rfl, _⟩ := hv.val
  obtain ⟨nd, hnd⟩ : ∃ n, Hid (ds.length = n) := ⟨_, Lib.hid rfl⟩
  rw [hnd.out] at HR ⊢
  obtain ⟨FR, hFR, hF⟩ := few_in fr 13 (by decide) hfr
  have fr64 := hfr.1
  have fr65 := hfr.2
  rw [show ((13 : Nat) : Int) = 13 from rfl] at hF
  clear hfr
  clear hv hd hP
  rcases hF with ⟨hF1, hF2⟩ | ⟨hF1, hF2⟩
  all_goals
    go_enter Try.func8, Try.ntmps8
    go_wp2_with fail
    refine HBEG.out.mono ?_
    rintro e w1 ⟨p, r, rfl, ht, hb⟩
    have HB1 := Lib.hid hb
    obtain ⟨F, h1, h2, h3⟩ := one_of ht
    have HX := Lib.hid (HPP.out.begin_ h1 (bE_wg 4) (by decide) 0 b0)
    have hg1 := wg_begin (bE_wg 4) 0
    simp only [p_begin] at HX hg1
    have HF := Lib.hid (And.intro h2 h3)
    clear ht hb h1 h2 h3
    go_wp2_with fail
    refine HX.out.mono ?_
    rintro e w2 ⟨rfl, ho, F', ht, hg⟩
    obtain ⟨ht2, hb2⟩ := one_p HF.out.1 HF.out.2 ho ht hg
    have hba := balloc w2 (.cells #[.int .i64 10, .int .i64 11, .int .i64 12, .int .i64 13] 3)
    have HB2 := Lib.hid (bnext (HB1.out.trans hb2) hba)
    have HO2 := Lib.hid (onx_of HPP.out ht2 (.cells #[.int .i64 10, .int .i64 11, .int .i64 12, .int .i64 13] 3))
    have HK2 := Lib.hid (show Bk (w2.alloc (.cells #[.int .i64 10, .int .i64 11, .int .i64 12, .int .i64 13] 3)) w2.heap.size (xints [10, 11, 12, 13]) 3 from Bk.new w2 _ _)
    have HXB := Lib.hid (show w.heap.size ≤ w2.heap.size from (HB1.out.trans hb2).size)
    have HW2 := Lib.hid (show Wg (5 + 2 * 0) (pE [] (qB FR 0) []) from by rw [show qB FR 0 = 1 from if_pos (Nat.zero_le _)]; exact hg1)
    have HO2' := Lib.hid (show OnX TP (w2.alloc (.cells #[.int .i64 10, .int .i64 11, .int .i64 12, .int .i64 13] 3)) w.heap.size p (pE [] (qB FR 0) []) w2.heap.size from by rw [show qB FR 0 = 1 from if_pos (Nat.zero_le _)]; exact HO2.out)
    have HI2 := Lib.hid (iv_begin keep FR)
    clear ho ht hg ht2 hb2 hba hg1 HF HX HO2
    go_wp2_with fail
    obtain ⟨XB, hXB⟩ : ∃ x, w2.heap.size = x := ⟨_, rfl⟩
    rw [hXB] at HO2' HK2 HXB ⊢
    go_loopg [10, 11] 12 (fun g iv nv wr => ∃ (i : Nat) (P : List Pt) (W : List Int), i + g = 12 ∧ iv = .int .i64 (i : Int) ∧ Hid (i ≤ nd) ∧ Hid (OnX TP wr w.heap.size p (pE P (qB FR i) []) XB) ∧ Hid (Bk wr XB (xints W) 3) ∧ Hid (Below w.heap.size w wr) ∧ Hid (Iv keep FR i P W) ∧ Hid (Wg (5 + 2 * i) (pE P (qB FR i) [])))
    case atStart => exact ⟨0, [], [10, 11, 12, 13], Nat.zero_add _, rfl, Lib.hid (Nat.zero_le _), HO2', HK2, HB2, HI2, HW2⟩
    case round =>
      obtain ⟨i, P, W, hi, rfl, HLE, HOX, HKB, HBI, HIV, HWG⟩ := hrel
      have HI := Lib.hid hi
      by_cases hlt : i < nd ∧ i < 12
      · skip
        obtain ⟨h1, h2⟩ := hlt
        obtain ⟨g', rfl⟩ : ∃ g, gk = g + 1 := ⟨gk - 1, by omega⟩
        obtain ⟨d, hd⟩ := getElem?_of_lt (l := ds) (k := i) (by rw [hnd.out]; exact h1)
        obtain ⟨b, off, cap, hvv, hbl, x0, x1, x2, x3⟩ := deed_at HR.out hd
        injection hvv with e1 e2 e3
        subst e1
        subst e3
        clear e2
        have hdb := HD.out d (mem_of hd)
        obtain ⟨dk, dt, dn, dv⟩ := d
        obtain ⟨K, hK4, hK⟩ := few_in dn 4 (by decide) hdb.2.1
        have bK : B64 (K : Int) := ⟨by omega, by omega⟩
        have hdn := hdb.2.1
        have dn0 := hdn.1
        have dn1 := hdn.2
        rw [show ((4 : Nat) : Int) = 4 from rfl] at hK
        obtain ⟨zK, hzK⟩ := getElem?_of_lt (l := W) (k := K) (by rw [HIV.out.len]; exact hK4)
        have HZK := Lib.hid hzK
        simp only at x0 x1 x2 x3 hdb dn0 dn1 hK
        have y2 := (HBI.out.cell (p := ⟨b, off + i * 4 + 2, none⟩) hbl).trans x2
        have y3 := (HBI.out.cell (p := ⟨b, off + i * 4 + 3, none⟩) hbl).trans x3
        have i0 : (0 : Int) ≤ (i : Int) := by omega
        have i1 : (i : Int) < (nd : Int) := by omega
        have i2 : (i : Int) < 12 := by omega
        have k0 : (0 : Int) ≤ (K : Int) := by omega
        have k1 : (K : Int) < 4 := by omega
        clear hd hdn hzK x0 x1
        rcases hK with ⟨hK1, hK2⟩ | ⟨hK1, hK2⟩
        all_goals
          by_cases hc : i < FR
          · have c1 : ((i : Int) == (FR : Int)) = false := by rw [beq_eq_false_iff_ne]; omega
            have c2 : (i : Int) < (FR : Int) := by omega
            have hne : ¬ i = FR := by omega
            have HCD := Lib.hid (show i < FR ∨ keep = true from .inl hc)
            have HO5 := Lib.hid (show OnX TP wr w.heap.size p (pE P (qA FR i) []) XB from by rw [← qB_eq hne]; exact HOX.out)
            have HW5 := Lib.hid (show Wg (5 + 2 * i + 1) (pE P (qA FR i) []) from by rw [← qB_eq hne]; exact wg_mono HWG.out (Nat.le_succ _))
            have HK5 := HKB
            have HB5 := HBI
            obtain ⟨F, h1, h2, h3, h4, h5⟩ := HO5.out
            have HX := Lib.hid (HPP.out.write h1 HW5.out (by omega) 0 (K : Int) dv b0 bK hdb.2.2)
            have hg6 := wg_write HW5.out 0 (K : Int) dv
            simp only [p_write hK4] at HX hg6
            have HF := Lib.hid (And.intro h2 (And.intro h3 (And.intro h4 h5)))
            have hiv6 := iv_step HIV.out hK4 dv
            clear h1 h2 h3 h4 h5
            go_wp2_with fail
            refine HX.out.mono ?_
            rintro e w6 ⟨rfl, ho, F', ht, hg⟩
            obtain ⟨ho6, hb6, hk6⟩ := onx_p HF.out.1 HF.out.2.1 HF.out.2.2.1 HF.out.2.2.2 ho ht hg
            have k6 := hk6 HK5.out
            have z3 := ((HB5.out.trans hb6).cell (p := ⟨b, off + i * 4 + 3, none⟩) hbl).trans x3
            have hw6 : Wg (5 + 2 * (i + 1)) (pE (putR (K : Int) dv (qA FR i) P) (qB FR (i + 1)) []) := by rw [qB_next]; exact wg_mono hg6 (by omega)
            rw [← qB_next] at ho6
            have HO6 := Lib.hid ho6
            have HB6 := Lib.hid (HB5.out.trans hb6)
            have HW6 := Lib.hid hw6
            clear ho ht hg hg6 hw6 hk6 HF
            rw [if_pos HCD.out] at hiv6
            have HIV6 := Lib.hid hiv6
            have z6 : w6.cell? ⟨XB, K, none⟩ = some (.int .i64 zK) := k6.cell K _ (xints_at HZK.out)
            have f6 := k6.free K
            have HKS := Lib.hid (show Bk (w6.setCell ⟨XB, K, none⟩ (.int .i64 dv)) XB (xints (W.set K dv)) 3 from by rw [← xints_set]; exact k6.set K _)
            have HOS := Lib.hid (onx_set HPP.out ho6 K (.int .i64 dv))
            have HBS := Lib.hid ((HB6.out).setCell (p := ⟨XB, K, none⟩) (by have := HXB.out; show w.heap.size ≤ XB; exact this) (.int .i64 dv))
            clear hiv6 k6 ho6 hb6
            go_wp2_with fail
            go_roundg g'
            case rel => exact ⟨i + 1, _, _, by have := HI.out; omega, by go_num, Lib.hid (by omega), HOS, HKS, HBS, HIV6, HW6⟩
            case measure => omega
          · by_cases he : i = FR
            · subst he
              have qb : qB i i = 1 := if_pos (Nat.le_refl _)
              rw [qb] at HOX HWG
              have c2 : ¬ (i : Int) < (i : Int) := by omega
              have c3 : decide ((i : Int) < (i : Int)) = false := decide_eq_false c2
              obtain ⟨F, h1, h2, h3, h4, h5⟩ := HOX.out
              have HX := Lib.hid (HPP.out.part h1 HWG.out (by omega) 0 b0)
              have hg5 := wg_part HWG.out 0
              simp only [p_part] at HX hg5
              have HF := Lib.hid (And.intro h2 (And.intro h3 (And.intro h4 h5)))
              clear h1 h2 h3 h4 h5
              go_wp2_with fail
              refine HX.out.mono ?_
              rintro e w5 ⟨rfl, ho, F', ht, hg⟩
              obtain ⟨ho5, hb5, hk5⟩ := onx_p HF.out.1 HF.out.2.1 HF.out.2.2.1 HF.out.2.2.2 ho ht hg
              have HK5 := Lib.hid (hk5 HKB.out)
              have HB5 := Lib.hid (HBI.out.trans hb5)
              have qa : qA i i = 2 := by unfold qA; rw [if_neg (by omega)]
              have HO5 := Lib.hid (show OnX TP w5 w.heap.size p (pE P (qA i i) []) XB from by rw [qa]; exact ho5)
              have HW5 := Lib.hid (show Wg (5 + 2 * i + 1) (pE P (qA i i) []) from by rw [qa]; exact hg5)
              have y2' := (HB5.out.cell (p := ⟨b, off + i * 4 + 2, none⟩) hbl).trans x2
              have y3' := (HB5.out.cell (p := ⟨b, off + i * 4 + 3, none⟩) hbl).trans x3
              clear ho ht hg ho5 hb5 hk5 hg5 HF HX
              cases keep
              · have HCD := Lib.hid (show ¬ (i < i ∨ false = true) from fun h => by rcases h with h | h; omega; cases h)
                obtain ⟨F, h1, h2, h3, h4, h5⟩ := HO5.out
                have HX := Lib.hid (HPP.out.write h1 HW5.out (by omega) 0 (K : Int) dv b0 bK hdb.2.2)
                have hg6 := wg_write HW5.out 0 (K : Int) dv
                simp only [p_write hK4] at HX hg6
                have HF := Lib.hid (And.intro h2 (And.intro h3 (And.intro h4 h5)))
                have hiv6 := iv_step HIV.out hK4 dv
                clear h1 h2 h3 h4 h5
                go_wp2_with fail
                refine HX.out.mono ?_
                rintro e w6 ⟨rfl, ho, F', ht, hg⟩
                obtain ⟨ho6, hb6, hk6⟩ := onx_p HF.out.1 HF.out.2.1 HF.out.2.2.1 HF.out.2.2.2 ho ht hg
                have k6 := hk6 HK5.out
                have z3 := ((HB5.out.trans hb6).cell (p := ⟨b, off + i * 4 + 3, none⟩) hbl).trans x3
                have hw6 : Wg (5 + 2 * (i + 1)) (pE (putR (K : Int) dv (qA i i) P) (qB i (i + 1)) []) := by rw [qB_next]; exact wg_mono hg6 (by omega)
                rw [← qB_next] at ho6
                have HO6 := Lib.hid ho6
                have HB6 := Lib.hid (HB5.out.trans hb6)
                have HW6 := Lib.hid hw6
                clear ho ht hg hg6 hw6 hk6 HF
                rw [if_neg HCD.out] at hiv6
                have HIV6 := Lib.hid hiv6
                have HK6 := Lib.hid k6
                clear hiv6 k6 ho6 hb6
                go_wp2_with fail
                go_roundg g'
                case rel => exact ⟨i + 1, _, _, by have := HI.out; omega, by go_num, Lib.hid (by omega), HO6, HK6, HB6, HIV6, HW6⟩
                case measure => omega
              · have HCD := Lib.hid (show i < i ∨ true = true from .inr rfl)
                obtain ⟨F, h1, h2, h3, h4, h5⟩ := HO5.out
                have HX := Lib.hid (HPP.out.write h1 HW5.out (by omega) 0 (K : Int) dv b0 bK hdb.2.2)
                have hg6 := wg_write HW5.out 0 (K : Int) dv
                simp only [p_write hK4] at HX hg6
                have HF := Lib.hid (And.intro h2 (And.intro h3 (And.intro h4 h5)))
                have hiv6 := iv_step HIV.out hK4 dv
                clear h1 h2 h3 h4 h5
                go_wp2_with fail
                refine HX.out.mono ?_
                rintro e w6 ⟨rfl, ho, F', ht, hg⟩
                obtain ⟨ho6, hb6, hk6⟩ := onx_p HF.out.1 HF.out.2.1 HF.out.2.2.1 HF.out.2.2.2 ho ht hg
                have k6 := hk6 HK5.out
                have z3 := ((HB5.out.trans hb6).cell (p := ⟨b, off + i * 4 + 3, none⟩) hbl).trans x3
                have hw6 : Wg (5 + 2 * (i + 1)) (pE (putR (K : Int) dv (qA i i) P) (qB i (i + 1)) []) := by rw [qB_next]; exact wg_mono hg6 (by omega)
                rw [← qB_next] at ho6
                have HO6 := Lib.hid ho6
                have HB6 := Lib.hid (HB5.out.trans hb6)
                have HW6 := Lib.hid hw6
                clear ho ht hg hg6 hw6 hk6 HF
                rw [if_pos HCD.out] at hiv6
                have HIV6 := Lib.hid hiv6
                have z6 : w6.cell? ⟨XB, K, none⟩ = some (.int .i64 zK) := k6.cell K _ (xints_at HZK.out)
                have f6 := k6.free K
                have HKS := Lib.hid (show Bk (w6.setCell ⟨XB, K, none⟩ (.int .i64 dv)) XB (xints (W.set K dv)) 3 from by rw [← xints_set]; exact k6.set K _)
                have HOS := Lib.hid (onx_set HPP.out ho6 K (.int .i64 dv))
                have HBS := Lib.hid ((HB6.out).setCell (p := ⟨XB, K, none⟩) (by have := HXB.out; show w.heap.size ≤ XB; exact this) (.int .i64 dv))
                clear hiv6 k6 ho6 hb6
                go_wp2_with fail
                go_roundg g'
                case rel => exact ⟨i + 1, _, _, by have := HI.out; omega, by go_num, Lib.hid (by omega), HOS, HKS, HBS, HIV6, HW6⟩
                case measure => omega
            · have hne : ¬ i = FR := he
              have c1 : ((i : Int) == (FR : Int)) = false := by rw [beq_eq_false_iff_ne]; omega
              have c2 : ¬ (i : Int) < (FR : Int) := by omega
              have HO5 := Lib.hid (show OnX TP wr w.heap.size p (pE P (qA FR i) []) XB from by rw [← qB_eq hne]; exact HOX.out)
              have HW5 := Lib.hid (show Wg (5 + 2 * i + 1) (pE P (qA FR i) []) from by rw [← qB_eq hne]; exact wg_mono HWG.out (Nat.le_succ _))
              have HK5 := HKB
              have HB5 := HBI
              cases keep
              · have HCD := Lib.hid (show ¬ (i < FR ∨ false = true) from fun h => by rcases h with h | h; omega; cases h)
                obtain ⟨F, h1, h2, h3, h4, h5⟩ := HO5.out
                have HX := Lib.hid (HPP.out.write h1 HW5.out (by omega) 0 (K : Int) dv b0 bK hdb.2.2)
                have hg6 := wg_write HW5.out 0 (K : Int) dv
                simp only [p_write hK4] at HX hg6
                have HF := Lib.hid (And.intro h2 (And.intro h3 (And.intro h4 h5)))
                have hiv6 := iv_step HIV.out hK4 dv
                clear h1 h2 h3 h4 h5
                go_wp2_with fail
                refine HX.out.mono ?_
                rintro e w6 ⟨rfl, ho, F', ht, hg⟩
                obtain ⟨ho6, hb6, hk6⟩ := onx_p HF.out.1 HF.out.2.1 HF.out.2.2.1 HF.out.2.2.2 ho ht hg
                have k6 := hk6 HK5.out
                have z3 := ((HB5.out.trans hb6).cell (p := ⟨b, off + i * 4 + 3, none⟩) hbl).trans x3
                have hw6 : Wg (5 + 2 * (i + 1)) (pE (putR (K : Int) dv (qA FR i) P) (qB FR (i + 1)) []) := by rw [qB_next]; exact wg_mono hg6 (by omega)
                rw [← qB_next] at ho6
                have HO6 := Lib.hid ho6
                have HB6 := Lib.hid (HB5.out.trans hb6)
                have HW6 := Lib.hid hw6
                clear ho ht hg hg6 hw6 hk6 HF
                rw [if_neg HCD.out] at hiv6
                have HIV6 := Lib.hid hiv6
                have HK6 := Lib.hid k6
                clear hiv6 k6 ho6 hb6
                go_wp2_with fail
                go_roundg g'
                case rel => exact ⟨i + 1, _, _, by have := HI.out; omega, by go_num, Lib.hid (by omega), HO6, HK6, HB6, HIV6, HW6⟩
                case measure => omega
              · have HCD := Lib.hid (show i < FR ∨ true = true from .inr rfl)
                obtain ⟨F, h1, h2, h3, h4, h5⟩ := HO5.out
                have HX := Lib.hid (HPP.out.write h1 HW5.out (by omega) 0 (K : Int) dv b0 bK hdb.2.2)
                have hg6 := wg_write HW5.out 0 (K : Int) dv
                simp only [p_write hK4] at HX hg6
                have HF := Lib.hid (And.intro h2 (And.intro h3 (And.intro h4 h5)))
                have hiv6 := iv_step HIV.out hK4 dv
                clear h1 h2 h3 h4 h5
                go_wp2_with fail
                refine HX.out.mono ?_
                rintro e w6 ⟨rfl, ho, F', ht, hg⟩
                obtain ⟨ho6, hb6, hk6⟩ := onx_p HF.out.1 HF.out.2.1 HF.out.2.2.1 HF.out.2.2.2 ho ht hg
                have k6 := hk6 HK5.out
                have z3 := ((HB5.out.trans hb6).cell (p := ⟨b, off + i * 4 + 3, none⟩) hbl).trans x3
                have hw6 : Wg (5 + 2 * (i + 1)) (pE (putR (K : Int) dv (qA FR i) P) (qB FR (i + 1)) []) := by rw [qB_next]; exact wg_mono hg6 (by omega)
                rw [← qB_next] at ho6
                have HO6 := Lib.hid ho6
                have HB6 := Lib.hid (HB5.out.trans hb6)
                have HW6 := Lib.hid hw6
                clear ho ht hg hg6 hw6 hk6 HF
                rw [if_pos HCD.out] at hiv6
                have HIV6 := Lib.hid hiv6
                have z6 : w6.cell? ⟨XB, K, none⟩ = some (.int .i64 zK) := k6.cell K _ (xints_at HZK.out)
                have f6 := k6.free K
                have HKS := Lib.hid (show Bk (w6.setCell ⟨XB, K, none⟩ (.int .i64 dv)) XB (xints (W.set K dv)) 3 from by rw [← xints_set]; exact k6.set K _)
                have HOS := Lib.hid (onx_set HPP.out ho6 K (.int .i64 dv))
                have HBS := Lib.hid ((HB6.out).setCell (p := ⟨XB, K, none⟩) (by have := HXB.out; show w.heap.size ≤ XB; exact this) (.int .i64 dv))
                clear hiv6 k6 ho6 hb6
                go_wp2_with fail
                go_roundg g'
                case rel => exact ⟨i + 1, _, _, by have := HI.out; omega, by go_num, Lib.hid (by omega), HOS, HKS, HBS, HIV6, HW6⟩
                case measure => omega
      · have hex : (¬ (i : Int) < (nd : Int)) ∨ ((i : Int) < (nd : Int) ∧ ¬ (i : Int) < 12) := by omega
        clear hlt
        rcases hex with hx1 | ⟨hx1, hx2⟩
        all_goals
          have hi12 : i ≤ 12 := by have := HI.out; omega
          have hle := HLE.out
          by_cases hfr : FR < i
          · have qb : qB FR i = 2 := by unfold qB; rw [if_neg (by omega)]
            rw [qb] at HOX HWG
            have HO6 := HOX
            have HW6 := HWG
            have c1 : (FR : Int) < (nd : Int) := by omega
            have c2 : (FR : Int) < 12 := by omega
            cases keep
            · skip
              obtain ⟨F, h1, h2, h3, h4, h5⟩ := HO6.out
              have HX := Lib.hid (HPP.out.undo h1 HW6.out (by omega) 0 b0)
              simp only [p_shut] at HX
              have HF := Lib.hid (And.intro h2 (And.intro h3 (And.intro h4 h5)))
              have hg7 := wg_shut HW6.out 0 false
              rw [p_shut] at hg7
              have hfin := fin_shut HIV.out
              obtain ⟨Pf, hPf⟩ : ∃ l, shutX (pX P 2 []) false = l := ⟨_, rfl⟩
              rw [hPf] at HX hg7 hfin
              have HW7 := Lib.hid (show Wg (30 + 0) (pE Pf 1 []) from wg_mono hg7 (by omega))
              clear h1 h2 h3 h4 h5 hg7 hPf
              go_wp2_with fail
              refine HX.out.mono ?_
              rintro e w7 ⟨rfl, ho, F', ht, hg⟩
              obtain ⟨ho7, hb7, hk7⟩ := onx_p HF.out.1 HF.out.2.1 HF.out.2.2.1 HF.out.2.2.2 ho ht hg
              have HO7 := Lib.hid ho7
              have HK7 := Lib.hid (hk7 HKB.out)
              have HB7 := Lib.hid (HBI.out.trans hb7)
              clear ho ht hg ho7 hb7 hk7
              have HPF := Lib.hid (show Fin Pf W from hfin)
              clear hfin
              go_wp2_with fail
              rename World => wz
              go_loopg [13, 14, 15] 4 (fun g nv xv gv w9 => ∃ (n : Nat) (R : List Int), n + g = 4 ∧ nv = .int .i64 (n : Int) ∧ Hid (OnX TP w9 w.heap.size p (pE Pf 1 R) XB) ∧ Hid (Bk w9 XB (xints W) 3) ∧ Hid (Below w.heap.size w w9) ∧ Hid (∀ k, k ∈ R → k < (n : Int)) ∧ Hid (Wg (30 + n) (pE Pf 1 R)))
              case atStart => exact ⟨0, [], Nat.zero_add _, rfl, HO7, HK7, HB7, Lib.hid (fun k h => by cases h), HW7⟩
              case round =>
                obtain ⟨n, R, hn, rfl, HO8, HK8, HB8, HR8, HW8⟩ := hrel
                have HN := Lib.hid hn
                by_cases hn4 : n < 4
                · obtain ⟨g2, rfl⟩ : ∃ g, gk = g + 1 := ⟨gk - 1, by omega⟩
                  obtain ⟨R', hR', x, hx, hrd⟩ := p_read HPF.out hn4 HR8.out
                  have hg9 := wg_read HW8.out 0 (n : Int)
                  rw [hrd] at hg9
                  obtain ⟨F, h1, h2, h3, h4, h5⟩ := HO8.out
                  have HX := Lib.hid (HPP.out.read h1 HW8.out (by omega) 0 (n : Int) b0 ⟨by omega, by omega⟩)
                  simp only [hrd] at HX
                  have HF := Lib.hid (And.intro h2 (And.intro h3 (And.intro h4 h5)))
                  have HR9 := Lib.hid hR'
                  have HW9 := Lib.hid (show Wg (30 + (n + 1)) (pE Pf 1 R') from hg9)
                  have HXV := Lib.hid hx
                  have n0 : (0 : Int) ≤ (n : Int) := by omega
                  have n1 : (n : Int) < 4 := by omega
                  clear h1 h2 h3 h4 h5 hrd hg9 hR' hx
                  go_wp2_with fail
                  refine HX.out.mono ?_
                  rintro e w10 ⟨rfl, ho, F', ht, hg⟩
                  obtain ⟨ho10, hb10, hk10⟩ := onx_p HF.out.1 HF.out.2.1 HF.out.2.2.1 HF.out.2.2.2 ho ht hg
                  have k10 := hk10 HK8.out
                  have z10 : w10.cell? ⟨XB, n, none⟩ = some (.int .i64 x) := k10.cell n _ (xints_at HXV.out)
                  have HO10 := Lib.hid ho10
                  have HK10 := Lib.hid k10
                  have HB10 := Lib.hid (HB8.out.trans hb10)
                  clear ho ht hg ho10 hb10 hk10 k10
                  go_wp2_with fail
                  go_roundg g2
                  case rel => exact ⟨n + 1, R', by have := HN.out; omega, by go_num, HO10, HK10, HB10, HR9, HW9⟩
                  case measure => omega
                · have HL9 := Lib.hid (HLIV.out wr)
                  go_wp2_with fail
                  all_goals
                    refine HL9.out.mono ?_
                    rintro e w10 ⟨rfl, hb⟩
                    have HB10 := Lib.hid (bnext HB8.out hb)
                    clear hb
                    go_wp2_with fail
                    go_ret
                    exact ⟨rfl, HB10.out⟩
            · skip
              obtain ⟨F, h1, h2, h3, h4, h5⟩ := HO6.out
              have HX := Lib.hid (HPP.out.join h1 HW6.out (by omega) 0 b0)
              simp only [p_shut] at HX
              have HF := Lib.hid (And.intro h2 (And.intro h3 (And.intro h4 h5)))
              have hg7 := wg_shut HW6.out 0 true
              rw [p_shut] at hg7
              have hfin := fin_shut HIV.out
              obtain ⟨Pf, hPf⟩ : ∃ l, shutX (pX P 2 []) true = l := ⟨_, rfl⟩
              rw [hPf] at HX hg7 hfin
              have HW7 := Lib.hid (show Wg (30 + 0) (pE Pf 1 []) from wg_mono hg7 (by omega))
              clear h1 h2 h3 h4 h5 hg7 hPf
              go_wp2_with fail
              refine HX.out.mono ?_
              rintro e w7 ⟨rfl, ho, F', ht, hg⟩
              obtain ⟨ho7, hb7, hk7⟩ := onx_p HF.out.1 HF.out.2.1 HF.out.2.2.1 HF.out.2.2.2 ho ht hg
              have HO7 := Lib.hid ho7
              have HK7 := Lib.hid (hk7 HKB.out)
              have HB7 := Lib.hid (HBI.out.trans hb7)
              clear ho ht hg ho7 hb7 hk7
              have HPF := Lib.hid (show Fin Pf W from hfin)
              clear hfin
              go_wp2_with fail
              rename World => wz
              go_loopg [13, 14, 15] 4 (fun g nv xv gv w9 => ∃ (n : Nat) (R : List Int), n + g = 4 ∧ nv = .int .i64 (n : Int) ∧ Hid (OnX TP w9 w.heap.size p (pE Pf 1 R) XB) ∧ Hid (Bk w9 XB (xints W) 3) ∧ Hid (Below w.heap.size w w9) ∧ Hid (∀ k, k ∈ R → k < (n : Int)) ∧ Hid (Wg (30 + n) (pE Pf 1 R)))
              case atStart => exact ⟨0, [], Nat.zero_add _, rfl, HO7, HK7, HB7, Lib.hid (fun k h => by cases h), HW7⟩
              case round =>
                obtain ⟨n, R, hn, rfl, HO8, HK8, HB8, HR8, HW8⟩ := hrel
                have HN := Lib.hid hn
                by_cases hn4 : n < 4
                · obtain ⟨g2, rfl⟩ : ∃ g, gk = g + 1 := ⟨gk - 1, by omega⟩
                  obtain ⟨R', hR', x, hx, hrd⟩ := p_read HPF.out hn4 HR8.out
                  have hg9 := wg_read HW8.out 0 (n : Int)
                  rw [hrd] at hg9
                  obtain ⟨F, h1, h2, h3, h4, h5⟩ := HO8.out
                  have HX := Lib.hid (HPP.out.read h1 HW8.out (by omega) 0 (n : Int) b0 ⟨by omega, by omega⟩)
                  simp only [hrd] at HX
                  have HF := Lib.hid (And.intro h2 (And.intro h3 (And.intro h4 h5)))
                  have HR9 := Lib.hid hR'
                  have HW9 := Lib.hid (show Wg (30 + (n + 1)) (pE Pf 1 R') from hg9)
                  have HXV := Lib.hid hx
                  have n0 : (0 : Int) ≤ (n : Int) := by omega
                  have n1 : (n : Int) < 4 := by omega
                  clear h1 h2 h3 h4 h5 hrd hg9 hR' hx
                  go_wp2_with fail
                  refine HX.out.mono ?_
                  rintro e w10 ⟨rfl, ho, F', ht, hg⟩
                  obtain ⟨ho10, hb10, hk10⟩ := onx_p HF.out.1 HF.out.2.1 HF.out.2.2.1 HF.out.2.2.2 ho ht hg
                  have k10 := hk10 HK8.out
                  have z10 : w10.cell? ⟨XB, n, none⟩ = some (.int .i64 x) := k10.cell n _ (xints_at HXV.out)
                  have HO10 := Lib.hid ho10
                  have HK10 := Lib.hid k10
                  have HB10 := Lib.hid (HB8.out.trans hb10)
                  clear ho ht hg ho10 hb10 hk10 k10
                  go_wp2_with fail
                  go_roundg g2
                  case rel => exact ⟨n + 1, R', by have := HN.out; omega, by go_num, HO10, HK10, HB10, HR9, HW9⟩
                  case measure => omega
                · have HL9 := Lib.hid (HLIV.out wr)
                  go_wp2_with fail
                  all_goals
                    refine HL9.out.mono ?_
                    rintro e w10 ⟨rfl, hb⟩
                    have HB10 := Lib.hid (bnext HB8.out hb)
                    clear hb
                    go_wp2_with fail
                    go_ret
                    exact ⟨rfl, HB10.out⟩
          · have qb : qB FR i = 1 := by unfold qB; rw [if_pos (by omega)]
            rw [qb] at HOX HWG
            have hfin := fin_none HIV.out (show i ≤ FR by omega)
            obtain ⟨Pf, hPf⟩ : ∃ l, P = l := ⟨_, rfl⟩
            rw [hPf] at HOX HWG hfin
            have HO7 := HOX
            have HK7 := HKB
            have HB7 := HBI
            have HW7 := Lib.hid (show Wg (30 + 0) (pE Pf 1 []) from wg_mono HWG.out (by omega))
            have hc3 : (¬ (FR : Int) < (nd : Int)) ∨ ((FR : Int) < (nd : Int) ∧ ¬ (FR : Int) < 12) := by omega
            clear hPf
            rcases hc3 with c1 | ⟨c1, c2⟩
            · skip
              have HPF := Lib.hid (show Fin Pf W from hfin)
              clear hfin
              go_wp2_with fail
              rename World => wz
              go_loopg [13, 14, 15] 4 (fun g nv xv gv w9 => ∃ (n : Nat) (R : List Int), n + g = 4 ∧ nv = .int .i64 (n : Int) ∧ Hid (OnX TP w9 w.heap.size p (pE Pf 1 R) XB) ∧ Hid (Bk w9 XB (xints W) 3) ∧ Hid (Below w.heap.size w w9) ∧ Hid (∀ k, k ∈ R → k < (n : Int)) ∧ Hid (Wg (30 + n) (pE Pf 1 R)))
              case atStart => exact ⟨0, [], Nat.zero_add _, rfl, HO7, HK7, HB7, Lib.hid (fun k h => by cases h), HW7⟩
              case round =>
                obtain ⟨n, R, hn, rfl, HO8, HK8, HB8, HR8, HW8⟩ := hrel
                have HN := Lib.hid hn
                by_cases hn4 : n < 4
                · obtain ⟨g2, rfl⟩ : ∃ g, gk = g + 1 := ⟨gk - 1, by omega⟩
                  obtain ⟨R', hR', x, hx, hrd⟩ := p_read HPF.out hn4 HR8.out
                  have hg9 := wg_read HW8.out 0 (n : Int)
                  rw [hrd] at hg9
                  obtain ⟨F, h1, h2, h3, h4, h5⟩ := HO8.out
                  have HX := Lib.hid (HPP.out.read h1 HW8.out (by omega) 0 (n : Int) b0 ⟨by omega, by omega⟩)
                  simp only [hrd] at HX
                  have HF := Lib.hid (And.intro h2 (And.intro h3 (And.intro h4 h5)))
                  have HR9 := Lib.hid hR'
                  have HW9 := Lib.hid (show Wg (30 + (n + 1)) (pE Pf 1 R') from hg9)
                  have HXV := Lib.hid hx
                  have n0 : (0 : Int) ≤ (n : Int) := by omega
                  have n1 : (n : Int) < 4 := by omega
                  clear h1 h2 h3 h4 h5 hrd hg9 hR' hx
                  go_wp2_with fail
                  refine HX.out.mono ?_
                  rintro e w10 ⟨rfl, ho, F', ht, hg⟩
                  obtain ⟨ho10, hb10, hk10⟩ := onx_p HF.out.1 HF.out.2.1 HF.out.2.2.1 HF.out.2.2.2 ho ht hg
                  have k10 := hk10 HK8.out
                  have z10 : w10.cell? ⟨XB, n, none⟩ = some (.int .i64 x) := k10.cell n _ (xints_at HXV.out)
                  have HO10 := Lib.hid ho10
                  have HK10 := Lib.hid k10
                  have HB10 := Lib.hid (HB8.out.trans hb10)
                  clear ho ht hg ho10 hb10 hk10 k10
                  go_wp2_with fail
                  go_roundg g2
                  case rel => exact ⟨n + 1, R', by have := HN.out; omega, by go_num, HO10, HK10, HB10, HR9, HW9⟩
                  case measure => omega
                · have HL9 := Lib.hid (HLIV.out wr)
                  go_wp2_with fail
                  all_goals
                    refine HL9.out.mono ?_
                    rintro e w10 ⟨rfl, hb⟩
                    have HB10 := Lib.hid (bnext HB8.out hb)
                    clear hb
                    go_wp2_with fail
                    go_ret
                    exact ⟨rfl, HB10.out⟩
            · skip
              have HPF := Lib.hid (show Fin Pf W from hfin)
              clear hfin
              go_wp2_with fail
              rename World => wz
              go_loopg [13, 14, 15] 4 (fun g nv xv gv w9 => ∃ (n : Nat) (R : List Int), n + g = 4 ∧ nv = .int .i64 (n : Int) ∧ Hid (OnX TP w9 w.heap.size p (pE Pf 1 R) XB) ∧ Hid (Bk w9 XB (xints W) 3) ∧ Hid (Below w.heap.size w w9) ∧ Hid (∀ k, k ∈ R → k < (n : Int)) ∧ Hid (Wg (30 + n) (pE Pf 1 R)))
              case atStart => exact ⟨0, [], Nat.zero_add _, rfl, HO7, HK7, HB7, Lib.hid (fun k h => by cases h), HW7⟩
              case round =>
                obtain ⟨n, R, hn, rfl, HO8, HK8, HB8, HR8, HW8⟩ := hrel
                have HN := Lib.hid hn
                by_cases hn4 : n < 4
                · obtain ⟨g2, rfl⟩ : ∃ g, gk = g + 1 := ⟨gk - 1, by omega⟩
                  obtain ⟨R', hR', x, hx, hrd⟩ := p_read HPF.out hn4 HR8.out
                  have hg9 := wg_read HW8.out 0 (n : Int)
                  rw [hrd] at hg9
                  obtain ⟨F, h1, h2, h3, h4, h5⟩ := HO8.out
                  have HX := Lib.hid (HPP.out.read h1 HW8.out (by omega) 0 (n : Int) b0 ⟨by omega, by omega⟩)
                  simp only [hrd] at HX
                  have HF := Lib.hid (And.intro h2 (And.intro h3 (And.intro h4 h5)))
                  have HR9 := Lib.hid hR'
                  have HW9 := Lib.hid (show Wg (30 + (n + 1)) (pE Pf 1 R') from hg9)
                  have HXV := Lib.hid hx
                  have n0 : (0 : Int) ≤ (n : Int) := by omega
                  have n1 : (n : Int) < 4 := by omega
                  clear h1 h2 h3 h4 h5 hrd hg9 hR' hx
                  go_wp2_with fail
                  refine HX.out.mono ?_
                  rintro e w10 ⟨rfl, ho, F', ht, hg⟩
                  obtain ⟨ho10, hb10, hk10⟩ := onx_p HF.out.1 HF.out.2.1 HF.out.2.2.1 HF.out.2.2.2 ho ht hg
                  have k10 := hk10 HK8.out
                  have z10 : w10.cell? ⟨XB, n, none⟩ = some (.int .i64 x) := k10.cell n _ (xints_at HXV.out)
                  have HO10 := Lib.hid ho10
                  have HK10 := Lib.hid k10
                  have HB10 := Lib.hid (HB8.out.trans hb10)
                  clear ho ht hg ho10 hb10 hk10 k10
                  go_wp2_with fail
                  go_roundg g2
                  case rel => exact ⟨n + 1, R', by have := HN.out; omega, by go_num, HO10, HK10, HB10, HR9, HW9⟩
                  case measure => omega
                · have HL9 := Lib.hid (HLIV.out wr)
                  go_wp2_with fail
                  all_goals
                    refine HL9.out.mono ?_
                    rintro e w10 ⟨rfl, hb⟩
                    have HB10 := Lib.hid (bnext HB8.out hb)
                    clear hb
                    go_wp2_with fail
                    go_ret
                    exact ⟨rfl, HB10.out⟩
end Go.Proofs.Ytjoifodjbdbicaa.VG
