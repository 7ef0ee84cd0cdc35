/- ZT: several texts in one (PJ PK PM). -/
import Derived.Test.YtjoifodjbdbicaaZR
import Derived.Test.YtjoifodjbdbicaaPI
import Derived.Test.YtjoifodjbdbicaaUJ
import Derived.Test.YtjoifodjbdbicaaZE
import Derived.Lib.LazyBuf

/- The program's engine: Write, Read. -/
namespace Go.Proofs.Ytjoifodjbdbicaa.PJ
open Go.RowKit Go.Proofs.Ytjoifodjbdbicaa.RG Go.Proofs.Ytjoifodjbdbicaa.RB Go.Proofs.Ytjoifodjbdbicaa.RI Go.Proofs.Ytjoifodjbdbicaa.RM Go.Proofs.Ytjoifodjbdbicaa.UA Go.Proofs.Ytjoifodjbdbicaa.UB Go.Proofs.Ytjoifodjbdbicaa.UD Go.Proofs.Ytjoifodjbdbicaa.UE Go.Proofs.Ytjoifodjbdbicaa.UH Go.Proofs.Ytjoifodjbdbicaa.UI Go.Proofs.Ytjoifodjbdbicaa.PA Go.Proofs.Ytjoifodjbdbicaa.PB Go.Proofs.Ytjoifodjbdbicaa.PC Go.Proofs.Ytjoifodjbdbicaa.PD Go.Proofs.Ytjoifodjbdbicaa.PE Go.Proofs.Ytjoifodjbdbicaa.PF Go.Proofs.Ytjoifodjbdbicaa.PG
set_option linter.unusedVariables false
set_option maxRecDepth 100000
set_option maxRecDepth 100000

section
variable {F : Nat → Prop} {p : Nat} {E : Eg} {vv : Value} {tv : Nat → Option Nat} {G : Nat → Nat → Prop}
theorem split_last {α : Type} {l : List α} (h : l ≠ []) : ∃ l' a, l = l' ++ [a] := ⟨l.dropLast, l.getLast h, (List.dropLast_concat_getLast h).symm⟩
/-- What the last map becomes. -/
theorem tx_last {w w' : World} {g : Nat → Prop} {b : Nat} {x x' : Tx} {L : List Int} {rv pv lv : Value} {ms : List Mp} {m : Mp} {ks : List (Int × Int)} (H : TX w g b x L rv pv lv (ms ++ [m])) (ho : OnS (fun c => c = m.1) w w') (hm : MapB w' m.1 ks) (hx : txc x' rv pv lv = txc x rv pv lv) (hr : x'.reads = x.reads) (hp : x'.parts = x.parts)
    (hi : ∀ (k : Nat) (y : Mp), ms[k]? = some y → IsP y.2 x'.puts ((k : Int) + 1)) (hl : IsP ks x'.puts ((ms.length : Int) + 1)) {g' : Nat → Prop} (hg : ∀ c, g c → g' c) (hg' : ∀ c, g' c → c < w'.heap.size) : TX w' g' b x' L rv pv lv (ms ++ [(m.1, ks)]) := by
  obtain ⟨h1, h2, h3, h4, h5, h6⟩ := H.map (H.mp m (by simp)) ho
  have hmap : (ms ++ [(m.1, ks)]).map (·.1) = (ms ++ [m]).map (·.1) := by simp
  have hnd := H.nd
  refine ⟨hx ▸ h1, hr ▸ h2, hmap ▸ h3, h4, fun y hy => ?_, by rw [hp, ← H.np]; simp, fun k y hy => ?_, hmap ▸ H.nd, H.ne, h6, hg _ H.inb, fun c hc => hg c (H.inr c hc), fun c hc => hg c (H.inp c hc), fun c hc => hg c (H.inl c hc), fun y hy => ?_, hg'⟩
  · rcases List.mem_append.1 hy with hy | hy
    · refine h5 y (List.mem_append_left _ hy) fun e => ?_
      rw [List.map_append, List.nodup_append] at hnd
      exact hnd.2.2 y.1 (List.mem_map.2 ⟨y, hy, rfl⟩) m.1 (by simp) e
    · rw [List.mem_singleton.1 hy]; exact hm
  · rw [List.getElem?_append] at hy
    split at hy
    · exact hi k y hy
    · have hk : k - ms.length = 0 := by
        rcases Nat.eq_zero_or_pos (k - ms.length) with h | h
        · exact h
        · rw [List.getElem?_eq_none (by simp; omega)] at hy; cases hy
      rw [hk] at hy
      injection hy with hy
      subst hy
      rw [show k = ms.length by omega]
      exact hl
  · rcases List.mem_append.1 hy with hy | hy
    · exact hg _ (H.inm y (List.mem_append_left _ hy))
    · rw [List.mem_singleton.1 hy]; exact hg _ (H.inm m (by simp))
set_option maxHeartbeats 800000 in
theorem write_c (w : World) (H : EI w F p E vv tv G) (h8 : E.T.length = 8) (t n v : Int) (hst : ∀ x, x ∈ E.T → opn x = true → ¬ 0 < x.stamp) (hp : ∀ x, x ∈ E.T → x.is = true → 1 ≤ x.parts ∧ x.parts ≤ 1000000) :
    Calls Try.prog 29 #[.pointer (some ⟨p, 0, none⟩), .int .i64 t, .int .i64 n, .int .i64 v] w fun e w' => e = .returned (.int .i64 (writeR E t n v).2) ∧ OnS F w w' ∧ ∃ F' G', EI w' F' p (writeR E t n v).1 vv tv G' ∧ Gr w F F' := by
  have HO := Lib.hid (open_c w H h8 t)
  have HV := Lib.hid (isVar_c w F p E vv tv G H n)
  have HH := Lib.hid H
  by_cases hok : openR E t = true ∧ (vrR E n).isSome = true
  · obtain ⟨ho, hsm⟩ := hok
    rcases who H h8 t with ⟨h1, h2, h3⟩ | ⟨i, x, b, rfl, hi, hx, hth, hs, hb, rv, pv, lv, ms, HX⟩
    · rw [h3] at ho; cases ho
    have hop : opn x = true := by unfold openR at ho; rw [hth] at ho; exact ho
    obtain ⟨vr, hvr⟩ := Option.isSome_iff_exists.1 hsm
    have hr : writeR E (i : Int) n v = (setT E (i : Int) { x with puts := putR n v x.parts x.puts }, 0) := by unfold writeR; rw [hth, hvr]; exact if_pos hop
    rw [hr]
    rw [if_pos ho, ofV_nat tv hi, hb, ptr_some] at HO
    rw [hsm] at HV
    have hc : x.commits = false := by unfold opn at hop; cases h : x.commits <;> simp [h] at hop ⊢
    have HP := Lib.hid (hp x (mem_of hx) hs)
    have hne : ms ≠ [] := fun e => by have := HX.np; rw [e] at this; have := HP.out.1; simp at *; omega
    obtain ⟨ms, m, rfl⟩ := split_last hne
    have hlen : (ms.length : Int) + 1 = x.parts := by have := HX.np; simpa using this
    have HXX := Lib.hid HX
    have HXI := Lib.hid hx
    have HB := Lib.hid hb
    have HSI := Lib.hid hs
    have HLN := Lib.hid hlen
    have HLF := Lib.hid (show lftR E.V (i : Int) { x with puts := putR n v x.parts x.puts } = lftR E.V (i : Int) x by rw [lft_open (x := { x with puts := putR n v x.parts x.puts }) (hst x (mem_of hx) hop) hc, lft_open (hst x (mem_of hx) hop) hc])
    have HY := Lib.hid (youngest_c w HX (by have := HP.out.2; omega))
    clear hr ho hop hth hx hs hc hp hst HX H hb hne hlen hvr hsm
    go_enter Try.func29, Try.ntmps29
    go_wp2_with (first
      | (go_at_call 60; refine HO.out.mono ?_; rintro e w9 ⟨rfl, hw9⟩; subst w9)
      | (go_at_call 52; refine HV.out.mono ?_; rintro e w9 ⟨rfl, hw9⟩; subst w9)
      | (go_at_call 55; refine HY.out.mono ?_; rintro e w1 ⟨rfl, hb1⟩; have HB1 := Lib.hid hb1; clear hb1; have hput := run_put (P := Try.prog) (MT := 88) (KT := 3) (ET := 3) Try.underlying88 Try.underlying3 w1 m.1 m.2 n v ((HXX.out.mp m (by simp)).keep HB1.out)))
    go_ret
    have hm1 := (HXX.out.mp m (by simp)).keep HB1.out
    have hon : OnS (fun c => c = m.1) w (putM w1 m.1 n v m.2) := (OnS.of HB1.out).trans (putM_on w1 m.1 n v m.2)
    have hon1 : OnS (fun c => c = m.1) w1 (putM w1 m.1 n v m.2) := putM_on w1 m.1 n v m.2
    have hin : ∀ c, c = m.1 → G i c := fun c h => by rw [h]; exact HXX.out.inm m (by simp)
    have hsz : (putM w1 m.1 n v m.2).heap.size = w1.heap.size := setMap_size _ _ _
    have hpn : ((ms.length : Int) + 1) = x.parts := HLN.out
    have hX7 := tx_last (x' := { x with puts := putR n v x.parts x.puts }) (g' := Fx (G i) w (putM w1 m.1 n v m.2)) (HXX.out.keep HB1.out) hon1 (hm1.put n v) rfl rfl rfl (fun k y hy => (HXX.out.isp k y (by rw [List.getElem?_append_left (List.getElem?_eq_some_iff.1 hy).1]; exact hy)).put_other (by have := (List.getElem?_eq_some_iff.1 hy).1; omega) n v) (by rw [hpn]; exact (hpn ▸ HXX.out.isp ms.length m (by simp)).put n v) (fun c h => .inl h) (fun c h => by
      rcases h with h | h
      · exact Nat.lt_of_lt_of_le (HXX.out.lt c h) hon.size
      · exact h.2)
    exact ⟨rfl, hon.weak fun c _ h => HH.out.gf i c (hin c h), _, _, ei_upd (x' := { x with puts := putR n v x.parts x.puts }) HH.out HXI.out HB.out HSI.out hon (fun c _ h => hin c h) ⟨rv, _, lv, _, HLF.out.symm ▸ hX7⟩, gr_ei _ _ _⟩
  · have hr : writeR E t n v = (E, 1) := by
      unfold writeR
      unfold openR at hok
      cases h1 : thR E t with
      | none => rfl
      | some x =>
        cases h2 : vrR E n with
        | none => rfl
        | some y =>
          rw [h1, h2] at hok
          exact if_neg (fun h => hok ⟨h, rfl⟩)
    rw [hr]
    obtain ⟨c, hc⟩ : ∃ c, (vrR E n).isSome = c := ⟨_, rfl⟩
    rw [hc] at HV hok
    clear hr H hp hst
    by_cases ho : openR E t = true
    · rw [if_pos ho] at HO
      have hc0 : c = false := by cases c; rfl; exact absurd ⟨ho, rfl⟩ hok
      subst hc0
      obtain ⟨o, hob⟩ : ∃ o, ofV tv t = o := ⟨_, rfl⟩
      rw [hob] at HO
      clear hok ho hc hob
      cases o with
      | none =>
        rw [ptr_none] at HO
        go_enter Try.func29, Try.ntmps29
        go_wp2_with (first
          | (go_at_call 60; refine HO.out.mono ?_; rintro e w9 ⟨rfl, hw9⟩; subst w9)
          | (go_at_call 52; refine HV.out.mono ?_; rintro e w9 ⟨rfl, hw9⟩; subst w9))
        go_ret
        exact ⟨rfl, OnS.refl _ _, F, G, HH.out, Gr.refl _ _⟩
      | some b =>
        rw [ptr_some] at HO
        go_enter Try.func29, Try.ntmps29
        go_wp2_with (first
          | (go_at_call 60; refine HO.out.mono ?_; rintro e w9 ⟨rfl, hw9⟩; subst w9)
          | (go_at_call 52; refine HV.out.mono ?_; rintro e w9 ⟨rfl, hw9⟩; subst w9))
        go_ret
        exact ⟨rfl, OnS.refl _ _, F, G, HH.out, Gr.refl _ _⟩
    · rw [if_neg ho, ptr_none] at HO
      clear hok ho hc
      go_enter Try.func29, Try.ntmps29
      go_wp2_with (first
        | (go_at_call 60; refine HO.out.mono ?_; rintro e w9 ⟨rfl, hw9⟩; subst w9)
        | (go_at_call 52; refine HV.out.mono ?_; rintro e w9 ⟨rfl, hw9⟩; subst w9))
      go_ret
      exact ⟨rfl, OnS.refl _ _, F, G, HH.out, Gr.refl _ _⟩
end
end Go.Proofs.Ytjoifodjbdbicaa.PJ

/- The program's engine: Read. -/
namespace Go.Proofs.Ytjoifodjbdbicaa.PK
open Go.RowKit Go.Proofs.Ytjoifodjbdbicaa.RG Go.Proofs.Ytjoifodjbdbicaa.RB Go.Proofs.Ytjoifodjbdbicaa.RI Go.Proofs.Ytjoifodjbdbicaa.RM Go.Proofs.Ytjoifodjbdbicaa.UA Go.Proofs.Ytjoifodjbdbicaa.UB Go.Proofs.Ytjoifodjbdbicaa.UD Go.Proofs.Ytjoifodjbdbicaa.UE Go.Proofs.Ytjoifodjbdbicaa.UH Go.Proofs.Ytjoifodjbdbicaa.UI Go.Proofs.Ytjoifodjbdbicaa.UJ Go.Proofs.Ytjoifodjbdbicaa.PA Go.Proofs.Ytjoifodjbdbicaa.PB Go.Proofs.Ytjoifodjbdbicaa.PC Go.Proofs.Ytjoifodjbdbicaa.PD Go.Proofs.Ytjoifodjbdbicaa.PE Go.Proofs.Ytjoifodjbdbicaa.PF Go.Proofs.Ytjoifodjbdbicaa.PG Go.Proofs.Ytjoifodjbdbicaa.PJ
set_option linter.unusedVariables false
set_option maxRecDepth 100000
set_option maxRecDepth 100000

section
variable {F : Nat → Prop} {p : Nat} {E : Eg} {vv : Value} {tv : Nat → Option Nat} {G : Nat → Nat → Prop}
theorem setT_same {E : Eg} {i : Nat} {x : Tx} (h : E.T[i]? = some x) : setT E (i : Int) x = E := by
  unfold setT
  rw [Int.toNat_natCast]
  have : E.T.set i x = E.T := by
    apply List.ext_getElem?
    intro j
    rw [List.getElem?_set]
    split
    · next e => subst e; split
                · exact h.symm
                · next hn => exact absurd (List.getElem?_eq_some_iff.1 h).1 hn
    · rfl
  rw [this]
theorem read_bad {E : Eg} {t n : Int} (hok : ¬ (openR E t = true ∧ (vrR E n).isSome = true)) : readR E t n = (E, 0, 1) := by
  unfold readR
  unfold openR at hok
  cases h1 : thR E t with
  | none => rfl
  | some x =>
    cases h2 : vrR E n with
    | none => rfl
    | some y =>
      rw [h1, h2] at hok
      exact if_neg (fun h => hok ⟨h, rfl⟩)
set_option maxHeartbeats 1600000 in
theorem read_c (w : World) (H : EI w F p E vv tv G) (h8 : E.T.length = 8) (t n : Int) (hst : ∀ x, x ∈ E.T → opn x = true → ¬ 0 < x.stamp) (hp : ∀ x, x ∈ E.T → x.is = true → 1 ≤ x.parts ∧ x.parts ≤ 1000000) (hu : ∀ x, x ∈ E.T → Un x.puts ∧ ∀ q, q ∈ x.puts → 1 ≤ q.part ∧ q.part ≤ x.parts) (hl : ∀ v, v ∈ E.V → -1 ≤ v.lock) (hrl : ∀ x, x ∈ E.T → x.reads.length ≤ 1000000) :
    Calls Try.prog 28 #[.pointer (some ⟨p, 0, none⟩), .int .i64 t, .int .i64 n] w fun e w' => e = .returned (.tuple #[.int .i64 (readR E t n).2.1, .int .i64 (readR E t n).2.2]) ∧ OnS F w w' ∧ ∃ F', (∃ G', EI w' F' p (readR E t n).1 vv tv G') ∧ Gr w F F' := by
  have HO := Lib.hid (open_c w H h8 t)
  have HV := Lib.hid (isVar_c w F p E vv tv G H n)
  have HH := Lib.hid H
  by_cases hok : openR E t = true ∧ (vrR E n).isSome = true
  · obtain ⟨ho, hsm⟩ := hok
    rcases who H h8 t with ⟨h1, h2, h3⟩ | ⟨i, x, b, rfl, hi, hx, hth, hs, hb, rv, pv, lv, ms, HX⟩
    · rw [h3] at ho; cases ho
    have hop : opn x = true := by unfold openR at ho; rw [hth] at ho; exact ho
    obtain ⟨vr, hvr⟩ := Option.isSome_iff_exists.1 hsm
    have hr : readR E (i : Int) n = (setT E (i : Int) { x with reads := (readX x vr (i : Int) n).1 }, (readX x vr (i : Int) n).2) := by unfold readR; rw [hth, hvr]; exact if_pos hop
    rw [hr]
    obtain ⟨k, rfl⟩ : ∃ k : Nat, n = (k : Int) := ⟨n.toNat, by unfold vrR at hvr; split at hvr; omega; cases hvr⟩
    rw [vrR_nat] at hvr
    rw [if_pos ho, ofV_nat tv hi, hb, ptr_some] at HO
    rw [hsm] at HV
    have hc : x.commits = false := by unfold opn at hop; cases h : x.commits <;> simp [h] at hop ⊢
    have hpp := hp x (mem_of hx) hs
    have hne : ms ≠ [] := fun e => by have := HX.np; rw [e] at this; simp at this; omega
    have hmsl : ms.length = x.parts.toNat := by have := HX.np; omega
    have hbest := own_best (n := (k : Int)) (hu x (mem_of hx)).1 (k := ms.length) (fun q hq => by have := (hu x (mem_of hx)).2 q hq; have := HX.np; omega)
    have HW := Lib.hid (PI.own_c w HX hne (by have := HX.np; omega) (k : Int))
    rw [hbest] at HW
    have HXX := Lib.hid HX
    have HXI := Lib.hid hx
    have HB := Lib.hid hb
    have HSI := Lib.hid hs
    have HRL := Lib.hid (hrl x (mem_of hx))
    have HS := Lib.hid (fun w1 (h : EI w1 F p E vv tv G) => sound_c w1 h i k x vr hi hx hs hvr (hl vr (mem_of hvr)))
    have HVR := Lib.hid hvr
    have HLF := Lib.hid (fun rs => show lftR E.V (i : Int) { x with reads := rs } = lftR E.V (i : Int) x by rw [lft_open (x := { x with reads := rs }) (hst x (mem_of hx) hop) hc, lft_open (hst x (mem_of hx) hop) hc])
    cases hbs : bestR (k : Int) x.puts with
    | some q =>
      rw [readX_some hbs]
      rw [hbs] at HW
      clear hr ho hop hth hx hs hc hp hst HX H hb hne hvr hsm hbest hbs hu hl hrl hpp hmsl HS
      show Calls _ _ _ _ fun e w' => _ ∧ _ ∧ ∃ F', (∃ G', EI w' F' p (setT E (i : Int) x) vv tv G') ∧ _
      rw [setT_same HXI.out]
      go_enter Try.func28, Try.ntmps28
      go_wp2_with (first
        | (go_at_call 60; refine HO.out.mono ?_; rintro e w9 ⟨rfl, hw9⟩; subst w9)
        | (go_at_call 52; refine HV.out.mono ?_; rintro e w9 ⟨rfl, hw9⟩; subst w9)
        | (go_at_call 61; refine HW.out.mono ?_; rintro e w1 ⟨rfl, hb1⟩; have HB1 := Lib.hid hb1; clear hb1))
      go_ret2
      exact ⟨rfl, OnS.of HB1.out, F, ⟨G, HH.out.keep HB1.out⟩, Gr.refl _ _⟩
    | none =>
      rw [hbs] at HW
      obtain ⟨lk, hlk⟩ : ∃ lk, lookR x.start (i : Int) vr = lk := ⟨_, rfl⟩
      rw [hlk] at HS
      by_cases h0 : lk = 0
      · subst h0
        obtain ⟨gv, capv, curv, hvv, hkv, hgv, hfv, hFv, v0, v1, v2⟩ := H.vr hvr
        obtain ⟨ra, rc, hrv, _⟩ := HX.rd.val
        obtain ⟨rn, hrn⟩ : ∃ rn, Hid (x.reads.length = rn) := ⟨_, Lib.hid rfl⟩
        obtain ⟨N, hN⟩ : ∃ N, Hid (E.V.length = N) := ⟨_, Lib.hid rfl⟩
        have hkN := (List.getElem?_eq_some_iff.1 hvr).1
        rw [hN.out] at hkN
        have HN := Lib.hid (show E.V.length = N from hN.out)
        rw [hrn.out] at hrv
        have HRV := Lib.hid hrv
        have HV0 := Lib.hid v0
        have hgb : gv ≠ b := fun e => absurd (bk_typ (e ▸ hkv) HX.bk) (by decide)
        have hpb : p ≠ b := fun e => absurd (bk_typ (e ▸ H.bk) HX.bk) (by decide)
        have HCT := Lib.hid (fun w2 (h : Below w.heap.size w w2) => contains_c w2 (.slice ra rn rc) x.reads (by rw [← hrv]; exact (HX.keep h).rd.row) (hrl x (mem_of hx)) (k : Int))
        have k0 : (0 : Int) ≤ (k : Int) := by omega
        have k1 : (k : Int) < (N : Int) := by omega
        subst hvv
        by_cases hin : (k : Int) ∈ x.reads
        · rw [readX_old hbs hlk hin]
          rw [decide_eq_true hin] at HCT
          clear hr ho hop hth hx hs hc hp hst HX H hb hne hvr hsm hbest hbs hu hl hrl hpp hmsl hlk hkv hfv hFv v0 v1 v2 hrv hin
          show Calls _ _ _ _ fun e w' => _ ∧ _ ∧ ∃ F', (∃ G', EI w' F' p (setT E (i : Int) x) _ tv G') ∧ _
          rw [setT_same HXI.out]
          go_enter Try.func28, Try.ntmps28
          go_wp2_with (first
          | (go_at_call 60; refine HO.out.mono ?_; rintro e w9 ⟨rfl, hw9⟩; subst w9)
          | (go_at_call 52; refine HV.out.mono ?_; rintro e w9 ⟨rfl, hw9⟩; subst w9)
          | (go_at_call 61; refine HW.out.mono ?_; rintro e w1 ⟨rfl, hb1⟩; have HB1 := Lib.hid hb1; clear hb1)
          | (go_at_call 62; refine (HS.out w1 (HH.out.keep HB1.out)).mono ?_; rintro e w2 ⟨rfl, hb2⟩; have HB2 := Lib.hid (bnext HB1.out hb2); clear hb2; have c1w : w2.cell? ⟨b, 1, none⟩ = some (.slice ra rn rc) := (by rw [← HRV.out]; exact (HXX.out.keep HB2.out).cells.2.1); have y1w : w2.cell? ⟨p, 1, none⟩ = some (.slice (some ⟨gv, 0, none⟩) N capv) := (by have := (HH.out.keep HB2.out).bk.cell 1 _ rfl; rw [HN.out] at this; exact this); have v0w : w2.cell? ⟨gv, k * 3, none⟩ = some (.int .i64 vr.val) := (HB2.out.cell (p := ⟨gv, k * 3, none⟩) hgv).trans HV0.out; have bl := (HXX.out.keep HB2.out).bk.lt; have pl := (HH.out.keep HB2.out).bk.lt)
          | (go_at_call 63; refine (HCT.out w2 HB2.out).mono ?_; rintro e w9 ⟨rfl, hw9⟩; subst w9))
          go_ret2
          exact ⟨rfl, OnS.of HB2.out, F, ⟨G, HH.out.keep HB2.out⟩, Gr.refl _ _⟩
        · rw [readX_new hbs hlk hin]
          rw [decide_eq_false hin] at HCT
          clear hr ho hop hth hx hs hc hp hst HX H hb hne hvr hsm hbest hbs hu hl hrl hpp hmsl hlk hkv hfv hFv v0 v1 v2 hrv hin
          go_enter Try.func28, Try.ntmps28
          go_wp2_with (first
          | (go_at_call 60; refine HO.out.mono ?_; rintro e w9 ⟨rfl, hw9⟩; subst w9)
          | (go_at_call 52; refine HV.out.mono ?_; rintro e w9 ⟨rfl, hw9⟩; subst w9)
          | (go_at_call 61; refine HW.out.mono ?_; rintro e w1 ⟨rfl, hb1⟩; have HB1 := Lib.hid hb1; clear hb1)
          | (go_at_call 62; refine (HS.out w1 (HH.out.keep HB1.out)).mono ?_; rintro e w2 ⟨rfl, hb2⟩; have HB2 := Lib.hid (bnext HB1.out hb2); clear hb2; have c1w : w2.cell? ⟨b, 1, none⟩ = some (.slice ra rn rc) := (by rw [← HRV.out]; exact (HXX.out.keep HB2.out).cells.2.1); have y1w : w2.cell? ⟨p, 1, none⟩ = some (.slice (some ⟨gv, 0, none⟩) N capv) := (by have := (HH.out.keep HB2.out).bk.cell 1 _ rfl; rw [HN.out] at this; exact this); have v0w : w2.cell? ⟨gv, k * 3, none⟩ = some (.int .i64 vr.val) := (HB2.out.cell (p := ⟨gv, k * 3, none⟩) hgv).trans HV0.out; have bl := (HXX.out.keep HB2.out).bk.lt; have pl := (HH.out.keep HB2.out).bk.lt)
          | (go_at_call 63; refine (HCT.out w2 HB2.out).mono ?_; rintro e w9 ⟨rfl, hw9⟩; subst w9)
          | (at_builtin; have HBA := Lib.hid (bnext HB2.out (balloc w2 (.cells #[.int .i64 (k : Int)] 3))); have HXA := Lib.hid (HXX.out.keep HBA.out); have HRN := Lib.hid (show RowR TI (w2.alloc (.cells #[.int .i64 (k : Int)] 3)) (fun b => Nobody b ∧ (Value.slice ra rn rc).ownBlock ≠ some b) (.slice (some ⟨w2.heap.size, 0, none⟩) 1 1) [(k : Int)] from rowR_new (R := TI) (q := []) #[.int .i64 (k : Int)] 3 rfl rfl); go_loud (refine wpList_row TI (w2.alloc (.cells #[.int .i64 (k : Int)] 3)) rfl (.tmp 49) (.tmp 51) rfl 0 Nobody (.slice ra rn rc) (.slice (some ⟨w2.heap.size, 0, none⟩) 1 1) x.reads [(k : Int)] rfl rfl (by rw [← HRV.out]; exact HXA.out.rd) HRN.out (by have := HRL.out; rw [List.length_singleton]; omega) (Nat.zero_le _) ?_); intro ao6 n6 cap6 w6 hO6 hn6 hg6 ha6; have HN6 := Lib.hid hn6; have HO6 := Lib.hid hO6; rw [← HRV.out] at hg6 ha6; have HG6 := Lib.hid hg6; have HA6 := Lib.hid ha6; have h6 := HXA.out.rv (ons_grown hg6); have H6 := Lib.hid h6; have f6 := h6.1.free 1; have r6 : w6.cell? ⟨b, 1, none⟩ = some (.slice ra rn rc) := (by rw [← HRV.out]; exact h6.1.cell 1 _ rfl); have l6 := h6.1.lt; have y16 : w6.cell? ⟨p, 1, none⟩ = some (.slice (some ⟨gv, 0, none⟩) N capv) := (by have := ((HH.out.bk.keep HBA.out).grown hg6 (fun e => (HH.out.gp i _ (HXX.out.inr _ e)).1 rfl)).cell 1 _ rfl; rw [HN.out] at this; exact this); have v06 : w6.cell? ⟨gv, k * 3, none⟩ = some (.int .i64 vr.val) := (World.cell?_of_block (w := w2.alloc (.cells #[.int .i64 (k : Int)] 3)) (a := ⟨gv, k * 3, none⟩) (hg6.block gv (by have := HBA.out.size; omega) (fun e => (HH.out.gp i _ (HXX.out.inr _ e.symm)).2 rfl))).trans ((HBA.out.cell (p := ⟨gv, k * 3, none⟩) hgv).trans HV0.out); clear hO6 hn6 hg6 ha6 h6))
          go_ret2
          have hsz6 := HG6.out.size
          rw [World.size_alloc] at hsz6
          obtain rfl : n6 = rn + 1 := by rw [HN6.out, hrn.out]; rfl
          obtain ⟨k6, d6, l6', m6, q6⟩ := H6.out
          have hT6 : TC w6 b (txc x rv pv lv) (x.reads ++ [(k : Int)]) (lftR E.V (i : Int) x) (.slice ao6 (rn + 1) cap6) pv lv ms := ⟨k6, HO6.out, d6, l6', m6, q6⟩
          have hT7 := hT6.wr 1 (.slice ao6 (rn + 1) cap6)
          have hon : OnS (fun c => rv.ownBlock = some c ∨ c = b) w (w6.setCell ⟨b, 1, none⟩ (.slice ao6 (rn + 1) cap6)) := (OnS.of HBA.out).trans (((ons_grown HG6.out).weak fun c _ h => .inl h).trans ((OnS.cell b 1 _).weak fun c _ h => .inr h))
          have hsub : ∀ c, (rv.ownBlock = some c ∨ c = b) → G i c := fun c h => by
            rcases h with h | h
            · exact HXX.out.inr c h
            · rw [h]; exact HXX.out.inb
          have hs2 := HB2.out.size
          have hnw : ∀ c, (Value.slice ao6 (rn + 1) cap6).ownBlock = some c → rv.ownBlock = some c ∨ (w.heap.size ≤ c ∧ c < (w6.setCell ⟨b, 1, none⟩ (.slice ao6 (rn + 1) cap6)).heap.size) := fun c h => by
            have h1 := (hT7.rd.own h).2
            rcases HA6.out with e | e
            · exact .inl (e ▸ h)
            · rw [e, World.size_alloc] at h
              injection h with h
              exact .inr ⟨by omega, h1⟩
          have hX7 : TX (w6.setCell ⟨b, 1, none⟩ (.slice ao6 (rn + 1) cap6)) (Fx (G i) w (w6.setCell ⟨b, 1, none⟩ (.slice ao6 (rn + 1) cap6))) b { x with reads := x.reads ++ [(k : Int)] } (lftR E.V (i : Int) x) (.slice ao6 (rn + 1) cap6) pv lv ms :=
            TC.tx (x := { x with reads := x.reads ++ [(k : Int)] }) hT7 HXX.out.np HXX.out.isp HXX.out.nd (fun c h e => by
              rcases hnw c h with h | h
              · exact HXX.out.ne c h e
              · have := HXX.out.lt c (HXX.out.inl c e); omega) (.inl HXX.out.inb) (fun c h => by
              rcases hnw c h with h | h
              · exact .inl (HXX.out.inr c h)
              · exact .inr h) (fun c h => .inl (HXX.out.inp c h)) (fun c h => .inl (HXX.out.inl c h)) (fun m hm => .inl (HXX.out.inm m hm)) (fun c h => by
              rcases h with h | h
              · exact Nat.lt_of_lt_of_le (HXX.out.lt c h) hon.size
              · exact h.2)
          exact ⟨rfl, hon.weak fun c _ h => HH.out.gf i c (hsub c h), _, ⟨_, ei_upd (x' := { x with reads := x.reads ++ [(k : Int)] }) HH.out HXI.out HB.out HSI.out hon (fun c _ h => hsub c h) ⟨_, pv, lv, ms, (HLF.out (x.reads ++ [(k : Int)])).symm ▸ hX7⟩⟩, gr_ei _ _ _⟩
      · rw [readX_bad hbs (by rw [hlk]; exact h0), hlk]
        have hb0 : (lk != 0) = true := by rw [bne_iff_ne]; exact h0
        clear hr ho hop hth hx hs hc hp hst HX H hb hne hvr hsm hbest hbs hu hl hrl hpp hmsl hlk
        show Calls _ _ _ _ fun e w' => _ ∧ _ ∧ ∃ F', (∃ G', EI w' F' p (setT E (i : Int) x) vv tv G') ∧ _
        rw [setT_same HXI.out]
        go_enter Try.func28, Try.ntmps28
        go_wp2_with (first
          | (go_at_call 60; refine HO.out.mono ?_; rintro e w9 ⟨rfl, hw9⟩; subst w9)
          | (go_at_call 52; refine HV.out.mono ?_; rintro e w9 ⟨rfl, hw9⟩; subst w9)
          | (go_at_call 61; refine HW.out.mono ?_; rintro e w1 ⟨rfl, hb1⟩; have HB1 := Lib.hid hb1; clear hb1)
          | (go_at_call 62; refine (HS.out w1 (HH.out.keep HB1.out)).mono ?_; rintro e w2 ⟨rfl, hb2⟩; have HB2 := Lib.hid (bnext HB1.out hb2); clear hb2))
        go_ret2
        exact ⟨rfl, OnS.of HB2.out, F, ⟨G, HH.out.keep HB2.out⟩, Gr.refl _ _⟩
  · rw [read_bad hok]
    obtain ⟨c, hc⟩ : ∃ c, (vrR E n).isSome = c := ⟨_, rfl⟩
    rw [hc] at HV hok
    clear H hp hst hu hl hrl
    by_cases ho : openR E t = true
    · rw [if_pos ho] at HO
      have hc0 : c = false := by cases c; rfl; exact absurd ⟨ho, rfl⟩ hok
      subst hc0
      obtain ⟨o, hob⟩ : ∃ o, ofV tv t = o := ⟨_, rfl⟩
      rw [hob] at HO
      clear hok ho hc hob
      cases o with
      | none =>
        rw [ptr_none] at HO
        go_enter Try.func28, Try.ntmps28
        go_wp2_with (first
          | (go_at_call 60; refine HO.out.mono ?_; rintro e w9 ⟨rfl, hw9⟩; subst w9)
          | (go_at_call 52; refine HV.out.mono ?_; rintro e w9 ⟨rfl, hw9⟩; subst w9))
        go_ret2
        exact ⟨rfl, OnS.refl _ _, F, ⟨G, HH.out⟩, Gr.refl _ _⟩
      | some b =>
        rw [ptr_some] at HO
        go_enter Try.func28, Try.ntmps28
        go_wp2_with (first
          | (go_at_call 60; refine HO.out.mono ?_; rintro e w9 ⟨rfl, hw9⟩; subst w9)
          | (go_at_call 52; refine HV.out.mono ?_; rintro e w9 ⟨rfl, hw9⟩; subst w9))
        go_ret2
        exact ⟨rfl, OnS.refl _ _, F, ⟨G, HH.out⟩, Gr.refl _ _⟩
    · rw [if_neg ho, ptr_none] at HO
      clear hok ho hc
      go_enter Try.func28, Try.ntmps28
      go_wp2_with (first
        | (go_at_call 60; refine HO.out.mono ?_; rintro e w9 ⟨rfl, hw9⟩; subst w9)
        | (go_at_call 52; refine HV.out.mono ?_; rintro e w9 ⟨rfl, hw9⟩; subst w9))
      go_ret2
      exact ⟨rfl, OnS.refl _ _, F, ⟨G, HH.out⟩, Gr.refl _ _⟩
end
end Go.Proofs.Ytjoifodjbdbicaa.PK

/- The program's engine: Reads; a var's lock. -/
namespace Go.Proofs.Ytjoifodjbdbicaa.PM
open Go.RowKit Go.Proofs.Ytjoifodjbdbicaa.RG Go.Proofs.Ytjoifodjbdbicaa.RB Go.Proofs.Ytjoifodjbdbicaa.RI Go.Proofs.Ytjoifodjbdbicaa.RM Go.Proofs.Ytjoifodjbdbicaa.UA Go.Proofs.Ytjoifodjbdbicaa.UB Go.Proofs.Ytjoifodjbdbicaa.UD Go.Proofs.Ytjoifodjbdbicaa.UE Go.Proofs.Ytjoifodjbdbicaa.UH Go.Proofs.Ytjoifodjbdbicaa.UI Go.Proofs.Ytjoifodjbdbicaa.UK Go.Proofs.Ytjoifodjbdbicaa.PA Go.Proofs.Ytjoifodjbdbicaa.PB Go.Proofs.Ytjoifodjbdbicaa.PC Go.Proofs.Ytjoifodjbdbicaa.PD Go.Proofs.Ytjoifodjbdbicaa.PE Go.Proofs.Ytjoifodjbdbicaa.PF Go.Proofs.Ytjoifodjbdbicaa.PG Go.Proofs.Ytjoifodjbdbicaa.PJ
set_option linter.unusedVariables false
set_option maxRecDepth 100000
set_option maxRecDepth 100000

theorem own_empty (w : World) : OwnR TI (w.alloc (.cells #[] 3)) 0 Nobody (.slice (some ⟨w.heap.size, 0, none⟩) 0 0) [] := by
  refine ⟨[], ⟨rfl, .inr ⟨w.heap.size, 0, #[], rfl, Nat.zero_le _, Bk.new w _ _, Nat.le_refl _, Nat.zero_le _, rfl, rfl⟩⟩, trivial⟩
theorem clone_c (w : World) (v : Value) (l : List Int) (hv : RowI w v l) (hm : l.length ≤ 1000000) :
    Calls Try.prog 73 #[v] w fun e w' => ∃ x, e = .returned x ∧ RowI w' x l ∧ Below w.heap.size w w' := by
  obtain ⟨ao, cap, hvv, hc, _⟩ := row_has hv
  have HV := Lib.hid hv
  have heq := fun (w : World) (n : Nat) => run_eql_slice_nil (P := Try.prog) w 37 3 ao n cap Try.underlying37
  cases ao with
  | none =>
    have hl : l = [] := by
      obtain ⟨ao', cap', e, _, h⟩ := row_has hv
      rcases h with h | ⟨b, off, e2, _⟩
      · exact h
      · rw [hvv] at e
        injection e with e
        rw [e2] at e
        cases e
    subst hl
    subst hvv
    clear hv hc
    go_enter Try.func73, Try.ntmps73
    go_wp2_with fail
    go_ret
    exact ⟨_, rfl, rowR_nil _ _, Below.refl _ _⟩
  | some a =>
    have HA := Lib.hid (balloc w (.cells #[] 3))
    have HO := Lib.hid (own_empty w)
    have HR := Lib.hid (show RowR TI (w.alloc (.cells #[] 3)) (fun b => Nobody b ∧ (Value.slice (some ⟨w.heap.size, 0, none⟩) 0 0).ownBlock ≠ some b) v l from (has_row (row_has (hv.keep HA.out))).weak (fun _ h => h.elim))
    have HLN := Lib.hid (show ([] : List Int).length + l.length ≤ 100000000000 by simp; omega)
    obtain ⟨n, hn⟩ : ∃ n, Hid (l.length = n) := ⟨_, Lib.hid rfl⟩
    rw [hn.out] at hvv
    have HVV := Lib.hid hvv
    subst hvv
    clear hv hc hm
    go_enter Try.func73, Try.ntmps73
    go_wp2_with (at_builtin; go_loud (refine wpList_row TI (w.alloc (.cells #[] 3)) rfl (.tmp 5) (.tmp 6) rfl 0 Nobody (.slice (some ⟨w.heap.size, 0, none⟩) 0 0) (.slice (some a) n cap) [] l rfl rfl HO.out HR.out HLN.out (Nat.zero_le _) ?_); intro ao6 n6 cap6 w6 hO6 hn6 hg6 ha6; have HO6 := Lib.hid hO6; have HG6 := Lib.hid hg6; clear hO6 hn6 hg6 ha6)
    go_ret
    exact ⟨_, rfl, HO6.out.row, HA.out.trans (bgrown HG6.out (fun b hb => by injection hb with hb; exact Nat.le_of_eq hb) HA.out.size)⟩
section
variable {F : Nat → Prop} {p : Nat} {E : Eg} {vv : Value} {tv : Nat → Option Nat} {G : Nat → Nat → Prop}
theorem reads_c (w : World) (H : EI w F p E vv tv G) (h8 : E.T.length = 8) (t : Int) (hrl : ∀ x, x ∈ E.T → x.reads.length ≤ 1000000) :
    Calls Try.prog 46 #[.pointer (some ⟨p, 0, none⟩), .int .i64 t] w fun e w' => ∃ x, e = .returned x ∧ RowI w' x (match thR E t with | some x => if x.is then x.reads else [] | none => []) ∧ Below w.heap.size w w' := by
  have HO := Lib.hid (active_c w H h8 t)
  rcases who H h8 t with ⟨h1, h2, h3⟩ | ⟨i, x, b, rfl, hi, hx, hth, hs, hb, rv, pv, lv, ms, HX⟩
  · rw [h2] at HO
    have e : (match thR E t with | some x => if x.is then x.reads else [] | none => []) = [] := by
      unfold hasR at h2
      cases hx : thR E t with
      | none => rfl
      | some x => rw [hx] at h2; simp only at h2 ⊢; rw [h2]; rfl
    rw [e]
    clear H h1 h2 h3 e hrl
    go_enter Try.func46, Try.ntmps46
    go_wp2_with (go_at_call 23; refine HO.out.mono ?_; rintro e w9 ⟨rfl, hw9⟩; subst w9)
    go_ret
    exact ⟨_, rfl, rowR_nil _ _, Below.refl _ _⟩
  · rw [show hasR E (i : Int) = true by unfold hasR; rw [hth]; exact hs] at HO
    rw [hth]
    simp only [hs, if_true]
    obtain ⟨c0, c1, c2, c3, c4, c5⟩ := HX.cells
    have y := H.tc hi
    rw [hb, ptr_some] at y
    have HCL := Lib.hid (clone_c w rv x.reads HX.rd.row (hrl x (mem_of hx)))
    have hone := HX.rd.row.one
    have i0 : (0 : Int) ≤ (i : Int) := by omega
    have i1 : (i : Int) < 8 := by omega
    clear H hx hth hs hb HX c0 c2 c3 c4 c5 hrl
    go_enter Try.func46, Try.ntmps46
    go_wp2_with (first
      | (go_at_call 23; refine HO.out.mono ?_; rintro e w9 ⟨rfl, hw9⟩; subst w9)
      | (go_at_call 73; refine HCL.out.mono ?_; rintro e w1 ⟨z, rfl, hz, hb1⟩; have HZ := Lib.hid hz; have HB1 := Lib.hid hb1; clear hz hb1))
    go_ret
    exact ⟨_, rfl, HZ.out, HB1.out⟩
/-- A cell of a var is written. -/
theorem vs_cell {w : World} {g n cap : Nat} {V : List Vr} (h : OwnF TVp w (.slice (some ⟨g, 0, none⟩) n cap) V) {k j : Nat} {v v' : Vr} {u : Value} (hv : V[k]? = some v) (hj : j < 3) (he : encV v' = (encV v).set j u) : OwnF TVp (w.setCell ⟨g, k * 3 + j, none⟩ u) (.slice (some ⟨g, 0, none⟩) n cap) (V.set k v') :=
  own_set h hv hj fun q hq => ⟨[], by
    obtain rfl : q = [] := hq
    exact he, rfl⟩
/-- What is left, but for its first. -/
theorem row_tail {w : World} {b off n cap : Nat} {a : Int} {L : List Int} (h : RowI w (.slice (some ⟨b, off, none⟩) (n + 1) cap) (a :: L)) (hl : L.length = n) : RowI w (.slice (some ⟨b, off + 1, none⟩) n (cap - 1)) L := by
  obtain ⟨ao, cap', e, hc, hr⟩ := row_has h
  injection e with e1 e2 e3
  apply has_row
  subst hl
  refine ⟨_, cap - 1, rfl, by rw [e3]; simp at hc; omega, ?_⟩
  rcases hr with hr | ⟨b', off', e4, hlt, hcs⟩
  · cases hr
  · rw [← e1] at e4
    injection e4 with e4
    injection e4 with e4 e5
    subst e4
    subst e5
    refine .inr ⟨b, off + 1, rfl, hlt, fun j hj => ?_⟩
    have := hcs (j + 1) (by simp; omega)
    rw [show off + 1 + j = off + (j + 1) by omega]
    simpa using this
/-- A row with something in it. -/
theorem row_cons {w : World} {v : Value} {a : Int} {L : List Int} (h : RowI w v (a :: L)) : ∃ b off cap, v = .slice (some ⟨b, off, none⟩) (L.length + 1) cap ∧ L.length + 1 ≤ cap ∧ b < w.heap.size ∧ w.cell? ⟨b, off, none⟩ = some (.int .i64 a) := by
  obtain ⟨ao, cap, rfl, hc, hr⟩ := row_has h
  rcases hr with hr | ⟨b, off, rfl, hlt, hcs⟩
  · cases hr
  · exact ⟨b, off, cap, rfl, by simpa using hc, hlt, by have := hcs 0 (by simp); simpa using this⟩
end
end Go.Proofs.Ytjoifodjbdbicaa.PM
