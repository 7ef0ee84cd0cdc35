/- ZJ: several texts in one (VA VB). -/
import Derived.Test.YtjoifodjbdbicaaZH
import Derived.Test.YtjoifodjbdbicaaZI

/- Both engines behind a call of one of them; a number of few. -/
namespace Go.Proofs.Ytjoifodjbdbicaa.VA
open Go.RowKit Go.Proofs.Ytjoifodjbdbicaa.RG Go.Proofs.Ytjoifodjbdbicaa.RB Go.Proofs.Ytjoifodjbdbicaa.RI Go.Proofs.Ytjoifodjbdbicaa.UA Go.Proofs.Ytjoifodjbdbicaa.UB Go.Proofs.Ytjoifodjbdbicaa.UC Go.Proofs.Ytjoifodjbdbicaa.UD Go.Proofs.Ytjoifodjbdbicaa.UE Go.Proofs.Ytjoifodjbdbicaa.UF Go.Proofs.Ytjoifodjbdbicaa.UG Go.Proofs.Ytjoifodjbdbicaa.UH Go.Proofs.Ytjoifodjbdbicaa.UI Go.Proofs.Ytjoifodjbdbicaa.UJ Go.Proofs.Ytjoifodjbdbicaa.UK Go.Proofs.Ytjoifodjbdbicaa.UL Go.Proofs.Ytjoifodjbdbicaa.UM Go.Proofs.Ytjoifodjbdbicaa.UN Go.Proofs.Ytjoifodjbdbicaa.UO Go.Proofs.Ytjoifodjbdbicaa.UP Go.Proofs.Ytjoifodjbdbicaa.UQ Go.Proofs.Ytjoifodjbdbicaa.UR Go.Proofs.Ytjoifodjbdbicaa.US Go.Proofs.Ytjoifodjbdbicaa.UT Go.Proofs.Ytjoifodjbdbicaa.UU Go.Proofs.Ytjoifodjbdbicaa.UV Go.Proofs.Ytjoifodjbdbicaa.UW Go.Proofs.Ytjoifodjbdbicaa.UX Go.Proofs.Ytjoifodjbdbicaa.UZ
set_option linter.unusedVariables false
set_option maxRecDepth 100000
set_option maxRecDepth 100000

variable {TP : World → (Nat → Prop) → Nat → Eg → Prop} {w w' : World} {C p r : Nat} {E E' E1 : Eg} {F F' G G' : Nat → Prop}
/-- Behind a call of the program's. -/
theorem two_p (hP : PT TP) (h2 : DE w G r E') (h3 : ∀ b, F b → C ≤ b ∧ ¬ G b) (h4 : ∀ b, G b → C ≤ b) (h5 : C ≤ w.heap.size) (ho : OnS F w w') (ht : TP w' F' p E1) (hg : Gr w F F') : Two TP w' C p r E1 E' ∧ Below C w w' :=
  ⟨⟨F', G, ht, h2.on ho (fun b hb hf => (h3 b hf).2 hb), fun b hb => by
    rcases hg b hb with h | h
    · exact h3 b h
    · exact ⟨by omega, fun hG => by have := h2.lt b hG; omega⟩, h4, Nat.le_trans h5 ho.size⟩, ho.below h5 (fun b hb => (h3 b hb).1)⟩
/-- Behind a call of the document's. -/
theorem two_r (hP : PT TP) (h1 : TP w F p E) (h3 : ∀ b, F b → C ≤ b ∧ ¬ G b) (h4 : ∀ b, G b → C ≤ b) (h5 : C ≤ w.heap.size) (ho : OnS G w w') (hd : DE w' G' r E1) (hg : Gr w G G') : Two TP w' C p r E E1 ∧ Below C w w' :=
  ⟨⟨F, G', hP.on h1 ho (fun b hb => (h3 b hb).2), hd, fun b hb => ⟨(h3 b hb).1, fun hG => by
    rcases hg b hG with h | h
    · exact (h3 b hb).2 h
    · have := hP.low h1 b hb; omega⟩, fun b hb => by
    rcases hg b hb with h | h
    · exact h4 b h
    · omega, Nat.le_trans h5 ho.size⟩, ho.below h5 h4⟩
/-- The number that is meant. -/
def few (k n : Int) : Int := (if k < 0 then -(k + 1) else k).tmod n
theorem few_in (k : Int) (n : Nat) (hn : 0 < n) (hk : B64 k) : ∃ T : Nat, T < n ∧ ((k < 0 ∧ (-(k + 1)).tmod (n : Int) = (T : Int)) ∨ (¬ k < 0 ∧ k.tmod (n : Int) = (T : Int))) := by
  have k0 := hk.1
  by_cases h : k < 0
  · have h2 : 0 ≤ -(k + 1) := by omega
    have h3 := Int.emod_nonneg (-(k + 1)) (show (n : Int) ≠ 0 by omega)
    have h4 := Int.emod_lt_of_pos (-(k + 1)) (show (0 : Int) < n by omega)
    exact ⟨((-(k + 1)).tmod n).toNat, by rw [Int.tmod_eq_emod_of_nonneg h2]; omega, .inl ⟨h, by rw [Int.tmod_eq_emod_of_nonneg h2]; omega⟩⟩
  · have h2 : 0 ≤ k := by omega
    have h3 := Int.emod_nonneg k (show (n : Int) ≠ 0 by omega)
    have h4 := Int.emod_lt_of_pos k (show (0 : Int) < n by omega)
    exact ⟨(k.tmod n).toNat, by rw [Int.tmod_eq_emod_of_nonneg h2]; omega, .inr ⟨h, by rw [Int.tmod_eq_emod_of_nonneg h2]; omega⟩⟩
end Go.Proofs.Ytjoifodjbdbicaa.VA

/- Behind its end no thread has a lock: the law. -/
namespace Go.Proofs.Ytjoifodjbdbicaa.VB
open Go.RowKit Go.Proofs.Ytjoifodjbdbicaa.RG Go.Proofs.Ytjoifodjbdbicaa.RB Go.Proofs.Ytjoifodjbdbicaa.RI Go.Proofs.Ytjoifodjbdbicaa.UA Go.Proofs.Ytjoifodjbdbicaa.UB Go.Proofs.Ytjoifodjbdbicaa.UC Go.Proofs.Ytjoifodjbdbicaa.UD Go.Proofs.Ytjoifodjbdbicaa.UE Go.Proofs.Ytjoifodjbdbicaa.UF Go.Proofs.Ytjoifodjbdbicaa.UG Go.Proofs.Ytjoifodjbdbicaa.UH Go.Proofs.Ytjoifodjbdbicaa.UI Go.Proofs.Ytjoifodjbdbicaa.UJ Go.Proofs.Ytjoifodjbdbicaa.UK Go.Proofs.Ytjoifodjbdbicaa.UL Go.Proofs.Ytjoifodjbdbicaa.UM Go.Proofs.Ytjoifodjbdbicaa.UN Go.Proofs.Ytjoifodjbdbicaa.UO Go.Proofs.Ytjoifodjbdbicaa.UP Go.Proofs.Ytjoifodjbdbicaa.UQ Go.Proofs.Ytjoifodjbdbicaa.UR Go.Proofs.Ytjoifodjbdbicaa.US Go.Proofs.Ytjoifodjbdbicaa.UT Go.Proofs.Ytjoifodjbdbicaa.UU Go.Proofs.Ytjoifodjbdbicaa.UV Go.Proofs.Ytjoifodjbdbicaa.UW Go.Proofs.Ytjoifodjbdbicaa.UX Go.Proofs.Ytjoifodjbdbicaa.UZ Go.Proofs.Ytjoifodjbdbicaa.VA
set_option linter.unusedVariables false
set_option maxRecDepth 100000
set_option maxRecDepth 100000

variable {TP : World → (Nat → Prop) → Nat → Eg → Prop}
set_option maxHeartbeats 12800000 in
theorem llocks_c (hP : PT TP) (w : World) (S : Nat → Prop) (v : Value) (ds : List Dd) (hv : RowR TDd w S v ds) (hd : D64 ds) (t : Int) (ht : B64 t) : Calls Try.prog 9 #[v, .int .i64 t] w fun e w' => e = .returned (.bool true) ∧ Below w.heap.size w w' := by
  have HBEG := Lib.hid (begin_c hP w)
  have HLIV := Lib.hid (fun w1 => lives_c hP w1)
  have HPP := Lib.hid hP
  have HR := Lib.hid hv
  have HD := Lib.hid hd
  obtain ⟨va, vc, rfl, _⟩ := hv.val
  obtain ⟨nd, hnd⟩ : ∃ n, Hid (ds.length = n) := ⟨_, Lib.hid rfl⟩
  rw [hnd.out] at HR ⊢
  obtain ⟨T, hT8, hT⟩ := few_in t 8 (by decide) ht
  have bT : B64 (T : Int) := ⟨by omega, by omega⟩
  have t64 := ht.1
  have t65 := ht.2
  have n8 : ((8 : Nat) : Int) = 8 := rfl
  rw [n8] at hT
  clear ht n8
  clear hv hd hP
  rcases hT with ⟨hT1, hT2⟩ | ⟨hT1, hT2⟩
  all_goals
    go_enter Try.func9, Try.ntmps9
    go_wp2_with fail
    refine HBEG.out.mono ?_
    rintro e w1 ⟨p, r, rfl, ht, hb⟩
    have HT1 := Lib.hid ht
    have HB1 := Lib.hid hb
    clear ht hb
    go_wp2_with fail
    go_loopg [7] 40 (fun g iv wr => ∃ i : Nat, i + g = 40 ∧ iv = .int .i64 (i : Int) ∧ Hid (i ≤ nd) ∧ Hid (Two TP wr w.heap.size p r (runE (bE 4) (ds.take i)) (runE (bE 4) (ds.take i))) ∧ Hid (Below w.heap.size w wr))
    case atStart => exact ⟨0, Nat.zero_add _, rfl, Lib.hid (Nat.zero_le _), HT1, HB1⟩
    case round =>
      obtain ⟨i, hi, rfl, HLE, HTI, HBI⟩ := hrel
      have HI := Lib.hid hi
      by_cases hlt : i < nd ∧ i < 40
      · obtain ⟨h1, h2⟩ := hlt
        obtain ⟨g', rfl⟩ : ∃ g, gk = g + 1 := ⟨gk - 1, by omega⟩
        obtain ⟨d, hd⟩ := getElem?_of_lt (l := ds) (k := i) (by rw [hnd.out]; exact h1)
        obtain ⟨b, off, cap, hvv, hbl, x0, x1, x2, x3⟩ := deed_at HR.out hd
        injection hvv with e1 e2 e3
        subst e1
        subst e3
        clear e2
        have hdb := HD.out d (mem_of hd)
        have HNX := Lib.hid (run_next hd (bE 4))
        obtain ⟨E, hE⟩ : ∃ E, Hid (runE (bE 4) (ds.take i) = E) := ⟨_, Lib.hid rfl⟩
        have HWG := Lib.hid (wg_play ds (show i ≤ 40 by omega))
        rw [hE.out] at HTI HNX HWG
        obtain ⟨dk, dt, dn, dv⟩ := d
        have HDO := Lib.hid (does_c HPP.out wr w.heap.size p r E HTI.out _ HWG.out (by decide) dk dt dn dv hdb.1 hdb.2.1 hdb.2.2)
        have y0 := (HBI.out.cell (p := ⟨b, off + i * 4, none⟩) hbl).trans x0
        have y1 := (HBI.out.cell (p := ⟨b, off + i * 4 + 1, none⟩) hbl).trans x1
        have y2 := (HBI.out.cell (p := ⟨b, off + i * 4 + 2, none⟩) hbl).trans x2
        have y3 := (HBI.out.cell (p := ⟨b, off + i * 4 + 3, none⟩) hbl).trans x3
        have i0 : (0 : Int) ≤ (i : Int) := by omega
        have i1 : (i : Int) < (nd : Int) := by omega
        have i2 : (i : Int) < 40 := by omega
        clear hd hdb x0 x1 x2 x3
        go_wp2_with fail
        refine HDO.out.mono ?_
        rintro e w2 ⟨rfl, ht, hb⟩
        have HB2 := Lib.hid (HBI.out.trans hb)
        have HT2 := Lib.hid ht
        clear ht hb
        go_wp2_with fail
        go_roundg g'
        case rel => exact ⟨i + 1, by have := HI.out; omega, by go_num, Lib.hid (by omega), by rw [HNX.out]; exact HT2, HB2⟩
        case measure => omega
      · have hex : (¬ (i : Int) < (nd : Int)) ∨ ((i : Int) < (nd : Int) ∧ ¬ (i : Int) < 40) := by omega
        have HWG0 := Lib.hid (wg_play ds (show i ≤ 40 by omega))
        have HWV0 := Lib.hid (wv_play ds i)
        have HLK0 := Lib.hid (lk_run (ds.take i) (lk_bE 4) (bE_wg 4) (wv_bE 4))
        obtain ⟨E0, hE0⟩ : ∃ E, Hid (runE (bE 4) (ds.take i) = E) := ⟨_, Lib.hid rfl⟩
        rw [hE0.out] at HTI HWG0 HWV0 HLK0
        clear hlt
        rcases hex with hx1 | ⟨hx1, hx2⟩
        all_goals
          go_wp2_with fail
          go_loopg [8, 9, 10] 60 (fun g cv fv gv wr => ∃ (c : Nat) (E : Eg), c + g = 60 ∧ cv = .int .i64 (c : Int) ∧ Hid (Two TP wr w.heap.size p r E E) ∧ Hid (Below w.heap.size w wr) ∧ Hid (Wg (44 + c) E) ∧ Hid (Wv E) ∧ Hid (Lk E) ∧ Hid (left E (T : Int) + c ≤ 45))
          case atStart => exact ⟨0, E0, Nat.zero_add _, rfl, HTI, HBI, HWG0, HWV0, HLK0, Lib.hid (left_le HWG0.out _)⟩
          case round =>
            obtain ⟨c, E, hc, rfl, HT, HB, HWG, HWV, HLK, HLF⟩ := hrel
            have HC := Lib.hid hc
            obtain ⟨F, G, h1, h2, h3, h4, h5⟩ := HT.out
            have hc45 : c ≤ 45 := by have := HLF.out; omega
            have HACT := Lib.hid (HPP.out.active h1 HWG.out (by omega) (T : Int) bT)
            have c0 : (0 : Int) ≤ (c : Int) := by omega
            have c1 : (c : Int) < 60 := by omega
            obtain ⟨a, ha⟩ : ∃ a, hasR E (T : Int) = a := ⟨_, rfl⟩
            rw [ha] at HACT
            have HA := Lib.hid ha
            cases a
            · clear ha
              clear h1 h2 h3 h4 h5
              go_wp2_with fail
              refine HACT.out.mono ?_
              rintro e w3 ⟨rfl, hb⟩
              have HB3 := Lib.hid (bnext HB.out hb)
              have HT3 := Lib.hid (HT.out.keep HPP.out hb)
              clear hb
              obtain ⟨N, hN⟩ : ∃ N, Hid (E.V.length = N) := ⟨_, Lib.hid rfl⟩
              have hN4 := HWG.out.wf.vs
              rw [hN.out] at hN4
              go_wp2_with fail
              go_loopg [11] N (fun g nv wr => ∃ n : Nat, n + g = N ∧ nv = .int .i64 (n : Int) ∧ Hid (Below w3.heap.size w3 wr))
              case atStart => exact ⟨0, Nat.zero_add _, rfl, Lib.hid (Below.refl _ _)⟩
              case round =>
                obtain ⟨n, hn, rfl, HB4⟩ := hrel
                have HN := Lib.hid hn
                have HT4 := Lib.hid (HT3.out.keep HPP.out HB4.out)
                obtain ⟨F, G, h1, h2, h3, h4, h5⟩ := HT4.out
                obtain ⟨vv, tv, Z, hd⟩ := h2
                obtain ⟨va1, vc1, hvv, _⟩ := hd.vs.val
                have y1 : wr.cell? ⟨r, 1, none⟩ = some vv := hd.bk.cell 1 _ rfl
                rw [hvv, hN.out] at y1
                by_cases hlt : n < N
                · obtain ⟨g', rfl⟩ : ∃ g, gk = g + 1 := ⟨gk - 1, by omega⟩
                  obtain ⟨u, hu⟩ := getElem?_of_lt (l := E.V) (k := n) (by rw [hN.out]; exact hlt)
                  obtain ⟨gv, capv, cuv, hv2, hkv, hgv, hfv, hFv, v0, v1, v2⟩ := hd.vr hu
                  rw [hvv, hN.out] at hv2
                  injection hv2 with q1 q2 q3
                  subst q1
                  subst q3
                  clear q2
                  have hnl := no_lock HLK.out (show (0 : Int) ≤ (T : Int) by omega) HA.out hu
                  obtain ⟨ua, ue, ul⟩ := u
                  simp only at v0 v1 v2 hnl
                  have hne : (ul == (T : Int)) = false := by rw [beq_eq_false_iff_ne]; exact hnl
                  have n0 : (0 : Int) ≤ (n : Int) := by omega
                  have n1 : (n : Int) < (N : Int) := by omega
                  clear h1 h3 h4 h5 hd hu hkv hfv hFv v0 v1 hnl hvv
                  go_wp2_with fail
                  go_roundg g'
                  case rel => exact ⟨n + 1, by have := HN.out; omega, by go_num, HB4⟩
                  case measure => omega
                · have hnn : n = N := by omega
                  subst hnn
                  have HLIK := Lib.hid (like_c HPP.out wr w.heap.size p r E HT4.out _ HWG.out (by omega) HWV.out)
                  clear h1 h3 h4 h5 hd hvv
                  go_wp2_with fail
                  refine HLIK.out.mono ?_
                  rintro e w5 ⟨rfl, hb⟩
                  have HB5 := Lib.hid (bnext HB3.out (bnext HB4.out hb))
                  obtain ⟨F, G, h1, h2, h3, h4, h5⟩ := HT4.out.keep HPP.out hb
                  have HAC2 := Lib.hid (HPP.out.active h1 HWG.out (by omega) (T : Int) bT)
                  rw [HA.out] at HAC2
                  clear h1 h2 h3 h4 h5 hb
                  go_wp2_with fail
                  refine HAC2.out.mono ?_
                  rintro e w6 ⟨rfl, hb⟩
                  have HB6 := Lib.hid (bnext HB5.out hb)
                  have HL6 := Lib.hid (HLIV.out w6)
                  clear hb
                  go_wp2_with fail
                  refine HL6.out.mono ?_
                  rintro e w7 ⟨rfl, hb⟩
                  have HB7 := Lib.hid (bnext HB6.out hb)
                  clear hb
                  go_wp2_with fail
                  go_ret
                  exact ⟨rfl, HB7.out⟩
            · have HLS := Lib.hid (try_less HLK.out HWG.out ha)
              have hcl : c ≤ 44 := by have := HLS.out; have := HLF.out; omega
              have hg1 := wg_abort HWG.out (T : Int)
              have hg2 := wg_step HWG.out (T : Int)
              have hv1 : Wv (abortR E (T : Int)).1 := by have h := wv_deed HWV.out ⟨7, (T : Int), 0, 0⟩; rw [deed_7] at h; exact h
              have hv2 := wv_step HWV.out (T : Int)
              have hl1 := lk_abort HLK.out (T : Int)
              have hl2 := lk_step HLK.out HWG.out HWV.out (T : Int)
              have htry : tryR E (T : Int) = if (abortR E (T : Int)).2 = 0 then (abortR E (T : Int)).1 else (stepR E (T : Int)).1 := by unfold tryR; rw [if_pos ha]
              have HABB := Lib.hid (fun h => abort_bad ha h)
              obtain ⟨g', rfl⟩ : ∃ g, gk = g + 1 := ⟨gk - 1, by omega⟩
              have HAP := Lib.hid (fun w4 F (h : TP w4 F p E) => HPP.out.abort h HWG.out (by omega) (T : Int) bT)
              have HAR := Lib.hid (fun w4 G (h : DE w4 G r E) => rabort_c w4 G r E h _ HWG.out.wf (T : Int))
              have HSP := Lib.hid (fun w4 F (h : TP w4 F p E) => HPP.out.step h HWG.out (by omega) (T : Int) bT)
              have HSR := Lib.hid (fun w4 G (h : DE w4 G r E) => rstep_c w4 G r E h _ HWG.out.wf (by omega) (T : Int))
              obtain ⟨⟨EA, FA⟩, hA⟩ : ∃ x, abortR E (T : Int) = x := ⟨_, rfl⟩
              obtain ⟨⟨ES, NS, FS⟩, hS⟩ : ∃ x, stepR E (T : Int) = x := ⟨_, rfl⟩
              simp only [hA] at HAP HAR hg1 hv1 hl1 htry HABB
              simp only [hS] at HSP HSR hg2 hv2 hl2 htry
              have HRES := Lib.hid (And.intro hg1 (And.intro hv1 hl1))
              have HRES2 := Lib.hid (And.intro hg2 (And.intro hv2 hl2))
              have HTRY := Lib.hid htry
              clear ha h1 h2 h3 h4 h5 hA hS hg1 hg2 hv1 hv2 hl1 hl2 htry
              go_wp2_with fail
              refine HACT.out.mono ?_
              rintro e w3 ⟨rfl, hb⟩
              have HB3 := Lib.hid (bnext HB.out hb)
              obtain ⟨F, G, h1, h2, h3, h4, h5⟩ := HT.out.keep HPP.out hb
              have HAP3 := Lib.hid (HAP.out w3 F h1)
              have H3 := Lib.hid (And.intro h1 (And.intro h2 (And.intro h3 (And.intro h4 h5))))
              clear hb h1 h2 h3 h4 h5
              go_wp2_with fail
              refine HAP3.out.mono ?_
              rintro e w4 ⟨rfl, ho, F', ht, hg⟩
              obtain ⟨ht4, hb4⟩ := two_p HPP.out H3.out.2.1 H3.out.2.2.1 H3.out.2.2.2.1 H3.out.2.2.2.2 ho ht hg
              have HB4 := Lib.hid (HB3.out.trans hb4)
              obtain ⟨F, G, h1, h2, h3, h4, h5⟩ := ht4
              have HAR4 := Lib.hid (HAR.out w4 G h2)
              have H4 := Lib.hid (And.intro h1 (And.intro h2 (And.intro h3 (And.intro h4 h5))))
              clear ho ht hg hb4 h1 h2 h3 h4 h5
              go_wp2_with fail
              refine HAR4.out.mono ?_
              rintro e w5 ⟨rfl, ho, hd⟩
              obtain ⟨ht5, hb5⟩ := two_r HPP.out H4.out.1 H4.out.2.2.1 H4.out.2.2.2.1 H4.out.2.2.2.2 ho hd (Gr.refl _ _)
              have HB5 := Lib.hid (HB4.out.trans hb5)
              have HT5 := Lib.hid ht5
              clear ho hd hb5 ht5
              by_cases q0 : FA = 0
              · subst q0
                have HE := Lib.hid (HTRY.out.trans (if_pos rfl))
                rw [HE.out] at HLS
                have HLF2 := Lib.hid (show left EA (T : Int) + (c + 1) ≤ 45 from by have := HLS.out; have := HLF.out; omega)
                have HW2 := Lib.hid (show Wg (44 + (c + 1)) EA from HRES.out.1)
                go_wp2_with fail
                go_roundg g'
                case rel => exact ⟨c + 1, EA, by have := HC.out; omega, by go_num, HT5, HB5, HW2, Lib.hid HRES.out.2.1, Lib.hid HRES.out.2.2, HLF2⟩
                case measure => omega
              · have HE := Lib.hid (HTRY.out.trans (if_neg q0))
                obtain ⟨_, _, _, _, hEA⟩ := HABB.out q0
                injection hEA with hEA _
                subst hEA
                rw [HE.out] at HLS
                have HLF2 := Lib.hid (show left ES (T : Int) + (c + 1) ≤ 45 from by have := HLS.out; have := HLF.out; omega)
                have HW2 := Lib.hid (show Wg (44 + (c + 1)) ES from HRES2.out.1)
                have q0' : (FA != 0) = true := by rw [bne_iff_ne]; exact q0
                obtain ⟨F, G, h1, h2, h3, h4, h5⟩ := HT5.out
                have HSP5 := Lib.hid (HSP.out w5 F h1)
                have H5 := Lib.hid (And.intro h1 (And.intro h2 (And.intro h3 (And.intro h4 h5))))
                clear h1 h2 h3 h4 h5
                go_wp2_with fail
                refine HSP5.out.mono ?_
                rintro e w6 ⟨rfl, ho, F', ht, hg⟩
                obtain ⟨ht6, hb6⟩ := two_p HPP.out H5.out.2.1 H5.out.2.2.1 H5.out.2.2.2.1 H5.out.2.2.2.2 ho ht hg
                have HB6 := Lib.hid (HB5.out.trans hb6)
                obtain ⟨F, G, h1, h2, h3, h4, h5⟩ := ht6
                have HSR6 := Lib.hid (HSR.out w6 G h2)
                have H6 := Lib.hid (And.intro h1 (And.intro h2 (And.intro h3 (And.intro h4 h5))))
                clear ho ht hg hb6 h1 h2 h3 h4 h5
                go_wp2_with fail
                refine HSR6.out.mono ?_
                rintro e w7 ⟨rfl, ho, hd⟩
                obtain ⟨ht7, hb7⟩ := two_r HPP.out H6.out.1 H6.out.2.2.1 H6.out.2.2.2.1 H6.out.2.2.2.2 ho hd (Gr.refl _ _)
                have HB7 := Lib.hid (HB6.out.trans hb7)
                have HT7 := Lib.hid ht7
                clear ho hd hb7 ht7
                go_wp2_with fail
                go_roundg g'
                case rel => exact ⟨c + 1, ES, by have := HC.out; omega, by go_num, HT7, HB7, HW2, Lib.hid HRES2.out.2.1, Lib.hid HRES2.out.2.2, HLF2⟩
                case measure => omega
end Go.Proofs.Ytjoifodjbdbicaa.VB
