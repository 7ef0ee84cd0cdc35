/- ZH: several texts in one (UT UV UW). -/
import Derived.Test.YtjoifodjbdbicaaUS
import Derived.Test.YtjoifodjbdbicaaZG

/- The law's examples hold, whatever the program's engine is like; how a play begins. -/
namespace Go.Proofs.Ytjoifodjbdbicaa.UT
open Go.RowKit Go.Proofs.Ytjoifodjbdbicaa.RG Go.Proofs.Ytjoifodjbdbicaa.RB Go.Proofs.Ytjoifodjbdbicaa.RI Go.Proofs.Ytjoifodjbdbicaa.UA Go.Proofs.Ytjoifodjbdbicaa.UB Go.Proofs.Ytjoifodjbdbicaa.UC Go.Proofs.Ytjoifodjbdbicaa.UD Go.Proofs.Ytjoifodjbdbicaa.UE Go.Proofs.Ytjoifodjbdbicaa.UF Go.Proofs.Ytjoifodjbdbicaa.UG Go.Proofs.Ytjoifodjbdbicaa.UH Go.Proofs.Ytjoifodjbdbicaa.UI Go.Proofs.Ytjoifodjbdbicaa.UJ Go.Proofs.Ytjoifodjbdbicaa.UK Go.Proofs.Ytjoifodjbdbicaa.UL Go.Proofs.Ytjoifodjbdbicaa.UM Go.Proofs.Ytjoifodjbdbicaa.UN Go.Proofs.Ytjoifodjbdbicaa.UO Go.Proofs.Ytjoifodjbdbicaa.UP Go.Proofs.Ytjoifodjbdbicaa.UQ Go.Proofs.Ytjoifodjbdbicaa.UR Go.Proofs.Ytjoifodjbdbicaa.US
set_option linter.unusedVariables false
set_option maxRecDepth 100000
set_option maxRecDepth 100000

theorem gr_low {w : World} {F F' : Nat → Prop} {C : Nat} (hg : Gr w F F') (h3 : ∀ b, F b → C ≤ b) (h5 : C ≤ w.heap.size) : ∀ b, F' b → C ≤ b := fun b hb => by
  rcases hg b hb with h | h
  · exact h3 b h
  · exact Nat.le_trans h5 h
def e0 : Eg := newR
def e1 : Eg := (makeR e0 5).1
theorem a1 : makeR e0 5 = (e1, 0, 0) := by decide +kernel
def e2 : Eg := (beginR e1 1).1
theorem a2 : beginR e1 1 = (e2, 0) := by decide +kernel
def e3 : Eg := (beginR e2 0).1
theorem a3 : beginR e2 0 = (e3, 0) := by decide +kernel
def e4 : Eg := (readR e3 0 0).1
theorem a4 : readR e3 0 0 = (e4, 5, 0) := by decide +kernel
def e5 : Eg := (writeR e4 0 0 6).1
theorem a5 : writeR e4 0 0 6 = (e5, 0) := by decide +kernel
def e6 : Eg := (stepR e5 0).1
theorem a6 : stepR e5 0 = (e6, 1, 0) := by decide +kernel
def e7 : Eg := (stepR e6 0).1
theorem a7 : stepR e6 0 = (e7, 2, 0) := by decide +kernel
def e8 : Eg := (stepR e7 0).1
theorem a8 : stepR e7 0 = (e8, 4, 0) := by decide +kernel
theorem a9 : valueR e8 0 = (6, 0) := by decide +kernel
def e9 : Eg := (readR e8 1 0).1
theorem a10 : readR e8 1 0 = (e9, 0, 33) := by decide +kernel
theorem a11 : hasR e9 0 = false := by decide +kernel
theorem g0 : Wg 0 e0 := wg_new
theorem g1 : Wg 1 e1 := wg_make g0 5
theorem g2 : Wg 2 e2 := wg_begin g1 1
theorem g3 : Wg 3 e3 := wg_begin g2 0
theorem g4 : Wg 4 e4 := wg_read g3 0 0
theorem g5 : Wg 5 e5 := wg_write g4 0 0 6
theorem g6 : Wg 6 e6 := wg_step g5 0
theorem g7 : Wg 7 e7 := wg_step g6 0
theorem g8 : Wg 8 e8 := wg_step g7 0
theorem g9 : Wg 9 e9 := wg_read g8 1 0
theorem b0 : B64 0 := ⟨by decide, by decide⟩
theorem b1 : B64 1 := ⟨by decide, by decide⟩
theorem b5 : B64 5 := ⟨by decide, by decide⟩
theorem b6 : B64 6 := ⟨by decide, by decide⟩
variable {TP : World → (Nat → Prop) → Nat → Eg → Prop}
set_option maxHeartbeats 3200000 in
theorem lives_c (hP : PT TP) (w : World) : Calls Try.prog 13 #[] w fun e w' => e = .returned (.bool true) ∧ Below w.heap.size w w' := by
  have HN := Lib.hid (hP.new w)
  have HA1 := Lib.hid (fun w1 F p (h : TP w1 F p e0) => hP.make h g0 (by decide) 5 b5)
  simp only [a1] at HA1
  have HA2 := Lib.hid (fun w1 F p (h : TP w1 F p e1) => hP.begin_ h g1 (by decide) 1 b1)
  simp only [a2] at HA2
  have HA3 := Lib.hid (fun w1 F p (h : TP w1 F p e2) => hP.begin_ h g2 (by decide) 0 b0)
  simp only [a3] at HA3
  have HA4 := Lib.hid (fun w1 F p (h : TP w1 F p e3) => hP.read h g3 (by decide) 0 0 b0 b0)
  simp only [a4] at HA4
  have HA5 := Lib.hid (fun w1 F p (h : TP w1 F p e4) => hP.write h g4 (by decide) 0 0 6 b0 b0 b6)
  simp only [a5] at HA5
  have HA6 := Lib.hid (fun w1 F p (h : TP w1 F p e5) => hP.step h g5 (by decide) 0 b0)
  simp only [a6] at HA6
  have HA7 := Lib.hid (fun w1 F p (h : TP w1 F p e6) => hP.step h g6 (by decide) 0 b0)
  simp only [a7] at HA7
  have HA8 := Lib.hid (fun w1 F p (h : TP w1 F p e7) => hP.step h g7 (by decide) 0 b0)
  simp only [a8] at HA8
  have HA9 := Lib.hid (fun w1 F p (h : TP w1 F p e8) => hP.value h g8 (by decide) 0 b0)
  simp only [a9] at HA9
  have HA10 := Lib.hid (fun w1 F p (h : TP w1 F p e8) => hP.read h g8 (by decide) 1 0 b1 b0)
  simp only [a10] at HA10
  have HA11 := Lib.hid (fun w1 F p (h : TP w1 F p e9) => hP.active h g9 (by decide) 0 b0)
  simp only [a11] at HA11
  have HPP := Lib.hid hP
  clear hP
  go_enter Try.func13, Try.ntmps13
  go_wp2_with fail
  refine HN.out.mono ?_
  rintro e w1 ⟨p, F1, rfl, ht, hF, hb⟩
  have HT := Lib.hid ht
  have HF := Lib.hid hF
  have HB := Lib.hid hb
  clear ht hF hb
  go_wp2_with fail
  refine (HA1.out _ _ _ HT.out).mono ?_
  rintro e w2 ⟨rfl, ho, F2, ht, hg⟩
  have HT := Lib.hid ht
  have HF' := Lib.hid (gr_low hg HF.out HB.out.size)
  have HB := Lib.hid (HB.out.trans (ho.below HB.out.size HF.out))
  have HF := HF'
  clear ho ht hg HF'
  go_wp2_with fail
  refine (HA2.out _ _ _ HT.out).mono ?_
  rintro e w3 ⟨rfl, ho, F3, ht, hg⟩
  have HT := Lib.hid ht
  have HF' := Lib.hid (gr_low hg HF.out HB.out.size)
  have HB := Lib.hid (HB.out.trans (ho.below HB.out.size HF.out))
  have HF := HF'
  clear ho ht hg HF'
  go_wp2_with fail
  refine (HA3.out _ _ _ HT.out).mono ?_
  rintro e w4 ⟨rfl, ho, F4, ht, hg⟩
  have HT := Lib.hid ht
  have HF' := Lib.hid (gr_low hg HF.out HB.out.size)
  have HB := Lib.hid (HB.out.trans (ho.below HB.out.size HF.out))
  have HF := HF'
  clear ho ht hg HF'
  go_wp2_with fail
  refine (HA4.out _ _ _ HT.out).mono ?_
  rintro e w5 ⟨rfl, ho, F5, ht, hg⟩
  have HT := Lib.hid ht
  have HF' := Lib.hid (gr_low hg HF.out HB.out.size)
  have HB := Lib.hid (HB.out.trans (ho.below HB.out.size HF.out))
  have HF := HF'
  clear ho ht hg HF'
  go_wp2_with fail
  refine (HA5.out _ _ _ HT.out).mono ?_
  rintro e w6 ⟨rfl, ho, F6, ht, hg⟩
  have HT := Lib.hid ht
  have HF' := Lib.hid (gr_low hg HF.out HB.out.size)
  have HB := Lib.hid (HB.out.trans (ho.below HB.out.size HF.out))
  have HF := HF'
  clear ho ht hg HF'
  go_wp2_with fail
  refine (HA6.out _ _ _ HT.out).mono ?_
  rintro e w7 ⟨rfl, ho, F7, ht, hg⟩
  have HT := Lib.hid ht
  have HF' := Lib.hid (gr_low hg HF.out HB.out.size)
  have HB := Lib.hid (HB.out.trans (ho.below HB.out.size HF.out))
  have HF := HF'
  clear ho ht hg HF'
  go_wp2_with fail
  refine (HA7.out _ _ _ HT.out).mono ?_
  rintro e w8 ⟨rfl, ho, F8, ht, hg⟩
  have HT := Lib.hid ht
  have HF' := Lib.hid (gr_low hg HF.out HB.out.size)
  have HB := Lib.hid (HB.out.trans (ho.below HB.out.size HF.out))
  have HF := HF'
  clear ho ht hg HF'
  go_wp2_with fail
  refine (HA8.out _ _ _ HT.out).mono ?_
  rintro e w9 ⟨rfl, ho, F9, ht, hg⟩
  have HT := Lib.hid ht
  have HF' := Lib.hid (gr_low hg HF.out HB.out.size)
  have HB := Lib.hid (HB.out.trans (ho.below HB.out.size HF.out))
  have HF := HF'
  clear ho ht hg HF'
  go_wp2_with fail
  refine (HA9.out _ _ _ HT.out).mono ?_
  rintro e w10 ⟨rfl, hb⟩
  have HT := Lib.hid (HPP.out.on HT.out (OnS.none hb) (fun _ _ h => h))
  have HB := Lib.hid (bnext HB.out hb)
  clear hb
  go_wp2_with fail
  refine (HA10.out _ _ _ HT.out).mono ?_
  rintro e w11 ⟨rfl, ho, F11, ht, hg⟩
  have HT := Lib.hid ht
  have HF' := Lib.hid (gr_low hg HF.out HB.out.size)
  have HB := Lib.hid (HB.out.trans (ho.below HB.out.size HF.out))
  have HF := HF'
  clear ho ht hg HF'
  go_wp2_with fail
  refine (HA11.out _ _ _ HT.out).mono ?_
  rintro e w12 ⟨rfl, hb⟩
  have HT := Lib.hid (HPP.out.on HT.out (OnS.none hb) (fun _ _ h => h))
  have HB := Lib.hid (bnext HB.out hb)
  clear hb
  go_wp2_with fail
  go_ret
  exact ⟨rfl, HB.out⟩
/-- The engine of a play, after so many vars. -/
def bE : Nat → Eg
  | 0 => newR
  | i + 1 => (makeR (bE i) (10 + (i : Int))).1
theorem bE_wg : ∀ i : Nat, Wg i (bE i)
  | 0 => wg_new
  | i + 1 => wg_make (bE_wg i) _
theorem bE_ok : ∀ i : Nat, i < 4 → makeR (bE i) (10 + (i : Int)) = (bE (i + 1), (i : Int), 0)
  | 0, _ => by decide +kernel
  | 1, _ => by decide +kernel
  | 2, _ => by decide +kernel
  | 3, _ => by decide +kernel
  | i + 4, h => absurd h (by omega)
set_option maxHeartbeats 3200000 in
theorem begin_c (hP : PT TP) (w : World) : Calls Try.prog 10 #[] w fun e w' => ∃ p r, e = .returned (.tuple #[.pointer (some ⟨p, 0, none⟩), .pointer (some ⟨r, 0, none⟩)]) ∧ Two TP w' w.heap.size p r (bE 4) (bE 4) ∧ Below w.heap.size w w' := by
  have HN := Lib.hid (hP.new w)
  have HPP := Lib.hid hP
  clear hP
  go_enter Try.func10, Try.ntmps10
  go_wp2_with fail
  refine HN.out.mono ?_
  rintro e w1 ⟨p, F, rfl, ht, hF, hb⟩
  have HT := Lib.hid ht
  have HF := Lib.hid hF
  have HB := Lib.hid hb
  clear ht hF hb
  have HR := Lib.hid (rnew_c w1)
  go_wp2_with fail
  refine HR.out.mono ?_
  rintro e w2 ⟨r, G, rfl, hd, hG, hb⟩
  have HTW := Lib.hid (show Two TP w2 w.heap.size p r (bE 0) (bE 0) from ⟨F, G, HPP.out.on HT.out (OnS.none hb) (fun _ _ h => h), hd, fun b h => ⟨HF.out b h, fun h2 => by have := hG b h2; have := HPP.out.low HT.out b h; omega⟩, fun b h => Nat.le_trans HB.out.size (hG b h), Nat.le_trans HB.out.size hb.size⟩)
  have HB2 := Lib.hid (bnext HB.out hb)
  clear hd hG hb HT HF HR HN HB
  go_wp2_with fail
  go_loopg [4] 4 (fun g iv wr => ∃ i : Nat, i + g = 4 ∧ iv = .int .i64 (i : Int) ∧ Hid (Two TP wr w.heap.size p r (bE i) (bE i)) ∧ Hid (Below w.heap.size w wr))
  case atStart => exact ⟨0, Nat.zero_add _, rfl, HTW, HB2⟩
  case round =>
    obtain ⟨i, hi, rfl, HTI, HBI⟩ := hrel
    have HI := Lib.hid hi
    by_cases hlt : i < 4
    · obtain ⟨g', rfl⟩ : ∃ g, gk = g + 1 := ⟨gk - 1, by omega⟩
      obtain ⟨F, G, h1, h2, h3, h4, h5⟩ := HTI.out
      have hbv : B64 (10 + (i : Int)) := ⟨by omega, by omega⟩
      have HA := Lib.hid (HPP.out.make h1 (bE_wg i) (by omega) (10 + (i : Int)) hbv)
      have HRM := Lib.hid (fun w1 (h : DE w1 G r (bE i)) => rmake_c w1 G r (bE i) h i (bE_wg i).wf (10 + (i : Int)))
      simp only [bE_ok i hlt] at HA HRM
      have i0 : (0 : Int) ≤ (i : Int) := by omega
      have i1 : (i : Int) < 4 := by omega
      have HAP := Lib.hid (And.intro h3 (And.intro h4 h5))
      have HDE := Lib.hid h2
      have HTP := Lib.hid h1
      clear h1 h2 h3 h4 h5 hbv
      go_wp2_with fail
      refine HA.out.mono ?_
      rintro e w3 ⟨rfl, ho, F', ht, hg⟩
      have HD3 := Lib.hid (HDE.out.on ho (fun b hb hf => (HAP.out.1 b hf).2 hb))
      have HT3 := Lib.hid ht
      have HAP3 := Lib.hid (show ∀ b, F' b → w.heap.size ≤ b ∧ ¬ G b from fun b hb => by
        rcases hg b hb with h | h
        · exact HAP.out.1 b h
        · exact ⟨by have := HAP.out.2.2; omega, fun hG => by have := HDE.out.lt b hG; omega⟩)
      have HB3 := Lib.hid (HBI.out.trans (ho.below HAP.out.2.2 (fun b hb => (HAP.out.1 b hb).1)))
      clear ho ht hg
      go_wp2_with fail
      refine (HRM.out _ HD3.out).mono ?_
      rintro e w4 ⟨rfl, ho, G', hd, hg⟩
      have HT4 := Lib.hid (show Two TP w4 w.heap.size p r (bE (i + 1)) (bE (i + 1)) from ⟨F', G', HPP.out.on HT3.out ho (fun b hb => (HAP3.out b hb).2), hd, fun b hb => ⟨(HAP3.out b hb).1, fun hG => by
        rcases hg b hG with h | h
        · exact (HAP3.out b hb).2 h
        · have := HPP.out.low HT3.out b hb; omega⟩, fun b hb => by
        rcases hg b hb with h | h
        · exact HAP.out.2.1 b h
        · have := HB3.out.size; omega, Nat.le_trans HB3.out.size ho.size⟩)
      have HB4 := Lib.hid (HB3.out.trans (ho.below HB3.out.size HAP.out.2.1))
      clear ho hd hg
      go_wp2_with fail
      go_roundg g'
      case rel => exact ⟨i + 1, by have := HI.out; omega, by go_num, HT4, HB4⟩
      case measure => omega
    · have hin : i = 4 := by omega
      subst hin
      go_wp2_with fail
      go_ret2
      exact ⟨p, r, rfl, HTI.out, HBI.out⟩
end Go.Proofs.Ytjoifodjbdbicaa.UT

/- The law's 'like': both engines have the same. -/
namespace Go.Proofs.Ytjoifodjbdbicaa.UV
open Go.RowKit Go.Proofs.Ytjoifodjbdbicaa.RG Go.Proofs.Ytjoifodjbdbicaa.RB Go.Proofs.Ytjoifodjbdbicaa.RI Go.Proofs.Ytjoifodjbdbicaa.UA Go.Proofs.Ytjoifodjbdbicaa.UB Go.Proofs.Ytjoifodjbdbicaa.UC Go.Proofs.Ytjoifodjbdbicaa.UD Go.Proofs.Ytjoifodjbdbicaa.UE Go.Proofs.Ytjoifodjbdbicaa.UF Go.Proofs.Ytjoifodjbdbicaa.UG Go.Proofs.Ytjoifodjbdbicaa.UH Go.Proofs.Ytjoifodjbdbicaa.UI Go.Proofs.Ytjoifodjbdbicaa.UJ Go.Proofs.Ytjoifodjbdbicaa.UK Go.Proofs.Ytjoifodjbdbicaa.UL Go.Proofs.Ytjoifodjbdbicaa.UM Go.Proofs.Ytjoifodjbdbicaa.UN Go.Proofs.Ytjoifodjbdbicaa.UO Go.Proofs.Ytjoifodjbdbicaa.UP Go.Proofs.Ytjoifodjbdbicaa.UQ Go.Proofs.Ytjoifodjbdbicaa.UR Go.Proofs.Ytjoifodjbdbicaa.US Go.Proofs.Ytjoifodjbdbicaa.UT Go.Proofs.Ytjoifodjbdbicaa.UU
set_option linter.unusedVariables false
set_option maxRecDepth 100000
set_option maxRecDepth 100000

variable {TP : World → (Nat → Prop) → Nat → Eg → Prop}
/-- The document's engine as it stands, and the program's. -/
theorem both_open {w : World} {C p r : Nat} {E : Eg} (H : Two TP w C p r E E) : ∃ F G, TP w F p E ∧ DE w G r E := by
  obtain ⟨F, G, h1, h2, _⟩ := H
  exact ⟨F, G, h1, h2⟩
set_option maxHeartbeats 12800000 in
theorem like_c (hP : PT TP) (w : World) (C p r : Nat) (E : Eg) (H : Two TP w C p r E E) (m : Nat) (HW : Wg m E) (hm : m ≤ 300) (HV : Wv E) :
    Calls Try.prog 12 #[.pointer (some ⟨p, 0, none⟩), .pointer (some ⟨r, 0, none⟩)] w fun e w' => e = .returned (.bool true) ∧ Below w.heap.size w w' := by
  obtain ⟨F, G, h1, h2⟩ := both_open H
  have HTP := Lib.hid h1
  have HDE := Lib.hid h2
  have HPP := Lib.hid hP
  have HWG := Lib.hid HW
  have HWV := Lib.hid HV
  have hm1 := Lib.hid (show m ≤ 1000 by omega)
  have hm3 := Lib.hid hm
  have H8 := Lib.hid HW.wf.th
  obtain ⟨N, hN⟩ : ∃ N, Hid (E.V.length = N) := ⟨_, Lib.hid rfl⟩
  have hN4 := HW.wf.vs
  rw [hN.out] at hN4
  have HPK := Lib.hid (fun w1 (hb : Below w.heap.size w w1) => hP.on h1 (OnS.none hb) (fun _ _ h => h))
  clear h1 h2 hP HW HV H hm
  go_enter Try.func12, Try.ntmps12
  go_wp2_with fail
  go_loopg [5, 6, 7, 8, 9] 10 (fun g tv hv rv sv qv wr => ∃ i : Nat, i + g = 10 ∧ tv = .int .i64 ((i : Int) - 1) ∧ Hid (Below w.heap.size w wr))
  case atStart => exact ⟨0, Nat.zero_add _, rfl, Lib.hid (Below.refl _ _)⟩
  case round =>
    obtain ⟨i, hi, rfl, HB⟩ := hrel
    have HI := Lib.hid hi
    by_cases hlt : i < 10
    · obtain ⟨g', rfl⟩ : ∃ g, gk = g + 1 := ⟨gk - 1, by omega⟩
      obtain ⟨t, ht⟩ : ∃ t, Hid ((i : Int) - 1 = t) := ⟨_, Lib.hid rfl⟩
      have htb : -1 ≤ t ∧ t ≤ 8 := by have := ht.out; omega
      obtain ⟨tb0, tb1⟩ := htb
      have hB64 : B64 t := ⟨by omega, by omega⟩
      have HT := Lib.hid (HPK.out wr HB.out)
      have HACT := Lib.hid (fun w1 (hb : Below wr.heap.size wr w1) => HPP.out.active (HPP.out.on HT.out (OnS.none hb) (fun _ _ h => h)) HWG.out hm1.out t hB64)
      have HRDS := Lib.hid (fun w1 (hb : Below wr.heap.size wr w1) => HPP.out.reads (HPP.out.on HT.out (OnS.none hb) (fun _ _ h => h)) HWG.out hm1.out t hB64)
      have HSTA := Lib.hid (fun w1 (hb : Below wr.heap.size wr w1) => HPP.out.start (HPP.out.on HT.out (OnS.none hb) (fun _ _ h => h)) HWG.out hm1.out t hB64)
      have HNX := Lib.hid (show t + 1 = ((i + 1 : Nat) : Int) - 1 from by rw [← ht.out]; omega)
      rw [ht.out]
      have ht8 : ¬ t > 8 := by omega
      clear hB64
      rcases thR_cases E H8.out t with ⟨hn, h1⟩ | ⟨k, x, rfl, hk8, hx, hth⟩
      · have e1 : hasR E t = false := by unfold hasR; rw [hn]
        have e2 : readsR E t = [] := by unfold readsR; rw [hn]
        have e3 : startR E t = 0 := by unfold startR; rw [hn]
        rw [e1] at HACT
        rw [e2] at HRDS
        rw [e3] at HSTA
        have h1' : (¬ t ≥ 0) ∨ (t ≥ 0 ∧ ¬ t < 8) := by omega
        clear e1 e2 e3 hn h1
        rcases h1' with h1 | ⟨h1, h2⟩
        all_goals
          go_wp2_with fail
          refine (HACT.out _ (Below.refl _ _)).mono ?_
          rintro e w1 ⟨rfl, hb⟩
          have HB1 := Lib.hid hb
          clear hb
          go_wp2_with fail
          refine (HRDS.out _ HB1.out).mono ?_
          rintro e w2 ⟨x2, rfl, hx2, hb⟩
          have HB2 := Lib.hid (bnext HB1.out hb)
          have HSM := Lib.hid (same_c w2 x2 (.slice none 0 0) [] [] hx2 (rowR_nil _ _) (by decide))
          clear hb
          obtain ⟨xa, xc, rfl, _⟩ := hx2.val
          clear hx2
          go_wp2_with fail
          refine HSM.out.mono ?_
          rintro e w3 ⟨rfl, hb⟩
          have HB3 := Lib.hid (bnext HB2.out hb)
          clear hb
          go_wp2_with fail
          refine (HSTA.out _ HB3.out).mono ?_
          rintro e w4 ⟨rfl, hb⟩
          have HB4 := Lib.hid (bnext HB.out (bnext HB3.out hb))
          clear hb
          go_wp2_with fail
          go_roundg g'
          case rel => exact ⟨i + 1, by have := HI.out; omega, by rw [HNX.out], HB4⟩
          case measure => omega
      · have t0 : (k : Int) ≥ 0 := by omega
        have t1 : (k : Int) < 8 := by omega
        have k0 : (0 : Int) ≤ (k : Int) := by omega
        have e1 : hasR E (k : Int) = x.is := by unfold hasR; rw [hth]
        have e2 : readsR E (k : Int) = if x.is then x.reads else [] := by unfold readsR; rw [hth]
        have e3 : startR E (k : Int) = if x.is then x.start else 0 := by unfold startR; rw [hth]
        rw [e1] at HACT
        rw [e2] at HRDS
        rw [e3] at HSTA
        have HRL := Lib.hid (Nat.le_trans (HWG.out.wf.tx x (mem_of hx)).reads hm3.out)
        obtain ⟨vv, tv, Z, hd⟩ := HDE.out.keep HB.out
        have HD := Lib.hid hd
        obtain ⟨z, hz, hzx⟩ := hd.zat hx
        obtain ⟨g, cap, cur, rfl, hkk, hg, hf, hF, c0, c1, c2, c3, c4, c5, c6, c7⟩ := hd.tx hz
        have y2 : wr.cell? ⟨r, 2, none⟩ = some (.slice (some ⟨g, 0, none⟩) E.T.length cap) := hd.bk.cell 2 _ rfl
        rw [H8.out] at y2
        have HRW := Lib.hid (hd.rows k z hz).1
        rw [hzx] at c0 c1 HRW
        obtain ⟨rv, hrv⟩ : ∃ v, Hid (z.rv = v) := ⟨_, Lib.hid rfl⟩
        rw [hrv.out] at c2 HRW
        have HRB := Lib.hid (And.intro hd.bk.lt hg)
        have HC2 := Lib.hid (And.intro y2 (And.intro c1 c2))
        obtain ⟨b, hb⟩ : ∃ b, Hid (x.is = b) := ⟨_, Lib.hid rfl⟩
        rw [hb.out] at c0 HACT HRDS HSTA
        clear e1 e2 e3 hth hx hd hz hzx hkk hf hF c3 c4 c5 c6 c7 c1 c2
        cases b
        · rw [if_neg (by decide)] at HRDS HSTA
          go_wp2_with fail
          refine (HACT.out _ (Below.refl _ _)).mono ?_
          rintro e w1 ⟨rfl, hb⟩
          have HB1 := Lib.hid hb
          clear hb
          go_wp2_with fail
          refine (HRDS.out _ HB1.out).mono ?_
          rintro e w2 ⟨x2, rfl, hx2, hb⟩
          have HB2 := Lib.hid (bnext HB1.out hb)
          have HSM := Lib.hid (same_c w2 x2 (.slice none 0 0) [] [] hx2 (rowR_nil _ _) (by decide))
          clear hb
          obtain ⟨xa, xc, rfl, _⟩ := hx2.val
          clear hx2
          go_wp2_with fail
          refine HSM.out.mono ?_
          rintro e w3 ⟨rfl, hb⟩
          have HB3 := Lib.hid (bnext HB2.out hb)
          clear hb
          go_wp2_with fail
          refine (HSTA.out _ HB3.out).mono ?_
          rintro e w4 ⟨rfl, hb⟩
          have HB4 := Lib.hid (bnext HB.out (bnext HB3.out hb))
          clear hb
          go_wp2_with fail
          go_roundg g'
          case rel => exact ⟨i + 1, by have := HI.out; omega, by rw [HNX.out], HB4⟩
          case measure => omega
        · rw [if_pos rfl] at HRDS HSTA
          obtain ⟨st, hst⟩ : ∃ v, Hid (x.start = v) := ⟨_, Lib.hid rfl⟩
          rw [hst.out] at HC2 HSTA
          obtain ⟨va, vc, hve, _⟩ := HRW.out.val
          obtain ⟨nr, hnr⟩ : ∃ v, Hid (x.reads.length = v) := ⟨_, Lib.hid rfl⟩
          rw [hnr.out] at hve
          subst hve
          go_wp2_with fail
          refine (HACT.out _ (Below.refl _ _)).mono ?_
          rintro e w1 ⟨rfl, hb⟩
          have HB1 := Lib.hid hb
          have y2' : w1.cell? ⟨r, 2, none⟩ = some (.slice (some ⟨g, 0, none⟩) 8 cap) := (hb.cell (p := ⟨r, 2, none⟩) HRB.out.1).trans HC2.out.1
          have c1' : w1.cell? ⟨g, k * 8 + 1, none⟩ = some (.int .i64 st) := (hb.cell (p := ⟨g, k * 8 + 1, none⟩) HRB.out.2).trans HC2.out.2.1
          have c2' : w1.cell? ⟨g, k * 8 + 2, none⟩ = some (.slice va nr vc) := (hb.cell (p := ⟨g, k * 8 + 2, none⟩) HRB.out.2).trans HC2.out.2.2
          clear hb
          go_wp2_with fail
          refine (HRDS.out _ HB1.out).mono ?_
          rintro e w2 ⟨x2, rfl, hx2, hb⟩
          have HB2 := Lib.hid (bnext HB1.out hb)
          have HSM := Lib.hid (same_c w2 x2 (.slice va nr vc) x.reads x.reads hx2 (HRW.out.keep HB2.out).row (Nat.le_trans HRL.out (by decide)))
          rw [decide_eq_true (show x.reads = x.reads from rfl)] at HSM
          clear hb
          obtain ⟨xa, xc, rfl, _⟩ := hx2.val
          rw [hnr.out] at HSM ⊢
          clear hx2
          go_wp2_with fail
          refine HSM.out.mono ?_
          rintro e w3 ⟨rfl, hb⟩
          have HB3 := Lib.hid (bnext HB2.out hb)
          clear hb
          go_wp2_with fail
          refine (HSTA.out _ HB3.out).mono ?_
          rintro e w4 ⟨rfl, hb⟩
          have HB4 := Lib.hid (bnext HB.out (bnext HB3.out hb))
          clear hb
          go_wp2_with fail
          go_roundg g'
          case rel => exact ⟨i + 1, by have := HI.out; omega, by rw [HNX.out], HB4⟩
          case measure => omega
    · have hin : i = 10 := by omega
      subst hin
      go_wp2_with fail
      rename World => w2
      go_loopg [10, 11, 12] (N + 2) (fun g nv vv fv wr => ∃ i : Nat, i + g = N + 2 ∧ nv = .int .i64 ((i : Int) - 1) ∧ Hid (Below w.heap.size w wr))
      case atStart => exact ⟨0, Nat.zero_add _, rfl, HB⟩
      case round =>
        obtain ⟨j, hj, rfl, HB2⟩ := hrel
        have HJ := Lib.hid hj
        obtain ⟨n, hn⟩ : ∃ t, Hid ((j : Int) - 1 = t) := ⟨_, Lib.hid rfl⟩
        have hnb : -1 ≤ n ∧ n ≤ 4001 ∧ n ≤ (N : Int) + 1 := by have := hn.out; omega
        obtain ⟨nb0, nb1, nb2⟩ := hnb
        have hB64 : B64 n := ⟨by omega, by omega⟩
        have HT := Lib.hid (HPK.out wr HB2.out)
        have HNX := Lib.hid (show n + 1 = ((j + 1 : Nat) : Int) - 1 from by rw [← hn.out]; omega)
        have HVAL := Lib.hid (HPP.out.value HT.out HWG.out hm1.out n hB64)
        have HNEW := Lib.hid (fun w1 (hb : Below wr.heap.size wr w1) u hu => HPP.out.newer (HPP.out.on HT.out (OnS.none hb) (fun _ _ h => h)) HWG.out hm1.out n u hB64 hu)
        obtain ⟨vv, tv, Z, hd⟩ := HDE.out.keep HB2.out
        obtain ⟨va, vc, hvv, _⟩ := hd.vs.val
        have y1 : wr.cell? ⟨r, 1, none⟩ = some vv := hd.bk.cell 1 _ rfl
        rw [hvv, hN.out] at y1
        have hrl := hd.bk.lt
        have HHD := Lib.hid hd
        clear hd hB64
        rw [hn.out]
        by_cases hlt2 : j < N + 2
        · obtain ⟨g', rfl⟩ : ∃ g, gk = g + 1 := ⟨gk - 1, by omega⟩
          have hle : n ≤ (N : Int) := by have := hn.out; omega
          rcases vrR_cases E n with ⟨hno, h1⟩ | ⟨k, v, rfl, hkN, hv, hvr⟩
          · have e1 : valueR E n = (0, 1) := by unfold valueR; rw [hno]
            have e2 : ∀ u, newerR E n u = false := fun u => by unfold newerR; rw [hno]
            rw [e1] at HVAL
            simp only [e2] at HNEW
            rw [hN.out] at h1
            have h1' : n < 0 ∨ (¬ n < 0 ∧ n = (N : Int)) := by omega
            have hb5 : B64 (-5) := ⟨by decide, by decide⟩
            clear e1 e2 hno h1 hvv
            rcases h1' with h1 | ⟨h1, rfl⟩
            all_goals
              go_wp2_with fail
              refine HVAL.out.mono ?_
              rintro e w3 ⟨rfl, hb⟩
              have HB3 := Lib.hid hb
              have y1' := (hb.cell (p := ⟨r, 1, none⟩) hrl).trans y1
              clear hb
              go_wp2_with fail
              refine (HNEW.out _ HB3.out _ hb5).mono ?_
              rintro e w4 ⟨rfl, hb⟩
              have HB4 := Lib.hid (bnext HB2.out (bnext HB3.out hb))
              clear hb
              go_wp2_with fail
              go_roundg g'
              case rel => exact ⟨j + 1, by have := HJ.out; omega, by rw [HNX.out], HB4⟩
              case measure => omega
          · have e1 : valueR E (k : Int) = (v.val, 0) := by unfold valueR; rw [hvr]
            have e2 : ∀ u, newerR E (k : Int) u = decide (u < v.ver) := fun u => by unfold newerR; rw [hvr]
            rw [e1] at HVAL
            simp only [e2] at HNEW
            have hver := HWV.out.ver v (mem_of hv)
            have hck := HWG.out.wf.ck.2
            have hm' := hm3.out
            obtain ⟨gv, capv, cuv, hv2, hkv, hgv, hfv, hFv, v0, v1, v2⟩ := HHD.out.vr hv
            rw [hvv, hN.out] at hv2
            injection hv2 with q1 q2 q3
            subst q1
            subst q3
            clear q2
            obtain ⟨vl, ve, lo⟩ := v
            simp only at v0 v1 v2 HVAL HNEW hver
            have hb1 : B64 ve := ⟨by omega, by omega⟩
            have hb2 : B64 (ve - 1) := ⟨by omega, by omega⟩
            have HN1 := Lib.hid (fun w1 hb => HNEW.out w1 hb ve hb1)
            rw [decide_eq_false (show ¬ ve < ve by omega)] at HN1
            have HN2 := Lib.hid (fun w1 hb => HNEW.out w1 hb (ve - 1) hb2)
            rw [decide_eq_true (show ve - 1 < ve by omega)] at HN2
            rw [hN.out] at hkN
            have k0 : ¬ (k : Int) < 0 := by omega
            have k1 : (0 : Int) ≤ (k : Int) := by omega
            have k2 : (k : Int) < (N : Int) := by omega
            have k3 : ((k : Int) == (N : Int)) = false := by rw [beq_eq_false_iff_ne]; omega
            have hve0 := hver.1
            have hve1 : ve ≤ 300 := by omega
            clear e1 e2 hvr hv hver hck hm' hkv hfv hFv v2 hvv hb1 hb2 HNEW
            go_wp2_with fail
            refine HVAL.out.mono ?_
            rintro e w3 ⟨rfl, hb⟩
            have HB3 := Lib.hid hb
            have y1' := (hb.cell (p := ⟨r, 1, none⟩) hrl).trans y1
            have v0' := (hb.cell (p := ⟨gv, k * 3, none⟩) hgv).trans v0
            have v1' := (hb.cell (p := ⟨gv, k * 3 + 1, none⟩) hgv).trans v1
            clear hb
            go_wp2_with fail
            refine (HN1.out _ HB3.out).mono ?_
            rintro e w4 ⟨rfl, hb⟩
            have HB4 := Lib.hid (bnext HB3.out hb)
            have y1' := (HB4.out.cell (p := ⟨r, 1, none⟩) hrl).trans y1
            have v1' := (HB4.out.cell (p := ⟨gv, k * 3 + 1, none⟩) hgv).trans v1
            clear hb
            go_wp2_with fail
            refine (HN2.out _ HB4.out).mono ?_
            rintro e w5 ⟨rfl, hb⟩
            have HB5 := Lib.hid (bnext HB2.out (bnext HB4.out hb))
            clear hb
            go_wp2_with fail
            go_roundg g'
            case rel => exact ⟨j + 1, by have := HJ.out; omega, by rw [HNX.out], HB5⟩
            case measure => omega
        · have hjn : n = (N : Int) + 1 := by have := hn.out; omega
          subst hjn
          have hnn : ¬ (N : Int) + 1 ≤ (N : Int) := by omega
          have HWD := Lib.hid (HPP.out.words HT.out HWG.out hm1.out)
          have HCK := Lib.hid (fun w1 (hb : Below wr.heap.size wr w1) => HPP.out.clock (HPP.out.on HT.out (OnS.none hb) (fun _ _ h => h)) HWG.out hm1.out)
          have HRW := Lib.hid (fun w1 (hb : Below wr.heap.size wr w1) => rwords_c w1 G r E (DE.keep ⟨vv, tv, Z, HHD.out⟩ hb) m HWG.out.wf hm1.out)
          have HWL := Lib.hid (Nat.le_trans (words_len HWG.out.wf hm3.out) (show 900000 ≤ 1000000 by decide))
          obtain ⟨WD, hWD⟩ : ∃ l, Hid (wordsR E = l) := ⟨_, Lib.hid rfl⟩
          rw [hWD.out] at HWD HRW HWL
          have y0 : wr.cell? ⟨r, 0, none⟩ = some (.int .i64 E.clock) := HHD.out.bk.cell 0 _ rfl
          obtain ⟨ck, hck⟩ : ∃ c, Hid (E.clock = c) := ⟨_, Lib.hid rfl⟩
          rw [hck.out] at y0 HCK
          clear hvv
          go_wp2_with fail
          refine HWD.out.mono ?_
          rintro e w3 ⟨x3, rfl, hx3, _, hb⟩
          have HB3 := Lib.hid hb
          obtain ⟨xa, xc, rfl, _⟩ := hx3.val
          have HX3 := Lib.hid hx3
          clear hb hx3
          go_wp2_with fail
          refine (HRW.out _ HB3.out).mono ?_
          rintro e w4 ⟨x4, rfl, hx4, hb⟩
          have HB4 := Lib.hid (bnext HB3.out hb)
          have HSM := Lib.hid (same_c w4 (.slice xa WD.length xc) x4 WD WD (HX3.out.keep hb) hx4.row HWL.out)
          rw [decide_eq_true (show WD = WD from rfl)] at HSM
          obtain ⟨ya, yc, rfl, _⟩ := hx4.val
          clear hb hx4
          go_wp2_with fail
          refine HSM.out.mono ?_
          rintro e w5 ⟨rfl, hb⟩
          have HB5 := Lib.hid (bnext HB4.out hb)
          have y0' := (HB5.out.cell (p := ⟨r, 0, none⟩) hrl).trans y0
          have HC5 := Lib.hid (show w5.drew.cell? ⟨r, 0, none⟩ = some (.int .i64 ck) from y0')
          have HCK5 := Lib.hid (HCK.out w5.drew (HB5.out.trans ((bdr w5).mono HB5.out.size)))
          have hrl5 : r < w5.heap.size := Nat.lt_of_lt_of_le hrl HB5.out.size
          clear hb
          go_wp2_with fail
          go_region_held3 (fun w' => w'.cell? ⟨r, 0, none⟩ = some (.int .i64 ck)) (first | with_reducible exact HC5.out | with_reducible assumption | go_keep) (first | (go_at_call 26; refine HCK5.out.mono ?_; rintro e w6 ⟨rfl, hb⟩; have HB6 := Lib.hid (bnext HB2.out (bnext HB5.out ((bdr w5).trans hb))); have y06 : w6.cell? ⟨r, 0, none⟩ = some (.int .i64 ck) := (hb.cell (p := ⟨r, 0, none⟩) hrl5).trans HC5.out; clear hb))
          all_goals
            go_wp2_with fail
            go_ret
            exact ⟨rfl, HB6.out⟩
end Go.Proofs.Ytjoifodjbdbicaa.UV

/- SchedPlays' like for tl2: both engines answer alike, and have alike, given what is asked of the program's. -/
namespace Go.Proofs.Ytjoifodjbdbicaa.UW
open Go.RowKit Go.Proofs.Ytjoifodjbdbicaa.RG Go.Proofs.Ytjoifodjbdbicaa.RB Go.Proofs.Ytjoifodjbdbicaa.RI Go.Proofs.Ytjoifodjbdbicaa.UA Go.Proofs.Ytjoifodjbdbicaa.UB Go.Proofs.Ytjoifodjbdbicaa.UC Go.Proofs.Ytjoifodjbdbicaa.UD Go.Proofs.Ytjoifodjbdbicaa.UE Go.Proofs.Ytjoifodjbdbicaa.UF Go.Proofs.Ytjoifodjbdbicaa.UG Go.Proofs.Ytjoifodjbdbicaa.UH Go.Proofs.Ytjoifodjbdbicaa.UI Go.Proofs.Ytjoifodjbdbicaa.UJ Go.Proofs.Ytjoifodjbdbicaa.UK Go.Proofs.Ytjoifodjbdbicaa.UL Go.Proofs.Ytjoifodjbdbicaa.UM Go.Proofs.Ytjoifodjbdbicaa.UN Go.Proofs.Ytjoifodjbdbicaa.UO Go.Proofs.Ytjoifodjbdbicaa.UP Go.Proofs.Ytjoifodjbdbicaa.UQ Go.Proofs.Ytjoifodjbdbicaa.UR Go.Proofs.Ytjoifodjbdbicaa.US Go.Proofs.Ytjoifodjbdbicaa.UT Go.Proofs.Ytjoifodjbdbicaa.UU Go.Proofs.Ytjoifodjbdbicaa.UV
set_option linter.unusedVariables false
set_option maxRecDepth 100000
set_option maxRecDepth 100000

def TDd : Ty Try.prog Dd := Ty.flat 22 33 4 32 (.agg #[.int .i64 0, .int .i64 0, .int .i64 0, .int .i64 0]) (fun d => [.int .i64 d.k, .int .i64 d.t, .int .i64 d.n, .int .i64 d.v]) Try.underlying22 (by kernel_rfl) rfl (by decide) (by decide) (fun _ => rfl) (fun a u hu => by
  simp only [List.mem_cons, List.not_mem_nil, or_false] at hu
  rcases hu with rfl | rfl | rfl | rfl <;> rfl)
/-- Deeds' numbers have 64 bits. -/
def D64 (l : List Dd) : Prop := ∀ d, d ∈ l → B64 d.t ∧ B64 d.n ∧ B64 d.v
theorem deed_at {w : World} {S : Nat → Prop} {v : Value} {L : List Dd} (h : RowR TDd w S v L) {i : Nat} {d : Dd} (hd : L[i]? = some d) : ∃ b off cap, v = .slice (some ⟨b, off, none⟩) L.length cap ∧ b < w.heap.size ∧ w.cell? ⟨b, off + i * 4, none⟩ = some (.int .i64 d.k) ∧ w.cell? ⟨b, off + i * 4 + 1, none⟩ = some (.int .i64 d.t) ∧ w.cell? ⟨b, off + i * 4 + 2, none⟩ = some (.int .i64 d.n) ∧ w.cell? ⟨b, off + i * 4 + 3, none⟩ = some (.int .i64 d.v) := by
  obtain ⟨b, off, cap, hv, _, hlt, hc⟩ := h.open_ (by intro e; rw [e] at hd; simp at hd)
  obtain ⟨q, hL, _⟩ := hc i d hd
  exact ⟨b, off, cap, hv, hlt, hL 0 _ rfl, hL 1 _ rfl, hL 2 _ rfl, hL 3 _ rfl⟩
/-- What an engine is behind deeds. -/
def runE (E : Eg) (l : List Dd) : Eg := l.foldl (fun E d => (deedR E d).1) E
theorem run_next {l : List Dd} {i : Nat} {d : Dd} (h : l[i]? = some d) (E : Eg) : runE E (l.take (i + 1)) = (deedR (runE E (l.take i)) d).1 := by
  unfold runE
  rw [List.take_add_one, h, List.foldl_append]
  rfl
theorem wg_run : ∀ (l : List Dd) {m : Nat} {E : Eg}, Wg m E → Wg (m + l.length) (runE E l)
  | [], m, E, h => h
  | d :: l, m, E, h => by
    have := wg_run l (wg_deed h d)
    rw [List.length_cons]
    rw [show m + (l.length + 1) = m + 1 + l.length by omega]
    exact this
theorem wv_run : ∀ (l : List Dd) {E : Eg}, Wv E → Wv (runE E l)
  | [], E, h => h
  | d :: l, E, h => wv_run l (wv_deed h d)
theorem wv_bE : ∀ i : Nat, Wv (bE i)
  | 0 => wv_new
  | i + 1 => by
    have h := wv_deed (wv_bE i) ⟨8, 0, 0, 10 + (i : Int)⟩
    rw [deed_8] at h
    exact h
theorem wg_play (l : List Dd) {i n : Nat} (hi : i ≤ n) : Wg (4 + n) (runE (bE 4) (l.take i)) :=
  wg_mono (wg_run (l.take i) (bE_wg 4)) (by rw [List.length_take]; omega)
theorem wv_play (l : List Dd) (i : Nat) : Wv (runE (bE 4) (l.take i)) := wv_run _ (wv_bE 4)
variable {TP : World → (Nat → Prop) → Nat → Eg → Prop}
set_option maxHeartbeats 6400000 in
theorem lplays_c (hP : PT TP) (w : World) (S : Nat → Prop) (v : Value) (ds : List Dd) (hv : RowR TDd w S v ds) (hd : D64 ds) : Calls Try.prog 3 #[v] w fun e w' => e = .returned (.bool true) ∧ Below w.heap.size w w' := by
  have HBEG := Lib.hid (begin_c hP w)
  have HLIV := Lib.hid (fun w1 => lives_c hP w1)
  have HPP := Lib.hid hP
  have HR := Lib.hid hv
  have HD := Lib.hid hd
  obtain ⟨va, vc, rfl, _⟩ := hv.val
  obtain ⟨nd, hnd⟩ : ∃ n, Hid (ds.length = n) := ⟨_, Lib.hid rfl⟩
  rw [hnd.out] at HR ⊢
  clear hv hd hP
  go_enter Try.func3, Try.ntmps3
  go_wp2_with fail
  refine HBEG.out.mono ?_
  rintro e w1 ⟨p, r, rfl, ht, hb⟩
  have HT1 := Lib.hid ht
  have HB1 := Lib.hid hb
  clear ht hb
  go_wp2_with fail
  go_loopg [5, 6, 7, 8] 60 (fun g iv av bv sv wr => ∃ i : Nat, i + g = 60 ∧ iv = .int .i64 (i : Int) ∧ Hid (i ≤ nd) ∧ Hid (Two TP wr w.heap.size p r (runE (bE 4) (ds.take i)) (runE (bE 4) (ds.take i))) ∧ Hid (Below w.heap.size w wr))
  case atStart => exact ⟨0, Nat.zero_add _, rfl, Lib.hid (Nat.zero_le _), HT1, HB1⟩
  case round =>
    obtain ⟨i, hi, rfl, HLE, HTI, HBI⟩ := hrel
    have HI := Lib.hid hi
    have HLV := Lib.hid (HLIV.out wr)
    by_cases hlt : i < nd ∧ i < 60
    · obtain ⟨h1, h2⟩ := hlt
      obtain ⟨g', rfl⟩ : ∃ g, gk = g + 1 := ⟨gk - 1, by omega⟩
      obtain ⟨d, hd⟩ := getElem?_of_lt (l := ds) (k := i) (by rw [hnd.out]; exact h1)
      obtain ⟨b, off, cap, hvv, hbl, x0, x1, x2, x3⟩ := deed_at HR.out hd
      injection hvv with e1 e2 e3
      subst e1
      subst e3
      clear e2
      have hdb := HD.out d (mem_of hd)
      have HNX := Lib.hid (run_next hd (bE 4))
      obtain ⟨E, hE⟩ : ∃ E, Hid (runE (bE 4) (ds.take i) = E) := ⟨_, Lib.hid rfl⟩
      have HWG := Lib.hid (wg_play ds (show i ≤ 60 by omega))
      rw [hE.out] at HTI HNX HWG
      have HWG2 := Lib.hid (wg_play ds (show i + 1 ≤ 60 by omega))
      have HWV2 := Lib.hid (wv_play ds (i + 1))
      rw [HNX.out] at HWG2 HWV2
      obtain ⟨dk, dt, dn, dv⟩ := d
      have HDO := Lib.hid (does_c HPP.out wr w.heap.size p r E HTI.out _ HWG.out (by decide) dk dt dn dv hdb.1 hdb.2.1 hdb.2.2)
      have HLK := Lib.hid (fun w2 (h : Two TP w2 w.heap.size p r (deedR E ⟨dk, dt, dn, dv⟩).1 (deedR E ⟨dk, dt, dn, dv⟩).1) => like_c HPP.out w2 w.heap.size p r _ h _ HWG2.out (by decide) HWV2.out)
      obtain ⟨⟨E2, N2, R2⟩, hR2⟩ : ∃ x, deedR E ⟨dk, dt, dn, dv⟩ = x := ⟨_, rfl⟩
      simp only [hR2] at HDO HLK HNX
      have y0 := (HBI.out.cell (p := ⟨b, off + i * 4, none⟩) hbl).trans x0
      have y1 := (HBI.out.cell (p := ⟨b, off + i * 4 + 1, none⟩) hbl).trans x1
      have y2 := (HBI.out.cell (p := ⟨b, off + i * 4 + 2, none⟩) hbl).trans x2
      have y3 := (HBI.out.cell (p := ⟨b, off + i * 4 + 3, none⟩) hbl).trans x3
      have i0 : (0 : Int) ≤ (i : Int) := by omega
      have i1 : (i : Int) < (nd : Int) := by omega
      have i2 : (i : Int) < 60 := by omega
      clear hd hdb hR2 x0 x1 x2 x3
      go_wp2_with fail
      refine HDO.out.mono ?_
      rintro e w2 ⟨rfl, ht, hb⟩
      have HB2 := Lib.hid (HBI.out.trans hb)
      have HT2 := Lib.hid ht
      clear ht hb
      have HK2 := Lib.hid (fun w3 (hb : Below w2.heap.size w2 w3) => Two.keep HPP.out HT2.out hb)
      go_wp2_with fail
      refine (HLK.out _ (HK2.out _ (bnext (balloc w2 _) (balloc _ _)))).mono ?_
      rintro e w3 ⟨rfl, hb⟩
      have hb4 := bnext (bnext (balloc w2 _) (balloc _ _)) hb
      have k1 := (Bk.new w2 #[.int .i64 N2, .int .i64 R2] 29)
      have k1' := (k1.keep (balloc _ (.cells #[.int .i64 N2, .int .i64 R2] 29))).keep hb
      have k2 := (Bk.new (w2.alloc (.cells #[.int .i64 N2, .int .i64 R2] 29)) #[.int .i64 N2, .int .i64 R2] 29).keep hb
      rw [World.size_alloc] at k2
      have z10 := k1'.cell 0 _ rfl
      have z11 := k1'.cell 1 _ rfl
      have z20 := k2.cell 0 _ rfl
      have z21 := k2.cell 1 _ rfl
      have HB4 := Lib.hid (HB2.out.trans (hb4.mono HB2.out.size))
      have HT4 := Lib.hid (HK2.out _ hb4)
      clear k1 k1' k2 hb hb4
      go_wp2_with fail
      go_roundg g'
      case rel => exact ⟨i + 1, by have := HI.out; omega, by go_num, Lib.hid (by omega), by rw [HNX.out]; exact HT4, HB4⟩
      case measure => omega
    · have hex : (¬ (i : Int) < (nd : Int)) ∨ ((i : Int) < (nd : Int) ∧ ¬ (i : Int) < 60) := by omega
      clear hlt
      rcases hex with h1 | ⟨h1, h2⟩
      all_goals
        go_wp2_with fail
        refine HLV.out.mono ?_
        rintro e w2 ⟨rfl, hb⟩
        have HB2 := Lib.hid (bnext HBI.out hb)
        clear hb
        go_wp2_with fail
        go_ret
        exact ⟨rfl, HB2.out⟩
end Go.Proofs.Ytjoifodjbdbicaa.UW
