/- As long as no other thread does a step, a transaction never fails: the law. -/
import Derived.Test.YtjoifodjbdbicaaZI
namespace Go.Proofs.Ytjoifodjbdbicaa.UY
open Go.RowKit Go.Proofs.Ytjoifodjbdbicaa.RG Go.Proofs.Ytjoifodjbdbicaa.RB Go.Proofs.Ytjoifodjbdbicaa.RI Go.Proofs.Ytjoifodjbdbicaa.UA Go.Proofs.Ytjoifodjbdbicaa.UB Go.Proofs.Ytjoifodjbdbicaa.UC Go.Proofs.Ytjoifodjbdbicaa.UD Go.Proofs.Ytjoifodjbdbicaa.UE Go.Proofs.Ytjoifodjbdbicaa.UF Go.Proofs.Ytjoifodjbdbicaa.UG Go.Proofs.Ytjoifodjbdbicaa.UH Go.Proofs.Ytjoifodjbdbicaa.UI Go.Proofs.Ytjoifodjbdbicaa.UJ Go.Proofs.Ytjoifodjbdbicaa.UK Go.Proofs.Ytjoifodjbdbicaa.UL Go.Proofs.Ytjoifodjbdbicaa.UM Go.Proofs.Ytjoifodjbdbicaa.UN Go.Proofs.Ytjoifodjbdbicaa.UO Go.Proofs.Ytjoifodjbdbicaa.UP Go.Proofs.Ytjoifodjbdbicaa.UQ Go.Proofs.Ytjoifodjbdbicaa.UR Go.Proofs.Ytjoifodjbdbicaa.US Go.Proofs.Ytjoifodjbdbicaa.UT Go.Proofs.Ytjoifodjbdbicaa.UU Go.Proofs.Ytjoifodjbdbicaa.UV Go.Proofs.Ytjoifodjbdbicaa.UW Go.Proofs.Ytjoifodjbdbicaa.UX
set_option linter.unusedVariables false
set_option maxRecDepth 100000
set_option maxRecDepth 100000

theorem ja_bE : ∀ i : Nat, Ja (bE i)
  | 0 => ⟨wv_new, (fun v hv => by cases hv), fun x hx hi => by
    have : x = tx0 := new_tx (mem_of hx)
    rw [this] at hi
    cases hi⟩
  | i + 1 => by
    have h := (ja_deed (ja_bE i) (bE_wg i) ⟨8, 0, 0, 10 + (i : Int)⟩ (fun h => absurd (show (8 : Int) = 3 from h.1) (by decide))).1
    rw [deed_8] at h
    exact h
variable {TP : World → (Nat → Prop) → Nat → Eg → Prop}
set_option maxHeartbeats 6400000 in
theorem lalone_c (hP : PT TP) (w : World) (S : Nat → Prop) (v : Value) (ds : List Dd) (hv : RowR TDd w S v ds) (hd : D64 ds) : Calls Try.prog 5 #[v] w fun e w' => e = .returned (.bool true) ∧ Below w.heap.size w w' := by
  have HBEG := Lib.hid (begin_c hP w)
  have HLIV := Lib.hid (fun w1 => lives_c hP w1)
  have HPP := Lib.hid hP
  have HR := Lib.hid hv
  have HD := Lib.hid hd
  obtain ⟨va, vc, rfl, _⟩ := hv.val
  obtain ⟨nd, hnd⟩ : ∃ n, Hid (ds.length = n) := ⟨_, Lib.hid rfl⟩
  rw [hnd.out] at HR ⊢
  clear hv hd hP
  go_enter Try.func5, Try.ntmps5
  go_wp2_with fail
  refine HBEG.out.mono ?_
  rintro e w1 ⟨p, r, rfl, ht, hb⟩
  have HT1 := Lib.hid ht
  have HB1 := Lib.hid hb
  clear ht hb
  go_wp2_with fail
  go_loopg [5, 6, 7, 8] 60 (fun g iv dv av bv wr => ∃ (i : Nat) (E : Eg), i + g = 60 ∧ iv = .int .i64 (i : Int) ∧ Hid (i ≤ nd) ∧ Hid (Two TP wr w.heap.size p r E E) ∧ Hid (Below w.heap.size w wr) ∧ Hid (Ja E) ∧ Hid (Wg (4 + i) E))
  case atStart => exact ⟨0, bE 4, Nat.zero_add _, rfl, Lib.hid (Nat.zero_le _), HT1, HB1, Lib.hid (ja_bE 4), Lib.hid (bE_wg 4)⟩
  case round =>
    obtain ⟨i, E, hi, rfl, HLE, HTI, HBI, HJA, HWG⟩ := hrel
    have HI := Lib.hid hi
    have HLV := Lib.hid (HLIV.out wr)
    by_cases hlt : i < nd ∧ i < 60
    · obtain ⟨h1, h2⟩ := hlt
      obtain ⟨g', rfl⟩ : ∃ g, gk = g + 1 := ⟨gk - 1, by omega⟩
      obtain ⟨d, hd⟩ := getElem?_of_lt (l := ds) (k := i) (by rw [hnd.out]; exact h1)
      obtain ⟨b, off, cap, hvv, hbl, x0, x1, x2, x3⟩ := deed_at HR.out hd
      injection hvv with e1 e2 e3
      subst e1
      subst e3
      clear e2
      have hdb := HD.out d (mem_of hd)
      obtain ⟨dk, dt, dn, dv⟩ := d
      have HBA := Lib.hid (balloc wr (.cells #[.int .i64 dk, .int .i64 dt, .int .i64 dn, .int .i64 dv] 33))
      have HTA := Lib.hid (HTI.out.keep HPP.out HBA.out)
      have HKA := Lib.hid (Bk.new wr #[.int .i64 dk, .int .i64 dt, .int .i64 dn, .int .i64 dv] 33)
      have HDO := Lib.hid (does_n HPP.out wr w.heap.size p r E HTI.out _ HBA.out _ HWG.out (by omega) dk dt dn dv hdb.1 hdb.2.1 hdb.2.2)
      have y0 := (HBI.out.cell (p := ⟨b, off + i * 4, none⟩) hbl).trans x0
      have y1 := (HBI.out.cell (p := ⟨b, off + i * 4 + 1, none⟩) hbl).trans x1
      have y2 := (HBI.out.cell (p := ⟨b, off + i * 4 + 2, none⟩) hbl).trans x2
      have y3 := (HBI.out.cell (p := ⟨b, off + i * 4 + 3, none⟩) hbl).trans x3
      have i0 : (0 : Int) ≤ (i : Int) := by omega
      have i1 : (i : Int) < (nd : Int) := by omega
      have i2 : (i : Int) < 60 := by omega
      have HXW := Lib.hid (Nat.le_refl w.heap.size)
      have HBI2 := Lib.hid (bnext HBI.out HBA.out)
      clear hd hdb x0 x1 x2 x3
      by_cases hsk : dk = 3 ∧ dt ≠ 0
      · obtain ⟨rfl, q1⟩ := hsk
        have q2 : (dt != 0) = true := by rw [bne_iff_ne]; exact q1
        have HWG2 := Lib.hid (wg_mono HWG.out (Nat.le_succ (4 + i)))
        go_wp2_with fail
        go_roundg g'
        case rel => exact ⟨i + 1, E, by have := HI.out; omega, by go_num, Lib.hid (by omega), HTA, HBI2, HJA, HWG2⟩
        case measure => omega
      · have HJD := Lib.hid (ja_deed HJA.out HWG.out ⟨dk, dt, dn, dv⟩ hsk)
        have HWG2 := Lib.hid (show Wg (4 + (i + 1)) (deedR E ⟨dk, dt, dn, dv⟩).1 from wg_deed HWG.out _)
        obtain ⟨⟨E2, N2, R2⟩, hR2⟩ : ∃ x, deedR E ⟨dk, dt, dn, dv⟩ = x := ⟨_, rfl⟩
        simp only [hR2] at HDO HWG2
        rw [hR2] at HJD
        have HJ2 := Lib.hid HJD.out.1
        have hbad := HJD.out.2
        simp only at hbad
        have hsk' : (¬ dk = 3) ∨ (dk = 3 ∧ dt = 0) := by
          by_cases h : dk = 3
          · exact .inr ⟨h, by by_cases h2 : dt = 0; exact h2; exact absurd ⟨h, h2⟩ hsk⟩
          · exact .inl h
        have hbad' : (¬ dt = 0) ∨ (dt = 0 ∧ (R2 == 32) = false ∧ (R2 == 33) = false) := by
          by_cases h : dt = 0
          · exact .inr ⟨h, by rw [beq_eq_false_iff_ne]; exact (hbad h).1, by rw [beq_eq_false_iff_ne]; exact (hbad h).2⟩
          · exact .inl h
        clear hR2 hsk hbad HJD
        rcases hsk' with q1 | ⟨rfl, rfl⟩
        · rcases hbad' with q2 | ⟨rfl, q2, q3⟩
          all_goals
            go_wp2_with fail
            refine HDO.out.mono ?_
            rintro e w2 ⟨rfl, ht, hb, hk⟩
            have k0 : Bk w2 wr.heap.size _ _ := (hk wr.heap.size (Nat.le_refl _) HKA.out.lt).trans HKA.out
            have z0 := k0.lt
            have z1 := k0.cell 1 _ rfl
            have HT2 := Lib.hid ht
            have HB2 := Lib.hid (HBI2.out.trans hb)
            have HT4 := Lib.hid (HT2.out.keep HPP.out (bnext (balloc w2 (.cells #[.int .i64 N2, .int .i64 R2] 29)) (balloc (w2.alloc (.cells #[.int .i64 N2, .int .i64 R2] 29)) (.cells #[.int .i64 N2, .int .i64 R2] 29))))
            have HB4 := Lib.hid (bnext HB2.out (bnext (balloc w2 (.cells #[.int .i64 N2, .int .i64 R2] 29)) (balloc (w2.alloc (.cells #[.int .i64 N2, .int .i64 R2] 29)) (.cells #[.int .i64 N2, .int .i64 R2] 29))))
            clear ht hb k0 hk
            go_wp2_with fail
            go_roundg g'
            case rel => exact ⟨i + 1, E2, by have := HI.out; omega, by go_num, Lib.hid (by omega), HT4, HB4, HJ2, HWG2⟩
            case measure => omega
        · have hb3 : (R2 == 32) = false ∧ (R2 == 33) = false := by
            rcases hbad' with h | ⟨_, h2, h3⟩
            · exact absurd rfl h
            · exact ⟨h2, h3⟩
          obtain ⟨q2, q3⟩ := hb3
          clear hbad'
          go_wp2_with fail
          refine HDO.out.mono ?_
          rintro e w2 ⟨rfl, ht, hb, hk⟩
          have k0 : Bk w2 wr.heap.size _ _ := (hk wr.heap.size (Nat.le_refl _) HKA.out.lt).trans HKA.out
          have z0 := k0.lt
          have z1 := k0.cell 1 _ rfl
          have HT2 := Lib.hid ht
          have HB2 := Lib.hid (HBI2.out.trans hb)
          have HT4 := Lib.hid (HT2.out.keep HPP.out (bnext (balloc w2 (.cells #[.int .i64 N2, .int .i64 R2] 29)) (balloc (w2.alloc (.cells #[.int .i64 N2, .int .i64 R2] 29)) (.cells #[.int .i64 N2, .int .i64 R2] 29))))
          have HB4 := Lib.hid (bnext HB2.out (bnext (balloc w2 (.cells #[.int .i64 N2, .int .i64 R2] 29)) (balloc (w2.alloc (.cells #[.int .i64 N2, .int .i64 R2] 29)) (.cells #[.int .i64 N2, .int .i64 R2] 29))))
          clear ht hb k0 hk
          go_wp2_with fail
          go_roundg g'
          case rel => exact ⟨i + 1, E2, by have := HI.out; omega, by go_num, Lib.hid (by omega), HT4, HB4, HJ2, HWG2⟩
          case measure => omega
    · have hex : (¬ (i : Int) < (nd : Int)) ∨ ((i : Int) < (nd : Int) ∧ ¬ (i : Int) < 60) := by omega
      clear hlt
      rcases hex with h1 | ⟨h1, h2⟩
      all_goals
        go_wp2_with fail
        refine HLV.out.mono ?_
        rintro e w2 ⟨rfl, hb⟩
        have HB2 := Lib.hid (bnext HBI.out hb)
        clear hb
        go_wp2_with fail
        go_ret
        exact ⟨rfl, HB2.out⟩
end Go.Proofs.Ytjoifodjbdbicaa.UY
