/- What stands between tokens is left. -/
import Derived.Test.YtlcapkgbbgpdmaaGreatDoorYS
import Derived.Deep.LoopGhost
import Derived.Outline
import Derived.Test.YtlcapkgbbgpdmaaGreatDoorV
namespace Go.Proofs.YtlcapkgbbgpdmaaGreatDoor.YG
open Go.RowKit Go.Proofs.YtlcapkgbbgpdmaaGreatDoor.P Go.Proofs.YtlcapkgbbgpdmaaGreatDoor.A Go.Proofs.YtlcapkgbbgpdmaaGreatDoor.TK Go.Proofs.YtlcapkgbbgpdmaaGreatDoor.YC Go.Proofs.YtlcapkgbbgpdmaaGreatDoor.YK Go.Proofs.YtlcapkgbbgpdmaaGreatDoor.YL Go.Proofs.YtlcapkgbbgpdmaaGreatDoor.YR Go.Proofs.YtlcapkgbbgpdmaaGreatDoor.YW Go.Proofs.YtlcapkgbbgpdmaaGreatDoor.YN Go.Proofs.YtlcapkgbbgpdmaaGreatDoor.YS Go.Proofs.YtlcapkgbbgpdmaaGreatDoor.U Go.Proofs.YtlcapkgbbgpdmaaGreatDoor.V
set_option linter.unusedVariables false
set_option maxRecDepth 100000

/-- How many bytes stand ahead of the first token. -/
def gp : Nat → List UInt8 → Nat
  | 0, _ => 0
  | _ + 1, [] => 0
  | f + 1, c :: r => if bl c = true then 1 + gp f r else if c = 35 then 1 + (r.takeWhile nb).length + gp f (r.dropWhile nb) else 0
theorem gp_cons (f : Nat) (c : UInt8) (r : List UInt8) : gp (f + 1) (c :: r) = if bl c = true then 1 + gp f r else if c = 35 then 1 + (r.takeWhile nb).length + gp f (r.dropWhile nb) else 0 := rfl
theorem gp_fuel : ∀ (f g : Nat) (l : List UInt8), l.length < f → l.length < g → gp f l = gp g l
  | 0, _, _, h, _ => by omega
  | f + 1, 0, _, _, h => by omega
  | f + 1, g + 1, [], _, _ => rfl
  | f + 1, g + 1, c :: r, hf, hg => by
    simp only [List.length_cons] at hf hg
    have hl := (List.dropWhile_sublist nb (l := r)).length_le
    rw [gp_cons, gp_cons, gp_fuel f g r (by omega) (by omega), gp_fuel f g (r.dropWhile nb) (by omega) (by omega)]
def ge (s : ByteArray) (k : Nat) : Nat := gp ((s.data.toList.drop k).length + 1) (s.data.toList.drop k)
theorem ge_out {s : ByteArray} {k : Nat} (h : s.size ≤ k) : ge s k = 0 := by unfold ge; rw [drop_out h]; rfl
theorem ge_blank {s : ByteArray} {k : Nat} (h : k < s.size) (hb : bl s[k] = true) : ge s k = 1 + ge s (k + 1) := by
  unfold ge; rw [drop_at h, gp_cons, if_pos hb]; rfl
theorem dropWhile_drop (p : UInt8 → Bool) : ∀ l : List UInt8, l.dropWhile p = l.drop (l.takeWhile p).length
  | [] => rfl
  | c :: l => by
    rw [List.dropWhile_cons, List.takeWhile_cons]
    cases p c
    · rfl
    · show l.dropWhile p = (c :: l).drop ((l.takeWhile p).length + 1)
      rw [List.drop_succ_cons, dropWhile_drop p l]
theorem ge_remark {s : ByteArray} {k : Nat} (h : k < s.size) (hb : bl s[k] = false) (h35 : s[k] = 35) : ge s k = lasts nb s k + ge s (k + lasts nb s k) := by
  have n35 : nb s[k] = true := by rw [h35]; decide
  have e1 := lasts_yes h n35
  have e2 : s.data.toList.drop (k + lasts nb s k) = (s.data.toList.drop (k + 1)).dropWhile nb := by
    rw [e1, dropWhile_drop, List.drop_drop]
    unfold lasts
    congr 1
    omega
  unfold ge
  rw [e2]
  have e3 : gp ((s.data.toList.drop k).length + 1) (s.data.toList.drop k) = 1 + ((s.data.toList.drop (k + 1)).takeWhile nb).length + gp ((s.data.toList.drop (k + 1)).length + 1) ((s.data.toList.drop (k + 1)).dropWhile nb) := by
    rw [drop_at h, gp_cons, if_neg (by rw [hb]; decide), if_pos h35]; rfl
  have hl := (List.dropWhile_sublist nb (l := s.data.toList.drop (k + 1))).length_le
  rw [e3, gp_fuel _ (((s.data.toList.drop (k + 1)).dropWhile nb).length + 1) _ (by omega) (by omega), e1]
  unfold lasts
  omega
theorem ge_stop {s : ByteArray} {k : Nat} (h : k < s.size) (hb : bl s[k] = false) (h35 : s[k] ≠ 35) : ge s k = 0 := by
  unfold ge; rw [drop_at h, gp_cons, if_neg (by rw [hb]; decide), if_neg h35]
theorem bl_no {c : UInt8} (h : bl c = false) : c ≠ 32 ∧ c ≠ 9 ∧ c ≠ 10 := by
  unfold bl at h; simpa using h

theorem gap_any (w : World) (r : Nat) (s : ByteArray) (i : Nat) (h : RD w r s i) (hs : s.size ≤ 2100) (hi : i ≤ s.size) :
    Calls Tryz.prog 61 #[.pointer (some ⟨r, 0, none⟩)] w fun x w' => x = .returned (.tuple #[]) ∧ RD w' r s (i + ge s i) ∧ Gr r w w' := by
  obtain ⟨E, hE⟩ : ∃ E, Hid (i + ge s i = E) := ⟨_, rfl⟩
  rw [hE.out]
  have HH := Lib.hid h
  clear h
  go_enter Tryz.func61, Tryz.ntmps61
  go_wp2
  go_step3
  go_wp2
  go_step3
  go_wp2
  go_loopg [20] (s.size - i) (fun g v wx => ∃ k : Nat, k + g = s.size ∧ Hid (k + ge s k = E) ∧ Hid (RD wx r s k) ∧ Hid (Gr r w wx))
  case atStart => exact ⟨i, by omega, hE, HH, Gr.refl _ _⟩
  case round =>
    obtain ⟨k, hk, HE, HR, HG⟩ := hrel
    clear hE HH
    have h0 := HR.out.c0
    have h1 := HR.out.c1
    have f1 := HR.out.f1
    by_cases hlt : k < s.size
    · cases gk with
      | zero => omega
      | succ g =>
        have a0 : (k : Int) < (s.size : Int) := by omega
        have a1 : (0 : Int) ≤ (k : Int) := by omega
        cases hb : bl s[k] with
        | true =>
          have HN : Hid (k + 1 + ge s (k + 1) = E) := by show _ = _; rw [← HE.out, ge_blank hlt hb]; omega
          have hbs : s[k] = 32 ∨ s[k] = 9 ∨ s[k] = 10 := by unfold bl at hb; simpa using hb
          clear hb
          rcases hbs with hb | hb | hb
          · have t32 : ((s[k].toNat : Int) == 32) = true := byte_eq (n := 32) (by decide) hb
            clear hb HE
            go_wp2_with fail
            go_quiet (fail)
            have HR1 : Hid (RD (wr.drewN nq) r s k) := HR.out.drew nq
            have HG1 : Hid (Gr r w (wr.drewN nq)) := HG.out.drew nq
            generalize wr.drewN nq = w1 at HR1 HG1 ⊢
            have h0' := HR1.out.c0
            have h1' := HR1.out.c1
            clear h0 h1 f1 HR HG
            go_wp2_with fail
            go_quiet (fail)
            have HR2 : Hid (RD (w1.drewN nq) r s k) := HR1.out.drew nq
            have HG2 : Hid (Gr r w (w1.drewN nq)) := HG1.out.drew nq
            generalize w1.drewN nq = w2 at HR2 HG2 ⊢
            clear h0' h1' HR1 HG1
            have k1' := HR2.out.c1
            have kf := HR2.out.f1
            have hR6 := HR2.out.set (k + 1)
            have hG6 := HG2.out.setCell 1 (.int .i64 ((k + 1 : Nat) : Int))
            have HR6 : Hid (RD (w2.setCell ⟨r, 1, none⟩ (.int .i64 ((k : Int) + 1))) r s (k + 1)) := hR6
            have HG6 : Hid (Gr r w (w2.setCell ⟨r, 1, none⟩ (.int .i64 ((k : Int) + 1)))) := hG6
            clear hR6 hG6
            go_wp2
            go_roundg g
            case rel => exact ⟨k + 1, by omega, HN, HR6, HG6⟩
            case measure => omega
          · have t32 : ((s[k].toNat : Int) == 32) = false := by rw [hb]; rfl
            have t9 : ((s[k].toNat : Int) == 9) = true := byte_eq (n := 9) (by decide) hb
            clear hb HE
            go_wp2_with fail
            go_quiet (fail)
            have HR1 : Hid (RD (wr.drewN nq) r s k) := HR.out.drew nq
            have HG1 : Hid (Gr r w (wr.drewN nq)) := HG.out.drew nq
            generalize wr.drewN nq = w1 at HR1 HG1 ⊢
            have h0' := HR1.out.c0
            have h1' := HR1.out.c1
            clear h0 h1 f1 HR HG
            go_wp2_with fail
            go_quiet (fail)
            have HR2 : Hid (RD (w1.drewN nq) r s k) := HR1.out.drew nq
            have HG2 : Hid (Gr r w (w1.drewN nq)) := HG1.out.drew nq
            generalize w1.drewN nq = w2 at HR2 HG2 ⊢
            clear h0' h1' HR1 HG1
            have k1' := HR2.out.c1
            have kf := HR2.out.f1
            have hR6 := HR2.out.set (k + 1)
            have hG6 := HG2.out.setCell 1 (.int .i64 ((k + 1 : Nat) : Int))
            have HR6 : Hid (RD (w2.setCell ⟨r, 1, none⟩ (.int .i64 ((k : Int) + 1))) r s (k + 1)) := hR6
            have HG6 : Hid (Gr r w (w2.setCell ⟨r, 1, none⟩ (.int .i64 ((k : Int) + 1)))) := hG6
            clear hR6 hG6
            go_wp2
            go_roundg g
            case rel => exact ⟨k + 1, by omega, HN, HR6, HG6⟩
            case measure => omega
          · have t32 : ((s[k].toNat : Int) == 32) = false := by rw [hb]; rfl
            have t9 : ((s[k].toNat : Int) == 9) = false := by rw [hb]; rfl
            have t10 : ((s[k].toNat : Int) == 10) = true := byte_eq (n := 10) (by decide) hb
            clear hb HE
            go_wp2_with fail
            go_quiet (fail)
            have HR1 : Hid (RD (wr.drewN nq) r s k) := HR.out.drew nq
            have HG1 : Hid (Gr r w (wr.drewN nq)) := HG.out.drew nq
            generalize wr.drewN nq = w1 at HR1 HG1 ⊢
            have h0' := HR1.out.c0
            have h1' := HR1.out.c1
            clear h0 h1 f1 HR HG
            go_wp2_with fail
            go_quiet (fail)
            have HR2 : Hid (RD (w1.drewN nq) r s k) := HR1.out.drew nq
            have HG2 : Hid (Gr r w (w1.drewN nq)) := HG1.out.drew nq
            generalize w1.drewN nq = w2 at HR2 HG2 ⊢
            clear h0' h1' HR1 HG1
            have k1' := HR2.out.c1
            have kf := HR2.out.f1
            have hR6 := HR2.out.set (k + 1)
            have hG6 := HG2.out.setCell 1 (.int .i64 ((k + 1 : Nat) : Int))
            have HR6 : Hid (RD (w2.setCell ⟨r, 1, none⟩ (.int .i64 ((k : Int) + 1))) r s (k + 1)) := hR6
            have HG6 : Hid (Gr r w (w2.setCell ⟨r, 1, none⟩ (.int .i64 ((k : Int) + 1)))) := hG6
            clear hR6 hG6
            go_wp2
            go_roundg g
            case rel => exact ⟨k + 1, by omega, HN, HR6, HG6⟩
            case measure => omega
        | false =>
          obtain ⟨n32, n9, n10⟩ := bl_no hb
          by_cases h35 : s[k] = 35
          · have HP : Hid (k + lasts nb s k + ge s (k + lasts nb s k) = E) := by show _ = _; rw [← HE.out, ge_remark hlt hb h35]; omega
            have hPle := lasts_le (p := nb) (Nat.le_of_lt hlt)
            obtain ⟨P, hP⟩ : ∃ P, k + lasts nb s k = P := ⟨_, rfl⟩
            rw [hP] at HP hPle
            have t32 : ((s[k].toNat : Int) == 32) = false := byte_ne (n := 32) (by decide) n32
            have t9 : ((s[k].toNat : Int) == 9) = false := byte_ne (n := 9) (by decide) n9
            have t10 : ((s[k].toNat : Int) == 10) = false := byte_ne (n := 10) (by decide) n10
            have t35 : ((s[k].toNat : Int) == 35) = true := byte_eq (n := 35) (by decide) h35
            have hP1 : k + 1 ≤ P := by rw [← hP, lasts_yes hlt (by rw [h35]; decide)]; omega
            have HPk := Lib.hid hP
            clear hP n32 n9 n10 h35 hb
            go_wp2_with fail
            go_quiet (fail)
            have HR1 : Hid (RD (wr.drewN nq) r s k) := HR.out.drew nq
            have HG1 : Hid (Gr r w (wr.drewN nq)) := HG.out.drew nq
            generalize wr.drewN nq = w1 at HR1 HG1 ⊢
            have h0' := HR1.out.c0
            have h1' := HR1.out.c1
            clear h0 h1 f1 HR HG
            go_wp2_with fail
            go_quiet (fail)
            have HR2 : Hid (RD (w1.drewN nq) r s k) := HR1.out.drew nq
            have HG2 : Hid (Gr r w (w1.drewN nq)) := HG1.out.drew nq
            generalize w1.drewN nq = w2 at HR2 HG2 ⊢
            clear h0' h1' HR1 HG1
            go_wp2_with fail
            go_loopg [59] (s.size - k) (fun g' v wx => ∃ j : Nat, j + g' = s.size ∧ Hid (j + lasts nb s j = P) ∧ Hid (RD wx r s j) ∧ Hid (Gr r w wx))
            case atStart => exact ⟨k, by omega, HPk, HR2, HG2⟩
            case round =>
              obtain ⟨j, hj, HJ, HR3, HG3⟩ := hrel
              clear HR2 HG2 HPk
              have j0 := HR3.out.c0
              have j1 := HR3.out.c1
              have jf := HR3.out.f1
              by_cases hjl : j < s.size
              · cases gk with
                | zero => omega
                | succ g2 =>
                  have b0 : (j : Int) < (s.size : Int) := by omega
                  have b1 : (0 : Int) ≤ (j : Int) := by omega
                  by_cases h10 : s[j] = 10
                  · have hjP : j = P := by have := HJ.out; rw [lasts_no hjl (by rw [h10]; decide)] at this; omega
                    subst hjP
                    have t10' : ((s[j].toNat : Int) == 10) = true := byte_eq (n := 10) (by decide) h10
                    clear h10
                    go_wp2_with fail
                    go_quiet (fail)
                    have HR4 : Hid (RD (wr.drewN nq) r s j) := HR3.out.drew nq
                    have HG4 : Hid (Gr r w (wr.drewN nq)) := HG3.out.drew nq
                    generalize wr.drewN nq = w4 at HR4 HG4 ⊢
                    have j0' := HR4.out.c0
                    have j1' := HR4.out.c1
                    clear j0 j1 jf HR3 HG3
                    go_wp2_with fail
                    go_quiet (fail)
                    have HR5 : Hid (RD (w4.drewN nq) r s j) := HR4.out.drew nq
                    have HG5 : Hid (Gr r w (w4.drewN nq)) := HG4.out.drew nq
                    generalize w4.drewN nq = w5 at HR5 HG5 ⊢
                    go_wp2
                    go_roundg (s.size - j)
                    case rel => exact ⟨j, by omega, HP, HR5, HG5⟩
                    case measure => omega
                  · have hjN : Hid (j + 1 + lasts nb s (j + 1) = P) := by
                      show _ = _
                      rw [← HJ.out, lasts_yes hjl (by unfold nb; exact decide_eq_true h10)]; omega
                    have t10' : ((s[j].toNat : Int) == 10) = false := byte_ne (n := 10) (by decide) h10
                    clear h10 HJ
                    go_wp2_with fail
                    go_quiet (fail)
                    have HR4 : Hid (RD (wr.drewN nq) r s j) := HR3.out.drew nq
                    have HG4 : Hid (Gr r w (wr.drewN nq)) := HG3.out.drew nq
                    generalize wr.drewN nq = w4 at HR4 HG4 ⊢
                    have j0' := HR4.out.c0
                    have j1' := HR4.out.c1
                    clear j0 j1 jf HR3 HG3
                    go_wp2_with fail
                    go_quiet (fail)
                    have HR5 : Hid (RD (w4.drewN nq) r s j) := HR4.out.drew nq
                    have HG5 : Hid (Gr r w (w4.drewN nq)) := HG4.out.drew nq
                    generalize w4.drewN nq = w5 at HR5 HG5 ⊢
                    have k1' := HR5.out.c1
                    have kf := HR5.out.f1
                    have hR6 := HR5.out.set (j + 1)
                    have hG6 := HG5.out.setCell 1 (.int .i64 ((j + 1 : Nat) : Int))
                    have HR6 : Hid (RD (w5.setCell ⟨r, 1, none⟩ (.int .i64 ((j : Int) + 1))) r s (j + 1)) := hR6
                    have HG6 : Hid (Gr r w (w5.setCell ⟨r, 1, none⟩ (.int .i64 ((j : Int) + 1)))) := hG6
                    clear j0' j1' HR4 HG4 hR6 hG6
                    go_wp2
                    go_roundg g2
                    case rel => exact ⟨j + 1, by omega, hjN, HR6, HG6⟩
                    case measure => omega
              · have hjP : j = P := by have := HJ.out; rw [lasts_out (by omega)] at this; omega
                subst hjP
                go_wp2_with fail
                go_quiet (fail)
                have HR4 : Hid (RD (wr.drewN nq) r s j) := HR3.out.drew nq
                have HG4 : Hid (Gr r w (wr.drewN nq)) := HG3.out.drew nq
                generalize wr.drewN nq = w4 at HR4 HG4 ⊢
                go_wp2
                go_roundg (s.size - j)
                case rel => exact ⟨j, by omega, HP, HR4, HG4⟩
                case measure => omega
          · have hkE : k = E := by have := HE.out; rw [ge_stop hlt hb h35] at this; omega
            subst hkE
            have t32 : ((s[k].toNat : Int) == 32) = false := byte_ne (n := 32) (by decide) n32
            have t9 : ((s[k].toNat : Int) == 9) = false := byte_ne (n := 9) (by decide) n9
            have t10 : ((s[k].toNat : Int) == 10) = false := byte_ne (n := 10) (by decide) n10
            have t35 : ((s[k].toNat : Int) == 35) = false := byte_ne (n := 35) (by decide) h35
            clear n32 n9 n10 h35 hb HE
            go_wp2_with fail
            go_quiet (fail)
            have HR1 : Hid (RD (wr.drewN nq) r s k) := HR.out.drew nq
            have HG1 : Hid (Gr r w (wr.drewN nq)) := HG.out.drew nq
            generalize wr.drewN nq = w1 at HR1 HG1 ⊢
            have h0' := HR1.out.c0
            have h1' := HR1.out.c1
            clear h0 h1 f1 HR HG
            go_wp2_with fail
            go_quiet (fail)
            have HR2 : Hid (RD (w1.drewN nq) r s k) := HR1.out.drew nq
            have HG2 : Hid (Gr r w (w1.drewN nq)) := HG1.out.drew nq
            generalize w1.drewN nq = w2 at HR2 HG2 ⊢
            clear h0' h1' HR1 HG1
            go_wp2
            rw [Exit.noGoto_normal]
            go_end0
            exact ⟨rfl, HR2.out, HG2.out⟩
    · have hkE : k = E := by have := HE.out; rw [ge_out (by omega)] at this; omega
      subst hkE
      go_wp2_with fail
      go_quiet (fail)
      have HR1 : Hid (RD (wr.drewN nq) r s k) := HR.out.drew nq
      have HG1 : Hid (Gr r w (wr.drewN nq)) := HG.out.drew nq
      generalize wr.drewN nq = w1 at HR1 HG1 ⊢
      go_wp2
      rw [Exit.noGoto_normal]
      go_end0
      exact ⟨rfl, HR1.out, HG1.out⟩
end Go.Proofs.YtlcapkgbbgpdmaaGreatDoor.YG
