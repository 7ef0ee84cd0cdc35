/- How many patterns: the walk. -/
import Derived.Test.YtommaomhiaaphaaCP
namespace Go.Proofs.Ytommaomhiaaphaa.CQ
open Go.RowKit Go.Proofs.Ytommaomhiaaphaa.CA Go.Proofs.Ytommaomhiaaphaa.CB Go.Proofs.Ytommaomhiaaphaa.CC Go.Proofs.Ytommaomhiaaphaa.CD Go.Proofs.Ytommaomhiaaphaa.CE Go.Proofs.Ytommaomhiaaphaa.CF Go.Proofs.Ytommaomhiaaphaa.CG Go.Proofs.Ytommaomhiaaphaa.CH Go.Proofs.Ytommaomhiaaphaa.CK Go.Proofs.Ytommaomhiaaphaa.CI Go.Proofs.Ytommaomhiaaphaa.CL Go.Proofs.Ytommaomhiaaphaa.CO Go.Proofs.Ytommaomhiaaphaa.CP
set_option linter.unusedVariables false
set_option maxRecDepth 100000
variable {S : Nat → Prop}

mutual
theorem room_bd {C : List Cn} : ∀ (p : Nd) (m : Int), 0 ≤ m → -1 ≤ room C p m ∧ room C p m ≤ m
  | .mk k n s l, m, h => by
    unfold room
    split
    · have := roomL_bd (C := C) l (m - 1) (by omega); omega
    · omega
theorem roomL_bd {C : List Cn} : ∀ (l : List Nd) (m : Int), -1 ≤ m → -1 ≤ roomL C l m ∧ roomL C l m ≤ m
  | [], m, h => by simp [roomL]; omega
  | p :: ps, m, h => by
    unfold roomL
    split
    · omega
    · have h1 := room_bd (C := C) p m (by omega)
      have h2 := roomL_bd (C := C) ps (room C p m) h1.1
      omega
end
theorem szL_len : ∀ l : List Nd, l.length ≤ szL l
  | [] => Nat.le_refl _
  | p :: l => by
    have := szL_len l
    have := sz_eq p
    simp only [szL, List.length_cons]; omega
theorem roomL_end {C : List Cn} {l : List Nd} {m : Int} (h : m < 0) : roomL C l m = m := by
  cases l with
  | nil => rfl
  | cons p ps => unfold roomL; rw [if_pos h]
set_option maxRecDepth 100000 in
set_option maxHeartbeats 4000000 in
theorem room_c (C : List Cn) (c : Nat) (f : Value) : ∀ (N : Nat), N ≤ 900000 → ∀ (k n : Int) (s : By) (l : List Nd) (q : Value) (m : Int) (w : World), sz (.mk k n s l) ≤ N → CK.Fd w f C c → HasN w Any (.mk k n s l) q → 0 ≤ m → m ≤ 30 →
    Calls Try.prog 39 #[f, .agg #[.int .i64 k, .string ⟨s.toArray⟩, .int .i64 n, .int .i64 0, .slice none 0 0, q], .int .i64 m] w fun e w' => e = .returned (.int .i64 (room C (.mk k n s l) m)) ∧ Below w.heap.size w w' := by
  intro N
  induction N with
  | zero =>
    intro hN k n s l q m w hs hf hq h0 h1
    have := sz_eq (.mk k n s l)
    omega
  | succ N ih =>
    intro hN k n s l q m w hsz hf hq h0 h1
    have IH := Lib.hid (ih (by omega))
    clear ih
    have hsz2 : szL l ≤ N := by have := sz_eq (.mk k n s l); simp only [Nd.kids] at this; omega
    have hll := szL_len l
    have hrow := hasN_row.1 hq
    obtain ⟨ao, cap, hqe, hcap⟩ := hrow.val
    simp only [Nd.kids] at hqe hcap hrow
    subst hqe
    have C0 := fun (w' : World) (h : CK.Fd w' f C c) => formed_c C c f k n s l ao cap w' h (by omega)
    have HF := Lib.hid hf
    have HROW := Lib.hid hrow
    have HSZ := Lib.hid hsz2
    have HBX := Lib.hid (Bx.new w k n s (.slice ao l.length cap) 38)
    have HB0 := Lib.hid (balloc w (.cells #[.int .i64 k, .string ⟨s.toArray⟩, .int .i64 n, .int .i64 0, .slice none 0 0, .slice ao l.length cap] 38))
    obtain ⟨R, HR⟩ : ∃ R, Hid (room C (.mk k n s l) m = R) := ⟨_, Lib.hid rfl⟩
    rw [HR.out]
    obtain ⟨X, HX⟩ : ∃ X, Hid (formedB C (.mk k n s l) = X) := ⟨_, Lib.hid rfl⟩
    rw [HX.out] at C0
    have HRR := Lib.hid (show (if X = true then roomL C l (m - 1) else -1) = R from by rw [← HR.out, ← HX.out]; rfl)
    obtain ⟨L, hL⟩ : ∃ L, Hid (l.length = L) := ⟨_, Lib.hid rfl⟩
    rw [hL.out] at hll hcap C0 HBX HB0 ⊢
    have hLb : L ≤ 900000 := by have := HSZ.out; omega
    have hw : IntKind.i64.wrap (m - 1) = m - 1 := IntWalk.i64_in _ (by omega)
    clear hf hq hrow hsz hsz2
    cases X
    · go_enter Try.func39, Try.ntmps39
      go_wp2_with (go_at_call 66; refine (C0 _ (HF.out.keep HB0.out)).mono ?_; rintro e w1 ⟨rfl, hb⟩)
      go_ret
      exact ⟨ret_int (by rw [← HRR.out]; rfl), b1 hb⟩
    · go_enter Try.func39, Try.ntmps39
      go_wp2_with (go_at_call 66; refine (C0 _ (HF.out.keep HB0.out)).mono ?_; rintro e w1 ⟨rfl, hb⟩; have HBX1 := Lib.hid (HBX.out.keep hb); have HX1 := Lib.hid (b1 hb); clear hb)
      obtain ⟨B, hB⟩ : ∃ B, Hid (w.heap.size = B) := ⟨_, Lib.hid rfl⟩
      rw [hB.out] at HBX1 ⊢
      go_loopg [2, 7] L (fun g mv jv wr => ∃ (j : Nat) (z : Int), j + g = L ∧ -1 ≤ z ∧ z ≤ 30 ∧ jv = .int .i64 (j : Int) ∧ mv = .int .i64 z ∧ Hid (roomL C (l.drop j) z = R) ∧ Hid (Below w.heap.size w wr) ∧ Hid (Bx wr B k n s (.slice ao L cap)))
      case atStart => exact ⟨0, m - 1, Nat.zero_add _, by omega, by omega, rfl, rfl, Lib.hid (by rw [← HRR.out]; rfl), HX1, HBX1⟩
      case round =>
        obtain ⟨j, z, hj, hz0, hz1, rfl, rfl, HZ, HX2, HBx⟩ := hrel
        clear HX1 HBX1
        obtain ⟨hlz, y0, y1, y2, y3, y4, y5⟩ := HBx.out
        by_cases hlt : j < L
        · by_cases hzz : 0 ≤ z
          · obtain ⟨g, rfl⟩ : ∃ g, gk = g + 1 := ⟨gk - 1, by omega⟩
            have hlne : l ≠ [] := by intro e; have := hL.out; rw [e] at this; simp at this; omega
            obtain ⟨b, off, cap', hve, _, hblt, hcells⟩ := HROW.out.open_ hlne
            cases hve
            obtain ⟨kid, hkid⟩ := getElem?_of_lt (l := l) (k := j) (by rw [hL.out]; exact hlt)
            obtain ⟨q2, hLs, hq2⟩ := hcells j kid hkid
            have hszk := sz_kid hkid
            have HDR := Lib.hid (show roomL C (l.drop (j + 1)) (room C kid z) = R from by
              have hd : l.drop j = kid :: l.drop (j + 1) := by
                obtain ⟨h1, h2⟩ := List.getElem?_eq_some_iff.1 hkid
                rw [← h2]; exact List.drop_eq_getElem_cons h1
              have := HZ.out
              rw [hd] at this
              unfold roomL at this
              rw [if_neg (by omega)] at this; exact this)
            have hbd := room_bd (C := C) kid z hzz
            obtain ⟨x0, x1, x2, x3, x4, x5⟩ := hLs.keep HX2.out hblt
            obtain ⟨k2, n2, s2, l2⟩ := kid
            simp only [Nd.k, Nd.n, Nd.s] at x0 x1 x2
            have C1 := fun (w' : World) (hb : Below w.heap.size w w') => IH.out k2 n2 s2 l2 q2 z w' (by have := HSZ.out; omega) (HF.out.keep hb) (HasN.keep hb _ _ hq2) hzz hz1
            generalize room C (.mk k2 n2 s2 l2) z = z2 at C1 HDR hbd
            have i0 : (0 : Int) ≤ (j : Int) := by omega
            have i1 : (j : Int) < (L : Int) := by omega
            clear hLs hq2 hkid hszk hcells hlne
            go_wp2_with (go_at_call 39; refine (C1 _ HX2.out).mono ?_; rintro e w3 ⟨rfl, hb⟩; have HB3 := Lib.hid hb; clear hb)
            go_roundg g
            case rel => exact ⟨j + 1, z2, by omega, by omega, by omega, by go_num, rfl, HDR, Lib.hid (bnext HX2.out HB3.out), Lib.hid (HBx.out.keep HB3.out)⟩
            case measure => omega
          · have hzn : z < 0 := by omega
            go_wp2_with fail
            go_ret
            exact ⟨ret_int (by rw [← HZ.out, roomL_end hzn]), HX2.out⟩
        · go_wp2_with fail
          go_ret
          refine ⟨ret_int ?_, HX2.out⟩
          rw [← HZ.out, List.drop_eq_nil_of_le (by rw [hL.out]; omega)]; rfl
end Go.Proofs.Ytommaomhiaaphaa.CQ
