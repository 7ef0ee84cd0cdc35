/- LexPlaces: the walk. -/
import Derived.Test.YtaioniaadpgmkaaDoorYV
import Derived.Test.YtaioniaadpgmkaaDoorD
import Derived.Test.YtaioniaadpgmkaaDoorTL
namespace Go.Proofs.YtaioniaadpgmkaaDoor.lexPlaces
open Go.RowKit Go.Maps
open Go.Proofs.YtaioniaadpgmkaaDoor.P Go.Proofs.YtaioniaadpgmkaaDoor.A Go.Proofs.YtaioniaadpgmkaaDoor.YT Go.Proofs.YtaioniaadpgmkaaDoor.YV Go.Proofs.YtaioniaadpgmkaaDoor.TK Go.Proofs.YtaioniaadpgmkaaDoor.TO Go.Proofs.YtaioniaadpgmkaaDoor.TL Go.Proofs.YtaioniaadpgmkaaDoor.D
set_option linter.unusedVariables false

theorem split_toks (ts : List Tok) (w : World) (b o S n : Nat) (hn : ts.length = n) (HC : ∀ j (h : j < ts.length) i, i < 4 → w.cell? ⟨b, o + (4 * j + i), none⟩ = (tcell ts[j])[i]?)
    (HG : ∀ (j : Nat) (hj : j < ts.length), (ts[j].k = 0 ↔ j + 1 = ts.length) ∧ (ts[j].p = S ↔ j + 1 = ts.length) ∧ ∀ (h1 : j + 1 < ts.length), ts[j].p < ts[j + 1].p) :
    ∃ kk pp : Nat → Nat, Hid (∀ j, j < n → w.cell? ⟨b, o + j * 4, none⟩ = some (.int .i64 (kk j : Int)) ∧ w.cell? ⟨b, o + j * 4 + 3, none⟩ = some (.int .i64 (pp j : Int))) ∧
      Hid (∀ j, j < n → (kk j = 0 ↔ j + 1 = n) ∧ (pp j = S ↔ j + 1 = n) ∧ (j + 1 < n → pp j < pp (j + 1))) := by
  subst hn
  refine ⟨fun j => (ts.getD j ⟨0, [], 0, 0⟩).k, fun j => (ts.getD j ⟨0, [], 0, 0⟩).p, fun j hj => ?_, fun j hj => ?_⟩
  · have e : ts.getD j ⟨0, [], 0, 0⟩ = ts[j] := by simp [List.getD, hj]
    have h0 := HC j hj 0 (by decide)
    have h3 := HC j hj 3 (by decide)
    rw [show o + (4 * j + 0) = o + j * 4 from by omega] at h0
    rw [show o + (4 * j + 3) = o + j * 4 + 3 from by omega] at h3
    simp only [e]
    exact ⟨h0, h3⟩
  · have e : ts.getD j ⟨0, [], 0, 0⟩ = ts[j] := by simp [List.getD, hj]
    simp only [e]
    obtain ⟨g1, g2, g3⟩ := HG j hj
    refine ⟨g1, g2, fun h1 => ?_⟩
    have e1 : ts.getD (j + 1) ⟨0, [], 0, 0⟩ = ts[j + 1] := by simp [List.getD, h1]
    simp only [e1]
    exact g3 h1
theorem IntKind_in (n : Int) (h : -9223372036854775808 ≤ n ∧ n ≤ 9223372036854775807) : IntKind.i64.wrap n = n := by rw [IntKind.wrap_i64]; omega
theorem nat_beq {a b : Nat} {x : Bool} (h : decide (a = b) = x) : ((a : Int) == (b : Int)) = x := by
  rw [← h, Bool.eq_iff_iff, beq_iff_eq, decide_eq_true_eq]; omega

set_option maxHeartbeats 2000000 in
theorem walk (w : World) (a0 : ByteArray) (w0 : a0.size ≤ maxLen) (hd : Dig w) :
    Calls Tryd.prog 6 #[.string a0] w fun e w' => e = .returned (.bool true) ∧ Below w.heap.size w w' := by
  have HD := Lib.hid hd
  clear hd
  go_enter Tryd.func6, Tryd.ntmps6
  go_wp2_with fail
  refine (few_any a0 _).mono ?_
  rintro e w1 ⟨⟨s, hs, rfl⟩, rfl⟩
  have T1 := tokens_short s w (by omega) HD.out
  by_cases he : (toks s.data.toList).2.2 = 0
  · obtain ⟨ts, hts, hl, hrun⟩ := toks_ok he
    obtain ⟨hpos, hgood⟩ := toks_good hrun
    have hmost := toks_len hrun
    have hlen : s.data.toList.length = s.size := by simp
    rw [hlen] at hgood hmost
    rw [hts] at T1
    clear he hts hrun hl hlen
    go_wp2_with fail
    refine T1.mono ?_
    intro x w2 h2
    obtain ⟨b, o, c, rfl, lb, C, B⟩ := sub_post h2 (by intro e; simp only at e; rw [e] at hpos; simp at hpos)
    have HB := Lib.hid B
    have HD2 := Lib.hid (HD.out.below B)
    obtain ⟨n, hn⟩ : ∃ n, ts.length = n := ⟨_, rfl⟩
    obtain ⟨kk, pp, HC, HG⟩ := split_toks ts w2 b o s.size n hn C.out hgood
    rw [hn] at hpos hmost
    simp only [hn]
    clear B h2 T1 C hn hgood
    have hz : ((n : Int) == 0) = false := by rw [beq_eq_false_iff_ne]; omega
    go_wp2
    go_loopg [6] n (fun g i wr => ∃ j : Nat, j + g = n ∧ i = .int .i64 (j : Int) ∧ Hid (Below w2.heap.size w2 wr))
    case atStart => exact ⟨0, Nat.zero_add _, rfl, Below.refl _ _⟩
    case round =>
      obtain ⟨j, hj, rfl, HX⟩ := hrel
      by_cases hlt : j < n
      · obtain ⟨g0, rfl⟩ : ∃ g0, gk = g0 + 1 := ⟨gk - 1, by omega⟩
        obtain ⟨q0, q3⟩ := HC.out j hlt
        have c0 := (HX.out.cell (p := ⟨b, o + j * 4, none⟩) lb).trans q0
        have c3 := (HX.out.cell (p := ⟨b, o + j * 4 + 3, none⟩) lb).trans q3
        obtain ⟨g1, g2, g3⟩ := HG.out j hlt
        have i0 : (0 : Int) ≤ (j : Int) := by omega
        have i1 : (j : Int) < (n : Int) := by omega
        clear q0 q3
        generalize hK : kk j = K at *
        have hPe := Lib.hid (rfl : pp j = pp j)
        generalize hP : pp j = P at c3 g2 g3
        have hPe : Hid (pp j = P) := hP
        clear hK hP
        by_cases hj0 : j = 0
        · by_cases hlast : j + 1 = n
          · have t1 : ((j : Int) == (n : Int) - 1) = true := by rw [beq_iff_eq]; omega
            have t2 : ((K : Int) == 0) = true := by rw [beq_iff_eq]; have := g1.2 hlast; omega
            have t3 : ((P : Int) == (s.size : Int)) = true := by rw [beq_iff_eq]; have := g2.2 hlast; omega
            have d0 : decide (0 < j) = false := by simp; omega
            clear g1 g2 g3 hlast hj0
            go_wp2_with fail
            go_quiet (fail)
            have HY : Hid (Below w2.heap.size w2 (wr.drewN nq)) := HX.out.trans ⟨rfl, rfl, rfl, Nat.le_refl _, fun _ _ => rfl⟩
            go_wp2
            go_roundg g0
            case rel => exact ⟨j + 1, by omega, by go_num, HY⟩
            case measure => omega
          · have t1 : ((j : Int) == (n : Int) - 1) = false := by rw [beq_eq_false_iff_ne]; omega
            have t2 : ((K : Int) == 0) = false := by rw [beq_eq_false_iff_ne]; intro e; exact hlast (g1.1 (by omega))
            have t3 : ((P : Int) == (s.size : Int)) = false := by rw [beq_eq_false_iff_ne]; intro e; exact hlast (g2.1 (by omega))
            have d0 : decide (0 < j) = false := by simp; omega
            clear g1 g2 g3 hlast hj0
            go_wp2_with fail
            go_quiet (fail)
            have HY : Hid (Below w2.heap.size w2 (wr.drewN nq)) := HX.out.trans ⟨rfl, rfl, rfl, Nat.le_refl _, fun _ _ => rfl⟩
            go_wp2
            go_roundg g0
            case rel => exact ⟨j + 1, by omega, by go_num, HY⟩
            case measure => omega
        · by_cases hlast : j + 1 = n
          · have t1 : ((j : Int) == (n : Int) - 1) = true := by rw [beq_iff_eq]; omega
            have t2 : ((K : Int) == 0) = true := by rw [beq_iff_eq]; have := g1.2 hlast; omega
            have t3 : ((P : Int) == (s.size : Int)) = true := by rw [beq_iff_eq]; have := g2.2 hlast; omega
            have d0 : 0 < j := by omega
            obtain ⟨_, q3'⟩ := HC.out (j - 1) (by omega)
            have c3' := (HX.out.cell (p := ⟨b, o + (j - 1) * 4 + 3, none⟩) lb).trans q3'
            have g4 := (HG.out (j - 1) (by omega)).2.2 (by omega)
            rw [show j - 1 + 1 = j from by omega, hPe.out] at g4
            generalize pp (j - 1) = P' at *
            have i2 : (1 : Int) ≤ (j : Int) := by omega
            have i3 : (j : Int) - 1 < (n : Int) := by omega
            have i4 : ((j : Int) - 1).toNat = j - 1 := by omega
            have i5 : IntKind.i64.wrap ((j : Int) - 1) = (j : Int) - 1 := IntKind_in _ (by omega)
            have t4 : decide (P ≤ P') = false := by simp; omega
            clear q3' g4
            clear g1 g2 g3 hlast hj0
            go_wp2_with fail
            go_quiet (fail)
            have HY : Hid (Below w2.heap.size w2 (wr.drewN nq)) := HX.out.trans ⟨rfl, rfl, rfl, Nat.le_refl _, fun _ _ => rfl⟩
            go_wp2
            go_roundg g0
            case rel => exact ⟨j + 1, by omega, by go_num, HY⟩
            case measure => omega
          · have t1 : ((j : Int) == (n : Int) - 1) = false := by rw [beq_eq_false_iff_ne]; omega
            have t2 : ((K : Int) == 0) = false := by rw [beq_eq_false_iff_ne]; intro e; exact hlast (g1.1 (by omega))
            have t3 : ((P : Int) == (s.size : Int)) = false := by rw [beq_eq_false_iff_ne]; intro e; exact hlast (g2.1 (by omega))
            have d0 : 0 < j := by omega
            obtain ⟨_, q3'⟩ := HC.out (j - 1) (by omega)
            have c3' := (HX.out.cell (p := ⟨b, o + (j - 1) * 4 + 3, none⟩) lb).trans q3'
            have g4 := (HG.out (j - 1) (by omega)).2.2 (by omega)
            rw [show j - 1 + 1 = j from by omega, hPe.out] at g4
            generalize pp (j - 1) = P' at *
            have i2 : (1 : Int) ≤ (j : Int) := by omega
            have i3 : (j : Int) - 1 < (n : Int) := by omega
            have i4 : ((j : Int) - 1).toNat = j - 1 := by omega
            have i5 : IntKind.i64.wrap ((j : Int) - 1) = (j : Int) - 1 := IntKind_in _ (by omega)
            have t4 : decide (P ≤ P') = false := by simp; omega
            clear q3' g4
            clear g1 g2 g3 hlast hj0
            go_wp2_with fail
            go_quiet (fail)
            have HY : Hid (Below w2.heap.size w2 (wr.drewN nq)) := HX.out.trans ⟨rfl, rfl, rfl, Nat.le_refl _, fun _ _ => rfl⟩
            go_wp2
            go_roundg g0
            case rel => exact ⟨j + 1, by omega, by go_num, HY⟩
            case measure => omega
      · have hjn : j = n := by omega
        have HD5 := Lib.hid (HD2.out.below HX.out)
        clear hjn
        go_wp2_with (first | (go_at_call 14; refine (lives_any _ HD5.out).mono ?_; rintro e w4 ⟨rfl, hb4⟩; have HB4 := Lib.hid hb4; clear hb4))
        go_ret
        exact ⟨rfl, (HB.out.trans (HX.out.mono HB.out.size)).trans (HB4.out.mono (Nat.le_trans HB.out.size HX.out.size))⟩
  · have hbad := toks_bad he
    obtain ⟨⟨L, p, e⟩, hL⟩ : ∃ L, toks s.data.toList = L := ⟨_, rfl⟩
    rw [hL] at T1 he hbad
    simp only at hbad he
    subst hbad
    have he1 : ((e : Int) == 0) = false := by rw [beq_eq_false_iff_ne]; omega
    have he2 : ((e : Int) != 0) = true := by rw [bne, he1]; rfl
    clear he hL
    go_wp2_with fail
    refine T1.mono ?_
    intro x w2 h2
    obtain ⟨ao, c, rfl, B⟩ := sub_err h2
    have HB := Lib.hid B
    have HD2 := Lib.hid (HD.out.below B)
    clear B h2 T1
    go_wp2_with (first | (go_at_call 14; refine (lives_any _ HD2.out).mono ?_; rintro e w4 ⟨rfl, hb4⟩; have HB4 := Lib.hid hb4; clear hb4))
    go_ret
    exact ⟨rfl, bnext HB.out HB4.out⟩

end Go.Proofs.YtaioniaadpgmkaaDoor.lexPlaces
