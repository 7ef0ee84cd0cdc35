/- Each reader reads the token that stands there. -/
import Derived.Test.YtlcapkgbbgpdmaaGreatDoorYX
import Derived.Test.YtlcapkgbbgpdmaaGreatDoorYI
import Derived.Test.YtlcapkgbbgpdmaaGreatDoorYB
import Derived.Test.YtlcapkgbbgpdmaaGreatDoorTP
namespace Go.Proofs.YtlcapkgbbgpdmaaGreatDoor.YQ
open Go.RowKit Go.Proofs.YtlcapkgbbgpdmaaGreatDoor.P Go.Proofs.YtlcapkgbbgpdmaaGreatDoor.A Go.Proofs.YtlcapkgbbgpdmaaGreatDoor.Q Go.Proofs.YtlcapkgbbgpdmaaGreatDoor.TK Go.Proofs.YtlcapkgbbgpdmaaGreatDoor.YC Go.Proofs.YtlcapkgbbgpdmaaGreatDoor.YK Go.Proofs.YtlcapkgbbgpdmaaGreatDoor.YL Go.Proofs.YtlcapkgbbgpdmaaGreatDoor.YS Go.Proofs.YtlcapkgbbgpdmaaGreatDoor.YR Go.Proofs.YtlcapkgbbgpdmaaGreatDoor.YW Go.Proofs.YtlcapkgbbgpdmaaGreatDoor.YN Go.Proofs.YtlcapkgbbgpdmaaGreatDoor.YX Go.Proofs.YtlcapkgbbgpdmaaGreatDoor.YB Go.Proofs.YtlcapkgbbgpdmaaGreatDoor.YI
set_option linter.unusedVariables false
set_option maxRecDepth 100000

/-- A reader's answer: whatever token and place, but the error is the one that stands there; and where there is none, the token too. -/
def Read (w : World) (r : Nat) (s : ByteArray) (k : Nat) (q : (Nat × List UInt8 × Nat) × Nat × Nat) (x : Ending) (w' : World) : Prop :=
  ∃ (K : Nat) (t : List UInt8) (n j : Nat), x = .returned (tokv (K : Int) t (n : Int) 0 (q.2.2 : Int)) ∧ RD w' r s j ∧ Gr r w w' ∧ (q.2.2 = 0 → K = q.1.1 ∧ t = q.1.2.1 ∧ n = q.1.2.2 ∧ j = k + q.2.1)

/-- Which reader it is. -/
def IsReader (F : FuncId) : Prop := F = 88 ∨ F = 89 ∨ F = 91 ∨ F = 93 ∨ F = 95 ∨ F = 96

theorem byte_of {b : UInt8} {n : Nat} (h : b.toNat = n) (hn : n < 256) : b = UInt8.ofNat n := by
  apply UInt8.toNat_inj.1; rw [h]; simp; omega
theorem read_any (s : ByteArray) (k r : Nat) (hk : k < s.size) (hs : s.size ≤ 2100) (hn : 1 ≠ r) :
    ∃ F, IsReader F ∧ (∀ w, Calls Tryz.prog 62 #[.pointer (some ⟨r, 0, none⟩), .int .u8 (s[k].toNat : Int)] w fun e w' => e = .returned (mval F r) ∧ w = w') ∧
      ∀ w, RD w r s k → Dig w → Calls Tryz.prog F #[.pointer (some ⟨r, 0, none⟩)] w (Read w r s k (tk (s.data.toList.drop k))) := by
  have hL := drop_at hk
  cases hD : isD s[k] with
  | true =>
    refine ⟨_, .inl rfl, fun w => begun_digits w r s[k] hD, fun w h hd => ?_⟩
    have hall := takeWhile_all isD (s.data.toList.drop k)
    have hlen : 1 ≤ ((s.data.toList.drop k).takeWhile isD).length := by rw [hL]; exact takeWhile_pos hD
    have hr := TR.lean_read hall hlen
    have ht : tk (s.data.toList.drop k) = if val ((s.data.toList.drop k).takeWhile isD) ≤ 4611686018427387903 then ((1, [], val ((s.data.toList.drop k).takeWhile isD)), ((s.data.toList.drop k).takeWhile isD).length, 0) else ((0, [], 0), 0, 13) := by
      conv => lhs; rw [hL, tk_cons, if_pos hD]
      rw [← hL]
    rw [ht]
    by_cases hv : val ((s.data.toList.drop k).takeWhile isD) ≤ 4611686018427387903
    · rw [if_pos hv] at ht ⊢
      have hr' : R.readL (TR.lean ((s.data.toList.drop k).takeWhile isD)) = ((val ((s.data.toList.drop k).takeWhile isD) : Int), 0) := by rw [hr]; exact if_pos hv
      refine (digits_all w r s k h hs hk hD _ _ hr').mono ?_
      rintro x w' ⟨rfl, hr1, hg1⟩
      exact ⟨1, [], _, _, rfl, hr1, hg1, fun _ => ⟨rfl, rfl, rfl, rfl⟩⟩
    · rw [if_neg hv] at ht ⊢
      have hr' : R.readL (TR.lean ((s.data.toList.drop k).takeWhile isD)) = (0, 13) := by rw [hr]; exact if_neg hv
      refine (digits_all w r s k h hs hk hD _ _ hr').mono ?_
      rintro x w' ⟨rfl, hr1, hg1⟩
      exact ⟨1, [], 0, _, rfl, hr1, hg1, fun h => by simp at h⟩
  | false =>
    have nD : ¬ isD s[k] = true := by rw [hD]; decide
    by_cases hQ : s[k] = 34
    · refine ⟨_, .inr (.inl rfl), fun w => begun_text w r s[k] hD hQ, fun w h hd => ?_⟩
      have ht : tk (s.data.toList.drop k) = ((2, (unq (s.data.toList.drop k)).1, 0), (unq (s.data.toList.drop k)).2.1, (unq (s.data.toList.drop k)).2.2) := by
        conv => lhs; rw [hL, tk_cons, if_neg nD, if_pos hQ]
        rw [← hL]
      rw [ht]
      refine (text_any w r s k h hs (Nat.le_of_lt hk) hd hn _ rfl).mono ?_
      rintro x w' ⟨rfl, hr1, hg1⟩
      exact ⟨2, _, 0, _, rfl, hr1, hg1, fun _ => ⟨rfl, rfl, rfl, rfl⟩⟩
    · cases hS : isS s[k] with
      | true =>
        refine ⟨_, .inr (.inr (.inl rfl)), fun w => begun_name w r s[k] hD hQ hS, fun w h hd => ?_⟩
        have hL' : isL s[k] = false := by
          unfold isS at hS; unfold isL
          simp at hS ⊢
          omega
        have ht : tk (s.data.toList.drop k) = if ((s.data.toList.drop k).takeWhile isN).length ≤ 16 then ((if isKey ((s.data.toList.drop k).takeWhile isN) = true then 6 else 3, (s.data.toList.drop k).takeWhile isN, 0), ((s.data.toList.drop k).takeWhile isN).length, 0) else ((0, [], 0), 0, 12) := by
          conv => lhs; rw [hL, tk_cons, if_neg nD, if_neg hQ, if_pos (by rw [hS]; rfl), if_neg (by rw [hL']; decide : ¬ isL s[k] = true)]
          rw [← hL]
        rw [ht]
        by_cases hl : ((s.data.toList.drop k).takeWhile isN).length ≤ 16
        · rw [if_pos hl]
          cases hkey : isKey ((s.data.toList.drop k).takeWhile isN) with
          | true =>
            rw [if_pos rfl]
            refine (name_key w r s k h hs (Nat.le_of_lt hk) hl hkey).mono ?_
            rintro x w' ⟨rfl, hr1, hg1⟩
            exact ⟨6, _, 0, _, rfl, hr1, hg1, fun _ => ⟨rfl, rfl, rfl, rfl⟩⟩
          | false =>
            rw [if_neg (by decide)]
            refine (name_plain w r s k h hs (Nat.le_of_lt hk) hl hkey).mono ?_
            rintro x w' ⟨rfl, hr1, hg1⟩
            exact ⟨3, _, 0, _, rfl, hr1, hg1, fun _ => ⟨rfl, rfl, rfl, rfl⟩⟩
        · rw [if_neg hl]
          refine (name_long w r s k h hs (Nat.le_of_lt hk) (by unfold lasts; omega)).mono ?_
          rintro x w' ⟨rfl, hr1, hg1⟩
          exact ⟨0, [], 0, _, rfl, hr1, hg1, fun h => by simp at h⟩
      | false =>
        cases hLb : isL s[k] with
        | true =>
          refine ⟨_, .inr (.inr (.inr (.inl rfl))), fun w => begun_con w r s[k] hD hQ hS hLb, fun w h hd => ?_⟩
          have ht : tk (s.data.toList.drop k) = if ((s.data.toList.drop k).takeWhile isN).length ≤ 16 then ((4, (s.data.toList.drop k).takeWhile isN, 0), ((s.data.toList.drop k).takeWhile isN).length, 0) else ((0, [], 0), 0, 12) := by
            conv => lhs; rw [hL, tk_cons, if_neg nD, if_neg hQ, if_pos (by rw [hS, hLb]; rfl), if_pos hLb]
            rw [← hL]
          rw [ht]
          by_cases hl : ((s.data.toList.drop k).takeWhile isN).length ≤ 16
          · rw [if_pos hl]
            refine (con_short w r s k h hs (Nat.le_of_lt hk) hl).mono ?_
            rintro x w' ⟨rfl, hr1, hg1⟩
            exact ⟨4, _, 0, _, rfl, hr1, hg1, fun _ => ⟨rfl, rfl, rfl, rfl⟩⟩
          · rw [if_neg hl]
            refine (con_long w r s k h hs (Nat.le_of_lt hk) (by unfold lasts; omega)).mono ?_
            rintro x w' ⟨rfl, hr1, hg1⟩
            exact ⟨0, [], 0, _, rfl, hr1, hg1, fun h => by simp at h⟩
        | false =>
          have nSL : ¬ (isS s[k] || isL s[k]) = true := by rw [hS, hLb]; decide
          by_cases hI : s[k] ∈ signs
          · refine ⟨_, .inr (.inr (.inr (.inr (.inl rfl)))), fun w => begun_sign w r s[k] hD hQ hS hLb hI, fun w h hd => ?_⟩
            by_cases h2 : s[k] = 45 ∧ (s.data.toList.drop (k + 1)).head? = some 62
            · have ht : tk (s.data.toList.drop k) = ((5, [45, 62], 0), 2, 0) := by
                rw [hL, tk_cons, if_neg nD, if_neg hQ, if_neg nSL, if_pos h2]
              rw [ht]
              have hk2 : k + 1 < s.size := by
                rcases Nat.lt_or_ge (k + 1) s.size with h | h
                · exact h
                · rw [drop_out h] at h2; simp at h2
              have htake : (s.data.toList.drop k).take 2 = [45, 62] := by
                rw [hL, drop_at hk2]
                rw [drop_at hk2] at h2
                simp at h2
                simp [h2.1, h2.2]
              refine (sign_two w r s k h hs (by omega) htake).mono ?_
              rintro x w' ⟨rfl, hr1, hg1⟩
              exact ⟨5, _, 0, _, rfl, hr1, hg1, fun _ => ⟨rfl, rfl, rfl, rfl⟩⟩
            · have ht : tk (s.data.toList.drop k) = ((5, [s[k]], 0), 1, 0) := by
                rw [hL, tk_cons, if_neg nD, if_neg hQ, if_neg nSL, if_neg h2, if_pos hI]
              rw [ht]
              have htake : (s.data.toList.drop k).take 2 ≠ [45, 62] := by
                intro e
                apply h2
                rw [hL] at e
                cases hr : s.data.toList.drop (k + 1) with
                | nil => rw [hr] at e; simp at e
                | cons d u =>
                  rw [hr] at e
                  simp at e
                  exact ⟨e.1, by simp [e.2]⟩
              refine (sign_one w r s k h hs hk htake).mono ?_
              rintro x w' ⟨rfl, hr1, hg1⟩
              exact ⟨5, _, 0, _, rfl, hr1, hg1, fun _ => ⟨rfl, rfl, rfl, rfl⟩⟩
          · refine ⟨_, .inr (.inr (.inr (.inr (.inr rfl)))), fun w => begun_nothing w r s[k] hD hQ hS hLb hI, fun w h hd => ?_⟩
            have ht : tk (s.data.toList.drop k) = ((0, [], 0), 0, 10) := by
              rw [hL, tk_cons, if_neg nD, if_neg hQ, if_neg nSL, if_neg, if_neg hI]
              rintro ⟨e, _⟩
              exact hI (by rw [e]; decide)
            rw [ht]
            refine (nothing_any w r s k h).mono ?_
            rintro x w' ⟨rfl, hr1, hg1⟩
            exact ⟨0, [], 0, _, rfl, hr1, hg1, fun h => by simp at h⟩
end Go.Proofs.YtlcapkgbbgpdmaaGreatDoor.YQ
