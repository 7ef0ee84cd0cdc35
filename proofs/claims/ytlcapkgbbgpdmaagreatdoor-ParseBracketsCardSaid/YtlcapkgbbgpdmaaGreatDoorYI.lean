/- The reader's digits. -/
import Derived.Test.YtlcapkgbbgpdmaaGreatDoorYS
import Derived.Test.YtlcapkgbbgpdmaaGreatDoorTR
import Derived.Test.YtlcapkgbbgpdmaaGreatDoorK8
namespace Go.Proofs.YtlcapkgbbgpdmaaGreatDoor.YI
open Go.RowKit Go.Proofs.YtlcapkgbbgpdmaaGreatDoor.P Go.Proofs.YtlcapkgbbgpdmaaGreatDoor.A Go.Proofs.YtlcapkgbbgpdmaaGreatDoor.TK Go.Proofs.YtlcapkgbbgpdmaaGreatDoor.YC Go.Proofs.YtlcapkgbbgpdmaaGreatDoor.YK Go.Proofs.YtlcapkgbbgpdmaaGreatDoor.YL Go.Proofs.YtlcapkgbbgpdmaaGreatDoor.YR Go.Proofs.YtlcapkgbbgpdmaaGreatDoor.YW Go.Proofs.YtlcapkgbbgpdmaaGreatDoor.YN Go.Proofs.YtlcapkgbbgpdmaaGreatDoor.YS Go.Proofs.YtlcapkgbbgpdmaaGreatDoor.U
set_option linter.unusedVariables false
set_option maxRecDepth 100000

theorem takeWhile_all (p : UInt8 → Bool) : ∀ l : List UInt8, (l.takeWhile p).all p = true
  | [] => rfl
  | c :: l => by
    rw [List.takeWhile_cons]
    cases h : p c
    · rfl
    · show ((c :: l.takeWhile p).all p) = true
      rw [List.all_cons, h, takeWhile_all p l]; rfl
theorem lean_text (T : ByteArray) (m : Nat) (hT : T.size = m + 1) : (⟨(tr0 (T.extract 0 m).data.toList).toArray⟩ : ByteArray) ++ T.extract m T.size = ⟨(TR.lean T.data.toList).toArray⟩ := by
  apply mk_of
  rw [ByteArray.data_append, Array.toList_append, drop_list]
  have e1 : (T.extract 0 m).data.toList = T.data.toList.take m := by
    rw [ByteArray.data_extract, Array.toList_extract, List.extract_eq_take_drop, List.drop_zero]; rfl
  have e2 : T.data.toList.length - 1 = m := by simp; omega
  rw [e1]
  unfold TR.lean
  rw [e2]

theorem digits_all (w : World) (r : Nat) (s : ByteArray) (i : Nat) (h : RD w r s i) (hs : s.size ≤ 2100) (hi : i < s.size) (hd : isD s[i] = true) (n e : Int) (hR : R.readL (TR.lean ((s.data.toList.drop i).takeWhile isD)) = (n, e)) :
    Calls Tryz.prog 88 #[.pointer (some ⟨r, 0, none⟩)] w fun x w' => x = .returned (tokv 1 [] n 0 e) ∧ RD w' r s (i + lasts isD s i) ∧ Gr r w w' := by
  have hlt := h.lt
  have hne : w.heap.size ≠ r := by omega
  have HD := fun W (hW : RD W r s i) => run_digits W r s i hW hs (Nat.le_of_lt hi)
  obtain ⟨T, hT⟩ : ∃ T : ByteArray, T = ⟨((s.data.toList.drop i).takeWhile isD).toArray⟩ := ⟨_, rfl⟩
  have hTl : T.data.toList = (s.data.toList.drop i).takeWhile isD := by rw [hT]
  have hTs : T.size = lasts isD s i := by rw [hT]; rfl
  have h1 := lasts_le (p := isD) (Nat.le_of_lt hi)
  have hp : 1 ≤ T.size := by rw [hTs, lasts_yes hi hd]; omega
  have hm : T.size ≤ 2100 := by omega
  rw [← hT] at HD
  rw [← hTl] at hR
  obtain ⟨m, hm1⟩ : ∃ m, T.size = m + 1 := ⟨T.size - 1, by omega⟩
  have hL := lean_text T m hm1
  have HTR := fun W => trim_any (T.extract 0 m) W (by simp; omega)
  have hA : (⟨(tr0 (T.extract 0 m).data.toList).toArray⟩ : ByteArray).size ≤ 2100 := by
    have : (tr0 (T.extract 0 m).data.toList).length ≤ (T.extract 0 m).data.toList.length := (List.dropWhile_sublist _).length_le
    show (tr0 (T.extract 0 m).data.toList).length ≤ 2100
    have e : (T.extract 0 m).data.toList.length = m := by simp; omega
    omega
  have hsz : (⟨(TR.lean T.data.toList).toArray⟩ : ByteArray).size ≤ maxLen := by
    rw [← hL]; unfold maxLen
    rw [ByteArray.size_append]
    have : (T.extract m T.size).size ≤ 1 := by simp; omega
    omega
  have HRD := fun W => K8.read_any ⟨(TR.lean T.data.toList).toArray⟩ W hsz
  have hR' : R.readL (⟨(TR.lean T.data.toList).toArray⟩ : ByteArray).data.toList = (n, e) := hR
  rw [hR'] at HRD
  have hH := Lib.hid (at_new h)
  rw [hm1] at hL hp hm
  generalize (⟨(TR.lean T.data.toList).toArray⟩ : ByteArray) = D at *
  generalize (⟨(tr0 (T.extract 0 m).data.toList).toArray⟩ : ByteArray) = A at *
  clear h hT hTl hTs hR hR' hsz h1 hd
  go_enter Tryz.func88, Tryz.ntmps88
  go_wp2_with fail
  generalize w.alloc _ = w1 at hH ⊢
  refine (HD _ hH.out.rd).mono ?_
  rintro x w2 ⟨rfl, hr2, hg2⟩
  have hH2 := Lib.hid (hH.out.next hne hg2 hr2)
  clear hr2 hg2
  go_wp2
  have a1 : (0 : Int) ≤ (m : Int) := by omega
  have a2 : (m : Int) ≤ (m : Int) + 1 := by omega
  have a3 : ¬ 9223372036854775807 < A.size + 1 := by omega
  go_quiet (first | (go_at_call 122; exact quiet_same (HTR _)) | (go_at_call 121; exact quiet_same (HRD _)))
  clear a3
  have hH3 : Hid _ := hH2.out.drew nq
  generalize w2.drewN nq = w3 at hH3 ⊢
  obtain ⟨b0, b1, b2, b3⟩ := hH3.out.tb.cells
  obtain ⟨f0, f1, f2, f3⟩ := hH3.out.tb.free
  go_wp2
  refine bodyPost_ret (v := tokv 1 [] n 0 e) (by simp [results, Tryz.results88, go_sem, b0, b1, b2, b3]) rfl ⟨rfl, set4 hH3.out.rd hH3.out.gr hne (Nat.le_refl _) _ _ _ _⟩
end Go.Proofs.YtlcapkgbbgpdmaaGreatDoor.YI
