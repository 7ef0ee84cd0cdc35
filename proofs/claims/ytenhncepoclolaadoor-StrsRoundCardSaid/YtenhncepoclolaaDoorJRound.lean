/- StrsRound: the walk. -/
import Derived.Test.YtenhncepoclolaaDoorL
import Derived.Test.YtenhncepoclolaaDoorD
import Derived.Test.YtenhncepoclolaaDoorK
import Derived.Test.YtenhncepoclolaaDoorM2
import Derived.Test.YtenhncepoclolaaDoorUA
namespace Go.Proofs.YtenhncepoclolaaDoor.strsRound
open Go.RowKit Go.Maps
open Go.Proofs.YtenhncepoclolaaDoor.P Go.Proofs.YtenhncepoclolaaDoor.A Go.Proofs.YtenhncepoclolaaDoor.L Go.Proofs.YtenhncepoclolaaDoor.D Go.Proofs.YtenhncepoclolaaDoor.K Go.Proofs.YtenhncepoclolaaDoor.O Go.Proofs.YtenhncepoclolaaDoor.N Go.Proofs.YtenhncepoclolaaDoor.M2 Go.Proofs.YtenhncepoclolaaDoor.UN Go.Proofs.YtenhncepoclolaaDoor.UA Go.Proofs.YtenhncepoclolaaDoor.I
set_option linter.unusedVariables false

theorem text_same {s t : ByteArray} (h : s.data.toList = t.data.toList) : s = t := by
  apply ByteArray.ext; exact Array.toList_inj.1 h
theorem nv_text (s : ByteArray) : nv (s.data.toList, 0) = .tuple #[.string s, .int .i64 0] := by
  have : (⟨s.data.toList.toArray⟩ : ByteArray) = s := by apply ByteArray.ext; simp
  show Value.tuple #[.string ⟨s.data.toList.toArray⟩, _] = _
  rw [this]; rfl
theorem size_list (s : ByteArray) : s.data.toList.length = s.size := by simp
theorem decs (s t : ByteArray) (hs : s.size ≤ 60) (ht : t.size ≤ 60) : decide (packL s.data.toList = packL t.data.toList) = (s.toList == t.toList) := by
  rw [ByteArray.toList_eq, ByteArray.toList_eq]
  by_cases h : s.data.toList = t.data.toList
  · rw [h]; simp
  · have h2 : packL s.data.toList ≠ packL t.data.toList := fun e => h (pack_inj (by rw [size_list]; exact hs) (by rw [size_list]; exact ht) e)
    rw [decide_eq_false h2]
    symm
    rw [beq_eq_false_iff_ne]
    exact h
theorem pack_len (s : ByteArray) (hs : s.size ≤ 60) : (packL s.data.toList).length ≤ 1000 := by
  unfold packL; rw [pk_len, size_list]; omega
theorem unpack_packed (s : ByteArray) (hs : s.size ≤ 60) (v : Value) (w : World) (h : HasI w v (packL s.data.toList)) :
    Calls Tryd.prog 17 #[v] w fun e w' => e = .returned (.tuple #[.string s, .int .i64 0]) ∧ Below w.heap.size w w' := by
  have := unpack_any v _ w h
  rw [pack_up (by rw [size_list]; exact hs), nv_text] at this
  exact this

set_option maxHeartbeats 800000 in
theorem walk (w : World) (a0 : ByteArray) (w0 : a0.size ≤ maxLen) (a1 : ByteArray) (w1 : a1.size ≤ maxLen) (hd : Dig w) :
    Calls Tryd.prog 5 #[.string a0, .string a1] w fun e w' => e = .returned (.bool true) ∧ Below w.heap.size w w' := by
  go_enter Tryd.func5, Tryd.ntmps5
  go_wp2_with fail
  refine (few_any a0 _).mono ?_
  rintro e w1 ⟨⟨s, hs, rfl⟩, rfl⟩
  go_wp2_with fail
  refine (few_any a1 _).mono ?_
  rintro e w1 ⟨⟨t, ht, rfl⟩, rfl⟩
  go_wp2_with fail
  by_cases hs60 : s.size ≤ 60
  · refine (pack_short s _ hs60).mono ?_
    rintro e w1 ⟨⟨m1, hm1, rfl, hown1⟩, hb1⟩
    clear hm1
    go_wp2_with fail
    by_cases ht60 : t.size ≤ 60
    · refine (pack_short t _ ht60).mono ?_
      rintro e w2 ⟨⟨m2, hm2, rfl, hown2⟩, hb2⟩
      clear hm2
      have h1 := (own_has hown1).below hb2 (Nat.le_refl _)
      have h2 := own_has hown2
      have hd2 := hd.next hb1 hb2
      have hb12 := bnext hb1 hb2
      have hdec := Lib.hid (decs s t hs60 ht60)
      have hlen := pack_len s hs60
      clear hown1 hown2 hb1 hb2
      go_wp2_with fail
      refine (unpack_packed s hs60 _ _ h1).mono ?_
      rintro e w3 ⟨rfl, hb3⟩
      have h1' := h1.below hb3 (Nat.le_refl _)
      have h2' := h2.below hb3 (Nat.le_refl _)
      go_wp2_with fail
      refine (same_any _ _ _ _ _ h1' h2' hlen).mono ?_
      rw [hdec.out]
      rintro e w4 ⟨rfl, hb4⟩
      have hb34 := bnext (bnext hb12 hb3) hb4
      go_wp2_with (first
        | (go_at_call 16; refine (lives_any _ (hd.below hb34)).mono ?_; rintro e w5 ⟨rfl, hb5⟩))
      go_ret
      exact ⟨rfl, bnext hb34 hb5⟩
    · refine (pack_long t _ (by omega)).mono ?_
      rintro e w2 ⟨rfl, rfl⟩
      have h1 := own_has hown1
      clear hown1
      go_wp2_with fail
      refine (unpack_packed s hs60 _ _ h1).mono ?_
      rintro e w3 ⟨rfl, hb3⟩
      have hb34 := bnext hb1 hb3
      go_wp2_with (first
        | (go_at_call 16; refine (lives_any _ (hd.below hb34)).mono ?_; rintro e w5 ⟨rfl, hb5⟩))
      go_ret
      exact ⟨rfl, bnext hb34 hb5⟩
  · refine (pack_long s _ (by omega)).mono ?_
    rintro e w1 ⟨rfl, rfl⟩
    go_wp2_with fail
    by_cases ht60 : t.size ≤ 60
    · refine (pack_short t _ ht60).mono ?_
      rintro e w2 ⟨⟨m2, hm2, rfl, hown2⟩, hb2⟩
      clear hown2
      go_wp2_with (first
        | (go_at_call 16; refine (lives_any _ (hd.below hb2)).mono ?_; rintro e w5 ⟨rfl, hb5⟩))
      go_ret
      exact ⟨rfl, bnext hb2 hb5⟩
    · refine (pack_long t _ (by omega)).mono ?_
      rintro e w2 ⟨rfl, rfl⟩
      go_wp2_with (first
        | (go_at_call 16; refine (lives_any _ hd).mono ?_; rintro e w5 ⟨rfl, hb5⟩))
      go_ret
      exact ⟨rfl, hb5⟩

end Go.Proofs.YtenhncepoclolaaDoor.strsRound
