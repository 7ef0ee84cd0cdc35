/- Read, whole: the sign, then the digits. -/
import Derived.Test.YtlcapkgbbgpdmaaGreatDoorK7
namespace Go.Proofs.YtlcapkgbbgpdmaaGreatDoor.K8
open Go.ChangeShapes Go.WideShapes Go.ChangeAt Go.RowKit
open Go.Proofs.YtlcapkgbbgpdmaaGreatDoor.M Go.Proofs.YtlcapkgbbgpdmaaGreatDoor.K1 Go.Proofs.YtlcapkgbbgpdmaaGreatDoor.S Go.Proofs.YtlcapkgbbgpdmaaGreatDoor.R Go.Proofs.YtlcapkgbbgpdmaaGreatDoor.K7
set_option linter.unusedVariables false
set_option maxRecDepth 100000

theorem head_extract (s : ByteArray) (h : 0 < s.size) : (s.extract 0 1).toList = [s[0]] := by
  rw [ByteArray.toList_eq, ByteArray.data_extract, Array.toList_extract, List.extract_eq_take_drop, List.drop_zero]
  have g := head_list s h
  cases hl : s.data.toList with
  | nil => rw [hl] at g; simp at g
  | cons c t => rw [hl] at g; simp at g; simp [g]
theorem tail_extract (s : ByteArray) : (s.extract 1 s.size).data.toList = s.data.toList.drop 1 := by
  rw [ByteArray.data_extract, Array.toList_extract, List.extract_eq_take_drop]
  exact List.take_of_length_le (by simp)

theorem has_yes (s : ByteArray) (w : World) (hs : s.size ≤ maxLen) (h0 : 0 < s.size) (h : s[0] = 45) :
    Calls Tryz.prog 159 #[.string s, .string ⟨#[45]⟩] w fun e w' => e = .returned (.bool true) ∧ w = w' := by
  unfold maxLen at hs
  have e1 : ((s.extract 0 1).toList == [45]) = true := by rw [head_extract s h0, h]; rfl
  have e2 : (1 : Int) ≤ (s.size : Int) := by omega
  clear h
  go_enter Tryz.func159, Tryz.ntmps159
  go_wp2
  go_ret
  exact ⟨rfl, rfl⟩
theorem has_no (s : ByteArray) (w : World) (hs : s.size ≤ maxLen) (h0 : 0 < s.size) (h : s[0] ≠ 45) :
    Calls Tryz.prog 159 #[.string s, .string ⟨#[45]⟩] w fun e w' => e = .returned (.bool false) ∧ w = w' := by
  unfold maxLen at hs
  have e1 : ((s.extract 0 1).toList == [45]) = false := by rw [head_extract s h0, beq_eq_false_iff_ne]; intro c; exact h (by simpa using c)
  have e2 : (1 : Int) ≤ (s.size : Int) := by omega
  clear h
  go_enter Tryz.func159, Tryz.ntmps159
  go_wp2
  go_ret
  exact ⟨rfl, rfl⟩
theorem has_nil (w : World) :
    Calls Tryz.prog 159 #[.string ⟨#[]⟩, .string ⟨#[45]⟩] w fun e w' => e = .returned (.bool false) ∧ w = w' := by
  go_enter Tryz.func159, Tryz.ntmps159
  go_wp2
  go_ret
  exact ⟨rfl, rfl⟩
theorem lcut_yes (s : ByteArray) (w : World) (hs : s.size ≤ maxLen) (h0 : 0 < s.size) (h : s[0] = 45) :
    Calls Tryz.prog 177 #[.string s, .string ⟨#[45]⟩] w fun e w' => e = .returned (.tuple #[.string (s.extract 1 s.size), .bool true]) ∧ w = w' := by
  have HH := Lib.hid h
  have HS := Lib.hid hs
  clear h
  unfold maxLen at hs
  go_enter Tryz.func177, Tryz.ntmps177
  go_wp2_with (go_at_call 159; refine (has_yes s _ HS.out h0 HH.out).mono ?_; rintro e w' ⟨rfl, rfl⟩)
  go_ret2
  exact ⟨rfl, rfl⟩
theorem lcut_no (s : ByteArray) (w : World) (hs : s.size ≤ maxLen) (h0 : 0 < s.size) (h : s[0] ≠ 45) :
    Calls Tryz.prog 177 #[.string s, .string ⟨#[45]⟩] w fun e w' => e = .returned (.tuple #[.string s, .bool false]) ∧ w = w' := by
  have HH := Lib.hid h
  have HS := Lib.hid hs
  clear h
  unfold maxLen at hs
  go_enter Tryz.func177, Tryz.ntmps177
  go_wp2_with (go_at_call 159; refine (has_no s _ HS.out h0 HH.out).mono ?_; rintro e w' ⟨rfl, rfl⟩)
  go_ret2
  exact ⟨rfl, rfl⟩
theorem lcut_nil (w : World) :
    Calls Tryz.prog 177 #[.string ⟨#[]⟩, .string ⟨#[45]⟩] w fun e w' => e = .returned (.tuple #[.string ⟨#[]⟩, .bool false]) ∧ w = w' := by
  go_enter Tryz.func177, Tryz.ntmps177
  go_wp2_with (go_at_call 159; refine (has_nil _).mono ?_; rintro e w' ⟨rfl, rfl⟩)
  go_ret2
  exact ⟨rfl, rfl⟩
theorem cut_yes (s : ByteArray) (w : World) (hs : s.size ≤ maxLen) (h0 : 0 < s.size) (h : s[0] = 45) :
    Calls Tryz.prog 147 #[.string s, .string ⟨#[45]⟩] w fun e w' => e = .returned (.tuple #[.string (s.extract 1 s.size), .bool true]) ∧ w = w' := by
  have HH := Lib.hid h
  have HS := Lib.hid hs
  clear h
  unfold maxLen at hs
  go_enter Tryz.func147, Tryz.ntmps147
  go_wp2_with (go_at_call 177; refine (lcut_yes s _ HS.out h0 HH.out).mono ?_; rintro e w' ⟨rfl, rfl⟩)
  go_ret2
  exact ⟨rfl, rfl⟩
theorem cut_no (s : ByteArray) (w : World) (hs : s.size ≤ maxLen) (h0 : 0 < s.size) (h : s[0] ≠ 45) :
    Calls Tryz.prog 147 #[.string s, .string ⟨#[45]⟩] w fun e w' => e = .returned (.tuple #[.string s, .bool false]) ∧ w = w' := by
  have HH := Lib.hid h
  have HS := Lib.hid hs
  clear h
  unfold maxLen at hs
  go_enter Tryz.func147, Tryz.ntmps147
  go_wp2_with (go_at_call 177; refine (lcut_no s _ HS.out h0 HH.out).mono ?_; rintro e w' ⟨rfl, rfl⟩)
  go_ret2
  exact ⟨rfl, rfl⟩
theorem cut_nil (w : World) :
    Calls Tryz.prog 147 #[.string ⟨#[]⟩, .string ⟨#[45]⟩] w fun e w' => e = .returned (.tuple #[.string ⟨#[]⟩, .bool false]) ∧ w = w' := by
  go_enter Tryz.func147, Tryz.ntmps147
  go_wp2_with (go_at_call 177; refine (lcut_nil _).mono ?_; rintro e w' ⟨rfl, rfl⟩)
  go_ret2
  exact ⟨rfl, rfl⟩
theorem are_as (s : ByteArray) (b : Bool) (w : World) (hs : s.size ≤ maxLen) (h : okD s.data.toList = b) :
    Calls Tryz.prog 148 #[.string s] w fun e w' => e = .returned (.bool b) ∧ w = w' := by
  subst h; exact are_any s w hs
theorem all_of_ok {l : List UInt8} (h : okD l = true) : l.all isD = true := by
  unfold okD at h
  rw [Bool.and_eq_true] at h
  exact h.2
theorem count_le (s : ByteArray) (most x : Int) (w : World) (hs : s.size ≤ maxLen) (m0 : 10 ≤ most) (m1 : most ≤ 4611686018427387904) (hall : okD s.data.toList = true) (h : (val s.data.toList : Int) ≤ most) (hx : x = (val s.data.toList : Int)) :
    Calls Tryz.prog 149 #[.string s, .int .i64 most] w fun e w' => e = .returned (.tuple #[.int .i64 x, .int .i64 0]) ∧ w = w' := by
  have g := count_any s most w hs m0 m1 (all_of_ok hall)
  rw [if_pos h, ← hx] at g
  exact g
theorem count_gt (s : ByteArray) (most : Int) (w : World) (hs : s.size ≤ maxLen) (m0 : 10 ≤ most) (m1 : most ≤ 4611686018427387904) (hall : okD s.data.toList = true) (h : most < (val s.data.toList : Int)) :
    Calls Tryz.prog 149 #[.string s, .int .i64 most] w fun e w' => e = .returned (.tuple #[.int .i64 0, .int .i64 13]) ∧ w = w' := by
  have g := count_any s most w hs m0 m1 (all_of_ok hall)
  rw [if_neg (by omega)] at g
  exact g
theorem readD_no {b : Bool} {d : List UInt8} (h : okD d = false) : readD b d = (0, 1) := by unfold readD; rw [if_pos (.inl h)]
theorem readD_neg_if {d : List UInt8} (h : okD d = true) (n : ¬ d = [48]) : readD true d = if val d ≤ 4611686018427387904 then (-(val d : Int), 0) else (0, 13) := by
  unfold readD
  rw [if_neg, if_pos rfl]
  rintro (c | ⟨_, c⟩)
  · rw [h] at c; exact absurd c (by decide)
  · exact n c
theorem readD_pos_if {d : List UInt8} (h : okD d = true) : readD false d = if val d ≤ 4611686018427387903 then ((val d : Int), 0) else (0, 13) := by
  unfold readD
  rw [if_neg, if_neg (by decide)]
  rintro (c | ⟨c, _⟩)
  · rw [h] at c; exact absurd c (by decide)
  · exact absurd c (by decide)
theorem readD_neg_le {d : List UInt8} (h : okD d = true) (n : ¬ d = [48]) (v : (val d : Int) ≤ 4611686018427387904) : readD true d = (-(val d : Int), 0) := by
  rw [readD_neg_if h n, if_pos (by omega)]
theorem readD_neg_gt {d : List UInt8} (h : okD d = true) (n : ¬ d = [48]) (v : 4611686018427387904 < (val d : Int)) : readD true d = (0, 13) := by
  rw [readD_neg_if h n, if_neg (by omega)]
theorem readD_pos_le {d : List UInt8} (h : okD d = true) (v : (val d : Int) ≤ 4611686018427387903) : readD false d = ((val d : Int), 0) := by
  rw [readD_pos_if h, if_pos (by omega)]
theorem readD_pos_gt {d : List UInt8} (h : okD d = true) (v : 4611686018427387903 < (val d : Int)) : readD false d = (0, 13) := by
  rw [readD_pos_if h, if_neg (by omega)]

theorem cut_yes_as (s D : ByteArray) (w : World) (hs : s.size ≤ maxLen) (h0 : 0 < s.size) (h : s[0] = 45) (hD : s.extract 1 s.size = D) :
    Calls Tryz.prog 147 #[.string s, .string ⟨#[45]⟩] w fun e w' => e = .returned (.tuple #[.string D, .bool true]) ∧ w = w' := by
  subst hD; exact cut_yes s w hs h0 h

theorem read_dash (s D : ByteArray) (w : World) (hs : s.size ≤ maxLen) (h0 : 0 < s.size) (h : s[0] = 45) (hE : s.extract 1 s.size = D) (hD : D.size ≤ maxLen) :
    Calls Tryz.prog 121 #[.string s] w fun e w' => e = .returned (.tuple #[.int .i64 (readD true D.data.toList).1, .int .i64 (readD true D.data.toList).2]) ∧ w = w' := by
  have HH := Lib.hid h
  have HS := Lib.hid hs
  have HE := Lib.hid hE
  clear h hs hE
  have HD0 : Hid (D.size ≤ maxLen) := hD
  clear hD
  by_cases ho : okD D.data.toList = true
  · have HO := Lib.hid ho
    by_cases hz : D = ⟨#[48]⟩
    · subst hz
      have HF : Hid (readD true [48] = (0, 1)) := rfl
      clear ho
      go_enter Tryz.func121, Tryz.ntmps121
      go_wp2_with fail
      refine (cut_yes_as s _ _ HS.out h0 HH.out HE.out).mono ?_
      rintro e w' ⟨rfl, rfl⟩
      go_wp2_with fail
      refine (are_as ⟨#[48]⟩ true _ HD0.out HO.out).mono ?_
      rintro e w' ⟨rfl, rfl⟩
      go_wp2_with fail
      go_ret2
      exact ⟨rfl, rfl⟩
    · have hn : ¬ D.data.toList = [48] := fun c => hz (ByteArray.ext (Array.toList_inj.1 c))
      have e1 : (D.toList == [48]) = false := by rw [ByteArray.toList_eq, beq_eq_false_iff_ne]; exact hn
      have HN := Lib.hid hn
      clear hn hz
      by_cases hv : (val D.data.toList : Int) ≤ 4611686018427387904
      · have HV := Lib.hid hv
        clear hv ho
        obtain ⟨x, hx⟩ : ∃ x, x = val D.data.toList := ⟨_, rfl⟩
        have HF : Hid (readD true D.data.toList = (-(x : Int), 0)) := by unfold Hid; rw [readD_neg_le HO.out HN.out HV.out, hx]
        have hx1 : (x : Int) ≤ 4611686018427387904 := by rw [hx]; exact HV.out
        have HX := Lib.hid hx
        clear hx
        go_enter Tryz.func121, Tryz.ntmps121
        go_wp2_with fail
        refine (cut_yes_as s _ _ HS.out h0 HH.out HE.out).mono ?_
        rintro e w' ⟨rfl, rfl⟩
        go_wp2_with fail
        refine (are_as D true _ HD0.out HO.out).mono ?_
        rintro e w' ⟨rfl, rfl⟩
        go_wp2_with fail
        refine (count_le D 4611686018427387904 (x : Int) _ HD0.out (by omega) (by omega) HO.out HV.out (by rw [HX.out])).mono ?_
        rintro e w' ⟨rfl, rfl⟩
        go_wp2_with fail
        go_ret2
        exact ⟨by rw [HF.out]; rfl, rfl⟩
      · have HF : Hid (readD true D.data.toList = (0, 13)) := readD_neg_gt HO.out HN.out (by omega)
        have HV := Lib.hid hv
        clear hv ho
        go_enter Tryz.func121, Tryz.ntmps121
        go_wp2_with fail
        refine (cut_yes_as s _ _ HS.out h0 HH.out HE.out).mono ?_
        rintro e w' ⟨rfl, rfl⟩
        go_wp2_with fail
        refine (are_as D true _ HD0.out HO.out).mono ?_
        rintro e w' ⟨rfl, rfl⟩
        go_wp2_with fail
        refine (count_gt D 4611686018427387904 _ HD0.out (by omega) (by omega) HO.out (by have := HV.out; omega)).mono ?_
        rintro e w' ⟨rfl, rfl⟩
        go_wp2_with fail
        go_ret2
        exact ⟨by rw [HF.out]; rfl, rfl⟩
  · have ho' : okD D.data.toList = false := by simpa using ho
    have HF : Hid (readD true D.data.toList = (0, 1)) := readD_no ho'
    have HO := Lib.hid ho'
    clear ho ho'
    go_enter Tryz.func121, Tryz.ntmps121
    go_wp2_with fail
    refine (cut_yes_as s _ _ HS.out h0 HH.out HE.out).mono ?_
    rintro e w' ⟨rfl, rfl⟩
    go_wp2_with fail
    refine (are_as D false _ HD0.out HO.out).mono ?_
    rintro e w' ⟨rfl, rfl⟩
    go_wp2_with fail
    go_ret2
    exact ⟨by rw [HF.out]; rfl, rfl⟩
theorem read_plain (D : ByteArray) (w : World) (h0 : 0 < D.size) (h : D[0] ≠ 45) (hD : D.size ≤ maxLen) :
    Calls Tryz.prog 121 #[.string D] w fun e w' => e = .returned (.tuple #[.int .i64 (readD false D.data.toList).1, .int .i64 (readD false D.data.toList).2]) ∧ w = w' := by
  have HH := Lib.hid h
  clear h
  have HD0 : Hid (D.size ≤ maxLen) := hD
  clear hD
  by_cases ho : okD D.data.toList = true
  · have HO := Lib.hid ho
    by_cases hv : (val D.data.toList : Int) ≤ 4611686018427387903
    · have HV := Lib.hid hv
      clear hv ho
      obtain ⟨x, hx⟩ : ∃ x, x = val D.data.toList := ⟨_, rfl⟩
      have HF : Hid (readD false D.data.toList = ((x : Int), 0)) := by unfold Hid; rw [readD_pos_le HO.out HV.out, hx]
      have hx1 : (x : Int) ≤ 4611686018427387903 := by rw [hx]; exact HV.out
      have HX := Lib.hid hx
      clear hx
      go_enter Tryz.func121, Tryz.ntmps121
      go_wp2_with fail
      refine (cut_no D _ HD0.out h0 HH.out).mono ?_
      rintro e w' ⟨rfl, rfl⟩
      go_wp2_with fail
      refine (are_as D true _ HD0.out HO.out).mono ?_
      rintro e w' ⟨rfl, rfl⟩
      go_wp2_with fail
      refine (count_le D 4611686018427387903 (x : Int) _ HD0.out (by omega) (by omega) HO.out HV.out (by rw [HX.out])).mono ?_
      rintro e w' ⟨rfl, rfl⟩
      go_wp2_with fail
      go_ret2
      exact ⟨by rw [HF.out]; rfl, rfl⟩
    · have HF : Hid (readD false D.data.toList = (0, 13)) := readD_pos_gt HO.out (by omega)
      have HV := Lib.hid hv
      clear hv ho
      go_enter Tryz.func121, Tryz.ntmps121
      go_wp2_with fail
      refine (cut_no D _ HD0.out h0 HH.out).mono ?_
      rintro e w' ⟨rfl, rfl⟩
      go_wp2_with fail
      refine (are_as D true _ HD0.out HO.out).mono ?_
      rintro e w' ⟨rfl, rfl⟩
      go_wp2_with fail
      refine (count_gt D 4611686018427387903 _ HD0.out (by omega) (by omega) HO.out (by have := HV.out; omega)).mono ?_
      rintro e w' ⟨rfl, rfl⟩
      go_wp2_with fail
      go_ret2
      exact ⟨by rw [HF.out]; rfl, rfl⟩
  · have ho' : okD D.data.toList = false := by simpa using ho
    have HF : Hid (readD false D.data.toList = (0, 1)) := readD_no ho'
    have HO := Lib.hid ho'
    clear ho ho'
    go_enter Tryz.func121, Tryz.ntmps121
    go_wp2_with fail
    refine (cut_no D _ HD0.out h0 HH.out).mono ?_
    rintro e w' ⟨rfl, rfl⟩
    go_wp2_with fail
    refine (are_as D false _ HD0.out HO.out).mono ?_
    rintro e w' ⟨rfl, rfl⟩
    go_wp2_with fail
    go_ret2
    exact ⟨by rw [HF.out]; rfl, rfl⟩
theorem read_nil (w : World) :
    Calls Tryz.prog 121 #[.string ⟨#[]⟩] w fun e w' => e = .returned (.tuple #[.int .i64 0, .int .i64 1]) ∧ w = w' := by
  go_enter Tryz.func121, Tryz.ntmps121
  go_wp2_with fail
  refine (cut_nil _).mono ?_
  rintro e w' ⟨rfl, rfl⟩
  go_wp2_with fail
  refine (are_empty _).mono ?_
  rintro e w' ⟨rfl, rfl⟩
  go_wp2_with fail
  go_ret2
  exact ⟨rfl, rfl⟩
theorem read_any (s : ByteArray) (w : World) (hs : s.size ≤ maxLen) :
    Calls Tryz.prog 121 #[.string s] w fun e w' => e = .returned (.tuple #[.int .i64 (readL s.data.toList).1, .int .i64 (readL s.data.toList).2]) ∧ w = w' := by
  by_cases h0 : s.size = 0
  · obtain rfl := size_zero h0
    exact read_nil w
  · have hh := head_list s (by omega)
    by_cases h : s[0] = 45
    · have e : readL s.data.toList = readD true (s.extract 1 s.size).data.toList := by
        unfold readL
        rw [hh, h, if_pos rfl, tail_extract]
      rw [e]
      exact read_dash s _ w hs (by omega) h rfl (by rw [ByteArray.size_extract]; omega)
    · have e : readL s.data.toList = readD false s.data.toList := by
        unfold readL
        rw [hh, if_neg (by simpa using h)]
      rw [e]
      exact read_plain s w (by omega) h hs
end Go.Proofs.YtlcapkgbbgpdmaaGreatDoor.K8
