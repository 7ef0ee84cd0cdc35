/- The few functions of the library that the reader calls. -/
import Derived.Test.YtlcapkgbbgpdmaaGreatDoorYC
import Derived.Test.YtlcapkgbbgpdmaaGreatDoorC
import Derived.Test.YtlcapkgbbgpdmaaGreatDoorU
import Derived.Lib.Bytealg
import Derived.Laws.Externs
import Derived.Laws.IdiomStrings
import Derived.WalkSpells
namespace Go.Proofs.YtlcapkgbbgpdmaaGreatDoor.YL
open Go.RowKit Go.Proofs.YtlcapkgbbgpdmaaGreatDoor.P Go.Proofs.YtlcapkgbbgpdmaaGreatDoor.A Go.Proofs.YtlcapkgbbgpdmaaGreatDoor.TK Go.Proofs.YtlcapkgbbgpdmaaGreatDoor.YC Go.Proofs.YtlcapkgbbgpdmaaGreatDoor.C Go.Proofs.YtlcapkgbbgpdmaaGreatDoor.U
set_option linter.unusedVariables false
set_option maxRecDepth 100000

theorem index_yes {c : UInt8} : ∀ {l : List UInt8}, c ∈ l → 0 ≤ Lib.indexByte l c
  | [], h => by cases h
  | b :: l, h => by
    unfold Lib.indexByte
    by_cases e : b = c
    · rw [if_pos (by simpa using e)]; decide
    · rw [if_neg (by simpa using e)]
      have hl : c ∈ l := by
        rcases List.mem_cons.1 h with h | h
        · exact absurd h.symm e
        · exact h
      have := index_yes hl
      rw [if_neg (by rw [beq_iff_eq]; omega)]
      omega
theorem index_no {c : UInt8} : ∀ {l : List UInt8}, c ∉ l → Lib.indexByte l c = -1
  | [], _ => rfl
  | b :: l, h => by
    unfold Lib.indexByte
    rw [List.mem_cons, not_or] at h
    rw [if_neg (by simpa using fun e : b = c => h.1 e.symm), index_no h.2]
    rfl

theorem lindex_any (s : ByteArray) (c : UInt8) (w : World) :
    Calls Tryz.prog 126 #[.string s, .int .u8 (c.toNat : Int)] w fun e w' => e = .returned (.int .i64 (Lib.indexByte s.data.toList c)) ∧ w = w' := by
  have hc : ((c.toNat : Int)).toNat.toUInt8 = c := by simp
  go_enter Tryz.func126, Tryz.ntmps126
  go_wp2
  rw [run_callFunc_extern Tryz.func158 (by kernel_rfl) (by kernel_rfl) (by kernel_rfl) (e := Extern.BytealgIndexByte.indexByte) (by kernel_rfl), Lib.run_indexByteString]
  simp only [Result.andThen]
  rw [Oper.upon_value, hc]
  go_wp2
  go_ret
  exact ⟨rfl, rfl⟩
theorem index_any (s : ByteArray) (c : UInt8) (w : World) :
    Calls Tryz.prog 94 #[.string s, .int .u8 (c.toNat : Int)] w fun e w' => e = .returned (.int .i64 (Lib.indexByte s.data.toList c)) ∧ w = w' := by
  go_enter Tryz.func94, Tryz.ntmps94
  go_wp2_with (first | (go_at_call 126; refine (lindex_any s c _).mono ?_; rintro e w' ⟨rfl, rfl⟩))
  go_ret
  exact ⟨rfl, rfl⟩

theorem pre2 {s : ByteArray} (b : Bool) (h : 2 ≤ s.size) (hb : decide (s.data.toList.take 2 = [45, 62]) = b) : ((s.extract 0 2).toList == [45, 62]) = b := by
  rw [← hb, ByteArray.toList_eq, ByteArray.data_extract, Array.toList_extract, List.extract_eq_take_drop, List.drop_zero, Bool.eq_iff_iff]
  simp
theorem lhas_any (s : ByteArray) (w : World) (hs : s.size ≤ 2100) :
    Calls Tryz.prog 159 #[.string s, .string ⟨#[45, 62]⟩] w fun e w' => e = .returned (.bool (decide (s.data.toList.take 2 = [45, 62]))) ∧ w = w' := by
  obtain ⟨x, hx⟩ : ∃ x, Hid (decide (s.data.toList.take 2 = [45, 62]) = x) := ⟨_, rfl⟩
  rw [hx.out]
  by_cases h : 2 ≤ s.size
  · have e1 := pre2 x h hx.out
    have h2 : (2 : Int) ≤ (s.size : Int) := by omega
    go_enter Tryz.func159, Tryz.ntmps159
    go_wp2
    go_ret
    exact ⟨rfl, rfl⟩
  · have HX : Hid (x = false) := by
      show x = false
      rw [← hx.out, decide_eq_false_iff_not]
      intro e
      have := congrArg List.length e
      simp at this
      omega
    go_enter Tryz.func159, Tryz.ntmps159
    go_wp2
    go_ret
    exact ⟨ret_bool (by rw [HX.out]), rfl⟩
theorem has_any (s : ByteArray) (w : World) (hs : s.size ≤ 2100) :
    Calls Tryz.prog 127 #[.string s, .string ⟨#[45, 62]⟩] w fun e w' => e = .returned (.bool (decide (s.data.toList.take 2 = [45, 62]))) ∧ w = w' := by
  obtain ⟨x, hx⟩ : ∃ x, Hid (decide (s.data.toList.take 2 = [45, 62]) = x) := ⟨_, rfl⟩
  rw [hx.out]
  go_enter Tryz.func127, Tryz.ntmps127
  go_wp2_with (first | (go_at_call 159; refine (lhas_any s _ hs).mono ?_; rw [hx.out]; rintro e w' ⟨rfl, rfl⟩))
  go_ret
  exact ⟨rfl, rfl⟩

theorem sclone_any (s : ByteArray) (w : World) (hs : s.size ≤ 2100) :
    Calls Tryz.prog 160 #[.string s] w fun e w' => e = .returned (.string s) ∧ Below w.heap.size w w' := by
  go_enter Tryz.func160, Tryz.ntmps160
  go_wp2_with (first | (go_at_call 184; refine (clone_any s _ hs).mono ?_; rintro e w1 ⟨rfl, hb1⟩))
  go_ret
  exact ⟨rfl, hb1⟩

/-- What is left where the noughts ahead are cut. -/
def is0 (c : UInt8) : Bool := decide (c = 48)
def tr0 (l : List UInt8) : List UInt8 := l.dropWhile is0
def szOf : Value → Nat | .string t => t.size | _ => 0
theorem tr0_nil {t : ByteArray} (h : t.size = 0) : tr0 t.data.toList = t.data.toList := by rw [list_nil h]; rfl
theorem tr0_next {t : ByteArray} (h : 0 < t.size) (h0 : t[0] = 48) : tr0 t.data.toList = tr0 (t.extract 1 t.size).data.toList := by
  rw [drop_list]
  conv => lhs; rw [list_head h]
  unfold tr0
  rw [List.dropWhile_cons, h0]
  rfl
theorem tr0_stop {t : ByteArray} (h : 0 < t.size) (h0 : t[0] ≠ 48) : tr0 t.data.toList = t.data.toList := by
  conv => lhs; rw [list_head h]
  conv => rhs; rw [list_head h]
  unfold tr0
  rw [List.dropWhile_cons, if_neg]
  simpa [is0] using h0
theorem tr0_out {t : ByteArray} {R : List UInt8} (h : t.data.toList = R) : t = ⟨R.toArray⟩ := by
  subst h; exact ByteArray.ext (by simp)
theorem ret_str {a b : ByteArray} (h : a = b) : Ending.returned (.string a) = .returned (.string b) := by rw [h]

theorem trimByte_any (s : ByteArray) (w : World) (hs : s.size ≤ 2100) :
    Calls Tryz.prog 150 #[.string s, .int .u8 48] w fun e w' => e = .returned (.string ⟨(tr0 s.data.toList).toArray⟩) ∧ w = w' := by
  obtain ⟨R, hR⟩ : ∃ R, Hid (tr0 s.data.toList = R) := ⟨_, rfl⟩
  rw [hR.out]
  go_enter Tryz.func150, Tryz.ntmps150
  go_wp2
  go_loop [0] (fun v => ∃ t : ByteArray, v = .string t ∧ t.size ≤ 2100 ∧ Hid (tr0 t.data.toList = R)) (fun v => szOf v)
  case atStart => exact ⟨s, rfl, hs, hR⟩
  case round =>
    obtain ⟨t, rfl, ht, HR⟩ := hrel
    clear hR
    by_cases h0 : t.size = 0
    · have HT : Hid (t = ⟨R.toArray⟩) := tr0_out ((tr0_nil h0).symm.trans HR.out)
      go_wp2
      go_ret
      exact ⟨ret_str HT.out, rfl⟩
    · have hp : 0 < t.size := by omega
      by_cases hc : t[0] = 48
      · have HN : Hid (tr0 (t.extract 1 t.size).data.toList = R) := (tr0_next hp hc).symm.trans HR.out
        have t1 : ((t[0].toNat : Int) == 48) = true := by rw [hc]; rfl
        clear hc
        go_wp2
        go_round
        case rel => exact ⟨t.extract 1 t.size, rfl, by simp; omega, HN⟩
        case measure => simp [szOf]; omega
      · have HT : Hid (t = ⟨R.toArray⟩) := tr0_out ((tr0_stop hp hc).symm.trans HR.out)
        have t1 : ((t[0].toNat : Int) == 48) = false := by
          rw [beq_eq_false_iff_ne]; intro e; exact hc (UInt8.toNat_inj.1 (by show _ = 48; omega))
        clear hc
        go_wp2
        go_ret
        exact ⟨ret_str HT.out, rfl⟩
set_option maxRecDepth 100000 in
theorem trim_any (s : ByteArray) (w : World) (hs : s.size ≤ 2100) :
    Calls Tryz.prog 122 #[.string s, .string ⟨#[48]⟩] w fun e w' => e = .returned (.string ⟨(tr0 s.data.toList).toArray⟩) ∧ w = w' := by
  by_cases h0 : s.size = 0
  · have e : s = ⟨(tr0 s.data.toList).toArray⟩ := tr0_out (tr0_nil h0).symm
    rw [← e]
    have hb : (s.toList == []) = true := by rw [ByteArray.toList_eq, list_nil h0]; rfl
    have he : s.toList = [] := by simpa using hb
    clear e
    go_enter Tryz.func122, Tryz.ntmps122
    go_wp2
    go_ret
    exact ⟨rfl, rfl⟩
  · have hb : (s.toList == []) = false := by rw [ByteArray.toList_eq, list_head (by omega)]; rfl
    have he : s.toList.isEmpty = false := by rw [ByteArray.toList_eq, list_head (by omega)]; rfl
    go_enter Tryz.func122, Tryz.ntmps122
    go_wp2_with (first | (go_at_call 150; refine (trimByte_any s _ hs).mono ?_; rintro e w' ⟨rfl, rfl⟩))
    go_ret
    exact ⟨rfl, rfl⟩
end Go.Proofs.YtlcapkgbbgpdmaaGreatDoor.YL
