/- How the program reads what is written: digits, what stands behind a backslash, the first byte. -/
import Derived.Test.YtlcapkgbbgpdmaaGreatDoorW
import Derived.Test.YtlcapkgbbgpdmaaGreatDoorD
import Derived.Test.YtlcapkgbbgpdmaaGreatDoorD2
import Derived.Test.YtlcapkgbbgpdmaaGreatDoorQ
import Derived.OwnWalk
import Derived.Lib.Hide
namespace Go.Proofs.YtlcapkgbbgpdmaaGreatDoor.U
open Go.RowKit Go.Maps Go.Proofs.YtlcapkgbbgpdmaaGreatDoor.P Go.Proofs.YtlcapkgbbgpdmaaGreatDoor.A Go.Proofs.YtlcapkgbbgpdmaaGreatDoor.W Go.Proofs.YtlcapkgbbgpdmaaGreatDoor.D Go.Proofs.YtlcapkgbbgpdmaaGreatDoor.D2 Go.Proofs.YtlcapkgbbgpdmaaGreatDoor.Q
set_option linter.unusedVariables false
set_option maxRecDepth 100000

theorem dv_dn (b : UInt8) : dv b = if dn b < 16 then (dn b : Int) else -1 := by
  unfold dv dn
  by_cases h1 : 48 ≤ b.toNat ∧ b.toNat ≤ 57
  · rw [if_pos h1, if_pos h1, if_pos (by omega)]; omega
  · rw [if_neg h1, if_neg h1]
    by_cases h2 : 97 ≤ b.toNat ∧ b.toNat ≤ 102
    · rw [if_pos h2, if_pos h2, if_pos (by omega)]; omega
    · rw [if_neg h2, if_neg h2]; rfl

abbrev tv (r : UInt8 × Nat) : Value := .tuple #[.int .u8 (r.1.toNat : Int), .int .i64 (r.2 : Int)]
abbrev fv (r : UInt8 × Nat × Nat) : Value := .tuple #[.int .u8 (r.1.toNat : Int), .int .i64 (r.2.1 : Int), .int .i64 (r.2.2 : Int)]

theorem list_nil {s : ByteArray} (h : s.size = 0) : s.data.toList = [] := List.eq_nil_of_length_eq_zero (by simpa using h)
theorem list_head {s : ByteArray} (h : 0 < s.size) : s.data.toList = s[0] :: s.data.toList.drop 1 := by
  have hl : 0 < s.data.toList.length := by simpa using h
  have := List.drop_eq_getElem_cons hl
  rw [List.drop_zero] at this
  exact this
theorem list_two {s : ByteArray} (h : 1 < s.size) : s.data.toList = s[0] :: s[1] :: s.data.toList.drop 2 := by
  have h0 : 0 < s.data.toList.length := by simp; omega
  have h1 : 1 < s.data.toList.length := by simpa using h
  have e0 := List.drop_eq_getElem_cons h0
  have e1 := List.drop_eq_getElem_cons h1
  rw [List.drop_zero] at e0
  rw [e0, e1]; rfl

theorem two_none (s : ByteArray) (w : World) (h0 : s.size = 0) :
    Calls Tryz.prog 195 #[.string s] w fun e w' => e = .returned (.tuple #[.int .u8 0, .int .i64 11]) ∧ w = w' := by
  go_enter Tryz.func195, Tryz.ntmps195
  go_wp2
  refine wp_loop_rounds 3 ?_
  rw [rounds_succ]
  go_wp2_with fail
  go_ret2
  exact ⟨rfl, rfl⟩
theorem two_bad (s : ByteArray) (w : World) (hd : Dig w) (h0 : 0 < s.size) (e0 : dv s[0] = -1) :
    Calls Tryz.prog 195 #[.string s] w fun e w' => e = .returned (.tuple #[.int .u8 0, .int .i64 10]) ∧ w = w' := by
  go_enter Tryz.func195, Tryz.ntmps195
  go_wp2
  refine wp_loop_rounds 3 ?_
  rw [rounds_succ]
  go_wp2_with (first | (go_at_call 205; refine (digit_any s[0] _ hd).mono ?_; rw [e0]; rintro e w0 ⟨rfl, rfl⟩))
  go_ret2
  exact ⟨rfl, rfl⟩
theorem two_short (s : ByteArray) (w : World) (hd : Dig w) (h0 : 0 < s.size) (h1 : s.size ≤ 1) (n : Nat) (hn : n < 16) (e0 : dv s[0] = (n : Int)) :
    Calls Tryz.prog 195 #[.string s] w fun e w' => e = .returned (.tuple #[.int .u8 0, .int .i64 11]) ∧ w = w' := by
  have hs : (s.size : Int) = 1 := by omega
  go_enter Tryz.func195, Tryz.ntmps195
  go_wp2
  refine wp_loop_rounds 3 ?_
  rw [rounds_succ]
  go_wp2_with (first | (go_at_call 205; refine (digit_any s[0] _ hd).mono ?_; rw [e0]; rintro e w0 ⟨rfl, rfl⟩))
  rw [rounds_succ]
  go_wp2_with (first | (go_at_call 205; refine (digit_any s[1] _ hd).mono ?_; rw [e1]; rintro e w0 ⟨rfl, rfl⟩))
  go_ret2
  exact ⟨rfl, rfl⟩
theorem two_bad1 (s : ByteArray) (w : World) (hd : Dig w) (h1 : 1 < s.size) (n : Nat) (hn : n < 16) (e0 : dv s[0] = (n : Int)) (e1 : dv s[1] = -1) :
    Calls Tryz.prog 195 #[.string s] w fun e w' => e = .returned (.tuple #[.int .u8 0, .int .i64 10]) ∧ w = w' := by
  go_enter Tryz.func195, Tryz.ntmps195
  go_wp2
  refine wp_loop_rounds 3 ?_
  rw [rounds_succ]
  go_wp2_with (first | (go_at_call 205; refine (digit_any s[0] _ hd).mono ?_; rw [e0]; rintro e w0 ⟨rfl, rfl⟩))
  rw [rounds_succ]
  go_wp2_with (first | (go_at_call 205; refine (digit_any s[1] _ hd).mono ?_; rw [e1]; rintro e w0 ⟨rfl, rfl⟩))
  go_ret2
  exact ⟨rfl, rfl⟩
theorem two_good (s : ByteArray) (w : World) (hd : Dig w) (h1 : 1 < s.size) (n m : Nat) (hn : n < 16) (hm : m < 16) (e0 : dv s[0] = (n : Int)) (e1 : dv s[1] = (m : Int)) :
    Calls Tryz.prog 195 #[.string s] w fun e w' => e = .returned (.tuple #[.int .u8 ((16 * n + m : Nat) : Int), .int .i64 0]) ∧ w = w' := by
  go_enter Tryz.func195, Tryz.ntmps195
  go_wp2
  refine wp_loop_rounds 3 ?_
  rw [rounds_succ]
  go_wp2_with (first | (go_at_call 205; refine (digit_any s[0] _ hd).mono ?_; rw [e0]; rintro e w0 ⟨rfl, rfl⟩))
  rw [rounds_succ]
  go_wp2_with (first | (go_at_call 205; refine (digit_any s[1] _ hd).mono ?_; rw [e1]; rintro e w0 ⟨rfl, rfl⟩))
  rw [rounds_succ]
  go_wp2_with fail
  go_ret2
  exact ⟨ret_two (by omega), rfl⟩

theorem two_any (s : ByteArray) (w : World) (hd : Dig w) (r : UInt8 × Nat) (hr : td s.data.toList = r) :
    Calls Tryz.prog 195 #[.string s] w fun e w' => e = .returned (tv r) ∧ w = w' := by
  subst hr
  by_cases h0 : s.size = 0
  · rw [list_nil h0]
    exact two_none s w h0
  · by_cases d0 : dn s[0] < 16
    · have e0 : dv s[0] = (dn s[0] : Int) := by rw [dv_dn, if_pos d0]
      by_cases h1 : s.size = 1
      · have e : td s.data.toList = (0, 11) := by
          rw [list_head (by omega), List.drop_eq_nil_of_le (by simp; omega)]
          simp [td, d0]
        rw [e]
        exact two_short s w hd (by omega) (by omega) _ d0 e0
      · by_cases d1 : dn s[1] < 16
        · have e1 : dv s[1] = (dn s[1] : Int) := by rw [dv_dn, if_pos d1]
          have e : td s.data.toList = (UInt8.ofNat (16 * dn s[0] + dn s[1]), 0) := by
            rw [list_two (by omega)]
            simp [td, d0, d1]
          rw [e]
          have := two_good s w hd (by omega) _ _ d0 d1 e0 e1
          rw [← byte_ofNat (16 * dn s[0] + dn s[1]) (by omega)] at this
          exact this
        · have e1 : dv s[1] = -1 := by rw [dv_dn, if_neg d1]
          have e : td s.data.toList = (0, 10) := by
            rw [list_two (by omega)]
            simp [td, d0, d1]
          rw [e]
          exact two_bad1 s w hd (by omega) _ d0 e0 e1
    · have e0 : dv s[0] = -1 := by rw [dv_dn, if_neg d0]
      have e : td s.data.toList = (0, 10) := by
        by_cases h1 : s.size = 1
        · rw [list_head (by omega), List.drop_eq_nil_of_le (by simp; omega)]
          simp [td, d0]
        · rw [list_two (by omega)]
          simp [td, d0]
      rw [e]
      exact two_bad s w hd (by omega) e0

theorem drop_list (s : ByteArray) (i : Nat) : (s.extract i s.size).data.toList = s.data.toList.drop i := by
  simp
  exact List.take_of_length_le (by simp)

theorem behind_any (s : ByteArray) (w : World) (hd : Dig w) (b : Nat) (D : DataW Unit) (hD : IsMeant D) (hm : Map w b D) (r : UInt8 × Nat × Nat) (hr : bh s.data.toList = r) :
    Calls Tryz.prog 182 #[.string s, .map (some b)] w fun e w' => e = .returned (fv r) ∧ w = w' := by
  subst hr
  by_cases h0 : s.size = 0
  · rw [list_nil h0]
    have hb : (s.toList == []) = true := by rw [ByteArray.toList_eq, list_nil h0]; rfl
    go_enter Tryz.func182, Tryz.ntmps182
    go_wp2
    go_ret3
    exact ⟨rfl, rfl⟩
  · have hp : 0 < s.size := by omega
    have hb : (s.toList == []) = false := by rw [ByteArray.toList_eq, list_head hp]; rfl
    by_cases hx : s[0] = 120
    · have e : bh s.data.toList = ((td (s.data.toList.drop 1)).1, 4, (td (s.data.toList.drop 1)).2) := by
        rw [list_head hp, hx, bh_cons, if_pos rfl]; rfl
      rw [e]
      obtain ⟨r2, hr2⟩ : ∃ r2, td (s.data.toList.drop 1) = r2 := ⟨_, rfl⟩
      rw [hr2]
      rw [← drop_list] at hr2
      have h120 : ((s[0].toNat : Int) == 120) = true := by rw [hx]; rfl
      clear e hx
      go_enter Tryz.func182, Tryz.ntmps182
      go_wp2_with (first | (go_at_call 195; refine (two_any _ _ hd r2 hr2).mono ?_; rintro e w0 ⟨rfl, rfl⟩))
      go_ret3
      exact ⟨rfl, rfl⟩
    · have h120 : ((s[0].toNat : Int) == 120) = false := by
        rw [beq_eq_false_iff_ne]; intro e; exact hx (UInt8.toNat_inj.1 (by simpa using Int.ofNat_inj.1 e))
      cases hh : Maps.has D (kb (s[0].toNat : Int)) with
      | true =>
        obtain ⟨r2, hr2⟩ : ∃ r2, Hid (bh s.data.toList = r2) := ⟨_, rfl⟩
        rw [hr2.out]
        have HX := Lib.hid hx
        clear hx
        go_enter Tryz.func182, Tryz.ntmps182
        go_wp2_with (first
          | (at_lookup; go_loud (refine wpList_lookup_own_ok_int _ rfl _ _ 143 rfl 5 5 .u8 lawB Tryz.underlying143 Tryz.underlying5 (zeroB _) b 3 D rfl hm _ _ rfl (keyB (byte_wf s[0])) ?_); intro c hat hwc; have HH := Lib.hid (meant_hit hD hh hat); clear hat))
        go_ret3
        refine ⟨?_, rfl⟩
        rw [← hr2.out, list_head hp, bh_cons, if_neg HX.out]
        rcases HH.out with ⟨e1, rfl⟩ | ⟨e1, rfl⟩ | ⟨e1, rfl⟩
        · rw [if_pos (UInt8.toNat_inj.1 (by show _ = 34; omega))]; rfl
        · rw [if_neg (fun e => by rw [e] at e1; revert e1; decide), if_pos (UInt8.toNat_inj.1 (by show _ = 92; omega))]; rfl
        · rw [if_neg (fun e => by rw [e] at e1; revert e1; decide), if_neg (fun e => by rw [e] at e1; revert e1; decide), if_pos (UInt8.toNat_inj.1 (by show _ = 110; omega))]; rfl
      | false =>
        have e : bh s.data.toList = (0, 0, 10) := by
          obtain ⟨n1, n2, n3⟩ := meant_miss hD hh
          rw [list_head hp, bh_cons, if_neg hx, if_neg (fun e => n1 (by rw [e]; rfl)), if_neg (fun e => n2 (by rw [e]; rfl)), if_neg (fun e => n3 (by rw [e]; rfl))]
        rw [e]
        clear e hx
        go_enter Tryz.func182, Tryz.ntmps182
        go_wp2_with (first
          | (at_lookup; go_loud (refine wpList_lookup_own_ok_int _ rfl _ _ 143 rfl 5 5 .u8 lawB Tryz.underlying143 Tryz.underlying5 (zeroB _) b 3 D rfl hm _ _ rfl (keyB (byte_wf s[0])) ?_); intro c hat hwc; clear hat))
        go_ret3
        exact ⟨rfl, rfl⟩
end Go.Proofs.YtlcapkgbbgpdmaaGreatDoor.U
