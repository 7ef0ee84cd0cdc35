/- Kinds of bytes: what may stand in a name, keys, signs. -/
import Derived.Test.YtlcapkgbbgpdmaaGreatDoorYC
namespace Go.Proofs.YtlcapkgbbgpdmaaGreatDoor.YK
open Go.RowKit Go.Proofs.YtlcapkgbbgpdmaaGreatDoor.P Go.Proofs.YtlcapkgbbgpdmaaGreatDoor.A Go.Proofs.YtlcapkgbbgpdmaaGreatDoor.TK Go.Proofs.YtlcapkgbbgpdmaaGreatDoor.YC
set_option linter.unusedVariables false
set_option maxRecDepth 100000

theorem mayName_any (b : UInt8) (w : World) :
    Calls Tryz.prog 157 #[.int .u8 (b.toNat : Int)] w fun e w' => e = .returned (.bool (isN b)) ∧ w = w' := by
  obtain ⟨x, hx⟩ : ∃ x, Hid (x = isN b) := ⟨_, rfl⟩
  rw [← hx.out]
  have c1 := small_any b
  have c2 := capital_any b
  have c3 := digit_any b
  cases hS : isS b with
  | true =>
    have HX : Hid (x = true) := by have h := hx.out; unfold isN at h; rw [hS] at h; exact h
    rw [hS] at c1
    clear hS
    go_enter Tryz.func157, Tryz.ntmps157
    go_wp2_with (first | (go_at_call 90; refine (c1 _).mono ?_; rintro e w' ⟨rfl, rfl⟩))
    go_ret
    exact ⟨ret_bool (by rw [HX.out]), rfl⟩
  | false =>
    cases hL : isL b with
    | true =>
      have HX : Hid (x = true) := by have h := hx.out; unfold isN at h; rw [hS, hL] at h; exact h
      rw [hS] at c1
      rw [hL] at c2
      clear hS hL
      go_enter Tryz.func157, Tryz.ntmps157
      go_wp2_with (first | (go_at_call 90; refine (c1 _).mono ?_; rintro e w' ⟨rfl, rfl⟩) | (go_at_call 92; refine (c2 _).mono ?_; rintro e w' ⟨rfl, rfl⟩))
      go_ret
      exact ⟨ret_bool (by rw [HX.out]), rfl⟩
    | false =>
      cases hD : isD b with
      | true =>
        have HX : Hid (x = true) := by have h := hx.out; unfold isN at h; rw [hS, hL, hD] at h; exact h
        rw [hS] at c1
        rw [hL] at c2
        rw [hD] at c3
        clear hS hL hD
        go_enter Tryz.func157, Tryz.ntmps157
        go_wp2_with (first | (go_at_call 90; refine (c1 _).mono ?_; rintro e w' ⟨rfl, rfl⟩) | (go_at_call 92; refine (c2 _).mono ?_; rintro e w' ⟨rfl, rfl⟩) | (go_at_call 87; refine (c3 _).mono ?_; rintro e w' ⟨rfl, rfl⟩))
        go_ret
        exact ⟨ret_bool (by rw [HX.out]), rfl⟩
      | false =>
        have HX : Hid (x = decide (b = 95)) := by have h := hx.out; unfold isN at h; rw [hS, hL, hD] at h; exact h
        rw [hS] at c1
        rw [hL] at c2
        rw [hD] at c3
        clear hS hL hD
        obtain ⟨y, hy⟩ : ∃ y : Bool, ((b.toNat : Int) == 95) = y := ⟨_, rfl⟩
        have HY : Hid (x = y) := by
          show x = y
          rw [HX.out, ← hy, Bool.eq_iff_iff]
          simp only [decide_eq_true_eq, beq_iff_eq]
          constructor
          · intro h; rw [h]; rfl
          · intro h; apply UInt8.toNat_inj.1; show b.toNat = 95; omega
        go_enter Tryz.func157, Tryz.ntmps157
        go_wp2_with (first | (go_at_call 90; refine (c1 _).mono ?_; rintro e w' ⟨rfl, rfl⟩) | (go_at_call 92; refine (c2 _).mono ?_; rintro e w' ⟨rfl, rfl⟩) | (go_at_call 87; refine (c3 _).mono ?_; rintro e w' ⟨rfl, rfl⟩))
        go_ret
        exact ⟨ret_bool (by rw [HY.out]), rfl⟩

theorem mk_of {s : ByteArray} {k : List UInt8} (h : s.data.toList = k) : s = ⟨k.toArray⟩ := by
  subst h; exact ByteArray.ext (by simp)
theorem no_key {s : ByteArray} {k : List UInt8} (hk : k ∈ keys) (h : s.data.toList ∉ keys) : (s.toList == k) = false := by
  rw [ByteArray.toList_eq, beq_eq_false_iff_ne]; intro e; exact h (e ▸ hk)

theorem key_yes0 (w : World) :
    Calls Tryz.prog 125 #[.string ⟨#[108, 101, 116]⟩] w fun e w' => e = .returned (.bool true) ∧ w = w' := by
  go_enter Tryz.func125, Tryz.ntmps125
  go_wp2
  go_ret
  exact ⟨rfl, rfl⟩
theorem key_yes1 (w : World) :
    Calls Tryz.prog 125 #[.string ⟨#[114, 101, 99]⟩] w fun e w' => e = .returned (.bool true) ∧ w = w' := by
  go_enter Tryz.func125, Tryz.ntmps125
  go_wp2
  go_ret
  exact ⟨rfl, rfl⟩
theorem key_yes2 (w : World) :
    Calls Tryz.prog 125 #[.string ⟨#[105, 110]⟩] w fun e w' => e = .returned (.bool true) ∧ w = w' := by
  go_enter Tryz.func125, Tryz.ntmps125
  go_wp2
  go_ret
  exact ⟨rfl, rfl⟩
theorem key_yes3 (w : World) :
    Calls Tryz.prog 125 #[.string ⟨#[102, 117, 110]⟩] w fun e w' => e = .returned (.bool true) ∧ w = w' := by
  go_enter Tryz.func125, Tryz.ntmps125
  go_wp2
  go_ret
  exact ⟨rfl, rfl⟩
theorem key_yes4 (w : World) :
    Calls Tryz.prog 125 #[.string ⟨#[105, 102]⟩] w fun e w' => e = .returned (.bool true) ∧ w = w' := by
  go_enter Tryz.func125, Tryz.ntmps125
  go_wp2
  go_ret
  exact ⟨rfl, rfl⟩
theorem key_yes5 (w : World) :
    Calls Tryz.prog 125 #[.string ⟨#[116, 104, 101, 110]⟩] w fun e w' => e = .returned (.bool true) ∧ w = w' := by
  go_enter Tryz.func125, Tryz.ntmps125
  go_wp2
  go_ret
  exact ⟨rfl, rfl⟩
theorem key_yes6 (w : World) :
    Calls Tryz.prog 125 #[.string ⟨#[101, 108, 115, 101]⟩] w fun e w' => e = .returned (.bool true) ∧ w = w' := by
  go_enter Tryz.func125, Tryz.ntmps125
  go_wp2
  go_ret
  exact ⟨rfl, rfl⟩
theorem key_yes7 (w : World) :
    Calls Tryz.prog 125 #[.string ⟨#[109, 97, 116, 99, 104]⟩] w fun e w' => e = .returned (.bool true) ∧ w = w' := by
  go_enter Tryz.func125, Tryz.ntmps125
  go_wp2
  go_ret
  exact ⟨rfl, rfl⟩
theorem key_yes8 (w : World) :
    Calls Tryz.prog 125 #[.string ⟨#[119, 105, 116, 104]⟩] w fun e w' => e = .returned (.bool true) ∧ w = w' := by
  go_enter Tryz.func125, Tryz.ntmps125
  go_wp2
  go_ret
  exact ⟨rfl, rfl⟩
theorem key_yes9 (w : World) :
    Calls Tryz.prog 125 #[.string ⟨#[101, 110, 100]⟩] w fun e w' => e = .returned (.bool true) ∧ w = w' := by
  go_enter Tryz.func125, Tryz.ntmps125
  go_wp2
  go_ret
  exact ⟨rfl, rfl⟩
theorem key_yes10 (w : World) :
    Calls Tryz.prog 125 #[.string ⟨#[116, 114, 121]⟩] w fun e w' => e = .returned (.bool true) ∧ w = w' := by
  go_enter Tryz.func125, Tryz.ntmps125
  go_wp2
  go_ret
  exact ⟨rfl, rfl⟩
theorem key_yes11 (w : World) :
    Calls Tryz.prog 125 #[.string ⟨#[112, 114, 105, 110, 116]⟩] w fun e w' => e = .returned (.bool true) ∧ w = w' := by
  go_enter Tryz.func125, Tryz.ntmps125
  go_wp2
  go_ret
  exact ⟨rfl, rfl⟩
theorem key_yes12 (w : World) :
    Calls Tryz.prog 125 #[.string ⟨#[114, 97, 105, 115, 101]⟩] w fun e w' => e = .returned (.bool true) ∧ w = w' := by
  go_enter Tryz.func125, Tryz.ntmps125
  go_wp2
  go_ret
  exact ⟨rfl, rfl⟩
theorem key_yes13 (w : World) :
    Calls Tryz.prog 125 #[.string ⟨#[115, 112, 97, 119, 110]⟩] w fun e w' => e = .returned (.bool true) ∧ w = w' := by
  go_enter Tryz.func125, Tryz.ntmps125
  go_wp2
  go_ret
  exact ⟨rfl, rfl⟩
theorem key_yes14 (w : World) :
    Calls Tryz.prog 125 #[.string ⟨#[97, 116, 111, 109, 105, 99, 97, 108, 108, 121]⟩] w fun e w' => e = .returned (.bool true) ∧ w = w' := by
  go_enter Tryz.func125, Tryz.ntmps125
  go_wp2
  go_ret
  exact ⟨rfl, rfl⟩
theorem key_yes15 (w : World) :
    Calls Tryz.prog 125 #[.string ⟨#[114, 101, 116, 114, 121]⟩] w fun e w' => e = .returned (.bool true) ∧ w = w' := by
  go_enter Tryz.func125, Tryz.ntmps125
  go_wp2
  go_ret
  exact ⟨rfl, rfl⟩
theorem key_yes16 (w : World) :
    Calls Tryz.prog 125 #[.string ⟨#[111, 114, 101, 108, 115, 101]⟩] w fun e w' => e = .returned (.bool true) ∧ w = w' := by
  go_enter Tryz.func125, Tryz.ntmps125
  go_wp2
  go_ret
  exact ⟨rfl, rfl⟩
theorem key_yes17 (w : World) :
    Calls Tryz.prog 125 #[.string ⟨#[116, 118, 97, 114]⟩] w fun e w' => e = .returned (.bool true) ∧ w = w' := by
  go_enter Tryz.func125, Tryz.ntmps125
  go_wp2
  go_ret
  exact ⟨rfl, rfl⟩
theorem key_yes18 (w : World) :
    Calls Tryz.prog 125 #[.string ⟨#[114, 101, 97, 100]⟩] w fun e w' => e = .returned (.bool true) ∧ w = w' := by
  go_enter Tryz.func125, Tryz.ntmps125
  go_wp2
  go_ret
  exact ⟨rfl, rfl⟩
theorem key_yes19 (w : World) :
    Calls Tryz.prog 125 #[.string ⟨#[119, 114, 105, 116, 101]⟩] w fun e w' => e = .returned (.bool true) ∧ w = w' := by
  go_enter Tryz.func125, Tryz.ntmps125
  go_wp2
  go_ret
  exact ⟨rfl, rfl⟩
theorem key_yes20 (w : World) :
    Calls Tryz.prog 125 #[.string ⟨#[116, 121, 112, 101]⟩] w fun e w' => e = .returned (.bool true) ∧ w = w' := by
  go_enter Tryz.func125, Tryz.ntmps125
  go_wp2
  go_ret
  exact ⟨rfl, rfl⟩
theorem key_yes21 (w : World) :
    Calls Tryz.prog 125 #[.string ⟨#[111, 102]⟩] w fun e w' => e = .returned (.bool true) ∧ w = w' := by
  go_enter Tryz.func125, Tryz.ntmps125
  go_wp2
  go_ret
  exact ⟨rfl, rfl⟩
theorem key_yes22 (w : World) :
    Calls Tryz.prog 125 #[.string ⟨#[100, 111]⟩] w fun e w' => e = .returned (.bool true) ∧ w = w' := by
  go_enter Tryz.func125, Tryz.ntmps125
  go_wp2
  go_ret
  exact ⟨rfl, rfl⟩
theorem key_no (s : ByteArray) (w : World) (h : s.data.toList ∉ keys) :
    Calls Tryz.prog 125 #[.string s] w fun e w' => e = .returned (.bool false) ∧ w = w' := by
  have e0 : (s.toList == [108, 101, 116]) = false := no_key (by decide) h
  have e1 : (s.toList == [114, 101, 99]) = false := no_key (by decide) h
  have e2 : (s.toList == [105, 110]) = false := no_key (by decide) h
  have e3 : (s.toList == [102, 117, 110]) = false := no_key (by decide) h
  have e4 : (s.toList == [105, 102]) = false := no_key (by decide) h
  have e5 : (s.toList == [116, 104, 101, 110]) = false := no_key (by decide) h
  have e6 : (s.toList == [101, 108, 115, 101]) = false := no_key (by decide) h
  have e7 : (s.toList == [109, 97, 116, 99, 104]) = false := no_key (by decide) h
  have e8 : (s.toList == [119, 105, 116, 104]) = false := no_key (by decide) h
  have e9 : (s.toList == [101, 110, 100]) = false := no_key (by decide) h
  have e10 : (s.toList == [116, 114, 121]) = false := no_key (by decide) h
  have e11 : (s.toList == [112, 114, 105, 110, 116]) = false := no_key (by decide) h
  have e12 : (s.toList == [114, 97, 105, 115, 101]) = false := no_key (by decide) h
  have e13 : (s.toList == [115, 112, 97, 119, 110]) = false := no_key (by decide) h
  have e14 : (s.toList == [97, 116, 111, 109, 105, 99, 97, 108, 108, 121]) = false := no_key (by decide) h
  have e15 : (s.toList == [114, 101, 116, 114, 121]) = false := no_key (by decide) h
  have e16 : (s.toList == [111, 114, 101, 108, 115, 101]) = false := no_key (by decide) h
  have e17 : (s.toList == [116, 118, 97, 114]) = false := no_key (by decide) h
  have e18 : (s.toList == [114, 101, 97, 100]) = false := no_key (by decide) h
  have e19 : (s.toList == [119, 114, 105, 116, 101]) = false := no_key (by decide) h
  have e20 : (s.toList == [116, 121, 112, 101]) = false := no_key (by decide) h
  have e21 : (s.toList == [111, 102]) = false := no_key (by decide) h
  have e22 : (s.toList == [100, 111]) = false := no_key (by decide) h
  clear h
  go_enter Tryz.func125, Tryz.ntmps125
  go_wp2
  go_ret
  exact ⟨rfl, rfl⟩
theorem key_any (s : ByteArray) (w : World) :
    Calls Tryz.prog 125 #[.string s] w fun e w' => e = .returned (.bool (isKey s.data.toList)) ∧ w = w' := by
  by_cases h : s.data.toList ∈ keys
  · have hk : isKey s.data.toList = true := decide_eq_true h
    rw [hk]
    clear hk
    unfold keys at h
    simp only [List.mem_cons, List.not_mem_nil, or_false] at h
    rcases h with h | h | h | h | h | h | h | h | h | h | h | h | h | h | h | h | h | h | h | h | h | h | h
    · rw [mk_of h]; exact key_yes0 w
    · rw [mk_of h]; exact key_yes1 w
    · rw [mk_of h]; exact key_yes2 w
    · rw [mk_of h]; exact key_yes3 w
    · rw [mk_of h]; exact key_yes4 w
    · rw [mk_of h]; exact key_yes5 w
    · rw [mk_of h]; exact key_yes6 w
    · rw [mk_of h]; exact key_yes7 w
    · rw [mk_of h]; exact key_yes8 w
    · rw [mk_of h]; exact key_yes9 w
    · rw [mk_of h]; exact key_yes10 w
    · rw [mk_of h]; exact key_yes11 w
    · rw [mk_of h]; exact key_yes12 w
    · rw [mk_of h]; exact key_yes13 w
    · rw [mk_of h]; exact key_yes14 w
    · rw [mk_of h]; exact key_yes15 w
    · rw [mk_of h]; exact key_yes16 w
    · rw [mk_of h]; exact key_yes17 w
    · rw [mk_of h]; exact key_yes18 w
    · rw [mk_of h]; exact key_yes19 w
    · rw [mk_of h]; exact key_yes20 w
    · rw [mk_of h]; exact key_yes21 w
    · rw [mk_of h]; exact key_yes22 w
  · have hk : isKey s.data.toList = false := decide_eq_false h
    rw [hk]
    exact key_no s w h
end Go.Proofs.YtlcapkgbbgpdmaaGreatDoor.YK
