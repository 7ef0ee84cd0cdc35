/- the document's Tokens, walked: several texts in one. -/
import Derived.Test.YtlcapkgbbgpdmaaGreatDoorYK
import Derived.Test.YtlcapkgbbgpdmaaGreatDoorV
import Derived.OneCell
import Derived.Outline
import Derived.Test.YtlcapkgbbgpdmaaGreatDoorYW
import Derived.Test.YtlcapkgbbgpdmaaGreatDoorTR
import Derived.Test.YtlcapkgbbgpdmaaGreatDoorRU
import Derived.Test.YtlcapkgbbgpdmaaGreatDoorZA
import Derived.Test.YtlcapkgbbgpdmaaGreatDoorTP
import Derived.Test.YtlcapkgbbgpdmaaGreatDoorYT
import Derived.Deep.LoopGhost

/- Whether a text is a key, a byte a sign: the document's answers. -/
namespace Go.Proofs.YtlcapkgbbgpdmaaGreatDoor.YE
open Go.RowKit Go.Proofs.YtlcapkgbbgpdmaaGreatDoor.P Go.Proofs.YtlcapkgbbgpdmaaGreatDoor.A Go.Proofs.YtlcapkgbbgpdmaaGreatDoor.V Go.Proofs.YtlcapkgbbgpdmaaGreatDoor.TK Go.Proofs.YtlcapkgbbgpdmaaGreatDoor.YC Go.Proofs.YtlcapkgbbgpdmaaGreatDoor.YK
set_option linter.unusedVariables false
set_option maxRecDepth 100000

def KC : Array Value := #[.string ⟨#[108, 101, 116]⟩, .string ⟨#[114, 101, 99]⟩, .string ⟨#[105, 110]⟩, .string ⟨#[102, 117, 110]⟩, .string ⟨#[105, 102]⟩, .string ⟨#[116, 104, 101, 110]⟩, .string ⟨#[101, 108, 115, 101]⟩, .string ⟨#[109, 97, 116, 99, 104]⟩, .string ⟨#[119, 105, 116, 104]⟩, .string ⟨#[101, 110, 100]⟩, .string ⟨#[116, 114, 121]⟩, .string ⟨#[112, 114, 105, 110, 116]⟩, .string ⟨#[114, 97, 105, 115, 101]⟩, .string ⟨#[115, 112, 97, 119, 110]⟩, .string ⟨#[97, 116, 111, 109, 105, 99, 97, 108, 108, 121]⟩, .string ⟨#[114, 101, 116, 114, 121]⟩, .string ⟨#[111, 114, 101, 108, 115, 101]⟩, .string ⟨#[116, 118, 97, 114]⟩, .string ⟨#[114, 101, 97, 100]⟩, .string ⟨#[119, 114, 105, 116, 101]⟩, .string ⟨#[116, 121, 112, 101]⟩, .string ⟨#[111, 102]⟩, .string ⟨#[100, 111]⟩]
theorem KC_at : ∀ k (h : k < 23), KC[k]? = some (.string ⟨(keys[k]'h).toArray⟩)
  | 0, _ => rfl
  | 1, _ => rfl
  | 2, _ => rfl
  | 3, _ => rfl
  | 4, _ => rfl
  | 5, _ => rfl
  | 6, _ => rfl
  | 7, _ => rfl
  | 8, _ => rfl
  | 9, _ => rfl
  | 10, _ => rfl
  | 11, _ => rfl
  | 12, _ => rfl
  | 13, _ => rfl
  | 14, _ => rfl
  | 15, _ => rfl
  | 16, _ => rfl
  | 17, _ => rfl
  | 18, _ => rfl
  | 19, _ => rfl
  | 20, _ => rfl
  | 21, _ => rfl
  | 22, _ => rfl
  | k + 23, h => absurd h (by omega)
theorem rkey_any (s : ByteArray) (w : World) :
    Calls Tryz.prog 59 #[.string s] w fun e w' => e = .returned (.bool (isKey s.data.toList)) ∧ Below w.heap.size w w' := by
  obtain ⟨x, hx⟩ : ∃ x, Hid (x = isKey s.data.toList) := ⟨_, rfl⟩
  rw [← hx.out]
  have hcell : Hid (∀ k (h : k < 23), (w.alloc (.cells KC 9)).cell? ⟨w.heap.size, k, none⟩ = some (.string ⟨(keys[k]'h).toArray⟩)) := fun k h => by
    rw [World.cell?_alloc_at _ _ _ _ rfl]; exact KC_at k h
  have HB : Hid (Below w.heap.size w (w.alloc (.cells KC 9))) := (Below.refl _ _).alloc (Nat.le_refl _) _
  unfold KC at hcell HB
  go_enter Tryz.func59, Tryz.ntmps59
  go_wp2
  generalize w.alloc _ = w1 at hcell HB ⊢
  go_loop [4] (fun v => ∃ k : Nat, k ≤ 23 ∧ v = .int .i64 (k : Int) ∧ Hid (∀ j (h : j < 23), j < k → keys[j]'h ≠ s.data.toList)) (fun v => 23 - (intOf v).toNat)
  case atStart => exact ⟨0, Nat.zero_le _, rfl, fun j h hj => absurd hj (Nat.not_lt_zero _)⟩
  case round =>
    obtain ⟨k, hk, rfl, HN⟩ := hrel
    by_cases hlt : k < 23
    · have hc := hcell.out k hlt
      obtain ⟨t, ht⟩ : ∃ t : ByteArray, t = ⟨(keys[k]'hlt).toArray⟩ := ⟨_, rfl⟩
      have htl : t.data.toList = keys[k]'hlt := by rw [ht]
      rw [← ht] at hc
      by_cases he : keys[k]'hlt = s.data.toList
      · have HX : Hid (x = true) := by
          show x = true
          rw [hx.out]; exact decide_eq_true (by rw [← he]; exact List.getElem_mem _)
        have hb : (t.toList == s.toList) = true := by rw [ByteArray.toList_eq, ByteArray.toList_eq, htl, he]; simp
        clear ht htl he
        go_wp2
        go_ret
        exact ⟨ret_bool (by rw [HX.out]), HB.out⟩
      · have hb : (t.toList == s.toList) = false := by rw [ByteArray.toList_eq, ByteArray.toList_eq, htl, beq_eq_false_iff_ne]; exact he
        have HN2 : Hid (∀ j (h : j < 23), j < k + 1 → keys[j]'h ≠ s.data.toList) := fun j h hj => by
          by_cases e : j = k
          · subst e; exact he
          · exact HN.out j h (by omega)
        clear ht htl he
        go_wp2
        go_round
        case rel => exact ⟨k + 1, by omega, by go_num, HN2⟩
        case measure => simp [intOf]; omega
    · have HX : Hid (x = false) := by
        show x = false
        rw [hx.out]
        refine decide_eq_false (fun hm => ?_)
        obtain ⟨j, hj, e⟩ := List.getElem_of_mem hm
        exact HN.out j hj (by have : j < 23 := hj; omega) e
      go_wp2
      go_ret
      exact ⟨ret_bool (by rw [HX.out]), HB.out⟩
end Go.Proofs.YtlcapkgbbgpdmaaGreatDoor.YE

/- The document's token: signs, digits, names. -/
namespace Go.Proofs.YtlcapkgbbgpdmaaGreatDoor.YD
open Go.RowKit Go.Proofs.YtlcapkgbbgpdmaaGreatDoor.P Go.Proofs.YtlcapkgbbgpdmaaGreatDoor.A Go.Proofs.YtlcapkgbbgpdmaaGreatDoor.Q Go.Proofs.YtlcapkgbbgpdmaaGreatDoor.V Go.Proofs.YtlcapkgbbgpdmaaGreatDoor.TK Go.Proofs.YtlcapkgbbgpdmaaGreatDoor.YC Go.Proofs.YtlcapkgbbgpdmaaGreatDoor.YK Go.Proofs.YtlcapkgbbgpdmaaGreatDoor.YW Go.Proofs.YtlcapkgbbgpdmaaGreatDoor.YE Go.Proofs.YtlcapkgbbgpdmaaGreatDoor.RU
set_option linter.unusedVariables false
set_option maxRecDepth 100000

theorem SG_is : ∃ B : ByteArray, (⟨#[61, 60, 43, 45, 42, 47, 37, 94, 59, 124, 40, 41, 44, 95]⟩ : ByteArray) = B ∧ B.size = 14 ∧ Hid (B.data.toList = signs) := ⟨_, rfl, rfl, rfl⟩
theorem rsign_any (c : UInt8) (w : World) :
    Calls Tryz.prog 60 #[.int .u8 (c.toNat : Int)] w fun e w' => e = .returned (.bool (decide (c ∈ signs))) ∧ w = w' := by
  obtain ⟨x, hx⟩ : ∃ x, Hid (x = decide (c ∈ signs)) := ⟨_, rfl⟩
  rw [← hx.out]
  obtain ⟨B, hB, hBs, HB⟩ := SG_is
  go_enter Tryz.func60, Tryz.ntmps60
  go_wp2
  try rw [hB]
  clear hB
  go_loop [4] (fun v => ∃ k : Nat, k ≤ 14 ∧ v = .int .i64 (k : Int) ∧ Hid (∀ j (h : j < B.size), j < k → B[j] ≠ c)) (fun v => 14 - (intOf v).toNat)
  case atStart => exact ⟨0, Nat.zero_le _, rfl, fun j h hj => absurd hj (Nat.not_lt_zero _)⟩
  case round =>
    obtain ⟨k, hk, rfl, HN⟩ := hrel
    by_cases hlt : k < 14
    · have hkB : k < B.size := by omega
      have hk2 : (k : Int) < 14 := by omega
      by_cases he : B[k] = c
      · have HX : Hid (x = true) := by
          show x = true
          rw [hx.out]
          refine decide_eq_true ?_
          rw [← HB.out, ← he]
          exact List.getElem_mem (l := B.data.toList) (n := k) (by simpa using hkB)
        have t1 : ((B[k].toNat : Int) == (c.toNat : Int)) = true := by rw [he]; simp
        clear he
        go_wp2
        go_ret
        exact ⟨ret_bool (by rw [HX.out]), rfl⟩
      · have t1 : ((B[k].toNat : Int) == (c.toNat : Int)) = false := by
          rw [beq_eq_false_iff_ne]; intro e; exact he (UInt8.toNat_inj.1 (by omega))
        have HN2 : Hid (∀ j (h : j < B.size), j < k + 1 → B[j] ≠ c) := fun j h hj => by
          by_cases e : j = k
          · subst e; exact he
          · exact HN.out j h (by omega)
        clear he
        go_wp2
        go_round
        case rel => exact ⟨k + 1, by omega, by go_num, HN2⟩
        case measure => simp [intOf]; omega
    · have HX : Hid (x = false) := by
        show x = false
        rw [hx.out]
        refine decide_eq_false (fun hm => ?_)
        rw [← HB.out] at hm
        obtain ⟨j, hj, e⟩ := List.getElem_of_mem hm
        have hj' : j < B.size := by simpa using hj
        exact HN.out j hj' (by omega) e
      have hk14 : k = 14 := by omega
      subst hk14
      go_wp2
      go_ret
      exact ⟨ret_bool (by rw [HX.out]), rfl⟩
end Go.Proofs.YtlcapkgbbgpdmaaGreatDoor.YD

/- The document's token: signs, strings, and where nothing begins. -/
namespace Go.Proofs.YtlcapkgbbgpdmaaGreatDoor.YH
open Go.RowKit Go.Proofs.YtlcapkgbbgpdmaaGreatDoor.P Go.Proofs.YtlcapkgbbgpdmaaGreatDoor.A Go.Proofs.YtlcapkgbbgpdmaaGreatDoor.Q Go.Proofs.YtlcapkgbbgpdmaaGreatDoor.V Go.Proofs.YtlcapkgbbgpdmaaGreatDoor.TK Go.Proofs.YtlcapkgbbgpdmaaGreatDoor.YC Go.Proofs.YtlcapkgbbgpdmaaGreatDoor.YK Go.Proofs.YtlcapkgbbgpdmaaGreatDoor.YL Go.Proofs.YtlcapkgbbgpdmaaGreatDoor.YW Go.Proofs.YtlcapkgbbgpdmaaGreatDoor.YE Go.Proofs.YtlcapkgbbgpdmaaGreatDoor.YD Go.Proofs.YtlcapkgbbgpdmaaGreatDoor.RU Go.Proofs.YtlcapkgbbgpdmaaGreatDoor.U
set_option linter.unusedVariables false
set_option maxRecDepth 100000

/-- The answer: a token, how many bytes, an error. -/
abbrev tokr (q : (Nat × List UInt8 × Nat) × Nat × Nat) : Value := .tuple #[.agg #[.int .i64 (q.1.1 : Int), .string ⟨q.1.2.1.toArray⟩, .int .i64 (q.1.2.2 : Int), .int .i64 0], .int .i64 (q.2.1 : Int), .int .i64 (q.2.2 : Int)]
theorem bcell {W w1 : World} {b : Nat} (hb : Below W.heap.size W w1) (hl : b < W.heap.size) : (∀ o, w1.cell? ⟨b, o, none⟩ = W.cell? ⟨b, o, none⟩) ∧ (∀ o, w1.frozen? ⟨b, o, none⟩ = W.frozen? ⟨b, o, none⟩) :=
  ⟨fun o => hb.cell (p := ⟨b, o, none⟩) hl, fun o => hb.frozen (p := ⟨b, o, none⟩) hl⟩
theorem below4 {w w1 : World} {b : Nat} (h : Below w.heap.size w w1) (hb : w.heap.size ≤ b) (v0 v1 v2 v3 : Value) : Below w.heap.size w ((((w1.setCell ⟨b, 0, none⟩ v0).setCell ⟨b, 1, none⟩ v1).setCell ⟨b, 2, none⟩ v2).setCell ⟨b, 3, none⟩ v3) :=
  (((h.setCell (p := ⟨b, 0, none⟩) hb v0).setCell (p := ⟨b, 1, none⟩) hb v1).setCell (p := ⟨b, 2, none⟩) hb v2).setCell (p := ⟨b, 3, none⟩) hb v3

theorem take_one (s : ByteArray) (h : 0 < s.size) : s.extract 0 1 = ⟨[s[0]].toArray⟩ := by
  apply mk_of
  rw [ByteArray.data_extract, Array.toList_extract, List.extract_eq_take_drop, List.drop_zero, list_head h]
  rfl
set_option maxRecDepth 100000 in
set_option maxHeartbeats 1000000 in
theorem rtok_two (s : ByteArray) (w : World) (h0 : 0 < s.size) (hs : s.size ≤ 2000) (hD : isD s[0] = false) (hQ : s[0] ≠ 34) (hS : isS s[0] = false) (hL : isL s[0] = false) (h1 : 1 < s.size) (h45 : s[0] = 45) (h62 : s[1] = 62) :
    Calls Tryz.prog 39 #[.string s] w fun e w' => e = .returned (tokr ((5, [45, 62], 0), 2, 0)) ∧ Below w.heap.size w w' := by
  have c1 := fun W => YC.rdigit_any s[0] W
  rw [hD] at c1
  have t34 : ((s[0].toNat : Int) == 34) = false := byte_ne (n := 34) (by decide) hQ
  have c2 := fun W => rsmall_any s[0] W
  rw [hS] at c2
  have c3 := fun W => rlarge_any s[0] W
  rw [hL] at c3
  have t45 : ((s[0].toNat : Int) == 45) = true := byte_eq (n := 45) (by decide) h45
  have t62 : ((s[1].toNat : Int) == 62) = true := byte_eq (n := 62) (by decide) h62
  clear hD hQ hS hL h45 h62
  go_enter Tryz.func39, Tryz.ntmps39
  go_wp2_with (first | (go_at_call 55; refine (c1 _).mono ?_; rintro e w0 ⟨rfl, rfl⟩) | (go_at_call 57; refine (c2 _).mono ?_; rintro e w0 ⟨rfl, rfl⟩) | (go_at_call 58; refine (c3 _).mono ?_; rintro e w0 ⟨rfl, rfl⟩) | (go_at_call 60; refine (c4 _).mono ?_; rintro e w0 ⟨rfl, rfl⟩))
  exact bodyPost_ret (v := tokr ((5, [45, 62], 0), 2, 0)) (by simp [results, Tryz.results39, go_sem]) rfl ⟨rfl, (Below.refl _ _).alloc (Nat.le_refl _) _⟩
set_option maxRecDepth 100000 in
set_option maxHeartbeats 1000000 in
theorem rtok_nothing (s : ByteArray) (w : World) (h0 : 0 < s.size) (hs : s.size ≤ 2000) (hD : isD s[0] = false) (hQ : s[0] ≠ 34) (hS : isS s[0] = false) (hL : isL s[0] = false) (hI : s[0] ∉ signs) :
    Calls Tryz.prog 39 #[.string s] w fun e w' => e = .returned (tokr ((0, [], 0), 0, 10)) ∧ Below w.heap.size w w' := by
  have c1 := fun W => YC.rdigit_any s[0] W
  rw [hD] at c1
  have t34 : ((s[0].toNat : Int) == 34) = false := byte_ne (n := 34) (by decide) hQ
  have c2 := fun W => rsmall_any s[0] W
  rw [hS] at c2
  have c3 := fun W => rlarge_any s[0] W
  rw [hL] at c3
  have c4 := fun W => rsign_any s[0] W
  have hI' : decide (s[0] ∈ signs) = false := decide_eq_false hI
  rw [hI'] at c4
  have t45 : ((s[0].toNat : Int) == 45) = false := byte_ne (n := 45) (by decide) (fun e => hI (by rw [e]; decide))
  clear hD hQ hS hL hI hI'
  go_enter Tryz.func39, Tryz.ntmps39
  go_wp2_with (first | (go_at_call 55; refine (c1 _).mono ?_; rintro e w0 ⟨rfl, rfl⟩) | (go_at_call 57; refine (c2 _).mono ?_; rintro e w0 ⟨rfl, rfl⟩) | (go_at_call 58; refine (c3 _).mono ?_; rintro e w0 ⟨rfl, rfl⟩) | (go_at_call 60; refine (c4 _).mono ?_; rintro e w0 ⟨rfl, rfl⟩))
  exact bodyPost_ret (v := tokr ((0, [], 0), 0, 10)) (by simp [results, Tryz.results39, go_sem]) rfl ⟨rfl, (Below.refl _ _).alloc (Nat.le_refl _) _⟩
set_option maxRecDepth 100000 in
set_option maxHeartbeats 1000000 in
theorem rtok_one (s : ByteArray) (w : World) (h0 : 0 < s.size) (hs : s.size ≤ 2000) (hD : isD s[0] = false) (hQ : s[0] ≠ 34) (hS : isS s[0] = false) (hL : isL s[0] = false) (hI : s[0] ∈ signs) (h2 : ¬ (s[0] = 45 ∧ ∃ h : 1 < s.size, s[1] = 62)) :
    Calls Tryz.prog 39 #[.string s] w fun e w' => e = .returned (tokr ((5, [s[0]], 0), 1, 0)) ∧ Below w.heap.size w w' := by
  have c1 := fun W => YC.rdigit_any s[0] W
  rw [hD] at c1
  have t34 : ((s[0].toNat : Int) == 34) = false := byte_ne (n := 34) (by decide) hQ
  have c2 := fun W => rsmall_any s[0] W
  rw [hS] at c2
  have c3 := fun W => rlarge_any s[0] W
  rw [hL] at c3
  have c4 := fun W => rsign_any s[0] W
  have hI' : decide (s[0] ∈ signs) = true := decide_eq_true hI
  rw [hI'] at c4
  have hx := take_one s h0
  by_cases h45 : s[0] = 45
  · have t45 : ((s[0].toNat : Int) == 45) = true := byte_eq (n := 45) (by decide) h45
    by_cases h1 : 1 < s.size
    · have h62 : s[1] ≠ 62 := fun e => h2 ⟨h45, h1, e⟩
      have t62 : ((s[1].toNat : Int) == 62) = false := byte_ne (n := 62) (by decide) h62
      clear hD hQ hS hL hI hI' h2 h45 h62
      go_enter Tryz.func39, Tryz.ntmps39
      go_wp2_with (first | (go_at_call 55; refine (c1 _).mono ?_; rintro e w0 ⟨rfl, rfl⟩) | (go_at_call 57; refine (c2 _).mono ?_; rintro e w0 ⟨rfl, rfl⟩) | (go_at_call 58; refine (c3 _).mono ?_; rintro e w0 ⟨rfl, rfl⟩) | (go_at_call 60; refine (c4 _).mono ?_; rintro e w0 ⟨rfl, rfl⟩))
      exact bodyPost_ret (v := tokr ((5, [s[0]], 0), 1, 0)) (by simp [results, Tryz.results39, go_sem]) rfl ⟨rfl, (Below.refl _ _).alloc (Nat.le_refl _) _⟩
    · have hs1 : s.size ≤ 1 := by omega
      clear h1 hD hQ hS hL hI hI' h2 h45
      go_enter Tryz.func39, Tryz.ntmps39
      go_wp2_with (first | (go_at_call 55; refine (c1 _).mono ?_; rintro e w0 ⟨rfl, rfl⟩) | (go_at_call 57; refine (c2 _).mono ?_; rintro e w0 ⟨rfl, rfl⟩) | (go_at_call 58; refine (c3 _).mono ?_; rintro e w0 ⟨rfl, rfl⟩) | (go_at_call 60; refine (c4 _).mono ?_; rintro e w0 ⟨rfl, rfl⟩))
      exact bodyPost_ret (v := tokr ((5, [s[0]], 0), 1, 0)) (by simp [results, Tryz.results39, go_sem]) rfl ⟨rfl, (Below.refl _ _).alloc (Nat.le_refl _) _⟩
  · have t45 : ((s[0].toNat : Int) == 45) = false := byte_ne (n := 45) (by decide) h45
    clear hD hQ hS hL hI hI' h2 h45
    go_enter Tryz.func39, Tryz.ntmps39
    go_wp2_with (first | (go_at_call 55; refine (c1 _).mono ?_; rintro e w0 ⟨rfl, rfl⟩) | (go_at_call 57; refine (c2 _).mono ?_; rintro e w0 ⟨rfl, rfl⟩) | (go_at_call 58; refine (c3 _).mono ?_; rintro e w0 ⟨rfl, rfl⟩) | (go_at_call 60; refine (c4 _).mono ?_; rintro e w0 ⟨rfl, rfl⟩))
    exact bodyPost_ret (v := tokr ((5, [s[0]], 0), 1, 0)) (by simp [results, Tryz.results39, go_sem]) rfl ⟨rfl, (Below.refl _ _).alloc (Nat.le_refl _) _⟩
set_option maxRecDepth 100000 in
set_option maxHeartbeats 1000000 in
theorem rtok_text (s : ByteArray) (w : World) (h0 : 0 < s.size) (hs : s.size ≤ 2000) (hD : isD s[0] = false) (hQ : s[0] = 34) (q : List UInt8 × Nat × Nat) (hq : unq s.data.toList = q) :
    Calls Tryz.prog 39 #[.string s] w fun e w' => e = .returned (tokr ((2, q.1, 0), q.2.1, q.2.2)) ∧ Below w.heap.size w w' := by
  have c1 := fun W => YC.rdigit_any s[0] W
  rw [hD] at c1
  have t34 : ((s[0].toNat : Int) == 34) = true := byte_eq (n := 34) (by decide) hQ
  have HU := fun W => runq_any s W (by omega)
  rw [hq] at HU
  obtain ⟨qt, qn, qe⟩ := q
  clear hD hQ hq
  go_enter Tryz.func39, Tryz.ntmps39
  go_wp2_with (first | (go_at_call 55; refine (c1 _).mono ?_; rintro e w0 ⟨rfl, rfl⟩) | (go_at_call 56; refine (HU _).mono ?_; rintro e w1 ⟨rfl, hb1⟩; obtain ⟨hc, hf⟩ := bcell (b := w.heap.size) hb1 (by simp)))
  refine bodyPost_ret (v := tokr ((2, qt, 0), qn, qe)) (by simp [results, Tryz.results39, go_sem, hc]) rfl ⟨rfl, below4 (((Below.refl _ _).alloc (Nat.le_refl _) _).trans (hb1.mono (by simp))) (Nat.le_refl _) _ _ _ _⟩
end Go.Proofs.YtlcapkgbbgpdmaaGreatDoor.YH

/- The document's token: digits. -/
namespace Go.Proofs.YtlcapkgbbgpdmaaGreatDoor.YO
open Go.RowKit Go.Proofs.YtlcapkgbbgpdmaaGreatDoor.P Go.Proofs.YtlcapkgbbgpdmaaGreatDoor.A Go.Proofs.YtlcapkgbbgpdmaaGreatDoor.Q Go.Proofs.YtlcapkgbbgpdmaaGreatDoor.V Go.Proofs.YtlcapkgbbgpdmaaGreatDoor.TK Go.Proofs.YtlcapkgbbgpdmaaGreatDoor.YC Go.Proofs.YtlcapkgbbgpdmaaGreatDoor.YK Go.Proofs.YtlcapkgbbgpdmaaGreatDoor.YL Go.Proofs.YtlcapkgbbgpdmaaGreatDoor.YW Go.Proofs.YtlcapkgbbgpdmaaGreatDoor.YE Go.Proofs.YtlcapkgbbgpdmaaGreatDoor.YD Go.Proofs.YtlcapkgbbgpdmaaGreatDoor.YH Go.Proofs.YtlcapkgbbgpdmaaGreatDoor.U
set_option linter.unusedVariables false
set_option maxRecDepth 100000

theorem val_next (s : ByteArray) (k : Nat) (h : k < s.size) : val (s.data.toList.take (k + 1)) = 10 * val (s.data.toList.take k) + (s[k].toNat - 48) := by
  rw [take_next s k h]; exact R.val_snoc _ _
theorem takeWhile_is (s : ByteArray) (p : UInt8 → Bool) : s.data.toList.takeWhile p = s.data.toList.take (lasts p s 0) := by
  unfold lasts; rw [List.drop_zero, takeWhile_take]
theorem val_le (l : List UInt8) (k : Nat) : val (l.take k) ≤ val l := R.val_take_le l k

set_option maxRecDepth 100000 in
set_option maxHeartbeats 2000000 in
theorem rtok_digits (s : ByteArray) (w : World) (h0 : 0 < s.size) (hs : s.size ≤ 2000) (hD : isD s[0] = true) (q : (Nat × List UInt8 × Nat) × Nat × Nat)
    (hq : (if val (s.data.toList.takeWhile isD) ≤ 4611686018427387903 then ((1, [], val (s.data.toList.takeWhile isD)), (s.data.toList.takeWhile isD).length, 0) else ((0, [], 0), 0, 13)) = q) :
    Calls Tryz.prog 39 #[.string s] w fun e w' => e = .returned (tokr q) ∧ Below w.heap.size w w' := by
  have c1 := fun W => YC.rdigit_any s[0] W
  rw [hD] at c1
  have hN0 : 0 + 1 + lasts isD s (0 + 1) = lasts isD s 0 := by rw [lasts_yes h0 hD]; omega
  have hNle := lasts_le (p := isD) (Nat.zero_le s.size)
  have hlen : (s.data.toList.takeWhile isD).length = lasts isD s 0 := by unfold lasts; rw [List.drop_zero]
  rw [takeWhile_is s isD] at hq
  rw [show (s.data.toList.take (lasts isD s 0)).length = lasts isD s 0 from by rw [← takeWhile_is, hlen]] at hq
  generalize lasts isD s 0 = N at *
  have HQ := Lib.hid hq
  have HN := Lib.hid hN0
  have HD : Hid (isD s[0] = true) := hD
  clear hD hN0 hlen hq
  go_enter Tryz.func39, Tryz.ntmps39
  go_wp2_with (first | (go_at_call 55; refine (c1 _).mono ?_; rintro e w0 ⟨rfl, rfl⟩))
  go_loop [6] (fun v => ∃ k : Nat, 1 ≤ k ∧ k ≤ s.size ∧ v = .int .i64 (k : Int) ∧ Hid (k + lasts isD s k = N) ∧ Hid (∀ j (h : j < s.size), j < k → isD s[j] = true)) (fun v => s.size - (intOf v).toNat)
  case atStart => exact ⟨1, Nat.le_refl _, h0, rfl, HN, fun j h hj => by obtain rfl : j = 0 := by omega
                                                                         exact HD.out⟩
  case round =>
    obtain ⟨k, hk1, hk, rfl, HK, HA⟩ := hrel
    by_cases hmore : k < s.size ∧ ∃ h : k < s.size, isD s[k] = true
    · obtain ⟨hlt, _, hd⟩ := hmore
      have c2 := fun W => YC.rdigit_any s[k] W
      rw [hd] at c2
      have HK2 : Hid (k + 1 + lasts isD s (k + 1) = N) := by show _ = _; rw [← HK.out, lasts_yes hlt hd]; omega
      have HA2 : Hid (∀ j (h : j < s.size), j < k + 1 → isD s[j] = true) := fun j h hj => by
        by_cases e : j = k
        · subst e; exact hd
        · exact HA.out j h (by omega)
      clear hd
      go_wp2_with (first | (go_at_call 55; refine (c2 _).mono ?_; rintro e w0 ⟨rfl, rfl⟩))
      go_round
      case rel => exact ⟨k + 1, by omega, by omega, by go_num, HK2, HA2⟩
      case measure => simp [intOf]; omega
    · have hkN : k = N := by
        by_cases hlt : k < s.size
        · have hd : isD s[k] = false := by
            cases hx : isD s[k] with
            | true => exact absurd ⟨hlt, hlt, hx⟩ hmore
            | false => rfl
          have := HK.out; rw [lasts_no hlt hd] at this; omega
        · have := HK.out; rw [lasts_out (by omega)] at this; omega
      by_cases hlt : k < s.size
      · have hd : isD s[k] = false := by
          cases hx : isD s[k] with
          | true => exact absurd ⟨hlt, hlt, hx⟩ hmore
          | false => rfl
        have c2 := fun W => YC.rdigit_any s[k] W
        rw [hd] at c2
        subst hkN
        clear hd hmore HK HN
        go_wp2_with (first | (go_at_call 55; refine (c2 _).mono ?_; rintro e w0 ⟨rfl, rfl⟩))
        go_loop [7, 8] (fun v i => ∃ j : Nat, j ≤ k ∧ i = .int .i64 (j : Int) ∧ v = .int .i64 (val (s.data.toList.take j) : Int) ∧ val (s.data.toList.take j) ≤ 4611686018427387903) (fun _ i => k - (intOf i).toNat)
        case atStart => exact ⟨0, Nat.zero_le _, rfl, rfl, by rw [List.take_zero]; decide⟩
        case round =>
          obtain ⟨j, hj, rfl, rfl, hv⟩ := hrel
          by_cases hjk : j < k
          · have hjs : j < s.size := by omega
            have hdj := HA.out j hjs hjk
            have hd1 : 48 ≤ s[j].toNat ∧ s[j].toNat ≤ 57 := by unfold isD at hdj; simpa using hdj
            obtain ⟨hd1, hd2⟩ := hd1
            have hvn := val_next s j hjs
            have hvle := val_le (s.data.toList.take k) (j + 1)
            rw [List.take_take, Nat.min_eq_left (by omega : j + 1 ≤ k)] at hvle
            generalize hV : val (s.data.toList.take j) = V at *
            have HVn := Lib.hid hvn
            clear hdj hV hvn
            by_cases hf : 10 * V + (s[j].toNat - 48) ≤ 4611686018427387903
            · have hz : ¬ (4611686018427387903 - ((s[j].toNat : Int) - 48)) / 10 < (V : Int) := by omega
              clear hvle
              go_wp2
              go_round
              case rel => exact ⟨j + 1, by omega, by go_num, by rw [HVn.out]; congr 1; omega, by rw [HVn.out]; exact hf⟩
              case measure => simp [intOf]; omega
            · have hz : (4611686018427387903 - ((s[j].toNat : Int) - 48)) / 10 < (V : Int) := by omega
              have hbad : ¬ val (s.data.toList.take k) ≤ 4611686018427387903 := by rw [HVn.out] at hvle; omega
              have HB : Hid (q = ((0, [], 0), 0, 13)) := by
                show q = _
                rw [← HQ.out, if_neg hbad]
              clear hvle hbad
              go_wp2
              exact bodyPost_ret (v := tokr ((0, [], 0), 0, 13)) (by simp [results, Tryz.results39, go_sem]) rfl ⟨by rw [HB.out], (Below.refl _ _).alloc (Nat.le_refl _) _⟩
          · obtain rfl : j = k := by omega
            have HB : Hid (q = ((1, [], val (s.data.toList.take j)), j, 0)) := by
              show q = _
              rw [← HQ.out, if_pos hv]
            generalize val (s.data.toList.take j) = V at *
            go_wp2
            exact bodyPost_ret (v := tokr ((1, [], V), j, 0)) (by simp [results, Tryz.results39, go_sem]) rfl ⟨by rw [HB.out], (Below.refl _ _).alloc (Nat.le_refl _) _⟩
      · subst hkN
        clear hmore HK HN
        go_wp2_with fail
        go_loop [7, 8] (fun v i => ∃ j : Nat, j ≤ k ∧ i = .int .i64 (j : Int) ∧ v = .int .i64 (val (s.data.toList.take j) : Int) ∧ val (s.data.toList.take j) ≤ 4611686018427387903) (fun _ i => k - (intOf i).toNat)
        case atStart => exact ⟨0, Nat.zero_le _, rfl, rfl, by rw [List.take_zero]; decide⟩
        case round =>
          obtain ⟨j, hj, rfl, rfl, hv⟩ := hrel
          by_cases hjk : j < k
          · have hjs : j < s.size := by omega
            have hdj := HA.out j hjs hjk
            have hd1 : 48 ≤ s[j].toNat ∧ s[j].toNat ≤ 57 := by unfold isD at hdj; simpa using hdj
            obtain ⟨hd1, hd2⟩ := hd1
            have hvn := val_next s j hjs
            have hvle := val_le (s.data.toList.take k) (j + 1)
            rw [List.take_take, Nat.min_eq_left (by omega : j + 1 ≤ k)] at hvle
            generalize hV : val (s.data.toList.take j) = V at *
            have HVn := Lib.hid hvn
            clear hdj hV hvn
            by_cases hf : 10 * V + (s[j].toNat - 48) ≤ 4611686018427387903
            · have hz : ¬ (4611686018427387903 - ((s[j].toNat : Int) - 48)) / 10 < (V : Int) := by omega
              clear hvle
              go_wp2
              go_round
              case rel => exact ⟨j + 1, by omega, by go_num, by rw [HVn.out]; congr 1; omega, by rw [HVn.out]; exact hf⟩
              case measure => simp [intOf]; omega
            · have hz : (4611686018427387903 - ((s[j].toNat : Int) - 48)) / 10 < (V : Int) := by omega
              have hbad : ¬ val (s.data.toList.take k) ≤ 4611686018427387903 := by rw [HVn.out] at hvle; omega
              have HB : Hid (q = ((0, [], 0), 0, 13)) := by
                show q = _
                rw [← HQ.out, if_neg hbad]
              clear hvle hbad
              go_wp2
              exact bodyPost_ret (v := tokr ((0, [], 0), 0, 13)) (by simp [results, Tryz.results39, go_sem]) rfl ⟨by rw [HB.out], (Below.refl _ _).alloc (Nat.le_refl _) _⟩
          · obtain rfl : j = k := by omega
            have HB : Hid (q = ((1, [], val (s.data.toList.take j)), j, 0)) := by
              show q = _
              rw [← HQ.out, if_pos hv]
            generalize val (s.data.toList.take j) = V at *
            go_wp2
            exact bodyPost_ret (v := tokr ((1, [], V), j, 0)) (by simp [results, Tryz.results39, go_sem]) rfl ⟨by rw [HB.out], (Below.refl _ _).alloc (Nat.le_refl _) _⟩
end Go.Proofs.YtlcapkgbbgpdmaaGreatDoor.YO

/- The document's token: names. -/
namespace Go.Proofs.YtlcapkgbbgpdmaaGreatDoor.YU
open Go.RowKit Go.Proofs.YtlcapkgbbgpdmaaGreatDoor.P Go.Proofs.YtlcapkgbbgpdmaaGreatDoor.A Go.Proofs.YtlcapkgbbgpdmaaGreatDoor.Q Go.Proofs.YtlcapkgbbgpdmaaGreatDoor.V Go.Proofs.YtlcapkgbbgpdmaaGreatDoor.TK Go.Proofs.YtlcapkgbbgpdmaaGreatDoor.YC Go.Proofs.YtlcapkgbbgpdmaaGreatDoor.YK Go.Proofs.YtlcapkgbbgpdmaaGreatDoor.YL Go.Proofs.YtlcapkgbbgpdmaaGreatDoor.YW Go.Proofs.YtlcapkgbbgpdmaaGreatDoor.YE Go.Proofs.YtlcapkgbbgpdmaaGreatDoor.YD Go.Proofs.YtlcapkgbbgpdmaaGreatDoor.YH Go.Proofs.YtlcapkgbbgpdmaaGreatDoor.YO Go.Proofs.YtlcapkgbbgpdmaaGreatDoor.U
set_option linter.unusedVariables false
set_option maxRecDepth 100000

theorem name_text (s : ByteArray) (n : Nat) (h : lasts isN s 0 = n) : s.extract 0 n = ⟨(s.data.toList.takeWhile isN).toArray⟩ := by
  subst h
  have := lasts_text isN s 0 (Nat.zero_le _)
  rw [Nat.zero_add, List.drop_zero] at this
  exact this

set_option maxRecDepth 100000 in
set_option maxHeartbeats 4000000 in
theorem rtok_name (s : ByteArray) (w : World) (h0 : 0 < s.size) (hs : s.size ≤ 2000) (hD : isD s[0] = false) (hQ : s[0] ≠ 34) (bS bL : Bool) (hS : isS s[0] = bS) (hL : isL s[0] = bL) (hSL : bS = true ∧ bL = false ∨ bS = false ∧ bL = true) (q : (Nat × List UInt8 × Nat) × Nat × Nat)
    (hq : (if (s.data.toList.takeWhile isN).length ≤ 16 then ((if bL = true then 4 else if isKey (s.data.toList.takeWhile isN) = true then 6 else 3, s.data.toList.takeWhile isN, 0), (s.data.toList.takeWhile isN).length, 0) else ((0, [], 0), 0, 12)) = q) :
    Calls Tryz.prog 39 #[.string s] w fun e w' => e = .returned (tokr q) ∧ Below w.heap.size w w' := by
  have c1 := fun W => YC.rdigit_any s[0] W
  rw [hD] at c1
  have t34 : ((s[0].toNat : Int) == 34) = false := byte_ne (n := 34) (by decide) hQ
  have c2 := fun W => rsmall_any s[0] W
  rw [hS] at c2
  have c3 := fun W => rlarge_any s[0] W
  rw [hL] at c3
  have hn0 : isN s[0] = true := isN_of (by rw [hS, hL]; rcases hSL with ⟨rfl, rfl⟩ | ⟨rfl, rfl⟩ <;> rfl)
  have hN0 : 0 + 1 + lasts isN s (0 + 1) = lasts isN s 0 := by rw [lasts_yes h0 hn0]; omega
  have hNle := lasts_le (p := isN) (Nat.zero_le s.size)
  have hlen : (s.data.toList.takeWhile isN).length = lasts isN s 0 := by unfold lasts; rw [List.drop_zero]
  have htx := name_text s _ rfl
  rw [hlen] at hq
  generalize lasts isN s 0 = N at *
  generalize s.data.toList.takeWhile isN = T at *
  have HQ := Lib.hid hq
  have HN := Lib.hid hN0
  have HT : Hid (T.length = N) := hlen
  have HX := Lib.hid htx
  have HS := Lib.hid hSL
  clear hN0 hlen hq htx hn0 hD hQ hS hL hSL
  rcases HS.out with ⟨rfl, rfl⟩ | ⟨rfl, rfl⟩
  · go_enter Tryz.func39, Tryz.ntmps39
    go_wp2_with (first | (go_at_call 55; refine (c1 _).mono ?_; rintro e w0 ⟨rfl, rfl⟩) | (go_at_call 57; refine (c2 _).mono ?_; rintro e w0 ⟨rfl, rfl⟩) | (go_at_call 58; refine (c3 _).mono ?_; rintro e w0 ⟨rfl, rfl⟩))
    go_loop [6] (fun v => ∃ k : Nat, 1 ≤ k ∧ k ≤ s.size ∧ v = .int .i64 (k : Int) ∧ Hid (k + lasts isN s k = N)) (fun v => s.size - (intOf v).toNat)
    case atStart => exact ⟨1, Nat.le_refl _, h0, rfl, HN⟩
    case round =>
      obtain ⟨k, hk1, hk, rfl, HK⟩ := hrel
      by_cases hlt : k < s.size
      · have d2 := fun W => rsmall_any s[k] W
        have d3 := fun W => rlarge_any s[k] W
        have d1 := fun W => YC.rdigit_any s[k] W
        by_cases hyes : isN s[k] = true
        · have HK2 : Hid (k + 1 + lasts isN s (k + 1) = N) := by show _ = _; rw [← HK.out, lasts_yes hlt hyes]; omega
          cases e2 : isS s[k] with
          | true =>
            rw [e2] at d2
            clear hyes e2 d1 d3
            go_wp2_with (first | (go_at_call 57; refine (d2 _).mono ?_; rintro e w0 ⟨rfl, rfl⟩))
            go_round
            case rel => exact ⟨k + 1, by omega, by omega, by go_num, HK2⟩
            case measure => simp [intOf]; omega
          | false =>
            cases e3 : isL s[k] with
            | true =>
              rw [e2] at d2
              rw [e3] at d3
              clear hyes e2 e3 d1
              go_wp2_with (first | (go_at_call 57; refine (d2 _).mono ?_; rintro e w0 ⟨rfl, rfl⟩) | (go_at_call 58; refine (d3 _).mono ?_; rintro e w0 ⟨rfl, rfl⟩))
              go_round
              case rel => exact ⟨k + 1, by omega, by omega, by go_num, HK2⟩
              case measure => simp [intOf]; omega
            | false =>
              cases e1 : isD s[k] with
              | true =>
                rw [e2] at d2
                rw [e3] at d3
                rw [e1] at d1
                clear hyes e1 e2 e3
                go_wp2_with (first | (go_at_call 57; refine (d2 _).mono ?_; rintro e w0 ⟨rfl, rfl⟩) | (go_at_call 58; refine (d3 _).mono ?_; rintro e w0 ⟨rfl, rfl⟩) | (go_at_call 55; refine (d1 _).mono ?_; rintro e w0 ⟨rfl, rfl⟩))
                go_round
                case rel => exact ⟨k + 1, by omega, by omega, by go_num, HK2⟩
                case measure => simp [intOf]; omega
              | false =>
                have h95 : s[k] = 95 := by unfold isN at hyes; rw [e1, e2, e3] at hyes; simpa using hyes
                have t95 : ((s[k].toNat : Int) == 95) = true := byte_eq (n := 95) (by decide) h95
                rw [e2] at d2
                rw [e3] at d3
                rw [e1] at d1
                clear hyes e1 e2 e3 h95
                go_wp2_with (first | (go_at_call 57; refine (d2 _).mono ?_; rintro e w0 ⟨rfl, rfl⟩) | (go_at_call 58; refine (d3 _).mono ?_; rintro e w0 ⟨rfl, rfl⟩) | (go_at_call 55; refine (d1 _).mono ?_; rintro e w0 ⟨rfl, rfl⟩))
                go_round
                case rel => exact ⟨k + 1, by omega, by omega, by go_num, HK2⟩
                case measure => simp [intOf]; omega
        · have hno : isN s[k] = false := by simpa using hyes
          obtain rfl : k = N := by have := HK.out; rw [lasts_no hlt hno] at this; omega
          have e2 : isS s[k] = false := by unfold isN at hno; simp at hno; simp [hno]
          have e3 : isL s[k] = false := by unfold isN at hno; simp at hno; simp [hno]
          have e1 : isD s[k] = false := by unfold isN at hno; simp at hno; simp [hno]
          have h95 : s[k] ≠ 95 := by unfold isN at hno; simp at hno; simp [hno]
          have t95 : ((s[k].toNat : Int) == 95) = false := byte_ne (n := 95) (by decide) h95
          rw [e2] at d2
          rw [e3] at d3
          rw [e1] at d1
          clear hyes hno e1 e2 e3 h95 HK HN
          by_cases h16 : k ≤ 16
          · have hx := HX.out
            have HKY0 := fun W => rkey_any ⟨T.toArray⟩ W
            cases hky : isKey T with
            | true =>
              have HQ2 : Hid (q = ((6, T, 0), k, 0)) := by show q = _; rw [← HQ.out, if_pos h16, if_neg (by decide), if_pos hky]
              have HKY : ∀ W : World, Calls Tryz.prog 59 #[.string ⟨T.toArray⟩] W fun e w' => e = .returned (.bool true) ∧ Below W.heap.size W w' := fun W => by have := HKY0 W; rw [show isKey (⟨T.toArray⟩ : ByteArray).data.toList = true from hky] at this; exact this
              clear HKY0 hky
              go_wp2_with (first | (go_at_call 57; refine (d2 _).mono ?_; rintro e w0 ⟨rfl, rfl⟩) | (go_at_call 58; refine (d3 _).mono ?_; rintro e w0 ⟨rfl, rfl⟩) | (go_at_call 55; refine (d1 _).mono ?_; rintro e w0 ⟨rfl, rfl⟩) | (go_at_call 58; refine (c3 _).mono ?_; rintro e w0 ⟨rfl, rfl⟩) | (go_at_call 59; refine (HKY _).mono ?_; rintro e w1 ⟨rfl, hb1⟩; obtain ⟨hc, hf⟩ := bcell (b := w.heap.size) hb1 (by simp <;> omega); obtain ⟨hc2, hf2⟩ := bcell (b := w.heap.size + 1) hb1 (by simp <;> omega); have hz := hb1.size))
              exact bodyPost_ret (v := tokr ((6, T, 0), k, 0)) (by simp [results, Tryz.results39, go_sem, hc]) rfl ⟨by rw [HQ2.out], below4 (((((Below.refl _ _).alloc (Nat.le_refl _) _).alloc (by simp) _).trans (hb1.mono (by simp <;> omega))).setCell (p := ⟨w.heap.size + 1, 0, none⟩) (by show w.heap.size ≤ w.heap.size + 1; omega) _) (Nat.le_refl _) _ _ _ _⟩
            | false =>
              have HQ2 : Hid (q = ((3, T, 0), k, 0)) := by show q = _; rw [← HQ.out, if_pos h16, if_neg (by decide), if_neg (by rw [hky]; decide)]
              have HKY : ∀ W : World, Calls Tryz.prog 59 #[.string ⟨T.toArray⟩] W fun e w' => e = .returned (.bool false) ∧ Below W.heap.size W w' := fun W => by have := HKY0 W; rw [show isKey (⟨T.toArray⟩ : ByteArray).data.toList = false from hky] at this; exact this
              clear HKY0 hky
              go_wp2_with (first | (go_at_call 57; refine (d2 _).mono ?_; rintro e w0 ⟨rfl, rfl⟩) | (go_at_call 58; refine (d3 _).mono ?_; rintro e w0 ⟨rfl, rfl⟩) | (go_at_call 55; refine (d1 _).mono ?_; rintro e w0 ⟨rfl, rfl⟩) | (go_at_call 58; refine (c3 _).mono ?_; rintro e w0 ⟨rfl, rfl⟩) | (go_at_call 59; refine (HKY _).mono ?_; rintro e w1 ⟨rfl, hb1⟩; obtain ⟨hc, hf⟩ := bcell (b := w.heap.size) hb1 (by simp <;> omega); obtain ⟨hc2, hf2⟩ := bcell (b := w.heap.size + 1) hb1 (by simp <;> omega); have hz := hb1.size))
              exact bodyPost_ret (v := tokr ((3, T, 0), k, 0)) (by simp [results, Tryz.results39, go_sem, hc]) rfl ⟨by rw [HQ2.out], below4 ((((Below.refl _ _).alloc (Nat.le_refl _) _).alloc (by simp) _).trans (hb1.mono (by simp <;> omega))) (Nat.le_refl _) _ _ _ _⟩
          · have HQ2 : Hid (q = ((0, [], 0), 0, 12)) := by show q = _; rw [← HQ.out, if_neg h16]
            have h17 : (16 : Int) < (k : Int) := by omega
            go_wp2_with (first | (go_at_call 57; refine (d2 _).mono ?_; rintro e w0 ⟨rfl, rfl⟩) | (go_at_call 58; refine (d3 _).mono ?_; rintro e w0 ⟨rfl, rfl⟩) | (go_at_call 55; refine (d1 _).mono ?_; rintro e w0 ⟨rfl, rfl⟩) | (go_at_call 58; refine (c3 _).mono ?_; rintro e w0 ⟨rfl, rfl⟩))
            exact bodyPost_ret (v := tokr ((0, [], 0), 0, 12)) (by simp [results, Tryz.results39, go_sem]) rfl ⟨by rw [HQ2.out], (Below.refl _ _).alloc (Nat.le_refl _) _⟩
      · obtain rfl : k = N := by have := HK.out; rw [lasts_out (by omega)] at this; omega
        clear HK HN
        by_cases h16 : k ≤ 16
        · have hx := HX.out
          have HKY0 := fun W => rkey_any ⟨T.toArray⟩ W
          cases hky : isKey T with
          | true =>
            have HQ2 : Hid (q = ((6, T, 0), k, 0)) := by show q = _; rw [← HQ.out, if_pos h16, if_neg (by decide), if_pos hky]
            have HKY : ∀ W : World, Calls Tryz.prog 59 #[.string ⟨T.toArray⟩] W fun e w' => e = .returned (.bool true) ∧ Below W.heap.size W w' := fun W => by have := HKY0 W; rw [show isKey (⟨T.toArray⟩ : ByteArray).data.toList = true from hky] at this; exact this
            clear HKY0 hky
            go_wp2_with (first | (go_at_call 58; refine (c3 _).mono ?_; rintro e w0 ⟨rfl, rfl⟩) | (go_at_call 59; refine (HKY _).mono ?_; rintro e w1 ⟨rfl, hb1⟩; obtain ⟨hc, hf⟩ := bcell (b := w.heap.size) hb1 (by simp <;> omega); obtain ⟨hc2, hf2⟩ := bcell (b := w.heap.size + 1) hb1 (by simp <;> omega); have hz := hb1.size))
            exact bodyPost_ret (v := tokr ((6, T, 0), k, 0)) (by simp [results, Tryz.results39, go_sem, hc]) rfl ⟨by rw [HQ2.out], below4 (((((Below.refl _ _).alloc (Nat.le_refl _) _).alloc (by simp) _).trans (hb1.mono (by simp <;> omega))).setCell (p := ⟨w.heap.size + 1, 0, none⟩) (by show w.heap.size ≤ w.heap.size + 1; omega) _) (Nat.le_refl _) _ _ _ _⟩
          | false =>
            have HQ2 : Hid (q = ((3, T, 0), k, 0)) := by show q = _; rw [← HQ.out, if_pos h16, if_neg (by decide), if_neg (by rw [hky]; decide)]
            have HKY : ∀ W : World, Calls Tryz.prog 59 #[.string ⟨T.toArray⟩] W fun e w' => e = .returned (.bool false) ∧ Below W.heap.size W w' := fun W => by have := HKY0 W; rw [show isKey (⟨T.toArray⟩ : ByteArray).data.toList = false from hky] at this; exact this
            clear HKY0 hky
            go_wp2_with (first | (go_at_call 58; refine (c3 _).mono ?_; rintro e w0 ⟨rfl, rfl⟩) | (go_at_call 59; refine (HKY _).mono ?_; rintro e w1 ⟨rfl, hb1⟩; obtain ⟨hc, hf⟩ := bcell (b := w.heap.size) hb1 (by simp <;> omega); obtain ⟨hc2, hf2⟩ := bcell (b := w.heap.size + 1) hb1 (by simp <;> omega); have hz := hb1.size))
            exact bodyPost_ret (v := tokr ((3, T, 0), k, 0)) (by simp [results, Tryz.results39, go_sem, hc]) rfl ⟨by rw [HQ2.out], below4 ((((Below.refl _ _).alloc (Nat.le_refl _) _).alloc (by simp) _).trans (hb1.mono (by simp <;> omega))) (Nat.le_refl _) _ _ _ _⟩
        · have HQ2 : Hid (q = ((0, [], 0), 0, 12)) := by show q = _; rw [← HQ.out, if_neg h16]
          have h17 : (16 : Int) < (k : Int) := by omega
          go_wp2_with (first | (go_at_call 58; refine (c3 _).mono ?_; rintro e w0 ⟨rfl, rfl⟩))
          exact bodyPost_ret (v := tokr ((0, [], 0), 0, 12)) (by simp [results, Tryz.results39, go_sem]) rfl ⟨by rw [HQ2.out], (Below.refl _ _).alloc (Nat.le_refl _) _⟩
  · go_enter Tryz.func39, Tryz.ntmps39
    go_wp2_with (first | (go_at_call 55; refine (c1 _).mono ?_; rintro e w0 ⟨rfl, rfl⟩) | (go_at_call 57; refine (c2 _).mono ?_; rintro e w0 ⟨rfl, rfl⟩) | (go_at_call 58; refine (c3 _).mono ?_; rintro e w0 ⟨rfl, rfl⟩))
    go_loop [6] (fun v => ∃ k : Nat, 1 ≤ k ∧ k ≤ s.size ∧ v = .int .i64 (k : Int) ∧ Hid (k + lasts isN s k = N)) (fun v => s.size - (intOf v).toNat)
    case atStart => exact ⟨1, Nat.le_refl _, h0, rfl, HN⟩
    case round =>
      obtain ⟨k, hk1, hk, rfl, HK⟩ := hrel
      by_cases hlt : k < s.size
      · have d2 := fun W => rsmall_any s[k] W
        have d3 := fun W => rlarge_any s[k] W
        have d1 := fun W => YC.rdigit_any s[k] W
        by_cases hyes : isN s[k] = true
        · have HK2 : Hid (k + 1 + lasts isN s (k + 1) = N) := by show _ = _; rw [← HK.out, lasts_yes hlt hyes]; omega
          cases e2 : isS s[k] with
          | true =>
            rw [e2] at d2
            clear hyes e2 d1 d3
            go_wp2_with (first | (go_at_call 57; refine (d2 _).mono ?_; rintro e w0 ⟨rfl, rfl⟩))
            go_round
            case rel => exact ⟨k + 1, by omega, by omega, by go_num, HK2⟩
            case measure => simp [intOf]; omega
          | false =>
            cases e3 : isL s[k] with
            | true =>
              rw [e2] at d2
              rw [e3] at d3
              clear hyes e2 e3 d1
              go_wp2_with (first | (go_at_call 57; refine (d2 _).mono ?_; rintro e w0 ⟨rfl, rfl⟩) | (go_at_call 58; refine (d3 _).mono ?_; rintro e w0 ⟨rfl, rfl⟩))
              go_round
              case rel => exact ⟨k + 1, by omega, by omega, by go_num, HK2⟩
              case measure => simp [intOf]; omega
            | false =>
              cases e1 : isD s[k] with
              | true =>
                rw [e2] at d2
                rw [e3] at d3
                rw [e1] at d1
                clear hyes e1 e2 e3
                go_wp2_with (first | (go_at_call 57; refine (d2 _).mono ?_; rintro e w0 ⟨rfl, rfl⟩) | (go_at_call 58; refine (d3 _).mono ?_; rintro e w0 ⟨rfl, rfl⟩) | (go_at_call 55; refine (d1 _).mono ?_; rintro e w0 ⟨rfl, rfl⟩))
                go_round
                case rel => exact ⟨k + 1, by omega, by omega, by go_num, HK2⟩
                case measure => simp [intOf]; omega
              | false =>
                have h95 : s[k] = 95 := by unfold isN at hyes; rw [e1, e2, e3] at hyes; simpa using hyes
                have t95 : ((s[k].toNat : Int) == 95) = true := byte_eq (n := 95) (by decide) h95
                rw [e2] at d2
                rw [e3] at d3
                rw [e1] at d1
                clear hyes e1 e2 e3 h95
                go_wp2_with (first | (go_at_call 57; refine (d2 _).mono ?_; rintro e w0 ⟨rfl, rfl⟩) | (go_at_call 58; refine (d3 _).mono ?_; rintro e w0 ⟨rfl, rfl⟩) | (go_at_call 55; refine (d1 _).mono ?_; rintro e w0 ⟨rfl, rfl⟩))
                go_round
                case rel => exact ⟨k + 1, by omega, by omega, by go_num, HK2⟩
                case measure => simp [intOf]; omega
        · have hno : isN s[k] = false := by simpa using hyes
          obtain rfl : k = N := by have := HK.out; rw [lasts_no hlt hno] at this; omega
          have e2 : isS s[k] = false := by unfold isN at hno; simp at hno; simp [hno]
          have e3 : isL s[k] = false := by unfold isN at hno; simp at hno; simp [hno]
          have e1 : isD s[k] = false := by unfold isN at hno; simp at hno; simp [hno]
          have h95 : s[k] ≠ 95 := by unfold isN at hno; simp at hno; simp [hno]
          have t95 : ((s[k].toNat : Int) == 95) = false := byte_ne (n := 95) (by decide) h95
          rw [e2] at d2
          rw [e3] at d3
          rw [e1] at d1
          clear hyes hno e1 e2 e3 h95 HK HN
          by_cases h16 : k ≤ 16
          · have hx := HX.out
            have HQ2 : Hid (q = ((4, T, 0), k, 0)) := by show q = _; rw [← HQ.out, if_pos h16]; rfl
            go_wp2_with (first | (go_at_call 57; refine (d2 _).mono ?_; rintro e w0 ⟨rfl, rfl⟩) | (go_at_call 58; refine (d3 _).mono ?_; rintro e w0 ⟨rfl, rfl⟩) | (go_at_call 55; refine (d1 _).mono ?_; rintro e w0 ⟨rfl, rfl⟩) | (go_at_call 58; refine (c3 _).mono ?_; rintro e w0 ⟨rfl, rfl⟩))
            exact bodyPost_ret (v := tokr ((4, T, 0), k, 0)) (by simp [results, Tryz.results39, go_sem]) rfl ⟨by rw [HQ2.out], ((Below.refl _ _).alloc (Nat.le_refl _) _).alloc (by simp) _⟩
          · have HQ2 : Hid (q = ((0, [], 0), 0, 12)) := by show q = _; rw [← HQ.out, if_neg h16]
            have h17 : (16 : Int) < (k : Int) := by omega
            go_wp2_with (first | (go_at_call 57; refine (d2 _).mono ?_; rintro e w0 ⟨rfl, rfl⟩) | (go_at_call 58; refine (d3 _).mono ?_; rintro e w0 ⟨rfl, rfl⟩) | (go_at_call 55; refine (d1 _).mono ?_; rintro e w0 ⟨rfl, rfl⟩) | (go_at_call 58; refine (c3 _).mono ?_; rintro e w0 ⟨rfl, rfl⟩))
            exact bodyPost_ret (v := tokr ((0, [], 0), 0, 12)) (by simp [results, Tryz.results39, go_sem]) rfl ⟨by rw [HQ2.out], (Below.refl _ _).alloc (Nat.le_refl _) _⟩
      · obtain rfl : k = N := by have := HK.out; rw [lasts_out (by omega)] at this; omega
        clear HK HN
        by_cases h16 : k ≤ 16
        · have hx := HX.out
          have HQ2 : Hid (q = ((4, T, 0), k, 0)) := by show q = _; rw [← HQ.out, if_pos h16]; rfl
          go_wp2_with (first | (go_at_call 58; refine (c3 _).mono ?_; rintro e w0 ⟨rfl, rfl⟩))
          exact bodyPost_ret (v := tokr ((4, T, 0), k, 0)) (by simp [results, Tryz.results39, go_sem]) rfl ⟨by rw [HQ2.out], ((Below.refl _ _).alloc (Nat.le_refl _) _).alloc (by simp) _⟩
        · have HQ2 : Hid (q = ((0, [], 0), 0, 12)) := by show q = _; rw [← HQ.out, if_neg h16]
          have h17 : (16 : Int) < (k : Int) := by omega
          go_wp2_with (first | (go_at_call 58; refine (c3 _).mono ?_; rintro e w0 ⟨rfl, rfl⟩))
          exact bodyPost_ret (v := tokr ((0, [], 0), 0, 12)) (by simp [results, Tryz.results39, go_sem]) rfl ⟨by rw [HQ2.out], (Below.refl _ _).alloc (Nat.le_refl _) _⟩
end Go.Proofs.YtlcapkgbbgpdmaaGreatDoor.YU

/- The document's token, whatever stands there. -/
namespace Go.Proofs.YtlcapkgbbgpdmaaGreatDoor.YZ
open Go.RowKit Go.Proofs.YtlcapkgbbgpdmaaGreatDoor.P Go.Proofs.YtlcapkgbbgpdmaaGreatDoor.A Go.Proofs.YtlcapkgbbgpdmaaGreatDoor.Q Go.Proofs.YtlcapkgbbgpdmaaGreatDoor.V Go.Proofs.YtlcapkgbbgpdmaaGreatDoor.TK Go.Proofs.YtlcapkgbbgpdmaaGreatDoor.TP Go.Proofs.YtlcapkgbbgpdmaaGreatDoor.YC Go.Proofs.YtlcapkgbbgpdmaaGreatDoor.YK Go.Proofs.YtlcapkgbbgpdmaaGreatDoor.YL Go.Proofs.YtlcapkgbbgpdmaaGreatDoor.YW Go.Proofs.YtlcapkgbbgpdmaaGreatDoor.YG Go.Proofs.YtlcapkgbbgpdmaaGreatDoor.YH Go.Proofs.YtlcapkgbbgpdmaaGreatDoor.YO Go.Proofs.YtlcapkgbbgpdmaaGreatDoor.YU Go.Proofs.YtlcapkgbbgpdmaaGreatDoor.U
set_option linter.unusedVariables false
set_option maxRecDepth 100000

theorem rtoken_any (s : ByteArray) (w : World) (h0 : 0 < s.size) (hs : s.size ≤ 2000) :
    Calls Tryz.prog 39 #[.string s] w fun e w' => e = .returned (tokr (tk s.data.toList)) ∧ Below w.heap.size w w' := by
  have hL := list_head h0
  cases hD : isD s[0] with
  | true =>
    refine rtok_digits s w h0 hs hD _ ?_
    conv => rhs; rw [hL, tk_cons, if_pos hD]
    rw [← hL]
  | false =>
    have nD : ¬ isD s[0] = true := by rw [hD]; decide
    by_cases hQ : s[0] = 34
    · have ht : tk s.data.toList = ((2, (unq s.data.toList).1, 0), (unq s.data.toList).2.1, (unq s.data.toList).2.2) := by
        conv => lhs; rw [hL, tk_cons, if_neg nD, if_pos hQ]
        rw [← hL]
      rw [ht]
      exact rtok_text s w h0 hs hD hQ _ rfl
    · cases hS : isS s[0] with
      | true =>
        have hL' : isL s[0] = false := by
          unfold isS at hS; unfold isL
          simp at hS ⊢
          omega
        refine rtok_name s w h0 hs hD hQ true false hS hL' (.inl ⟨rfl, rfl⟩) _ ?_
        conv => rhs; rw [hL, tk_cons, if_neg nD, if_neg hQ, if_pos (by rw [hS]; rfl), hL']
        rw [← hL]
      | false =>
        cases hLb : isL s[0] with
        | true =>
          refine rtok_name s w h0 hs hD hQ false true hS hLb (.inr ⟨rfl, rfl⟩) _ ?_
          conv => rhs; rw [hL, tk_cons, if_neg nD, if_neg hQ, if_pos (by rw [hS, hLb]; rfl), hLb]
          rw [← hL]
        | false =>
          have nSL : ¬ (isS s[0] || isL s[0]) = true := by rw [hS, hLb]; decide
          have hsec : ∀ c, (s.data.toList.drop 1).head? = some c ↔ ∃ h : 1 < s.size, s[1] = c := by
            intro c
            by_cases h1 : 1 < s.size
            · rw [drop_at h1]; simp [h1]
            · rw [drop_out (by omega)]; simp; intro h; omega
          by_cases h2 : s[0] = 45 ∧ (s.data.toList.drop 1).head? = some 62
          · have ht : tk s.data.toList = ((5, [45, 62], 0), 2, 0) := by
              rw [hL, tk_cons, if_neg nD, if_neg hQ, if_neg nSL, if_pos h2]
            obtain ⟨h1, h62⟩ := (hsec 62).1 h2.2
            rw [ht]
            exact rtok_two s w h0 hs hD hQ hS hLb h1 h2.1 h62
          · by_cases hI : s[0] ∈ signs
            · have ht : tk s.data.toList = ((5, [s[0]], 0), 1, 0) := by
                rw [hL, tk_cons, if_neg nD, if_neg hQ, if_neg nSL, if_neg h2, if_pos hI]
              rw [ht]
              exact rtok_one s w h0 hs hD hQ hS hLb hI (fun ⟨a, b⟩ => h2 ⟨a, (hsec 62).2 b⟩)
            · have ht : tk s.data.toList = ((0, [], 0), 0, 10) := by
                rw [hL, tk_cons, if_neg nD, if_neg hQ, if_neg nSL, if_neg h2, if_neg hI]
              rw [ht]
              exact rtok_nothing s w h0 hs hD hQ hS hLb hI

/-- Step by step: what is left behind a blank, a remark, a token. -/
theorem glue_blank {s : ByteArray} {k : Nat} {ts : List Tok} (h : k < s.size) (hb : bl s[k] = true) : glue ts (from_ s k) = glue ts (from_ s (k + 1)) := by
  rw [from_gap s k, from_gap s (k + 1), ge_blank h hb, Nat.add_assoc]
theorem glue_remark {s : ByteArray} {k : Nat} {ts : List Tok} (h : k < s.size) (hb : bl s[k] = false) (h35 : s[k] = 35) : glue ts (from_ s k) = glue ts (from_ s (k + lasts nb s k)) := by
  rw [from_gap s k, from_gap s (k + lasts nb s k), ge_remark h hb h35, Nat.add_assoc]
theorem glue_next {s : ByteArray} {k : Nat} {ts : List Tok} {q : (Nat × List UInt8 × Nat) × Nat × Nat} (hq : tk (s.data.toList.drop k) = q) (h : k < s.size) (hb : bl s[k] = false) (h35 : s[k] ≠ 35) (ht : q.2.2 = 0) :
    glue ts (from_ s k) = glue (ts ++ [⟨q.1.1, q.1.2.1, q.1.2.2, k⟩]) (from_ s (k + q.2.1)) := by
  subst hq
  rw [glue_tok h (ge_stop h hb h35) ht, ← from_gap]
theorem glue_bad {s : ByteArray} {k : Nat} {ts : List Tok} {q : (Nat × List UInt8 × Nat) × Nat × Nat} (hq : tk (s.data.toList.drop k) = q) (h : k < s.size) (hb : bl s[k] = false) (h35 : s[k] ≠ 35) (ht : q.2.2 ≠ 0) :
    glue ts (from_ s k) = ([], k, q.2.2) := by
  subst hq
  exact glue_err h (ge_stop h hb h35) ht
theorem toks_from (s : ByteArray) (h : s.size ≤ 2000) : toks s.data.toList = glue [] (from_ s 0) := by
  rw [toks_glue s h, ← from_gap]
end Go.Proofs.YtlcapkgbbgpdmaaGreatDoor.YZ

/- A source's tokens, by the document. -/
namespace Go.Proofs.YtlcapkgbbgpdmaaGreatDoor.YF
open Go.RowKit Go.Proofs.YtlcapkgbbgpdmaaGreatDoor.P Go.Proofs.YtlcapkgbbgpdmaaGreatDoor.A Go.Proofs.YtlcapkgbbgpdmaaGreatDoor.V Go.Proofs.YtlcapkgbbgpdmaaGreatDoor.TK Go.Proofs.YtlcapkgbbgpdmaaGreatDoor.TO Go.Proofs.YtlcapkgbbgpdmaaGreatDoor.TP Go.Proofs.YtlcapkgbbgpdmaaGreatDoor.YW Go.Proofs.YtlcapkgbbgpdmaaGreatDoor.YG Go.Proofs.YtlcapkgbbgpdmaaGreatDoor.YH Go.Proofs.YtlcapkgbbgpdmaaGreatDoor.YT Go.Proofs.YtlcapkgbbgpdmaaGreatDoor.YZ Go.Proofs.YtlcapkgbbgpdmaaGreatDoor.U
set_option linter.unusedVariables false
set_option maxRecDepth 100000

theorem own_row0 {w : World} {base : Nat} {v : Value} {ts : List Tok} (h : OwnT w base v ts) : ∀ j, v.ownBlock = some j → base ≤ j := fun j hj => (h.lt j hj).1
theorem bl_no {c : UInt8} (h : bl c = false) : c ≠ 32 ∧ c ≠ 9 ∧ c ≠ 10 := by
  unfold bl at h; simpa using h

theorem rtokens_long (s : ByteArray) (w : World) (hs : 2000 < s.size) (hm : s.size ≤ maxLen) :
    Calls Tryz.prog 20 #[.string s] w fun x w' => x = .returned (.tuple #[.slice none 0 0, .int .i64 0, .int .i64 12]) ∧ w = w' := by
  unfold maxLen at hm
  go_enter Tryz.func20, Tryz.ntmps20
  go_wp2
  go_ret3
  exact ⟨rfl, rfl⟩

set_option maxRecDepth 100000 in
set_option maxHeartbeats 4000000 in
theorem rtokens_short (s : ByteArray) (w : World) (hs : s.size ≤ 2000) :
    Calls Tryz.prog 20 #[.string s] w (TokPost w (toks s.data.toList)) := by
  obtain ⟨L, hL⟩ : ∃ L, Hid (L = toks s.data.toList) := ⟨_, rfl⟩
  rw [← hL.out]
  have HL : Hid (glue [] (from_ s 0) = L) := by show _ = _; rw [hL.out, toks_from s hs]
  obtain ⟨i0, hi, hz0, hz1, hz2⟩ := info_parts infoT
  have hlong : decide (2000 < (s.size : Int)) = false := by simp; omega
  clear hL
  go_enter Tryz.func20, Tryz.ntmps20
  go_wp2
  clear hlong
  go_loopg [5, 6] s.size (fun g v i wx => ∃ (k : Nat) (ts : List Tok), k + g = s.size ∧ i = .int .i64 (k : Int) ∧ Hid (glue ts (from_ s k) = L) ∧ ts.length ≤ k ∧ Hid (Below w.heap.size w wx) ∧ Hid (OwnT wx w.heap.size v ts))
  case atStart => exact ⟨0, [], Nat.zero_add _, rfl, HL, Nat.zero_le _, Below.refl _ _, World.ownsRow_nil _ _ _ _⟩
  case round =>
    obtain ⟨k, ts, hk, rfl, HL', htl, HB, HO⟩ := hrel
    clear HL
    by_cases hlt : k < s.size
    · obtain ⟨g, rfl⟩ : ∃ g, gk = g + 1 := ⟨gk - 1, by omega⟩
      cases hb : bl s[k] with
      | true =>
        have HN := Lib.hid ((glue_blank (ts := ts) hlt hb).symm.trans HL'.out)
        have hbs : s[k] = 32 ∨ s[k] = 9 ∨ s[k] = 10 := by unfold bl at hb; simpa using hb
        clear hb HL'
        rcases hbs with hb | hb | hb
        · have t32 : ((s[k].toNat : Int) == 32) = true := byte_eq (n := 32) (by decide) hb
          clear hb
          go_wp2
          go_roundg g
          case rel => exact ⟨k + 1, ts, by omega, by go_num, HN, by omega, HB, HO⟩
          case measure => omega
        · have t32 : ((s[k].toNat : Int) == 32) = false := by rw [hb]; rfl
          have t9 : ((s[k].toNat : Int) == 9) = true := byte_eq (n := 9) (by decide) hb
          clear hb
          go_wp2
          go_roundg g
          case rel => exact ⟨k + 1, ts, by omega, by go_num, HN, by omega, HB, HO⟩
          case measure => omega
        · have t32 : ((s[k].toNat : Int) == 32) = false := by rw [hb]; rfl
          have t9 : ((s[k].toNat : Int) == 9) = false := by rw [hb]; rfl
          have t10 : ((s[k].toNat : Int) == 10) = true := byte_eq (n := 10) (by decide) hb
          clear hb
          go_wp2
          go_roundg g
          case rel => exact ⟨k + 1, ts, by omega, by go_num, HN, by omega, HB, HO⟩
          case measure => omega
      | false =>
        obtain ⟨n32, n9, n10⟩ := bl_no hb
        have t32 : ((s[k].toNat : Int) == 32) = false := byte_ne (n := 32) (by decide) n32
        have t9 : ((s[k].toNat : Int) == 9) = false := byte_ne (n := 9) (by decide) n9
        have t10 : ((s[k].toNat : Int) == 10) = false := byte_ne (n := 10) (by decide) n10
        by_cases h35 : s[k] = 35
        · have HP0 := (glue_remark (ts := ts) hlt hb h35).symm.trans HL'.out
          have hPle := lasts_le (p := nb) (Nat.le_of_lt hlt)
          obtain ⟨P, hP⟩ : ∃ P, k + lasts nb s k = P := ⟨_, rfl⟩
          have hP1 : k + 1 ≤ P := by rw [← hP, lasts_yes hlt (by rw [h35]; decide)]; omega
          rw [hP] at HP0 hPle
          have HP := Lib.hid HP0
          have HPk := Lib.hid hP
          have t35 : ((s[k].toNat : Int) == 35) = true := byte_eq (n := 35) (by decide) h35
          clear hP n32 n9 n10 h35 hb HP0 HL'
          go_wp2
          go_loop [6] (fun v => ∃ j : Nat, k ≤ j ∧ j ≤ s.size ∧ v = .int .i64 (j : Int) ∧ Hid (j + lasts nb s j = P)) (fun v => s.size - (intOf v).toNat)
          case atStart => exact ⟨k, Nat.le_refl _, Nat.le_of_lt hlt, rfl, HPk⟩
          case round =>
            obtain ⟨j, hkj, hj, rfl, HJ⟩ := hrel
            clear HPk
            by_cases hjl : j < s.size
            · by_cases h10 : s[j] = 10
              · have hjP : j = P := by have := HJ.out; rw [lasts_no hjl (by rw [h10]; decide)] at this; omega
                subst hjP
                have u10 : ((s[j].toNat : Int) != 10) = false := by rw [h10]; rfl
                clear h10 HJ
                go_wp2
                go_roundg (s.size - j)
                case rel => exact ⟨j, ts, by omega, rfl, HP, by omega, HB, HO⟩
                case measure => omega
              · have HJ2 : Hid (j + 1 + lasts nb s (j + 1) = P) := by
                  show _ = _
                  rw [← HJ.out, lasts_yes hjl (by unfold nb; exact decide_eq_true h10)]; omega
                have u10' : ((s[j].toNat : Int) == 10) = false := byte_ne (n := 10) (by decide) h10
                have u10 : ((s[j].toNat : Int) != 10) = true := by rw [bne, u10']; rfl
                clear h10 HJ
                go_wp2
                go_round
                case rel => exact ⟨j + 1, by omega, by omega, by go_num, HJ2⟩
                case measure => simp [intOf]; omega
            · have hjP : j = P := by have := HJ.out; rw [lasts_out (by omega)] at this; omega
              subst hjP
              clear HJ
              go_wp2
              go_roundg (s.size - j)
              case rel => exact ⟨j, ts, by omega, rfl, HP, by omega, HB, HO⟩
              case measure => omega
        · have t35 : ((s[k].toNat : Int) == 35) = false := byte_ne (n := 35) (by decide) h35
          have hex : (s.extract k s.size).data.toList = s.data.toList.drop k := drop_list s k
          obtain ⟨q, hq⟩ : ∃ q, tk (s.data.toList.drop k) = q := ⟨_, rfl⟩
          have HTK := fun W => rtoken_any (s.extract k s.size) W (by simp; omega) (by simp; omega)
          rw [hex, hq] at HTK
          have hstep := glue_next (ts := ts) hq hlt hb h35
          have herr := glue_bad (ts := ts) hq hlt hb h35
          have hlen := @tk_len (s.data.toList.drop k)
          rw [hq] at hlen
          have hll : (s.data.toList.drop k).length = s.size - k := by simp
          rw [hll] at hlen
          obtain ⟨⟨qk, qt, qn⟩, ql, qe⟩ := q
          simp only at hstep herr hlen
          clear hq hll hex n32 n9 n10 h35 hb
          by_cases he : qe = 0
          · subst he
            have HS := Lib.hid ((hstep rfl).symm.trans HL'.out)
            obtain ⟨l1, l2, _⟩ := hlen rfl
            clear hstep herr hlen HL'
            go_wp2_with (first
              | (go_at_call 39; refine (HTK wr).mono ?_; rintro x w4 ⟨rfl, hb4⟩; have HB4 := Lib.hid (HB.out.trans (hb4.mono HB.out.size)); have HO4 := Lib.hid (own_below HO.out hb4 (Nat.le_refl _)); have hz4 := hb4.size; clear hb4)
              | (at_builtin; go_loud (refine wpList_append_lies _ rfl (.tmp 61) (.tmp 63) 34 rfl w.heap.size 38 i0 (.agg #[.int .i64 0, .string ByteArray.empty, .int .i64 0, .int .i64 0]) 4 40 Tryz.underlying34 hi hz0 hz1 hz2 rfl (by decide) u5 ts.length (tvs ts) rfl ((HO4.out.alloc _).alloc _) ⟨w4.heap.size + 1, 0, none⟩ 1 1 (tcell ⟨qk, qt, qn, k⟩) rfl rfl (cell_four_at _ _ _ _ _ _ _ (by simp)) (tcell_one _) (by decide) (by unfold maxLen; omega) (by omega) (by have := HB4.out.size; simp; omega) _ rfl ?_); intro g1 cap1 w5 hown5 hg5 hat5 hlt5; have HB5 := Lib.hid (((HB4.out.alloc HB4.out.size _).alloc (by have := HB4.out.size; simp; omega) _).grown hg5 (by have := HB4.out.size; simp; omega) (own_row0 HO4.out)); have HO5 := Lib.hid (own_snoc1 hown5); clear hown5 hg5 hat5 hlt5))
            go_roundg (s.size - (k + ql))
            case rel => exact ⟨k + ql, ts ++ [⟨qk, qt, qn, k⟩], by omega, by go_num, HS, by simp; omega, HB5, HO5⟩
            case measure => omega
          · have HE := Lib.hid ((herr he).symm.trans HL'.out)
            have he' : ((qe : Int) == 0) = false := by rw [beq_eq_false_iff_ne]; omega
            have he2 : ((qe : Int) != 0) = true := by rw [bne, he']; rfl
            clear hstep herr hlen HL' he
            go_wp2_with (first
              | (go_at_call 39; refine (HTK wr).mono ?_; rintro x w4 ⟨rfl, hb4⟩; have HB4 := Lib.hid (HB.out.trans (hb4.mono HB.out.size)); have HO4 := Lib.hid (own_below HO.out hb4 (Nat.le_refl _)); have hz4 := hb4.size; clear hb4))
            go_ret3
            refine ⟨.slice none 0 0, ?_, ?_, HB4.out.alloc HB4.out.size _⟩
            · rw [← HE.out]; rfl
            · rw [← HE.out]; exact has_nil _
    · have hks : k = s.size := by omega
      have HE := Lib.hid ((glue_end (ts := ts) hks).symm.trans HL'.out)
      clear HL'
      go_wp2_with (first | (at_builtin; go_loud (refine wpList_append_lies _ rfl (.tmp 68) (.tmp 72) 34 rfl w.heap.size 38 i0 (.agg #[.int .i64 0, .string ByteArray.empty, .int .i64 0, .int .i64 0]) 4 40 Tryz.underlying34 hi hz0 hz1 hz2 rfl (by decide) u5 ts.length (tvs ts) rfl (HO.out.alloc _) ⟨wr.heap.size, 0, none⟩ 1 1 (tcell ⟨0, [], 0, s.size⟩) rfl rfl (cell_four_at _ _ _ _ _ _ _ rfl) (tcell_one _) (by decide) (by unfold maxLen; omega) (by omega) (by have := HB.out.size; simp; omega) _ rfl ?_); intro g1 cap1 w5 hown5 hg5 hat5 hlt5; have HB5 := Lib.hid ((HB.out.alloc HB.out.size _).grown hg5 (by have := HB.out.size; simp; omega) (own_row0 HO.out)); have HO5 := Lib.hid (own_snoc1 (x := ⟨0, [], 0, s.size⟩) hown5); clear hown5 hg5 hat5 hlt5))
      go_ret3
      refine ⟨.slice (some ⟨g1, 0, none⟩) (ts.length + 1) cap1, ?_, ?_, HB5.out⟩
      · rw [← HE.out]; rfl
      · rw [← HE.out]; exact own_hasT HO5.out
end Go.Proofs.YtlcapkgbbgpdmaaGreatDoor.YF
