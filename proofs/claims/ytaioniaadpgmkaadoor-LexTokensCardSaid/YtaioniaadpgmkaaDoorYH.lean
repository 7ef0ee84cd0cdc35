/- The document's token: signs, strings, and where nothing begins. -/
import Derived.Test.YtaioniaadpgmkaaDoorYD
import Derived.Outline
namespace Go.Proofs.YtaioniaadpgmkaaDoor.YH
open Go.RowKit Go.Proofs.YtaioniaadpgmkaaDoor.P Go.Proofs.YtaioniaadpgmkaaDoor.A Go.Proofs.YtaioniaadpgmkaaDoor.Q Go.Proofs.YtaioniaadpgmkaaDoor.V Go.Proofs.YtaioniaadpgmkaaDoor.TK Go.Proofs.YtaioniaadpgmkaaDoor.YC Go.Proofs.YtaioniaadpgmkaaDoor.YK Go.Proofs.YtaioniaadpgmkaaDoor.YL Go.Proofs.YtaioniaadpgmkaaDoor.YW Go.Proofs.YtaioniaadpgmkaaDoor.YE Go.Proofs.YtaioniaadpgmkaaDoor.YD Go.Proofs.YtaioniaadpgmkaaDoor.RU Go.Proofs.YtaioniaadpgmkaaDoor.U
set_option linter.unusedVariables false

/-- The answer: a token, how many bytes, an error. -/
abbrev tokr (q : (Nat × List UInt8 × Nat) × Nat × Nat) : Value := .tuple #[.agg #[.int .i64 (q.1.1 : Int), .string ⟨q.1.2.1.toArray⟩, .int .i64 (q.1.2.2 : Int), .int .i64 0], .int .i64 (q.2.1 : Int), .int .i64 (q.2.2 : Int)]
theorem bcell {W w1 : World} {b : Nat} (hb : Below W.heap.size W w1) (hl : b < W.heap.size) : (∀ o, w1.cell? ⟨b, o, none⟩ = W.cell? ⟨b, o, none⟩) ∧ (∀ o, w1.frozen? ⟨b, o, none⟩ = W.frozen? ⟨b, o, none⟩) :=
  ⟨fun o => hb.cell (p := ⟨b, o, none⟩) hl, fun o => hb.frozen (p := ⟨b, o, none⟩) hl⟩
theorem below4 {w w1 : World} {b : Nat} (h : Below w.heap.size w w1) (hb : w.heap.size ≤ b) (v0 v1 v2 v3 : Value) : Below w.heap.size w ((((w1.setCell ⟨b, 0, none⟩ v0).setCell ⟨b, 1, none⟩ v1).setCell ⟨b, 2, none⟩ v2).setCell ⟨b, 3, none⟩ v3) :=
  (((h.setCell (p := ⟨b, 0, none⟩) hb v0).setCell (p := ⟨b, 1, none⟩) hb v1).setCell (p := ⟨b, 2, none⟩) hb v2).setCell (p := ⟨b, 3, none⟩) hb v3

theorem take_one (s : ByteArray) (h : 0 < s.size) : s.extract 0 1 = ⟨[s[0]].toArray⟩ := by
  apply mk_of
  rw [ByteArray.data_extract, Array.toList_extract, List.extract_eq_take_drop, List.drop_zero, list_head h]
  rfl
set_option maxRecDepth 100000 in
set_option maxHeartbeats 1000000 in
theorem rtok_two (s : ByteArray) (w : World) (h0 : 0 < s.size) (hs : s.size ≤ 2000) (hD : isD s[0] = false) (hQ : s[0] ≠ 34) (hS : isS s[0] = false) (hL : isL s[0] = false) (h1 : 1 < s.size) (h45 : s[0] = 45) (h62 : s[1] = 62) :
    Calls Tryd.prog 20 #[.string s] w fun e w' => e = .returned (tokr ((5, [45, 62], 0), 2, 0)) ∧ Below w.heap.size w w' := by
  have c1 := fun W => YC.rdigit_any s[0] W
  rw [hD] at c1
  have t34 : ((s[0].toNat : Int) == 34) = false := byte_ne (n := 34) (by decide) hQ
  have c2 := fun W => rsmall_any s[0] W
  rw [hS] at c2
  have c3 := fun W => rlarge_any s[0] W
  rw [hL] at c3
  have t45 : ((s[0].toNat : Int) == 45) = true := byte_eq (n := 45) (by decide) h45
  have t62 : ((s[1].toNat : Int) == 62) = true := byte_eq (n := 62) (by decide) h62
  clear hD hQ hS hL h45 h62
  go_enter Tryd.func20, Tryd.ntmps20
  go_wp2_with (first | (go_at_call 32; refine (c1 _).mono ?_; rintro e w0 ⟨rfl, rfl⟩) | (go_at_call 34; refine (c2 _).mono ?_; rintro e w0 ⟨rfl, rfl⟩) | (go_at_call 35; refine (c3 _).mono ?_; rintro e w0 ⟨rfl, rfl⟩) | (go_at_call 36; refine (c4 _).mono ?_; rintro e w0 ⟨rfl, rfl⟩))
  exact bodyPost_ret (v := tokr ((5, [45, 62], 0), 2, 0)) (by simp [results, Tryd.results20, go_sem]) rfl ⟨rfl, (Below.refl _ _).alloc (Nat.le_refl _) _⟩
set_option maxRecDepth 100000 in
set_option maxHeartbeats 1000000 in
theorem rtok_nothing (s : ByteArray) (w : World) (h0 : 0 < s.size) (hs : s.size ≤ 2000) (hD : isD s[0] = false) (hQ : s[0] ≠ 34) (hS : isS s[0] = false) (hL : isL s[0] = false) (hI : s[0] ∉ signs) :
    Calls Tryd.prog 20 #[.string s] w fun e w' => e = .returned (tokr ((0, [], 0), 0, 10)) ∧ Below w.heap.size w w' := by
  have c1 := fun W => YC.rdigit_any s[0] W
  rw [hD] at c1
  have t34 : ((s[0].toNat : Int) == 34) = false := byte_ne (n := 34) (by decide) hQ
  have c2 := fun W => rsmall_any s[0] W
  rw [hS] at c2
  have c3 := fun W => rlarge_any s[0] W
  rw [hL] at c3
  have c4 := fun W => rsign_any s[0] W
  have hI' : decide (s[0] ∈ signs) = false := decide_eq_false hI
  rw [hI'] at c4
  have t45 : ((s[0].toNat : Int) == 45) = false := byte_ne (n := 45) (by decide) (fun e => hI (by rw [e]; decide))
  clear hD hQ hS hL hI hI'
  go_enter Tryd.func20, Tryd.ntmps20
  go_wp2_with (first | (go_at_call 32; refine (c1 _).mono ?_; rintro e w0 ⟨rfl, rfl⟩) | (go_at_call 34; refine (c2 _).mono ?_; rintro e w0 ⟨rfl, rfl⟩) | (go_at_call 35; refine (c3 _).mono ?_; rintro e w0 ⟨rfl, rfl⟩) | (go_at_call 36; refine (c4 _).mono ?_; rintro e w0 ⟨rfl, rfl⟩))
  exact bodyPost_ret (v := tokr ((0, [], 0), 0, 10)) (by simp [results, Tryd.results20, go_sem]) rfl ⟨rfl, (Below.refl _ _).alloc (Nat.le_refl _) _⟩
set_option maxRecDepth 100000 in
set_option maxHeartbeats 1000000 in
theorem rtok_one (s : ByteArray) (w : World) (h0 : 0 < s.size) (hs : s.size ≤ 2000) (hD : isD s[0] = false) (hQ : s[0] ≠ 34) (hS : isS s[0] = false) (hL : isL s[0] = false) (hI : s[0] ∈ signs) (h2 : ¬ (s[0] = 45 ∧ ∃ h : 1 < s.size, s[1] = 62)) :
    Calls Tryd.prog 20 #[.string s] w fun e w' => e = .returned (tokr ((5, [s[0]], 0), 1, 0)) ∧ Below w.heap.size w w' := by
  have c1 := fun W => YC.rdigit_any s[0] W
  rw [hD] at c1
  have t34 : ((s[0].toNat : Int) == 34) = false := byte_ne (n := 34) (by decide) hQ
  have c2 := fun W => rsmall_any s[0] W
  rw [hS] at c2
  have c3 := fun W => rlarge_any s[0] W
  rw [hL] at c3
  have c4 := fun W => rsign_any s[0] W
  have hI' : decide (s[0] ∈ signs) = true := decide_eq_true hI
  rw [hI'] at c4
  have hx := take_one s h0
  by_cases h45 : s[0] = 45
  · have t45 : ((s[0].toNat : Int) == 45) = true := byte_eq (n := 45) (by decide) h45
    by_cases h1 : 1 < s.size
    · have h62 : s[1] ≠ 62 := fun e => h2 ⟨h45, h1, e⟩
      have t62 : ((s[1].toNat : Int) == 62) = false := byte_ne (n := 62) (by decide) h62
      clear hD hQ hS hL hI hI' h2 h45 h62
      go_enter Tryd.func20, Tryd.ntmps20
      go_wp2_with (first | (go_at_call 32; refine (c1 _).mono ?_; rintro e w0 ⟨rfl, rfl⟩) | (go_at_call 34; refine (c2 _).mono ?_; rintro e w0 ⟨rfl, rfl⟩) | (go_at_call 35; refine (c3 _).mono ?_; rintro e w0 ⟨rfl, rfl⟩) | (go_at_call 36; refine (c4 _).mono ?_; rintro e w0 ⟨rfl, rfl⟩))
      exact bodyPost_ret (v := tokr ((5, [s[0]], 0), 1, 0)) (by simp [results, Tryd.results20, go_sem]) rfl ⟨rfl, (Below.refl _ _).alloc (Nat.le_refl _) _⟩
    · have hs1 : s.size ≤ 1 := by omega
      clear h1 hD hQ hS hL hI hI' h2 h45
      go_enter Tryd.func20, Tryd.ntmps20
      go_wp2_with (first | (go_at_call 32; refine (c1 _).mono ?_; rintro e w0 ⟨rfl, rfl⟩) | (go_at_call 34; refine (c2 _).mono ?_; rintro e w0 ⟨rfl, rfl⟩) | (go_at_call 35; refine (c3 _).mono ?_; rintro e w0 ⟨rfl, rfl⟩) | (go_at_call 36; refine (c4 _).mono ?_; rintro e w0 ⟨rfl, rfl⟩))
      exact bodyPost_ret (v := tokr ((5, [s[0]], 0), 1, 0)) (by simp [results, Tryd.results20, go_sem]) rfl ⟨rfl, (Below.refl _ _).alloc (Nat.le_refl _) _⟩
  · have t45 : ((s[0].toNat : Int) == 45) = false := byte_ne (n := 45) (by decide) h45
    clear hD hQ hS hL hI hI' h2 h45
    go_enter Tryd.func20, Tryd.ntmps20
    go_wp2_with (first | (go_at_call 32; refine (c1 _).mono ?_; rintro e w0 ⟨rfl, rfl⟩) | (go_at_call 34; refine (c2 _).mono ?_; rintro e w0 ⟨rfl, rfl⟩) | (go_at_call 35; refine (c3 _).mono ?_; rintro e w0 ⟨rfl, rfl⟩) | (go_at_call 36; refine (c4 _).mono ?_; rintro e w0 ⟨rfl, rfl⟩))
    exact bodyPost_ret (v := tokr ((5, [s[0]], 0), 1, 0)) (by simp [results, Tryd.results20, go_sem]) rfl ⟨rfl, (Below.refl _ _).alloc (Nat.le_refl _) _⟩
set_option maxRecDepth 100000 in
set_option maxHeartbeats 1000000 in
theorem rtok_text (s : ByteArray) (w : World) (h0 : 0 < s.size) (hs : s.size ≤ 2000) (hD : isD s[0] = false) (hQ : s[0] = 34) (q : List UInt8 × Nat × Nat) (hq : unq s.data.toList = q) :
    Calls Tryd.prog 20 #[.string s] w fun e w' => e = .returned (tokr ((2, q.1, 0), q.2.1, q.2.2)) ∧ Below w.heap.size w w' := by
  have c1 := fun W => YC.rdigit_any s[0] W
  rw [hD] at c1
  have t34 : ((s[0].toNat : Int) == 34) = true := byte_eq (n := 34) (by decide) hQ
  have HU := fun W => runq_any s W (by omega)
  rw [hq] at HU
  obtain ⟨qt, qn, qe⟩ := q
  clear hD hQ hq
  go_enter Tryd.func20, Tryd.ntmps20
  go_wp2_with (first | (go_at_call 32; refine (c1 _).mono ?_; rintro e w0 ⟨rfl, rfl⟩) | (go_at_call 33; refine (HU _).mono ?_; rintro e w1 ⟨rfl, hb1⟩; obtain ⟨hc, hf⟩ := bcell (b := w.heap.size) hb1 (by simp)))
  refine bodyPost_ret (v := tokr ((2, qt, 0), qn, qe)) (by simp [results, Tryd.results20, go_sem, hc]) rfl ⟨rfl, below4 (((Below.refl _ _).alloc (Nat.le_refl _) _).trans (hb1.mono (by simp))) (Nat.le_refl _) _ _ _ _⟩
end Go.Proofs.YtaioniaadpgmkaaDoor.YH
