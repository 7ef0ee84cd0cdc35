/- The program's heap: how many words are in use, what is a pointer, what may stand. -/
import Derived.Test.YtphebogjmbaboaaDoorHB
namespace Go.Proofs.YtphebogjmbaboaaDoor.HC
open Go.RowKit Go.Proofs.YtphebogjmbaboaaDoor.RG Go.Proofs.YtphebogjmbaboaaDoor.RB Go.Proofs.YtphebogjmbaboaaDoor.RM Go.Proofs.YtphebogjmbaboaaDoor.HA Go.Proofs.YtphebogjmbaboaaDoor.HB Go.Proofs.YtphebogjmbaboaaDoor.K1
set_option linter.unusedVariables false
set_option maxRecDepth 100000
set_option maxRecDepth 100000

theorem used_c (w : World) (p x m o N : Nat) (h : Hp) (H : HP w p x m o N h) : Calls Tryd.prog 12 #[.pointer (some ⟨p, 0, none⟩)] w fun e w' => e = .returned (.int .i64 (used h)) ∧ w = w' := by
  have k1 := H.blk.cell 1 _ rfl
  clear H
  go_enter Tryd.func12, Tryd.ntmps12
  go_wp2_with fail
  go_ret
  exact ⟨rfl, rfl⟩
theorem half_c (w : World) (p x m o N : Nat) (h : Hp) (H : HP w p x m o N h) : Calls Tryd.prog 62 #[.pointer (some ⟨p, 0, none⟩)] w fun e w' => e = .returned (.int .i64 N) ∧ w = w' := by
  have k0 := H.blk.cell 0 _ rfl
  clear H
  go_enter Tryd.func62, Tryd.ntmps62
  go_wp2_with fail
  go_ret
  exact ⟨rfl, rfl⟩
theorem ret_bool {a b : Bool} (h : a = b) : Ending.returned (.bool a) = .returned (.bool b) := by rw [h]
theorem istag_c (t : Int) (w : World) : Calls Tryd.prog 61 #[.int .i64 t] w fun e w' => e = .returned (.bool (isTag t)) ∧ w = w' := by
  have hcs : (t < 0 ∧ isTag t = false) ∨ (0 ≤ t ∧ t ≤ 199 ∧ isTag t = true) ∨ (t = 200 ∧ isTag t = true) ∨ (t = 201 ∧ isTag t = true) ∨ (201 < t ∧ isTag t = false) := by
    unfold isTag
    simp only [Bool.and_eq_true, decide_eq_true_eq, Bool.and_eq_false_iff, decide_eq_false_iff_not]
    omega
  rcases hcs with ⟨h1, e⟩ | ⟨h1, h2, e⟩ | ⟨h1, e⟩ | ⟨h1, e⟩ | ⟨h1, e⟩
  all_goals rw [e]
  · have i1 : ¬ t ≥ 0 := by omega
    have t1 : (t == 200) = false := by rw [beq_eq_false_iff_ne]; omega
    have t2 : (t == 201) = false := by rw [beq_eq_false_iff_ne]; omega
    go_enter Tryd.func61, Tryd.ntmps61
    go_wp2_with fail
    go_ret
    exact ⟨rfl, rfl⟩
  · have i1 : t ≥ 0 := by omega
    go_enter Tryd.func61, Tryd.ntmps61
    go_wp2_with fail
    go_ret
    exact ⟨rfl, rfl⟩
  · subst h1
    go_enter Tryd.func61, Tryd.ntmps61
    go_wp2_with fail
    go_ret
    exact ⟨rfl, rfl⟩
  · subst h1
    go_enter Tryd.func61, Tryd.ntmps61
    go_wp2_with fail
    go_ret
    exact ⟨rfl, rfl⟩
  · have i1 : t ≥ 0 := by omega
    have i2 : ¬ t ≤ 199 := by omega
    have t1 : (t == 200) = false := by rw [beq_eq_false_iff_ne]; omega
    have t2 : (t == 201) = false := by rw [beq_eq_false_iff_ne]; omega
    go_enter Tryd.func61, Tryd.ntmps61
    go_wp2_with fail
    go_ret
    exact ⟨rfl, rfl⟩
/-- The places, as the set has them. -/
def keys (h : Hp) : List Int := (List.range h.length).map fun k => (place h k : Int)
theorem keys_at {h : Hp} {n : Int} : n ∈ keys h ↔ (blk h (2 * n)).isSome = true := by
  unfold keys
  constructor
  · intro hn
    obtain ⟨k, hk, rfl⟩ := List.mem_map.1 hn
    have := blk_yes (List.mem_range.1 hk)
    unfold ptr at this
    rw [this]; rfl
  · intro hs
    obtain ⟨k, hk⟩ := Option.isSome_iff_exists.1 hs
    obtain ⟨h1, h2⟩ := blk_some hk
    unfold ptr at h2
    exact List.mem_map.2 ⟨k, List.mem_range.2 h1, by omega⟩
theorem decide_eq_decide_of {P : Prop} [Decidable P] {b : Bool} (h : P ↔ b = true) : decide P = b := by
  cases b with
  | true => exact decide_eq_true (h.2 rfl)
  | false => exact decide_eq_false fun k => by cases h.1 k
theorem run_hlk (w : World) (m : Nat) (ks : List Int) (K : Int) (hb : SetB w m ks) : (Instr.lookup 63 (.map (some m)) (.int .i64 K) true).run Tryd.prog w = .ok (.tuple #[.agg #[], .bool (decide (K ∈ ks))]) w :=
  run_lookK (P := Tryd.prog) (MT := 63) (KT := 3) (ET := 105) Tryd.underlying63 Tryd.underlying3 (fun w => by kernel_rfl) w m ks K hb
theorem blk_bad {h : Hp} {n : Int} (hn : n ≤ 0 ∨ n % 2 = 1) : blk h n = none := by
  cases e : blk h n with
  | none => rfl
  | some k =>
    obtain ⟨_, h2⟩ := blk_some e
    unfold ptr at h2
    have := place_pos h k
    omega
/-- A word, as a place. -/
theorem at_any (h : Hp) (n : Int) : ∃ (A : Int) (B : Bool), (∀ w, Calls Tryd.prog 67 #[.int .i64 n] w fun e w' => e = .returned (.tuple #[.int .i64 A, .bool B]) ∧ w = w') ∧ ((B = true ∧ n = 2 * A) ∨ (B = false ∧ blk h n = none)) := by
  rcases (show n ≤ 0 ∨ (0 < n ∧ n % 2 = 0) ∨ n % 2 = 1 by omega) with h0 | ⟨h0, h1⟩ | h1
  · exact ⟨0, false, fun w => at_below n w h0, .inr ⟨rfl, blk_bad (.inl h0)⟩⟩
  · exact ⟨n / 2, true, fun w => at_yes n w h0 h1, .inl ⟨rfl, by omega⟩⟩
  · exact ⟨0, false, fun w => at_odd n w h1, .inr ⟨rfl, blk_bad (.inr h1)⟩⟩
theorem is_c (w : World) (p x m o N : Nat) (h : Hp) (H : HP w p x m o N h) (n : Int) : Calls Tryd.prog 66 #[.pointer (some ⟨p, 0, none⟩), .int .i64 n] w fun e w' => e = .returned (.bool (blk h n).isSome) ∧ Below w.heap.size w w' := by
  have k2 := H.blk.cell 2 _ rfl
  obtain ⟨A, B, hat, hB⟩ := at_any h n
  have hlk := run_hlk w m (keys h) A H.set
  obtain ⟨R, hR⟩ : ∃ R, decide (A ∈ keys h) = R := ⟨_, rfl⟩
  rw [hR] at hlk
  have HRES := Lib.hid (show (B && R) = (blk h n).isSome from by
    rcases hB with ⟨rfl, rfl⟩ | ⟨rfl, e⟩
    · rw [← hR, Bool.true_and, decide_eq_decide_of (keys_at (h := h) (n := A))]
    · rw [e]; rfl)
  have HAT := Lib.hid (hat w)
  clear hat hB hR H
  cases B
  all_goals
    go_enter Tryd.func66, Tryd.ntmps66
    go_wp2_with fail
    refine HAT.out.mono ?_
    rintro e w1 ⟨rfl, rfl⟩
    go_wp2_with fail
    go_ret
    exact ⟨ret_bool HRES.out, balloc _ _⟩
theorem may_c (w : World) (p x m o N : Nat) (h : Hp) (H : HP w p x m o N h) (n : Int) : Calls Tryd.prog 74 #[.pointer (some ⟨p, 0, none⟩), .int .i64 n] w fun e w' => e = .returned (.bool (mayW h n)) ∧ Below w.heap.size w w' := by
  have HI := Lib.hid (fun w' (hb : Below w.heap.size w w') => is_c w' p x m o N h (H.keep hb) n)
  rcases (show n % 2 = 1 ∨ n % 2 = 0 by omega) with h1 | h1
  · have e : mayW h n = true := by unfold mayW; simp [h1]
    have HU := Lib.hid (fun w => untag_odd n w h1)
    rw [e]
    clear h1 e H
    go_enter Tryd.func74, Tryd.ntmps74
    go_wp2_with fail
    refine (HU.out _).mono ?_
    rintro e w1 ⟨rfl, rfl⟩
    go_wp2_with fail
    go_ret
    exact ⟨rfl, Below.refl _ _⟩
  · have e : mayW h n = (blk h n).isSome := by unfold mayW; simp [h1]
    have HU := Lib.hid (fun w => untag_even n w h1)
    rw [e]
    clear h1 e H
    go_enter Tryd.func74, Tryd.ntmps74
    go_wp2_with fail
    refine (HU.out _).mono ?_
    rintro e w1 ⟨rfl, rfl⟩
    go_wp2_with fail
    refine (HI.out w (Below.refl _ _)).mono ?_
    rintro e w2 ⟨rfl, hb⟩
    have HB := Lib.hid hb
    clear hb
    go_wp2_with fail
    go_ret
    exact ⟨rfl, HB.out⟩
theorem allmay_c (w : World) (p x m o N : Nat) (h : Hp) (H : HP w p x m o N h) (v : Value) (l : List Int) (hv : RowI w v l) (hl : l.length ≤ 1000000) : Calls Tryd.prog 54 #[.pointer (some ⟨p, 0, none⟩), v] w fun e w' => e = .returned (.bool (l.all (mayW h))) ∧ Below w.heap.size w w' := by
  obtain ⟨ao, cap, rfl, _⟩ := hv.val
  obtain ⟨n, hn⟩ : ∃ n, Hid (l.length = n) := ⟨_, Lib.hid rfl⟩
  rw [hn.out] at hv hl ⊢
  have HM := Lib.hid (fun w' (hb : Below w.heap.size w w') (z : Int) => may_c w' p x m o N h (H.keep hb) z)
  have HV := Lib.hid hv
  obtain ⟨R, hR⟩ : ∃ R, Hid (l.all (mayW h) = R) := ⟨_, Lib.hid rfl⟩
  rw [hR.out]
  clear H hv
  go_enter Tryd.func54, Tryd.ntmps54
  go_wp2_with fail
  go_loopg [6, 9] n (fun g wv iv wr => ∃ i : Nat, i + g = n ∧ iv = .int .i64 (i : Int) ∧ Hid ((l.take i).all (mayW h) = true) ∧ Hid (Below w.heap.size w wr))
  case atStart => exact ⟨0, Nat.zero_add _, rfl, Lib.hid rfl, Lib.hid (Below.refl _ _)⟩
  case round =>
    obtain ⟨i, hi, rfl, HA, HX⟩ := hrel
    by_cases hlt : i < n
    · obtain ⟨g', rfl⟩ : ∃ g, gk = g + 1 := ⟨gk - 1, by omega⟩
      obtain ⟨z, hz⟩ := getElem?_of_lt (l := l) (k := i) (by rw [hn.out]; exact hlt)
      obtain ⟨b, off, cp, hve, _, hblt, hcells⟩ := HV.out.open_ (by intro e; rw [e] at hz; simp at hz)
      rw [hn.out] at hve
      cases hve
      obtain ⟨q, hL, _⟩ := hcells i z hz
      have x0 : wr.cell? ⟨b, off + i, none⟩ = some (.int .i64 z) := (HX.out.cell (p := ⟨b, off + i, none⟩) hblt).trans (by have := hL 0 _ rfl; simpa [TI, Ty.flat] using this)
      have i0 : (0 : Int) ≤ (i : Int) := by omega
      have i1 : (i : Int) < (n : Int) := by omega
      have HZ := Lib.hid hz
      obtain ⟨Z, hZ⟩ : ∃ Z, Hid (mayW h z = Z) := ⟨_, Lib.hid rfl⟩
      have HMZ := HM.out wr HX.out z
      rw [hZ.out] at HMZ
      have HMC := Lib.hid HMZ
      clear hcells hL hz hblt HMZ
      go_wp2_with fail
      refine HMC.out.mono ?_
      rintro e w2 ⟨rfl, hb⟩
      have HX2 := Lib.hid (bnext HX.out hb)
      clear hb
      cases Z
      · have HF := Lib.hid (show R = false from by
          rw [← hR.out]
          exact List.all_eq_false.2 ⟨z, List.mem_of_getElem? HZ.out, by rw [hZ.out]; decide⟩)
        go_wp2_with fail
        go_ret
        exact ⟨ret_bool HF.out.symm, HX2.out⟩
      · have HT := Lib.hid (show (l.take (i + 1)).all (mayW h) = true from by
          rw [List.take_add_one, HZ.out, List.all_append, HA.out]
          simp [hZ.out])
        go_wp2_with fail
        go_roundg g'
        case rel => exact ⟨i + 1, by omega, by go_num, HT, HX2⟩
        case measure => omega
    · have HT := Lib.hid (show R = true from by
        rw [← hR.out, ← HA.out, List.take_of_length_le (by rw [hn.out]; omega)])
      go_wp2_with fail
      go_ret
      exact ⟨ret_bool HT.out.symm, HX.out⟩
end Go.Proofs.YtphebogjmbaboaaDoor.HC
