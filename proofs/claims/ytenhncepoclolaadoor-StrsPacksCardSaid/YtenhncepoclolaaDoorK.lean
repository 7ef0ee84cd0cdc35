/- How the program packs a text. -/
import Derived.Test.YtenhncepoclolaaDoorD
import Derived.Test.YtenhncepoclolaaDoorO
import Derived.BigRegion
import Derived.Lib.Hide
namespace Go.Proofs.YtenhncepoclolaaDoor.K
open Go.RowKit Go.Maps Go.Proofs.YtenhncepoclolaaDoor.P Go.Proofs.YtenhncepoclolaaDoor.A Go.Proofs.YtenhncepoclolaaDoor.D Go.Proofs.YtenhncepoclolaaDoor.O
set_option linter.unusedVariables false

theorem pk_nil (n : Nat) : ∀ m : Nat, ivs (pk m n []) = (List.replicate (m + 1) (.int .i64 0)).set 0 (.int .i64 (n : Int)) := by
  intro m
  have e : (List.range m).map (fun j => ((le (grp [] j) : Nat) : Int)) = List.replicate m 0 := by
    apply List.ext_getElem
    · simp
    · intro i h1 h2; simp [grp, le]
  unfold pk ivs
  rw [e, List.replicate_succ, List.set_cons_zero]
  simp

theorem or_val (c r : Nat) (b : UInt8) (hr : r < 7) (h : c < 256 ^ r) : bits .or .i64 (c : Int) (wrap64 (wrap64 (b.toNat : Int) * 2 ^ (8 * r))) = ((c + b.toNat * 256 ^ r : Nat) : Int) := by
  have hb := b.toNat_lt
  have hf := byte_fits b r hr
  have h7 : 256 ^ r ≤ 256 ^ 6 := Nat.pow_le_pow_right (by decide) (by omega)
  have e6 : (256 : Nat) ^ 6 = 281474976710656 := by decide
  have e1 : wrap64 (b.toNat : Int) = (b.toNat : Int) := by unfold wrap64; omega
  have e2 : ((b.toNat : Int) * 2 ^ (8 * r)) = ((b.toNat * 256 ^ r : Nat) : Int) := by
    rw [Int.natCast_mul, ← pow_eq, Int.natCast_pow]; rfl
  rw [e1, e2]
  have e3 : wrap64 ((b.toNat * 256 ^ r : Nat) : Int) = ((b.toNat * 256 ^ r : Nat) : Int) := by unfold wrap64; omega
  rw [e3, bits_or_i64_nat _ _ (by omega) (by omega), or_add _ _ _ h]

theorem pack_long (s : ByteArray) (w : World) (hs : 60 < s.size) :
    Calls Tryd.prog 13 #[.string s] w fun e w' => e = .returned (.tuple #[.slice none 0 0, .int .i64 12]) ∧ w = w' := by
  go_enter Tryd.func13, Tryd.ntmps13
  go_wp2
  go_ret2
  exact ⟨rfl, rfl⟩

theorem pack_short (s : ByteArray) (w : World) (hs : s.size ≤ 60) :
    Calls Tryd.prog 13 #[.string s] w fun e w' => (∃ m, m = (packL s.data.toList).length ∧ e = .returned (.tuple #[.slice (some ⟨w.heap.size, 0, none⟩) m m, .int .i64 0]) ∧ OwnI w' w.heap.size (.slice (some ⟨w.heap.size, 0, none⟩) m m) (packL s.data.toList)) ∧ Below w.heap.size w w' := by
  obtain ⟨i0, hi, hz0, hz1, hz2⟩ := info_parts infoI
  obtain ⟨m, hm⟩ : ∃ m, Hid (m = (s.size + 6) / 7) := ⟨_, rfl⟩
  have hm1 : 1 + (s.size + 6) / 7 = m + 1 := by have := hm.out; omega
  have hm2 : s.size ≤ 7 * m ∧ m ≤ 9 := by have := hm.out; omega
  go_enter Tryd.func13, Tryd.ntmps13
  go_wp2_with (first
    | (go_at_call 24; refine (numbers_any s.size (by omega) _).mono ?_; rw [hm1]; rintro e w1 ⟨rfl, rfl⟩)
    | (at_make; go_loud (refine wpList_make_full _ rfl _ _ 23 rfl w.heap.size 3 i0 (.int .i64 0) 1 Tryd.underlying23 hi hz0 hz1 .i64 .i64 _ _ (m + 1) rfl rfl (by omega) (by omega) (by rw [hz2]; omega) (by unfold maxLen; omega) (Nat.le_refl _) ?_); intro w1 hown1 hg1; have c0 : w1.cell? ⟨w.heap.size, 0, none⟩ = some (.int .i64 0) := (by rw [hown1.cellAt 0 (by omega), Nat.mul_one]; show (madeCells #[Value.int .i64 0] (m + 1)).toList[0]? = _; rw [toList_madeCells_one]; rfl); have f0 := hown1.frozenAt 0))
  obtain ⟨hown2, hg2⟩ := hown1.stored 0 (.int .i64 (s.size : Int))
  have hown3 : (w1.setCell ⟨w.heap.size, 0, none⟩ (.int .i64 (s.size : Int))).ownsRow w.heap.size 3 1 (.slice (some ⟨w.heap.size, 0, none⟩) (m + 1) (m + 1)) (m + 1) (ivs (pk m s.size [])) := by
    rw [pk_nil, ← toList_madeCells_one]
    rw [Nat.mul_one] at hown2
    exact hown2
  have hnx3 : Below w.heap.size w (w1.setCell ⟨w.heap.size, 0, none⟩ (.int .i64 (s.size : Int))) := ((Below.refl _ _).grown hg1 (Nat.le_refl _) (fun j hj => by cases hj)).setCell (Nat.le_refl _) _
  clear hown1 hg1 hown2 hg2 c0 f0
  go_loopw [19] (fun i wr => ∃ k : Nat, k ≤ s.size ∧ i = .int .i64 (k : Int) ∧ wr.ownsRow w.heap.size 3 1 (.slice (some ⟨w.heap.size, 0, none⟩) (m + 1) (m + 1)) (m + 1) (ivs (pk m s.size (s.data.toList.take k))) ∧ Below w.heap.size w wr)
    (fun i _ => s.size - (intOf i).toNat)
  case atStart => exact ⟨0, Nat.zero_le _, rfl, hown3, hnx3⟩
  case round =>
    obtain ⟨k, hk, rfl, hown, hnx⟩ := hrel
    by_cases hlt : k < s.size
    · have hj : k / 7 < m := by omega
      have hl : (s.data.toList.take k).length = k := by simp; omega
      obtain ⟨c, hc⟩ : ∃ c : Nat, Hid (c = le (grp (s.data.toList.take k) (k / 7))) := ⟨_, rfl⟩
      have hcell : wr.cell? ⟨w.heap.size, 1 + k / 7, none⟩ = some (.int .i64 (c : Int)) := by
        rw [hown.cellAt (1 + k / 7) (by omega)]
        have := pk_at m s.size (s.data.toList.take k) (k / 7) hj
        simp only [ivs, List.getElem?_map]
        rw [List.getElem?_eq_getElem (by rw [pk_len]; omega), this, hc.out]
        rfl
      have hfr := hown.frozenAt (1 + k / 7)
      have t1 : (1 + (k : Int) / 7).toNat = 1 + k / 7 := by omega
      go_wp2
      go_region
      have hcl : c < 256 ^ (k % 7) := by
        rw [hc.out]
        have := grp_lt_self (s.data.toList.take k)
        rwa [hl] at this
      have hval := or_val c (k % 7) s[k] (by omega) hcl
      obtain ⟨hown4, hg4⟩ := hown.stored (1 + k / 7) (.int .i64 (bits .or .i64 (c : Int) (wrap64 (wrap64 (s[k].toNat : Int) * 2 ^ (8 * (k % 7))))))
      have hown5 := hown4.drew
      have hnx4 : Below w.heap.size w (wr.setCell ⟨w.heap.size, 1 + k / 7, none⟩ (.int .i64 (bits .or .i64 (c : Int) (wrap64 (wrap64 (s[k].toNat : Int) * 2 ^ (8 * (k % 7))))))).drew := (hnx.setCell (Nat.le_refl _) _).drew
      have hst : ivs (pk m s.size (s.data.toList.take (k + 1))) = (ivs (pk m s.size (s.data.toList.take k))).set (1 + k / 7) (.int .i64 (bits .or .i64 (c : Int) (wrap64 (wrap64 (s[k].toNat : Int) * 2 ^ (8 * (k % 7)))))) := by
        rw [take_next s k hlt, pk_step, hl, ← hc.out, ← hval]
        simp [ivs, List.map_set]
      rw [← hst] at hown5
      clear hown4 hg4 hst hval hcl hcell hfr t1 hown hnx
      go_wp2
      go_roundw
      case rel => exact ⟨k + 1, by omega, by go_num, hown5, hnx4⟩
      case measure => simp [intOf]; omega
    · have hke : k = s.size := by omega
      subst hke
      have hkl : s.data.toList.take s.size = s.data.toList := List.take_of_length_le (by simp)
      rw [hkl] at hown
      have hpl : packL s.data.toList = pk m s.size s.data.toList := by
        unfold packL; rw [hm.out]; simp
      go_wp2
      go_ret2
      refine ⟨⟨m + 1, by rw [hpl, pk_len], rfl, ?_⟩, hnx⟩
      unfold OwnI
      rw [hpl, pk_len]
      exact hown

theorem pack_any (s : ByteArray) (w : World) :
    Calls Tryd.prog 13 #[.string s] w fun e w' =>
      (if s.size ≤ 60 then ∃ v, e = .returned (.tuple #[v, .int .i64 0]) ∧ OwnI w' w.heap.size v (packL s.data.toList) else e = .returned (.tuple #[.slice none 0 0, .int .i64 12])) ∧ Below w.heap.size w w' := by
  by_cases h : s.size ≤ 60
  · simp only [if_pos h]
    refine (pack_short s w h).mono ?_
    rintro e w' ⟨⟨m, _, he, ho⟩, hb⟩
    exact ⟨⟨_, he, ho⟩, hb⟩
  · simp only [if_neg h]
    refine (pack_long s w (by omega)).mono ?_
    rintro e w' ⟨he, rfl⟩
    exact ⟨he, Below.refl _ _⟩
end Go.Proofs.YtenhncepoclolaaDoor.K
