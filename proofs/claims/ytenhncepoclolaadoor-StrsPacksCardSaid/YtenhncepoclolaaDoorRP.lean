/- How the document packs a text. -/
import Derived.Test.YtenhncepoclolaaDoorK
import Derived.Deep.RegionWith
import Derived.StillTailTactics
import Derived.Deep.AppendLies
namespace Go.Proofs.YtenhncepoclolaaDoor.RP
open Go.RowKit Go.Maps Go.Proofs.YtenhncepoclolaaDoor.P Go.Proofs.YtenhncepoclolaaDoor.A Go.Proofs.YtenhncepoclolaaDoor.O Go.Proofs.YtenhncepoclolaaDoor.K
set_option linter.unusedVariables false

theorem pow_le (i : Nat) (h : i ≤ 5) : 256 ^ i ≤ 1099511627776 := by
  have : 256 ^ i ≤ 256 ^ 5 := Nat.pow_le_pow_right (by decide) h
  have e : (256 : Nat) ^ 5 = 1099511627776 := by decide
  omega
theorem pow_le6 (i : Nat) (h : i ≤ 6) : 256 ^ i ≤ 281474976710656 := by
  have : 256 ^ i ≤ 256 ^ 6 := Nat.pow_le_pow_right (by decide) h
  have e : (256 : Nat) ^ 6 = 281474976710656 := by decide
  omega

theorem power_any (r : Nat) (hr : r ≤ 6) (w : World) (p : Nat) (hp : p = 256 ^ r) :
    Calls Tryd.prog 25 #[.int .i64 (r : Int)] w fun e w' => e = .returned (.int .i64 (p : Int)) ∧ w = w' := by
  have HP := Lib.hid hp
  clear hp
  go_enter Tryd.func25, Tryd.ntmps25
  go_wp2
  go_loop [3, 4] (fun t i => ∃ k q : Nat, k ≤ r ∧ i = .int .i64 (k : Int) ∧ t = .int .i64 (q : Int) ∧ Hid (q = 256 ^ k)) (fun _ i => r - (intOf i).toNat)
  case atStart => exact ⟨0, 1, Nat.zero_le _, rfl, rfl, rfl⟩
  case round =>
    obtain ⟨k, q, hk, rfl, rfl, HQ⟩ := hrel
    by_cases hlt : k < r
    · have hq : q ≤ 1099511627776 := by rw [HQ.out]; exact pow_le k (by omega)
      have HN : Hid (q * 256 = 256 ^ (k + 1)) := by show q * 256 = _; rw [HQ.out, Nat.pow_succ]
      go_wp2
      go_round
      case rel => exact ⟨k + 1, q * 256, by omega, by go_num, by go_num, HN.out⟩
      case measure => simp only [intOf]; omega
    · have hke : k = r := by omega
      have HE : Hid (q = p) := by show q = p; rw [HQ.out, HP.out, hke]
      go_wp2
      go_ret
      exact ⟨by rw [← HE.out]; rfl, rfl⟩

theorem power_as (r : Nat) (hr : r ≤ 6) (w : World) (p : Nat) (hp : p = 256 ^ r) (x : Int) (hx : x = (r : Int)) :
    Calls Tryd.prog 25 #[.int .i64 x] w fun e w' => e = .returned (.int .i64 (p : Int)) ∧ w = w' := by
  subst hx; exact power_any r hr w p hp

theorem power_still (r : Nat) (hr : r ≤ 6) (w : World) (p : Nat) (hp : p = 256 ^ r) (x : Int) (hx : x = (r : Int)) :
    Calls Tryd.prog 25 #[.int .i64 x] w fun e w' => e = .returned (.int .i64 (p : Int)) ∧ w' = w :=
  (power_as r hr w p hp x hx).mono fun _ _ ⟨he, hw⟩ => ⟨he, hw.symm⟩

theorem wraps (b p c : Nat) (hb : b < 2 ^ 8) (h : b * p < 72057594037927936) (hc : c < 281474976710656) :
    IntKind.i64.wrap (b : Int) = (b : Int) ∧ wrap64 (b : Int) = (b : Int) ∧ IntKind.i64.wrap ((b : Int) * (p : Int)) = (b : Int) * (p : Int) ∧ wrap64 ((b : Int) * (p : Int)) = (b : Int) * (p : Int) ∧
      IntKind.i64.wrap ((c : Int) + (b : Int) * (p : Int)) = (c : Int) + (b : Int) * (p : Int) ∧ wrap64 ((c : Int) + (b : Int) * (p : Int)) = (c : Int) + (b : Int) * (p : Int) := by
  obtain ⟨n, hn, hn2⟩ : ∃ n : Nat, (b : Int) * (p : Int) = (n : Int) ∧ n < 72057594037927936 := ⟨b * p, (Int.natCast_mul b p).symm, h⟩
  rw [hn]
  clear h hn
  rw [IntKind.wrap_i64, IntKind.wrap_i64, IntKind.wrap_i64]
  unfold wrap64
  refine ⟨?_, ?_, ?_, ?_, ?_, ?_⟩ <;> omega

theorem pk_grow (m n : Nat) (l : List UInt8) (h : l.length = 7 * m) : pk (m + 1) n l = pk m n l ++ [0] := by
  unfold pk
  rw [List.range_succ, List.map_append, List.cons_append]
  have e : grp l m = [] := by unfold grp; rw [List.drop_eq_nil_of_le (by omega)]; rfl
  simp [e, le]

theorem pk_get (m n : Nat) (l : List UInt8) (j : Nat) (h : j < m) : (ivs (pk m n l))[j + 1]? = some (.int .i64 ((le (grp l j) : Nat) : Int)) := by
  have := pk_at m n l j h
  simp only [Nat.add_comm 1 j] at this
  simp only [ivs, List.getElem?_map]
  rw [List.getElem?_eq_getElem (by rw [pk_len]; omega), this]
  rfl

theorem rpack_long (s : ByteArray) (w : World) (hs : 60 < s.size) :
    Calls Tryd.prog 14 #[.string s] w fun e w' => e = .returned (.tuple #[.slice none 0 0, .int .i64 12]) ∧ w = w' := by
  go_enter Tryd.func14, Tryd.ntmps14
  go_wp2
  go_ret2
  exact ⟨rfl, rfl⟩

set_option maxHeartbeats 8000000 in
theorem rpack_short (s : ByteArray) (w : World) (hs : s.size ≤ 60) :
    Calls Tryd.prog 14 #[.string s] w fun e w' => (∃ v, e = .returned (.tuple #[v, .int .i64 0]) ∧ OwnI w' w.heap.size v (packL s.data.toList)) ∧ Below w.heap.size w w' := by
  obtain ⟨i0, hi, hz0, hz1, hz2⟩ := info_parts infoI
  go_enter Tryd.func14, Tryd.ntmps14
  go_wp2
  go_loopw [4, 5] (fun t i wr => ∃ (k m g cap : Nat), k ≤ s.size ∧ Hid (m = (k + 6) / 7) ∧ t = .slice (some ⟨g, 0, none⟩) (m + 1) cap ∧ wr.ownsRow w.heap.size 3 1 (.slice (some ⟨g, 0, none⟩) (m + 1) cap) (m + 1) (ivs (pk m s.size (s.data.toList.take k))) ∧
      i = .int .i64 (k : Int) ∧ Below w.heap.size w wr) (fun _ i _ => s.size - (intOf i).toNat)
  case atStart => exact ⟨0, 0, w.heap.size, 1, Nat.zero_le _, rfl, rfl, World.ownsRow_lit _ #[.int .i64 (s.size : Int)] 1 (Nat.le_refl _) (by decide) rfl, rfl, (Below.refl _ _).alloc (Nat.le_refl _) _⟩
  case round =>
    obtain ⟨k, m, g, cap, hk, HM, rfl, hown, rfl, hnx⟩ := hrel
    have hgl := hown.lt g rfl
    have hsz := hnx.size
    by_cases hlt : k < s.size
    · have hl : (s.data.toList.take k).length = k := by simp; omega
      obtain ⟨c, hc⟩ : ∃ c : Nat, Hid (c = le (grp (s.data.toList.take k) (k / 7))) := ⟨_, rfl⟩
      obtain ⟨p, hp⟩ : ∃ p : Nat, Hid (p = 256 ^ (k % 7)) := ⟨_, rfl⟩
      have hw1 : IntKind.i64.wrap ((k : Int) / 7 + 1) = (k : Int) / 7 + 1 := by rw [IntKind.wrap_i64]; omega
      have a1 : (0 : Int) ≤ (k : Int) / 7 + 1 := by omega
      have t1 : ((k : Int) / 7 + 1).toNat = k / 7 + 1 := by omega
      have hw2 : (k : Int).tmod 7 = (k : Int) % 7 := Int.tmod_eq_emod_of_nonneg (by omega)
      have hk7 : (k : Int) % 7 = ((k % 7 : Nat) : Int) := by omega
      have HK7 := Lib.hid hk7
      clear hk7
      have hbp := byte_fits s[k] (k % 7) (by omega)
      rw [← hp.out] at hbp
      have hcl : c < 281474976710656 := by
        have h1 := grp_lt_self (s.data.toList.take k)
        rw [hl, ← hc.out] at h1
        have h2 := pow_le6 (k % 7) (by omega)
        omega
      have hb8 := s[k].toNat_lt
      have hbI : ((s[k].toNat * p : Nat) : Int) = (s[k].toNat : Int) * (p : Int) := Int.natCast_mul _ _
      obtain ⟨wb1, wb2, wm1, wm2, wa1, wa2⟩ := wraps s[k].toNat p c hb8 hbp hcl
      have a2 : (k : Int) / 7 < (k : Int) / 7 + 1 := by omega
      have HE : Hid ((c : Int) + (s[k].toNat : Int) * (p : Int) = ((le (grp (s.data.toList.take k) (k / 7)) + s[k].toNat * 256 ^ (k % 7) : Nat) : Int)) := by
        show _ = _
        rw [← hbI, ← Int.natCast_add, hc.out, hp.out]
      have HMn : Hid (k / 7 + 1 = (k + 1 + 6) / 7) := by show _ = _; omega
      clear hbp hcl hb8 hbI
      by_cases h7 : k % 7 = 0
      · obtain rfl : m = k / 7 := by have := HM.out; omega
        have t7 : ((k : Int) % 7 == 0) = true := by rw [beq_iff_eq]; omega
        go_wp2_with (first | (at_builtin; go_loud (refine wpList_append_lies _ rfl (.tmp 21) (.tmp 22) 23 rfl w.heap.size 3 i0 (.int .i64 0) 1 8 Tryd.underlying23 hi hz0 hz1 hz2 rfl (by decide) (.slice (some ⟨g, 0, none⟩) (k / 7 + 1) cap) (k / 7 + 1) (ivs (pk (k / 7) s.size (s.data.toList.take k))) rfl (hown.alloc _) ⟨wr.heap.size, 0, none⟩ 1 1 [.int .i64 0] rfl rfl (cell_one_new _ _ _) (ints_oneCell .i64 [0]) (by decide) (by unfold maxLen; omega) (by omega) (by simp; omega) _ rfl ?_); intro g1 cap1 w1 hown1 hg1 hat1 hlt1))
        have hnx1 : Below w.heap.size w w1 := step_below hnx hg1 (by omega) (by omega)
        have hown2 : w1.ownsRow w.heap.size 3 1 (.slice (some ⟨g1, 0, none⟩) (k / 7 + 1 + 1) cap1) (k / 7 + 1 + 1) (ivs (pk (k / 7 + 1) s.size (s.data.toList.take k))) := by
          rw [pk_grow _ _ _ (by rw [hl]; omega), ivs_append]; exact hown1
        clear hown1 hg1 hat1 hown hnx
        have hgl2 := hown2.lt g1 rfl
        have hcell : w1.cell? ⟨g1, k / 7 + 1, none⟩ = some (.int .i64 (c : Int)) := by
          rw [hown2.cellAt (k / 7 + 1) (by omega)]
          rw [pk_get _ _ _ _ (by omega), hc.out]
        have hfr := hown2.frozenAt (k / 7 + 1)
        obtain ⟨hown4, _⟩ := hown2.stored (k / 7 + 1) (.int .i64 ((c : Int) + (s[k].toNat : Int) * (p : Int)))
        have hst : ivs (pk (k / 7 + 1) s.size (s.data.toList.take (k + 1))) = (ivs (pk (k / 7 + 1) s.size (s.data.toList.take k))).set (k / 7 + 1) (.int .i64 ((c : Int) + (s[k].toNat : Int) * (p : Int))) := by
          rw [HE.out, take_next s k hlt, pk_step, hl, Nat.add_comm 1 (k / 7)]
          simp only [ivs, List.map_set]
        rw [← hst] at hown4
        have HO : Hid _ := hown4.drew
        have HX : Hid _ := (hnx1.setCell (p := ⟨g1, k / 7 + 1, none⟩) (show w.heap.size ≤ g1 by omega) (.int .i64 ((c : Int) + (s[k].toNat : Int) * (p : Int)))).drew
        clear hown4 hst hown2
        refine wp_region_still_tail 20 (by kernel_rfl) (by kernel_rfl) ?_
        simp only [List.take_succ_cons, List.take_zero, List.drop_succ_cons, List.drop_zero]
        iterate 16 still_step
        still_call (power_still (k % 7) (by omega) _ p hp.out _ HK7.out)
        repeat still_step
        try refine wpStill_nil ?_
        all_goals
          go_wp2
          go_roundw
          case rel => exact ⟨k + 1, k / 7 + 1, g1, cap1, by omega, HMn, rfl, HO.out, by go_num, HX.out⟩
          case measure => simp only [intOf]; omega
      · obtain rfl : m = k / 7 + 1 := by have := HM.out; omega
        have t7 : ((k : Int) % 7 == 0) = false := by rw [beq_eq_false_iff_ne]; omega
        go_wp2
        have hcell : wr.cell? ⟨g, k / 7 + 1, none⟩ = some (.int .i64 (c : Int)) := by
          rw [hown.cellAt (k / 7 + 1) (by omega)]
          rw [pk_get _ _ _ _ (by omega), hc.out]
        have hfr := hown.frozenAt (k / 7 + 1)
        obtain ⟨hown4, _⟩ := hown.stored (k / 7 + 1) (.int .i64 ((c : Int) + (s[k].toNat : Int) * (p : Int)))
        have hst : ivs (pk (k / 7 + 1) s.size (s.data.toList.take (k + 1))) = (ivs (pk (k / 7 + 1) s.size (s.data.toList.take k))).set (k / 7 + 1) (.int .i64 ((c : Int) + (s[k].toNat : Int) * (p : Int))) := by
          rw [HE.out, take_next s k hlt, pk_step, hl, Nat.add_comm 1 (k / 7)]
          simp only [ivs, List.map_set]
        rw [← hst] at hown4
        have HO : Hid _ := hown4.drew
        have HX : Hid _ := (hnx.setCell (p := ⟨g, k / 7 + 1, none⟩) (show w.heap.size ≤ g by omega) (.int .i64 ((c : Int) + (s[k].toNat : Int) * (p : Int)))).drew
        clear hown4 hst hown
        refine wp_region_still_tail 20 (by kernel_rfl) (by kernel_rfl) ?_
        simp only [List.take_succ_cons, List.take_zero, List.drop_succ_cons, List.drop_zero]
        iterate 16 still_step
        still_call (power_still (k % 7) (by omega) _ p hp.out _ HK7.out)
        repeat still_step
        try refine wpStill_nil ?_
        all_goals
          go_wp2
          go_roundw
          case rel => exact ⟨k + 1, k / 7 + 1, g, cap, by omega, HMn, rfl, HO.out, by go_num, HX.out⟩
          case measure => simp only [intOf]; omega
    · have hke : k = s.size := by omega
      have hkl : s.data.toList.take k = s.data.toList := List.take_of_length_le (by simp; omega)
      rw [hkl] at hown
      have hpl : packL s.data.toList = pk m s.size s.data.toList := by
        have hsl : s.data.toList.length = s.size := by simp
        unfold packL; rw [HM.out, hsl, hke]
      go_wp2
      go_ret2
      refine ⟨⟨_, rfl, ?_⟩, hnx⟩
      unfold OwnI
      rw [hpl, pk_len]
      exact hown

theorem rpack_any (s : ByteArray) (w : World) (hs : s.size ≤ 60) :
    Calls Tryd.prog 14 #[.string s] w fun e w' => (∃ v, e = .returned (.tuple #[v, .int .i64 0]) ∧ HasI w' v (packL s.data.toList)) ∧ Below w.heap.size w w' := by
  refine (rpack_short s w hs).mono ?_
  rintro e w' ⟨⟨v, he, ho⟩, hb⟩
  exact ⟨⟨v, he, own_has ho⟩, hb⟩
end Go.Proofs.YtenhncepoclolaaDoor.RP
