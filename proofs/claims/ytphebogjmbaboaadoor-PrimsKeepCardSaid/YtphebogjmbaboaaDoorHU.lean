/- The law's words. -/
import Derived.Test.YtphebogjmbaboaaDoorHT
namespace Go.Proofs.YtphebogjmbaboaaDoor.HU
open Go.RowKit Go.Proofs.YtphebogjmbaboaaDoor.RG Go.Proofs.YtphebogjmbaboaaDoor.RB Go.Proofs.YtphebogjmbaboaaDoor.HA Go.Proofs.YtphebogjmbaboaaDoor.HB Go.Proofs.YtphebogjmbaboaaDoor.HG Go.Proofs.YtphebogjmbaboaaDoor.HH Go.Proofs.YtphebogjmbaboaaDoor.HN
set_option linter.unusedVariables false
set_option maxRecDepth 100000
set_option maxRecDepth 100000

/-- A word as it is meant. -/
def wordR (h : Hp) (z : Int) : Int := if z < 0 ∧ 0 < h.length then ptr h ((-(z + 1)) % (h.length : Int)).toNat else z
theorem word_c (w : World) (r B N : Nat) (h : Hp) (H : HDoc w r B N h) (z : Int) (hz : -9223372036854775808 ≤ z) :
    Calls Tryd.prog 19 #[.pointer (some ⟨r, 0, none⟩), .int .i64 z] w fun e w' => e = .returned (.int .i64 (wordR h z)) ∧ Below w.heap.size w w' := by
  obtain ⟨v, hk, hrow⟩ := H.blk
  obtain ⟨ao, cap, rfl, _⟩ := hrow.val
  have hnl : (docs h).length = h.length := by unfold docs; simp
  rw [hnl] at hk
  have hlu := len_used h
  have hfi := H.fit
  have HPT := Lib.hid (fun (w' : World) (hb : Below w.heap.size w w') k hkl => rpoint_c w' r B N h (H.keep hb) k hkl)
  have hwr : wordR h z = if z < 0 ∧ 0 < h.length then ptr h ((-(z + 1)) % (h.length : Int)).toNat else z := rfl
  obtain ⟨n, hn⟩ : ∃ n, Hid (h.length = n) := ⟨_, Lib.hid rfl⟩
  rw [hn.out] at hwr hk hlu HPT
  have k1 := hk.cell 1 _ rfl
  have hn6 : n ≤ 65536 := by omega
  clear H hrow hnl hlu hfi
  by_cases h0 : z < 0
  · by_cases h1 : 0 < n
    · rw [hwr, if_pos ⟨h0, h1⟩]
      have hq : (-(z + 1)).tmod (n : Int) = (-(z + 1)) % (n : Int) := Int.tmod_eq_emod_of_nonneg (by omega)
      have q0 := Int.emod_nonneg (-(z + 1)) (show (n : Int) ≠ 0 by omega)
      have q1 := Int.emod_lt_of_pos (-(z + 1)) (show (0 : Int) < (n : Int) by omega)
      obtain ⟨m, hm⟩ : ∃ m : Nat, (-(z + 1)) % (n : Int) = (m : Int) := ⟨((-(z + 1)) % (n : Int)).toNat, by omega⟩
      rw [hm] at hq q1 ⊢
      rw [Int.toNat_natCast]
      have n0 : ((n : Int) == 0) = false := by rw [beq_eq_false_iff_ne]; omega
      have n1 : (n : Int) > 0 := by omega
      clear hm q0 hwr
      go_enter Tryd.func19, Tryd.ntmps19
      go_wp2_with fail
      refine (HPT.out _ (Below.refl _ _) m (by omega)).mono ?_
      rintro e w1 ⟨rfl, hb⟩
      have HB1 := Lib.hid hb
      clear hb
      go_wp2_with fail
      go_ret
      exact ⟨rfl, HB1.out⟩
    · rw [hwr, if_neg (fun h => h1 h.2)]
      have n1 : n = 0 := by omega
      subst n1
      clear hwr h1
      go_enter Tryd.func19, Tryd.ntmps19
      go_wp2_with fail
      go_ret
      exact ⟨rfl, Below.refl _ _⟩
  · rw [hwr, if_neg (fun h => h0 h.1)]
    clear hwr
    go_enter Tryd.func19, Tryd.ntmps19
    go_wp2_with fail
    go_ret
    exact ⟨rfl, Below.refl _ _⟩
/-- The words as they are meant, the first 61. -/
def wordsR (h : Hp) (l : List Int) : List Int := (l.take 61).map (wordR h)
theorem words_c (w : World) (r B N : Nat) (h : Hp) (H : HDoc w r B N h) (v : Value) (l : List Int) (hv : RowI w v l) (hz : ∀ z, z ∈ l → -9223372036854775808 ≤ z) :
    Calls Tryd.prog 35 #[.pointer (some ⟨r, 0, none⟩), v] w fun e w' => ∃ x, e = .returned x ∧ RowI w' x (wordsR h l) ∧ (∀ b, x.ownBlock = some b → w.heap.size ≤ b) ∧ Below w.heap.size w w' := by
  obtain ⟨ao, cap, rfl, hc, hA⟩ := row_has hv
  obtain ⟨n, hn⟩ : ∃ n, Hid (l.length = n) := ⟨_, Lib.hid rfl⟩
  rw [hn.out]
  have HA := Lib.hid hA
  have HH := Lib.hid H
  have HZ := Lib.hid hz
  obtain ⟨M, hM⟩ : ∃ M, Hid (M = min n 61) := ⟨_, Lib.hid rfl⟩
  have hM1 : M ≤ 61 := by have := hM.out; omega
  have hMn : M ≤ n := by have := hM.out; omega
  clear hv hA H hz hc
  go_enter Tryd.func35, Tryd.ntmps35
  go_wp2_with fail
  go_loopg [5, 6] M (fun g ov iv wr => ∃ i : Nat, i + g = M ∧ iv = .int .i64 (i : Int) ∧ Hid (OwnR TI wr w.heap.size (fun _ => False) ov ((l.take i).map (wordR h))) ∧ Hid (Below w.heap.size w wr))
  case atStart => exact ⟨0, Nat.zero_add _, rfl, Lib.hid (OwnR.nil _ _ _), Lib.hid (Below.refl _ _)⟩
  case round =>
    obtain ⟨i, hi, rfl, HO, HX⟩ := hrel
    have HI := Lib.hid hi
    obtain ⟨va, vc, hvv, _⟩ := HO.out.val
    by_cases hlt : i < M
    · obtain ⟨g', rfl⟩ : ∃ g, gk = g + 1 := ⟨gk - 1, by omega⟩
      have q1 : i < l.length := by rw [hn.out]; omega
      rcases HA.out with hz | ⟨b, off, rfl, hbl, hcs⟩
      · rw [hz] at q1; simp at q1
      have x0 := (HX.out.cell (p := ⟨b, off + i, none⟩) hbl).trans (hcs i q1)
      obtain ⟨z, hzz⟩ : ∃ x, Hid (l[i] = x) := ⟨_, Lib.hid rfl⟩
      rw [hzz.out] at x0
      have hzb : -9223372036854775808 ≤ z := HZ.out z (by rw [← hzz.out]; exact List.getElem_mem q1)
      obtain ⟨y, hy⟩ : ∃ y, Hid (wordR h z = y) := ⟨_, Lib.hid rfl⟩
      have HSN := Lib.hid (show (l.take (i + 1)).map (wordR h) = (l.take i).map (wordR h) ++ [y] from by rw [List.take_add_one, List.getElem?_eq_getElem q1, hzz.out, List.map_append, ← hy.out]; rfl)
      have hwd := word_c wr r B N h (HH.out.keep HX.out) z hzb
      rw [hy.out] at hwd
      have HWD := Lib.hid hwd
      have HLN := Lib.hid (show ((l.take i).map (wordR h)).length + [y].length ≤ 100000000000 from by rw [List.length_map, List.length_take]; simp; omega)
      have lb : b < wr.heap.size := Nat.lt_of_lt_of_le hbl HX.out.size
      have i0 : (0 : Int) ≤ (i : Int) := by omega
      have i1 : (i : Int) < (n : Int) := by omega
      have i2 : (i : Int) < 61 := by omega
      have HML := Lib.hid (show ((l.take i).map (wordR h)).length = i from by rw [List.length_map, List.length_take]; omega)
      rw [HML.out] at hvv
      subst hvv
      clear hzz hcs q1 hwd
      go_wp2_with fail
      refine HWD.out.mono ?_
      rintro e w2 ⟨rfl, hb2⟩
      have HX2 := bnext HX.out hb2
      have own2 := HO.out.keep hb2
      have HOW := Lib.hid (fun b hb => own2.own (b := b) hb)
      have HOA := Lib.hid (own2.keep (balloc w2 (.cells #[.int .i64 y] 3)))
      have HR := Lib.hid (show RowR TI (w2.alloc (.cells #[.int .i64 y] 3)) (fun b => False ∧ (Value.slice va i vc).ownBlock ≠ some b) (.slice (some ⟨w2.heap.size, 0, none⟩) 1 1) [y] from rowR_new (q := []) #[.int .i64 y] 3 rfl rfl)
      have HXA := Lib.hid (bnext HX2 (balloc w2 (.cells #[.int .i64 y] 3)))
      have HBS := Lib.hid (show w.heap.size ≤ (w2.alloc (.cells #[.int .i64 y] 3)).heap.size from HXA.out.size)
      clear HX2 own2 hb2
      go_wp2_with (at_builtin; go_loud (refine wpList_row TI (w2.alloc (.cells #[.int .i64 y] 3)) rfl (.tmp 17) (.tmp 24) rfl w.heap.size (fun _ => False) (.slice va i vc) (.slice (some ⟨w2.heap.size, 0, none⟩) 1 1) ((l.take i).map (wordR h)) [y] rfl rfl HOA.out HR.out HLN.out HBS.out ?_); intro ao6 n6 cap6 w6 hO6 hn6 hg6 ha6; clear hn6; have HO6 := Lib.hid hO6; have HX6 := Lib.hid (HXA.out.trans (bgrown hg6 (fun b hb => (HOW.out b hb).1) HBS.out)); clear hO6 hg6 ha6)
      go_roundg g'
      case rel => exact ⟨i + 1, by have := HI.out; omega, by go_num, by rw [HSN.out]; exact HO6, HX6⟩
      case measure => omega
    · have hiM : i = M := by omega
      subst hiM
      have HE := Lib.hid (show (l.take i).map (wordR h) = wordsR h l from by
        unfold wordsR
        by_cases hc : n ≤ 61
        · rw [List.take_of_length_le (by rw [hn.out]; have := hM.out; omega), List.take_of_length_le (by rw [hn.out]; omega)]
        · rw [show i = 61 from by have := hM.out; omega])
      have HR := Lib.hid (fun b hb => (HO.out.own (b := b) hb).1)
      have HRR := HO.out.row
      rw [HE.out] at HRR
      have HRR := Lib.hid HRR
      rcases (show i = n ∨ (i = 61 ∧ i < n) by have := hM.out; omega) with h1 | ⟨h1, h2⟩
      · subst h1
        go_wp2_with fail
        go_ret
        exact ⟨_, rfl, HRR.out, HR.out, HX.out⟩
      · subst h1
        have i1 : (61 : Int) < (n : Int) := by omega
        go_wp2_with fail
        go_ret
        exact ⟨_, rfl, HRR.out, HR.out, HX.out⟩
end Go.Proofs.YtphebogjmbaboaaDoor.HU
