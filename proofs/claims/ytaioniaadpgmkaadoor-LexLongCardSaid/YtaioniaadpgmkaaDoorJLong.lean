/- LexLong: the walk. -/
import Derived.Test.YtaioniaadpgmkaaDoorYV
import Derived.Test.YtaioniaadpgmkaaDoorD
import Derived.Test.YtaioniaadpgmkaaDoorTL
import Derived.Test.YtaioniaadpgmkaaDoorTG
import Derived.Test.YtaioniaadpgmkaaDoorS2
namespace Go.Proofs.YtaioniaadpgmkaaDoor.lexLong
open Go.RowKit Go.Maps
open Go.Proofs.YtaioniaadpgmkaaDoor.P Go.Proofs.YtaioniaadpgmkaaDoor.A Go.Proofs.YtaioniaadpgmkaaDoor.S2 Go.Proofs.YtaioniaadpgmkaaDoor.YT Go.Proofs.YtaioniaadpgmkaaDoor.YV Go.Proofs.YtaioniaadpgmkaaDoor.TK Go.Proofs.YtaioniaadpgmkaaDoor.TO Go.Proofs.YtaioniaadpgmkaaDoor.TL Go.Proofs.YtaioniaadpgmkaaDoor.TG Go.Proofs.YtaioniaadpgmkaaDoor.D
set_option linter.unusedVariables false

theorem neg_mod (n k : Int) (h : n < 0) (hk : 0 < k) : ∃ m : Nat, -(n + 1).tmod k = (m : Int) ∧ (m : Int) < k := by
  have e : (n + 1).tmod k = -((-(n + 1)) % k) := by
    conv => lhs; rw [← Int.neg_neg (n + 1), Int.neg_tmod, Int.tmod_eq_emod_of_nonneg (by omega)]
  have h1 := Int.emod_nonneg (-(n + 1)) (show k ≠ 0 by omega)
  have h2 := Int.emod_lt_of_pos (-(n + 1)) hk
  exact ⟨((-(n + 1)) % k).toNat, by rw [e]; omega, by omega⟩
theorem pos_mod (n k : Int) (h : 0 ≤ n) (hk : 0 < k) : ∃ m : Nat, n % k = (m : Int) ∧ (m : Int) < k := by
  have h1 := Int.emod_nonneg n (show k ≠ 0 by omega)
  have h2 := Int.emod_lt_of_pos n hk
  exact ⟨(n % k).toNat, by omega, by omega⟩
theorem more {w : World} {base g cap k : Nat} (h : w.ownsRow base 5 1 (.slice (some ⟨g, 0, none⟩) (k + 1) cap) (k + 1) (bvs (List.replicate k 40) ++ bvs [40])) :
    w.ownsRow base 5 1 (.slice (some ⟨g, 0, none⟩) (k + 1) cap) (k + 1) (bvs (List.replicate (k + 1) 40)) := by
  rw [List.replicate_succ', bvs_append]; exact h

set_option maxRecDepth 100000 in
set_option maxHeartbeats 1000000 in
theorem walk (w : World) (n0 : Int) (l0 : -9223372036854775808 ≤ n0) (u0 : n0 ≤ 9223372036854775807) (hd : Dig w) :
    Calls Tryd.prog 7 #[.int .i64 n0] w fun e w' => e = .returned (.bool true) ∧ Below w.heap.size w w' := by
  obtain ⟨i0, hi, hz0, hz1, hz2⟩ := info_parts infoB
  have HD := Lib.hid hd
  clear hd
  by_cases h0 : n0 < 0
  · obtain ⟨m, hm, hml⟩ := neg_mod n0 2101 h0 (by decide)
    go_enter Tryd.func7, Tryd.ntmps7
    go_wp2
    clear hm
    go_loopw [3, 4] (fun t i wr => ∃ (k : Nat) (ao : Option Addr) (cap : Nat), k ≤ m ∧ t = .slice ao k cap ∧ Hid (wr.ownsRow w.heap.size 5 1 (.slice ao k cap) k (bvs (List.replicate k 40))) ∧ i = .int .i64 (k : Int) ∧ Hid (Below w.heap.size w wr))
      (fun _ i _ => m - (intOf i).toNat)
    case atStart => exact ⟨0, none, 0, Nat.zero_le _, rfl, World.ownsRow_nil _ _ _ _, rfl, Below.refl _ _⟩
    case round =>
      obtain ⟨k, ao, cap, hk, rfl, HO, rfl, HX⟩ := hrel
      have hsz := HX.out.size
      by_cases hlt : k < m
      · go_wp2_with (first | (at_builtin; go_loud (refine wpList_append_lies _ rfl (.tmp 20) (.tmp 21) 34 rfl w.heap.size 5 i0 (.int .u8 0) 1 1 Tryd.underlying34 hi hz0 hz1 hz2 rfl (by decide) (.slice ao k cap) k (bvs (List.replicate k 40)) rfl (HO.out.alloc _) ⟨wr.heap.size, 0, none⟩ 1 1 (bvs [40]) rfl rfl (cell_one_new _ _ _) (bvs_one [40]) (by decide) (by unfold maxLen; omega) (by omega) (by simp; omega) _ rfl ?_); intro g1 cap1 w1 hown1 hg1 hat1 hlt1; have HO1 := Lib.hid (more hown1); have HX1 := Lib.hid (step_below2 HX.out hg1 (fun j hj => (HO.out.lt j hj).1) (by omega)); clear hown1 hg1 hat1 hlt1))
        go_roundw
        case rel => exact ⟨k + 1, _, cap1, by omega, rfl, HO1, by go_num, HX1⟩
        case measure => simp [intOf]; omega
      · obtain rfl : m = k := by omega
        have hcv := conv_any HO.out (by simp)
        have hD2 := HD.out.below HX.out
        by_cases hl : m ≤ 2000
        · obtain ⟨ts, hts, htl⟩ : ∃ ts, toks (⟨(List.replicate m 40).toArray⟩ : ByteArray).data.toList = (ts, 0, 0) ∧ ts.length = m + 1 := by
            have h := toks_signs m
            rw [if_pos hl] at h
            exact h
          have hs : (⟨(List.replicate m 40).toArray⟩ : ByteArray).size ≤ 2000 := by show (List.replicate m (40 : UInt8)).length ≤ 2000; rw [List.length_replicate]; exact hl
          have T1 := tokens_short ⟨(List.replicate m 40).toArray⟩ wr hs hD2
          rw [hts] at T1
          have hne : ts ≠ [] := by intro e; rw [e] at htl; simp at htl
          clear hts hs
          generalize (⟨(List.replicate m 40).toArray⟩ : ByteArray) = s at *
          go_wp2_with fail
          refine T1.mono ?_
          intro x w2 h2
          obtain ⟨b, o, c, rfl, lb, C, B⟩ := sub_post h2 hne
          simp only [htl]
          have HB := Lib.hid B
          have HD2 := Lib.hid (hD2.below B)
          clear B h2 T1 htl C hD2
          have hte : ((m : Int) + 1 == (m : Int) + 1) = true := by simp
          go_wp2_with (first | (go_at_call 14; refine (lives_any _ HD2.out).mono ?_; rintro e w4 ⟨rfl, hb4⟩; have HB4 := Lib.hid hb4; clear hb4))
          go_ret
          exact ⟨rfl, (HX.out.trans (HB.out.mono HX.out.size)).trans (HB4.out.mono (Nat.le_trans HX.out.size HB.out.size))⟩
        · have hs : 2000 < (⟨(List.replicate m 40).toArray⟩ : ByteArray).size := by show 2000 < (List.replicate m (40 : UInt8)).length; rw [List.length_replicate]; omega
          have hs2 : (⟨(List.replicate m 40).toArray⟩ : ByteArray).size ≤ maxLen := by show (List.replicate m (40 : UInt8)).length ≤ maxLen; rw [List.length_replicate]; unfold maxLen; omega
          have T1 := tokens_long ⟨(List.replicate m 40).toArray⟩ wr hs hs2
          have HD2 := Lib.hid hD2
          clear hs hs2 hD2
          generalize (⟨(List.replicate m 40).toArray⟩ : ByteArray) = s at *
          go_wp2_with (first
            | (go_at_call 11; refine T1.mono ?_; rintro x w2 ⟨rfl, rfl⟩)
            | (go_at_call 14; refine (lives_any _ HD2.out).mono ?_; rintro e w4 ⟨rfl, hb4⟩; have HB4 := Lib.hid hb4; clear hb4))
          go_ret
          exact ⟨rfl, HX.out.trans (HB4.out.mono HX.out.size)⟩
  · obtain ⟨m, hm, hml⟩ := pos_mod n0 2101 (by omega) (by decide)
    go_enter Tryd.func7, Tryd.ntmps7
    go_wp2
    clear hm
    go_loopw [3, 4] (fun t i wr => ∃ (k : Nat) (ao : Option Addr) (cap : Nat), k ≤ m ∧ t = .slice ao k cap ∧ Hid (wr.ownsRow w.heap.size 5 1 (.slice ao k cap) k (bvs (List.replicate k 40))) ∧ i = .int .i64 (k : Int) ∧ Hid (Below w.heap.size w wr))
      (fun _ i _ => m - (intOf i).toNat)
    case atStart => exact ⟨0, none, 0, Nat.zero_le _, rfl, World.ownsRow_nil _ _ _ _, rfl, Below.refl _ _⟩
    case round =>
      obtain ⟨k, ao, cap, hk, rfl, HO, rfl, HX⟩ := hrel
      have hsz := HX.out.size
      by_cases hlt : k < m
      · go_wp2_with (first | (at_builtin; go_loud (refine wpList_append_lies _ rfl (.tmp 20) (.tmp 21) 34 rfl w.heap.size 5 i0 (.int .u8 0) 1 1 Tryd.underlying34 hi hz0 hz1 hz2 rfl (by decide) (.slice ao k cap) k (bvs (List.replicate k 40)) rfl (HO.out.alloc _) ⟨wr.heap.size, 0, none⟩ 1 1 (bvs [40]) rfl rfl (cell_one_new _ _ _) (bvs_one [40]) (by decide) (by unfold maxLen; omega) (by omega) (by simp; omega) _ rfl ?_); intro g1 cap1 w1 hown1 hg1 hat1 hlt1; have HO1 := Lib.hid (more hown1); have HX1 := Lib.hid (step_below2 HX.out hg1 (fun j hj => (HO.out.lt j hj).1) (by omega)); clear hown1 hg1 hat1 hlt1))
        go_roundw
        case rel => exact ⟨k + 1, _, cap1, by omega, rfl, HO1, by go_num, HX1⟩
        case measure => simp [intOf]; omega
      · obtain rfl : m = k := by omega
        have hcv := conv_any HO.out (by simp)
        have hD2 := HD.out.below HX.out
        by_cases hl : m ≤ 2000
        · obtain ⟨ts, hts, htl⟩ : ∃ ts, toks (⟨(List.replicate m 40).toArray⟩ : ByteArray).data.toList = (ts, 0, 0) ∧ ts.length = m + 1 := by
            have h := toks_signs m
            rw [if_pos hl] at h
            exact h
          have hs : (⟨(List.replicate m 40).toArray⟩ : ByteArray).size ≤ 2000 := by show (List.replicate m (40 : UInt8)).length ≤ 2000; rw [List.length_replicate]; exact hl
          have T1 := tokens_short ⟨(List.replicate m 40).toArray⟩ wr hs hD2
          rw [hts] at T1
          have hne : ts ≠ [] := by intro e; rw [e] at htl; simp at htl
          clear hts hs
          generalize (⟨(List.replicate m 40).toArray⟩ : ByteArray) = s at *
          go_wp2_with fail
          refine T1.mono ?_
          intro x w2 h2
          obtain ⟨b, o, c, rfl, lb, C, B⟩ := sub_post h2 hne
          simp only [htl]
          have HB := Lib.hid B
          have HD2 := Lib.hid (hD2.below B)
          clear B h2 T1 htl C hD2
          have hte : ((m : Int) + 1 == (m : Int) + 1) = true := by simp
          go_wp2_with (first | (go_at_call 14; refine (lives_any _ HD2.out).mono ?_; rintro e w4 ⟨rfl, hb4⟩; have HB4 := Lib.hid hb4; clear hb4))
          go_ret
          exact ⟨rfl, (HX.out.trans (HB.out.mono HX.out.size)).trans (HB4.out.mono (Nat.le_trans HX.out.size HB.out.size))⟩
        · have hs : 2000 < (⟨(List.replicate m 40).toArray⟩ : ByteArray).size := by show 2000 < (List.replicate m (40 : UInt8)).length; rw [List.length_replicate]; omega
          have hs2 : (⟨(List.replicate m 40).toArray⟩ : ByteArray).size ≤ maxLen := by show (List.replicate m (40 : UInt8)).length ≤ maxLen; rw [List.length_replicate]; unfold maxLen; omega
          have T1 := tokens_long ⟨(List.replicate m 40).toArray⟩ wr hs hs2
          have HD2 := Lib.hid hD2
          clear hs hs2 hD2
          generalize (⟨(List.replicate m 40).toArray⟩ : ByteArray) = s at *
          go_wp2_with (first
            | (go_at_call 11; refine T1.mono ?_; rintro x w2 ⟨rfl, rfl⟩)
            | (go_at_call 14; refine (lives_any _ HD2.out).mono ?_; rintro e w4 ⟨rfl, hb4⟩; have HB4 := Lib.hid hb4; clear hb4))
          go_ret
          exact ⟨rfl, HX.out.trans (HB4.out.mono HX.out.size)⟩

end Go.Proofs.YtaioniaadpgmkaaDoor.lexLong
