/- LexNames: the walk. -/
import Derived.Test.YtaioniaadpgmkaaDoorYV
import Derived.Test.YtaioniaadpgmkaaDoorD
import Derived.Test.YtaioniaadpgmkaaDoorTL
import Derived.Test.YtaioniaadpgmkaaDoorTG
import Derived.Test.YtaioniaadpgmkaaDoorS2
import Derived.Test.YtaioniaadpgmkaaDoorYK
namespace Go.Proofs.YtaioniaadpgmkaaDoor.lexNames
open Go.RowKit Go.Maps
open Go.Proofs.YtaioniaadpgmkaaDoor.P Go.Proofs.YtaioniaadpgmkaaDoor.A Go.Proofs.YtaioniaadpgmkaaDoor.S2 Go.Proofs.YtaioniaadpgmkaaDoor.V Go.Proofs.YtaioniaadpgmkaaDoor.YT Go.Proofs.YtaioniaadpgmkaaDoor.YV Go.Proofs.YtaioniaadpgmkaaDoor.YK Go.Proofs.YtaioniaadpgmkaaDoor.TK Go.Proofs.YtaioniaadpgmkaaDoor.TO Go.Proofs.YtaioniaadpgmkaaDoor.TL Go.Proofs.YtaioniaadpgmkaaDoor.TG Go.Proofs.YtaioniaadpgmkaaDoor.D
set_option linter.unusedVariables false

/-- All that may stand in a name. -/
def AB : ByteArray := ⟨#[97, 98, 99, 100, 101, 102, 103, 104, 105, 106, 107, 108, 109, 110, 111, 112, 113, 114, 115, 116, 117, 118, 119, 120, 121, 122, 65, 66, 67, 68, 69, 70, 71, 72, 73, 74, 75, 76, 77, 78, 79, 80, 81, 82, 83, 84, 85, 86, 87, 88, 89, 90, 48, 49, 50, 51, 52, 53, 54, 55, 56, 57, 95]⟩
theorem AB_size : AB.size = 63 := rfl
theorem AB_name : ∀ j : Fin 63, isN (AB[j.val]'(by rw [AB_size]; exact j.isLt)) = true := by decide +kernel
theorem AB_letter : ∀ j : Fin 52, (isS (AB[j.val]'(by rw [AB_size]; have := j.isLt; omega)) || isL (AB[j.val]'(by rw [AB_size]; have := j.isLt; omega))) = true := by decide +kernel
/-- What the loop has made. -/
def NameOk : List UInt8 → Prop
  | [] => True
  | c :: r => (isS c || isL c) = true ∧ ∀ d ∈ r, isN d = true
theorem nameOk_first {c : UInt8} (h : (isS c || isL c) = true) : NameOk ([] ++ [c]) := ⟨h, fun _ h => by cases h⟩
theorem nameOk_next {l : List UInt8} {c : UInt8} (h : NameOk l) (hl : 0 < l.length) (hc : isN c = true) : NameOk (l ++ [c]) := by
  cases l with
  | nil => simp at hl
  | cons d r =>
    refine ⟨h.1, fun x hx => ?_⟩
    rcases List.mem_append.1 hx with hx | hx
    · exact h.2 x hx
    · rw [List.mem_singleton.1 hx]; exact hc
theorem AB_is : ∃ B : ByteArray, (⟨#[97, 98, 99, 100, 101, 102, 103, 104, 105, 106, 107, 108, 109, 110, 111, 112, 113, 114, 115, 116, 117, 118, 119, 120, 121, 122, 65, 66, 67, 68, 69, 70, 71, 72, 73, 74, 75, 76, 77, 78, 79, 80, 81, 82, 83, 84, 85, 86, 87, 88, 89, 90, 48, 49, 50, 51, 52, 53, 54, 55, 56, 57, 95]⟩ : ByteArray) = B ∧ B.size = 63 ∧ Hid (∀ j (h : j < B.size), isN B[j] = true) ∧ Hid (∀ j (h : j < B.size), j < 52 → (isS B[j] || isL B[j]) = true) :=
  ⟨AB, rfl, rfl, fun j h => AB_name ⟨j, h⟩, fun j h h2 => AB_letter ⟨j, h2⟩⟩
theorem rem_is (x k : Nat) (hk : 0 < k) : ∃ j : Nat, (x : Int) % (k : Int) = (j : Int) ∧ j < k := ⟨x % k, by omega, Nat.mod_lt _ hk⟩
theorem more {w : World} {base g cap k : Nat} {acc : List UInt8} {c : UInt8} (h : w.ownsRow base 5 1 (.slice (some ⟨g, 0, none⟩) (k + 1) cap) (k + 1) (bvs acc ++ bvs [c])) :
    w.ownsRow base 5 1 (.slice (some ⟨g, 0, none⟩) (k + 1) cap) (k + 1) (bvs (acc ++ [c])) := by
  rw [bvs_append]; exact h

set_option maxRecDepth 100000 in
set_option maxHeartbeats 4000000 in
theorem walk (w : World) (a0 : ByteArray) (w0 : a0.size ≤ maxLen) (hd : Dig w) :
    Calls Tryd.prog 8 #[.string a0] w fun e w' => e = .returned (.bool true) ∧ Below w.heap.size w w' := by
  obtain ⟨i0, hi, hz0, hz1, hz2⟩ := info_parts infoB
  have HD := Lib.hid hd
  clear hd
  unfold maxLen at w0
  obtain ⟨s, hs, hcase⟩ : ∃ s : ByteArray, s.size ≤ 20 ∧ ((20 < a0.size ∧ s = a0.extract 0 20) ∨ (a0.size ≤ 20 ∧ s = a0)) := by
    by_cases h : 20 < a0.size
    · exact ⟨a0.extract 0 20, by simp; omega, .inl ⟨h, rfl⟩⟩
    · exact ⟨a0, by omega, .inr ⟨by omega, rfl⟩⟩
  obtain ⟨B, hB, hBs, HNm, HLt⟩ := AB_is
  rcases hcase with ⟨hsz, hse⟩ | ⟨hsz, hse⟩
  · go_enter Tryd.func8, Tryd.ntmps8
    go_wp2_with fail

    rw [← hse]
    clear hse hsz hB
    go_loopw [4, 5] (fun t i wr => ∃ (k : Nat) (ao : Option Addr) (cap : Nat) (acc : List UInt8), k ≤ s.size ∧ t = .slice ao k cap ∧ acc.length = k ∧ Hid (NameOk acc) ∧ Hid (wr.ownsRow w.heap.size 5 1 (.slice ao k cap) k (bvs acc)) ∧ i = .int .i64 (k : Int) ∧ Hid (Below w.heap.size w wr))
      (fun _ i _ => s.size - (intOf i).toNat)
    case atStart => exact ⟨0, Option.none, 0, [], Nat.zero_le _, rfl, rfl, trivial, World.ownsRow_nil _ _ _ _, rfl, Below.refl _ _⟩
    case round =>
      obtain ⟨k, ao, cap, acc, hk, rfl, hacc, HN, HO, rfl, HX⟩ := hrel
      have hws := HX.out.size
      have HA := Lib.hid hacc
      clear hacc
      by_cases hlt : k < s.size
      · by_cases hk0 : k = 0
        · obtain ⟨j, hj0, hjl⟩ := rem_is s[k].toNat 52 (by decide)
          have hj : ((s[k].toNat : Nat) : Int) % 52 = (j : Int) := hj0
          have hbk : s[k].toNat < 256 := s[k].toNat_lt
          clear hj0
          have hjB : j < B.size := by omega
          have hjB2 : (j : Int) < 63 := by omega
          have HN1 : Hid (NameOk (acc ++ [B[j]])) := by
            have e : acc = [] := List.eq_nil_of_length_eq_zero (HA.out.trans hk0)
            rw [e]; exact nameOk_first (HLt.out j hjB hjl)
          have t0 : ((k : Int) == 0) = true := by rw [beq_iff_eq]; omega
          clear hk0
          go_wp2_with (first | (at_builtin; go_loud (refine wpList_append_lies _ rfl (.tmp 35) (.tmp 39) 34 rfl w.heap.size 5 i0 (.int .u8 0) 1 1 Tryd.underlying34 hi hz0 hz1 hz2 rfl (by decide) (.slice ao k cap) k (bvs acc) rfl (HO.out.alloc _) ⟨wr.heap.size, 0, none⟩ 1 1 (bvs [B[j]]) rfl rfl (cell_one_new _ _ _) (bvs_one [B[j]]) (by decide) (by unfold maxLen; omega) (by omega) (by simp; omega) _ rfl ?_); intro g1 cap1 w1 hown1 hg1 hat1 hlt1; have HO1 := Lib.hid (more hown1); have HX1 := Lib.hid (step_below2 HX.out hg1 (fun j hj => (HO.out.lt j hj).1) (by omega)); clear hown1 hg1 hat1 hlt1))
          go_roundw
          case rel => exact ⟨k + 1, _, cap1, acc ++ [B[j]], by omega, rfl, by rw [List.length_append, HA.out]; rfl, HN1, HO1, by go_num, HX1⟩
          case measure => simp [intOf]; omega
        · obtain ⟨j, hj0, hjl⟩ := rem_is s[k].toNat 63 (by decide)
          have hj : ((s[k].toNat : Nat) : Int) % 63 = (j : Int) := hj0
          have hbk : s[k].toNat < 256 := s[k].toNat_lt
          clear hj0
          have hjB : j < B.size := by omega
          have hjB2 : (j : Int) < 63 := by omega
          have HN1 : Hid (NameOk (acc ++ [B[j]])) := nameOk_next HN.out (by rw [HA.out]; omega) (HNm.out j hjB)
          have t0 : ((k : Int) == 0) = false := by rw [beq_eq_false_iff_ne]; omega
          clear hk0
          go_wp2_with (first | (at_builtin; go_loud (refine wpList_append_lies _ rfl (.tmp 35) (.tmp 39) 34 rfl w.heap.size 5 i0 (.int .u8 0) 1 1 Tryd.underlying34 hi hz0 hz1 hz2 rfl (by decide) (.slice ao k cap) k (bvs acc) rfl (HO.out.alloc _) ⟨wr.heap.size, 0, none⟩ 1 1 (bvs [B[j]]) rfl rfl (cell_one_new _ _ _) (bvs_one [B[j]]) (by decide) (by unfold maxLen; omega) (by omega) (by simp; omega) _ rfl ?_); intro g1 cap1 w1 hown1 hg1 hat1 hlt1; have HO1 := Lib.hid (more hown1); have HX1 := Lib.hid (step_below2 HX.out hg1 (fun j hj => (HO.out.lt j hj).1) (by omega)); clear hown1 hg1 hat1 hlt1))
          go_roundw
          case rel => exact ⟨k + 1, _, cap1, acc ++ [B[j]], by omega, rfl, by rw [List.length_append, HA.out]; rfl, HN1, HO1, by go_num, HX1⟩
          case measure => simp [intOf]; omega
      · obtain rfl : k = s.size := by omega
        have hcv := conv_any HO.out HA.out.symm
        have hD2 := HD.out.below HX.out
        obtain ⟨t, ht⟩ : ∃ t : ByteArray, (⟨acc.toArray⟩ : ByteArray) = t := ⟨_, rfl⟩
        have htl : t.data.toList = acc := by rw [← ht]
        have hts : t.size = s.size := by rw [← HA.out, ← htl]; simp
        have T1 := tokens_short t wr (by omega) hD2
        have HK := fun W => key_any t W
        rw [htl] at T1 HK
        rw [ht] at hcv
        generalize hsn : s.size = sn at *
        have HT := Lib.hid hts
        by_cases h16 : 16 < sn
        · have htk : toks acc = ([], 0, 12) := by
            have hl := HA.out
            have hn := HN.out
            cases acc with
            | nil => simp at hl; omega
            | cons c r => rw [toks_name hn.1 hn.2 (by rw [hl]; omega), if_neg (by rw [hl]; omega)]
          rw [htk] at T1
          clear htk
          go_wp2_with fail
          refine T1.mono ?_
          intro x w2 h2
          obtain ⟨ao2, c2, rfl, Bl⟩ := sub_err h2
          have HB := Lib.hid Bl
          have HD3 := Lib.hid (hD2.below Bl)
          clear Bl h2 T1 hD2
          go_wp2_with (first | (go_at_call 14; refine (lives_any _ HD3.out).mono ?_; rintro e w4 ⟨rfl, hb4⟩; have HB4 := Lib.hid hb4; clear hb4))
          go_ret
          exact ⟨rfl, (HX.out.trans (HB.out.mono HX.out.size)).trans (HB4.out.mono (Nat.le_trans HX.out.size HB.out.size))⟩
        · by_cases h00 : sn = 0
          · have htk : toks acc = ([⟨0, [], 0, 0⟩], 0, 0) := by
              have e : acc = [] := List.eq_nil_of_length_eq_zero (HA.out.trans h00)
              rw [e]; rfl
            rw [htk] at T1
            have z0 : ((sn : Int) == 0) = true := by rw [beq_iff_eq]; omega
            clear htk h00
            go_wp2_with fail
            refine T1.mono ?_
            intro x w2 h2
            obtain ⟨b, o, c2, rfl, lb, C, Bl⟩ := sub_post h2 (by simp)
            have HB := Lib.hid Bl
            have HD3 := Lib.hid (hD2.below Bl)
            clear Bl h2 T1 C hD2
            go_wp2_with (first | (go_at_call 14; refine (lives_any _ HD3.out).mono ?_; rintro e w4 ⟨rfl, hb4⟩; have HB4 := Lib.hid hb4; clear hb4))
            go_ret
            exact ⟨rfl, (HX.out.trans (HB.out.mono HX.out.size)).trans (HB4.out.mono (Nat.le_trans HX.out.size HB.out.size))⟩
          · have hp0 : 0 < t.size := by omega
            have z0 : ((sn : Int) == 0) = false := by rw [beq_eq_false_iff_ne]; omega
            obtain ⟨hc, htk⟩ : (isS t[0] || isL t[0]) = true ∧ toks acc = ([⟨if isL t[0] = true then 4 else if isKey acc = true then 6 else 3, acc, 0, 0⟩, ⟨0, [], 0, sn⟩], 0, 0) := by
              have hl := HA.out
              have hn := HN.out
              have hh := U.list_head hp0
              rw [htl] at hh
              cases acc with
              | nil => simp at hl; omega
              | cons c r =>
                injection hh with h1 h2
                refine ⟨by rw [← h1]; exact hn.1, ?_⟩
                rw [toks_name hn.1 hn.2 (by rw [hl]; omega), if_pos (by rw [hl]; omega), hl, h1]
                rfl
            have HC := Lib.hid hc
            clear hc
            rw [htk] at T1
            clear htk
            cases hL : isL t[0] with
            | true =>
              have l97 : t[0].toNat < 97 := by unfold isL at hL; simp at hL; omega
              rw [hL, if_pos rfl] at T1
              clear hL HK
              go_wp2_with fail
              refine T1.mono ?_
              intro x w2 h2
              obtain ⟨b, o, c2, rfl, lb, C, Bl⟩ := sub_post h2 (by simp)
              have HB := Lib.hid Bl
              have HD3 := Lib.hid (hD2.below Bl)
              have f0 : w2.cell? ⟨b, o, none⟩ = some (.int .i64 4) := C.out 0 (by simp) 0 (by decide)
              have f1 : w2.cell? ⟨b, o + 1, none⟩ = some (.string t) := by rw [← ht]; exact C.out 0 (by simp) 1 (by decide)
              have f7 : w2.cell? ⟨b, o + 7, none⟩ = some (.int .i64 (sn : Int)) := C.out 1 (by simp) 3 (by decide)
              clear Bl h2 T1 C hD2 ht htl
              go_wp2_with (first | (go_at_call 14; refine (lives_any _ HD3.out).mono ?_; rintro e w4 ⟨rfl, hb4⟩; have HB4 := Lib.hid hb4; clear hb4))
              go_ret
              exact ⟨rfl, (HX.out.trans (HB.out.mono HX.out.size)).trans (HB4.out.mono (Nat.le_trans HX.out.size HB.out.size))⟩
            | false =>
              have l97 : 97 ≤ t[0].toNat := by have h := HC.out; rw [hL] at h; unfold isS at h; simp at h; omega
              rw [hL, if_neg (by decide)] at T1
              cases hkey : isKey acc with
              | true =>
                rw [hkey] at T1 HK
                rw [if_pos rfl] at T1
                clear hL hkey
                go_wp2_with fail
                refine T1.mono ?_
                intro x w2 h2
                obtain ⟨b, o, c2, rfl, lb, C, Bl⟩ := sub_post h2 (by simp)
                have HB := Lib.hid Bl
                have HD3 := Lib.hid (hD2.below Bl)
                have f0 : w2.cell? ⟨b, o, none⟩ = some (.int .i64 6) := C.out 0 (by simp) 0 (by decide)
                have f1 : w2.cell? ⟨b, o + 1, none⟩ = some (.string t) := by rw [← ht]; exact C.out 0 (by simp) 1 (by decide)
                have f7 : w2.cell? ⟨b, o + 7, none⟩ = some (.int .i64 (sn : Int)) := C.out 1 (by simp) 3 (by decide)
                clear Bl h2 T1 C hD2 ht htl
                go_wp2_with (first | (go_at_call 15; refine (HK _).mono ?_; rintro e w3 ⟨rfl, rfl⟩) | (go_at_call 14; refine (lives_any _ HD3.out).mono ?_; rintro e w4 ⟨rfl, hb4⟩; have HB4 := Lib.hid hb4; clear hb4))
                go_ret
                exact ⟨rfl, (HX.out.trans (HB.out.mono HX.out.size)).trans (HB4.out.mono (Nat.le_trans HX.out.size HB.out.size))⟩
              | false =>
                rw [hkey] at T1 HK
                rw [if_neg (by decide)] at T1
                clear hL hkey
                go_wp2_with fail
                refine T1.mono ?_
                intro x w2 h2
                obtain ⟨b, o, c2, rfl, lb, C, Bl⟩ := sub_post h2 (by simp)
                have HB := Lib.hid Bl
                have HD3 := Lib.hid (hD2.below Bl)
                have f0 : w2.cell? ⟨b, o, none⟩ = some (.int .i64 3) := C.out 0 (by simp) 0 (by decide)
                have f1 : w2.cell? ⟨b, o + 1, none⟩ = some (.string t) := by rw [← ht]; exact C.out 0 (by simp) 1 (by decide)
                have f7 : w2.cell? ⟨b, o + 7, none⟩ = some (.int .i64 (sn : Int)) := C.out 1 (by simp) 3 (by decide)
                clear Bl h2 T1 C hD2 ht htl
                go_wp2_with (first | (go_at_call 15; refine (HK _).mono ?_; rintro e w3 ⟨rfl, rfl⟩) | (go_at_call 14; refine (lives_any _ HD3.out).mono ?_; rintro e w4 ⟨rfl, hb4⟩; have HB4 := Lib.hid hb4; clear hb4))
                go_ret
                exact ⟨rfl, (HX.out.trans (HB.out.mono HX.out.size)).trans (HB4.out.mono (Nat.le_trans HX.out.size HB.out.size))⟩
  · subst hse
    go_enter Tryd.func8, Tryd.ntmps8
    go_wp2_with fail
    clear hsz hB
    go_loopw [4, 5] (fun t i wr => ∃ (k : Nat) (ao : Option Addr) (cap : Nat) (acc : List UInt8), k ≤ s.size ∧ t = .slice ao k cap ∧ acc.length = k ∧ Hid (NameOk acc) ∧ Hid (wr.ownsRow w.heap.size 5 1 (.slice ao k cap) k (bvs acc)) ∧ i = .int .i64 (k : Int) ∧ Hid (Below w.heap.size w wr))
      (fun _ i _ => s.size - (intOf i).toNat)
    case atStart => exact ⟨0, Option.none, 0, [], Nat.zero_le _, rfl, rfl, trivial, World.ownsRow_nil _ _ _ _, rfl, Below.refl _ _⟩
    case round =>
      obtain ⟨k, ao, cap, acc, hk, rfl, hacc, HN, HO, rfl, HX⟩ := hrel
      have hws := HX.out.size
      have HA := Lib.hid hacc
      clear hacc
      by_cases hlt : k < s.size
      · by_cases hk0 : k = 0
        · obtain ⟨j, hj0, hjl⟩ := rem_is s[k].toNat 52 (by decide)
          have hj : ((s[k].toNat : Nat) : Int) % 52 = (j : Int) := hj0
          have hbk : s[k].toNat < 256 := s[k].toNat_lt
          clear hj0
          have hjB : j < B.size := by omega
          have hjB2 : (j : Int) < 63 := by omega
          have HN1 : Hid (NameOk (acc ++ [B[j]])) := by
            have e : acc = [] := List.eq_nil_of_length_eq_zero (HA.out.trans hk0)
            rw [e]; exact nameOk_first (HLt.out j hjB hjl)
          have t0 : ((k : Int) == 0) = true := by rw [beq_iff_eq]; omega
          clear hk0
          go_wp2_with (first | (at_builtin; go_loud (refine wpList_append_lies _ rfl (.tmp 35) (.tmp 39) 34 rfl w.heap.size 5 i0 (.int .u8 0) 1 1 Tryd.underlying34 hi hz0 hz1 hz2 rfl (by decide) (.slice ao k cap) k (bvs acc) rfl (HO.out.alloc _) ⟨wr.heap.size, 0, none⟩ 1 1 (bvs [B[j]]) rfl rfl (cell_one_new _ _ _) (bvs_one [B[j]]) (by decide) (by unfold maxLen; omega) (by omega) (by simp; omega) _ rfl ?_); intro g1 cap1 w1 hown1 hg1 hat1 hlt1; have HO1 := Lib.hid (more hown1); have HX1 := Lib.hid (step_below2 HX.out hg1 (fun j hj => (HO.out.lt j hj).1) (by omega)); clear hown1 hg1 hat1 hlt1))
          go_roundw
          case rel => exact ⟨k + 1, _, cap1, acc ++ [B[j]], by omega, rfl, by rw [List.length_append, HA.out]; rfl, HN1, HO1, by go_num, HX1⟩
          case measure => simp [intOf]; omega
        · obtain ⟨j, hj0, hjl⟩ := rem_is s[k].toNat 63 (by decide)
          have hj : ((s[k].toNat : Nat) : Int) % 63 = (j : Int) := hj0
          have hbk : s[k].toNat < 256 := s[k].toNat_lt
          clear hj0
          have hjB : j < B.size := by omega
          have hjB2 : (j : Int) < 63 := by omega
          have HN1 : Hid (NameOk (acc ++ [B[j]])) := nameOk_next HN.out (by rw [HA.out]; omega) (HNm.out j hjB)
          have t0 : ((k : Int) == 0) = false := by rw [beq_eq_false_iff_ne]; omega
          clear hk0
          go_wp2_with (first | (at_builtin; go_loud (refine wpList_append_lies _ rfl (.tmp 35) (.tmp 39) 34 rfl w.heap.size 5 i0 (.int .u8 0) 1 1 Tryd.underlying34 hi hz0 hz1 hz2 rfl (by decide) (.slice ao k cap) k (bvs acc) rfl (HO.out.alloc _) ⟨wr.heap.size, 0, none⟩ 1 1 (bvs [B[j]]) rfl rfl (cell_one_new _ _ _) (bvs_one [B[j]]) (by decide) (by unfold maxLen; omega) (by omega) (by simp; omega) _ rfl ?_); intro g1 cap1 w1 hown1 hg1 hat1 hlt1; have HO1 := Lib.hid (more hown1); have HX1 := Lib.hid (step_below2 HX.out hg1 (fun j hj => (HO.out.lt j hj).1) (by omega)); clear hown1 hg1 hat1 hlt1))
          go_roundw
          case rel => exact ⟨k + 1, _, cap1, acc ++ [B[j]], by omega, rfl, by rw [List.length_append, HA.out]; rfl, HN1, HO1, by go_num, HX1⟩
          case measure => simp [intOf]; omega
      · obtain rfl : k = s.size := by omega
        have hcv := conv_any HO.out HA.out.symm
        have hD2 := HD.out.below HX.out
        obtain ⟨t, ht⟩ : ∃ t : ByteArray, (⟨acc.toArray⟩ : ByteArray) = t := ⟨_, rfl⟩
        have htl : t.data.toList = acc := by rw [← ht]
        have hts : t.size = s.size := by rw [← HA.out, ← htl]; simp
        have T1 := tokens_short t wr (by omega) hD2
        have HK := fun W => key_any t W
        rw [htl] at T1 HK
        rw [ht] at hcv
        generalize hsn : s.size = sn at *
        have HT := Lib.hid hts
        by_cases h16 : 16 < sn
        · have htk : toks acc = ([], 0, 12) := by
            have hl := HA.out
            have hn := HN.out
            cases acc with
            | nil => simp at hl; omega
            | cons c r => rw [toks_name hn.1 hn.2 (by rw [hl]; omega), if_neg (by rw [hl]; omega)]
          rw [htk] at T1
          clear htk
          go_wp2_with fail
          refine T1.mono ?_
          intro x w2 h2
          obtain ⟨ao2, c2, rfl, Bl⟩ := sub_err h2
          have HB := Lib.hid Bl
          have HD3 := Lib.hid (hD2.below Bl)
          clear Bl h2 T1 hD2
          go_wp2_with (first | (go_at_call 14; refine (lives_any _ HD3.out).mono ?_; rintro e w4 ⟨rfl, hb4⟩; have HB4 := Lib.hid hb4; clear hb4))
          go_ret
          exact ⟨rfl, (HX.out.trans (HB.out.mono HX.out.size)).trans (HB4.out.mono (Nat.le_trans HX.out.size HB.out.size))⟩
        · by_cases h00 : sn = 0
          · have htk : toks acc = ([⟨0, [], 0, 0⟩], 0, 0) := by
              have e : acc = [] := List.eq_nil_of_length_eq_zero (HA.out.trans h00)
              rw [e]; rfl
            rw [htk] at T1
            have z0 : ((sn : Int) == 0) = true := by rw [beq_iff_eq]; omega
            clear htk h00
            go_wp2_with fail
            refine T1.mono ?_
            intro x w2 h2
            obtain ⟨b, o, c2, rfl, lb, C, Bl⟩ := sub_post h2 (by simp)
            have HB := Lib.hid Bl
            have HD3 := Lib.hid (hD2.below Bl)
            clear Bl h2 T1 C hD2
            go_wp2_with (first | (go_at_call 14; refine (lives_any _ HD3.out).mono ?_; rintro e w4 ⟨rfl, hb4⟩; have HB4 := Lib.hid hb4; clear hb4))
            go_ret
            exact ⟨rfl, (HX.out.trans (HB.out.mono HX.out.size)).trans (HB4.out.mono (Nat.le_trans HX.out.size HB.out.size))⟩
          · have hp0 : 0 < t.size := by omega
            have z0 : ((sn : Int) == 0) = false := by rw [beq_eq_false_iff_ne]; omega
            obtain ⟨hc, htk⟩ : (isS t[0] || isL t[0]) = true ∧ toks acc = ([⟨if isL t[0] = true then 4 else if isKey acc = true then 6 else 3, acc, 0, 0⟩, ⟨0, [], 0, sn⟩], 0, 0) := by
              have hl := HA.out
              have hn := HN.out
              have hh := U.list_head hp0
              rw [htl] at hh
              cases acc with
              | nil => simp at hl; omega
              | cons c r =>
                injection hh with h1 h2
                refine ⟨by rw [← h1]; exact hn.1, ?_⟩
                rw [toks_name hn.1 hn.2 (by rw [hl]; omega), if_pos (by rw [hl]; omega), hl, h1]
                rfl
            have HC := Lib.hid hc
            clear hc
            rw [htk] at T1
            clear htk
            cases hL : isL t[0] with
            | true =>
              have l97 : t[0].toNat < 97 := by unfold isL at hL; simp at hL; omega
              rw [hL, if_pos rfl] at T1
              clear hL HK
              go_wp2_with fail
              refine T1.mono ?_
              intro x w2 h2
              obtain ⟨b, o, c2, rfl, lb, C, Bl⟩ := sub_post h2 (by simp)
              have HB := Lib.hid Bl
              have HD3 := Lib.hid (hD2.below Bl)
              have f0 : w2.cell? ⟨b, o, none⟩ = some (.int .i64 4) := C.out 0 (by simp) 0 (by decide)
              have f1 : w2.cell? ⟨b, o + 1, none⟩ = some (.string t) := by rw [← ht]; exact C.out 0 (by simp) 1 (by decide)
              have f7 : w2.cell? ⟨b, o + 7, none⟩ = some (.int .i64 (sn : Int)) := C.out 1 (by simp) 3 (by decide)
              clear Bl h2 T1 C hD2 ht htl
              go_wp2_with (first | (go_at_call 14; refine (lives_any _ HD3.out).mono ?_; rintro e w4 ⟨rfl, hb4⟩; have HB4 := Lib.hid hb4; clear hb4))
              go_ret
              exact ⟨rfl, (HX.out.trans (HB.out.mono HX.out.size)).trans (HB4.out.mono (Nat.le_trans HX.out.size HB.out.size))⟩
            | false =>
              have l97 : 97 ≤ t[0].toNat := by have h := HC.out; rw [hL] at h; unfold isS at h; simp at h; omega
              rw [hL, if_neg (by decide)] at T1
              cases hkey : isKey acc with
              | true =>
                rw [hkey] at T1 HK
                rw [if_pos rfl] at T1
                clear hL hkey
                go_wp2_with fail
                refine T1.mono ?_
                intro x w2 h2
                obtain ⟨b, o, c2, rfl, lb, C, Bl⟩ := sub_post h2 (by simp)
                have HB := Lib.hid Bl
                have HD3 := Lib.hid (hD2.below Bl)
                have f0 : w2.cell? ⟨b, o, none⟩ = some (.int .i64 6) := C.out 0 (by simp) 0 (by decide)
                have f1 : w2.cell? ⟨b, o + 1, none⟩ = some (.string t) := by rw [← ht]; exact C.out 0 (by simp) 1 (by decide)
                have f7 : w2.cell? ⟨b, o + 7, none⟩ = some (.int .i64 (sn : Int)) := C.out 1 (by simp) 3 (by decide)
                clear Bl h2 T1 C hD2 ht htl
                go_wp2_with (first | (go_at_call 15; refine (HK _).mono ?_; rintro e w3 ⟨rfl, rfl⟩) | (go_at_call 14; refine (lives_any _ HD3.out).mono ?_; rintro e w4 ⟨rfl, hb4⟩; have HB4 := Lib.hid hb4; clear hb4))
                go_ret
                exact ⟨rfl, (HX.out.trans (HB.out.mono HX.out.size)).trans (HB4.out.mono (Nat.le_trans HX.out.size HB.out.size))⟩
              | false =>
                rw [hkey] at T1 HK
                rw [if_neg (by decide)] at T1
                clear hL hkey
                go_wp2_with fail
                refine T1.mono ?_
                intro x w2 h2
                obtain ⟨b, o, c2, rfl, lb, C, Bl⟩ := sub_post h2 (by simp)
                have HB := Lib.hid Bl
                have HD3 := Lib.hid (hD2.below Bl)
                have f0 : w2.cell? ⟨b, o, none⟩ = some (.int .i64 3) := C.out 0 (by simp) 0 (by decide)
                have f1 : w2.cell? ⟨b, o + 1, none⟩ = some (.string t) := by rw [← ht]; exact C.out 0 (by simp) 1 (by decide)
                have f7 : w2.cell? ⟨b, o + 7, none⟩ = some (.int .i64 (sn : Int)) := C.out 1 (by simp) 3 (by decide)
                clear Bl h2 T1 C hD2 ht htl
                go_wp2_with (first | (go_at_call 15; refine (HK _).mono ?_; rintro e w3 ⟨rfl, rfl⟩) | (go_at_call 14; refine (lives_any _ HD3.out).mono ?_; rintro e w4 ⟨rfl, hb4⟩; have HB4 := Lib.hid hb4; clear hb4))
                go_ret
                exact ⟨rfl, (HX.out.trans (HB.out.mono HX.out.size)).trans (HB4.out.mono (Nat.le_trans HX.out.size HB.out.size))⟩

end Go.Proofs.YtaioniaadpgmkaaDoor.lexNames
