/- How the program writes a text. -/
import Derived.Test.YtenhncepoclolaaDoorW
import Derived.Test.YtenhncepoclolaaDoorD
import Derived.Deep.RegionLaw
import Derived.BigRegion
import Derived.Lib.Hide
namespace Go.Proofs.YtenhncepoclolaaDoor.E
open Go.RowKit Go.Maps Go.Proofs.YtenhncepoclolaaDoor.P Go.Proofs.YtenhncepoclolaaDoor.A Go.Proofs.YtenhncepoclolaaDoor.W Go.Proofs.YtenhncepoclolaaDoor.D
set_option linter.unusedVariables false

theorem quote_any (s : ByteArray) (w : World) (hs : s.size ≤ 1000) (hd : Dig w) :
    Calls Tryd.prog 20 #[.string s] w fun e w' => e = .returned (.string ⟨(quoteL s.data.toList).toArray⟩) ∧ Below w.heap.size w w' := by
  obtain ⟨i0, hi, hz0, hz1, hz2⟩ := info_parts infoB
  go_enter Tryd.func20, Tryd.ntmps20
  go_wp2_with (first
    | (go_at_call 27; refine (written_any _).mono ?_; rintro e w1 ⟨rfl, hmap, hb1⟩; have hlt1 := hmap.lt)
    | (at_make; go_loud (refine wpList_make_own _ rfl _ _ 38 rfl (w.heap.size + 1) 5 i0 (.int .u8 0) 1 Tryd.underlying38 hi hz0 hz1 .i64 .i64 _ (s.size + 2) rfl rfl (by omega) (by rw [hz2]; omega) (by unfold maxLen; omega) (by omega) ?_); intro w2 hown2 hg2)
    | (at_builtin; go_loud (refine wpList_append_lies _ rfl (.tmp 14) (.tmp 15) 38 rfl (w.heap.size + 1) 5 i0 (.int .u8 0) 1 1 Tryd.underlying38 hi hz0 hz1 hz2 rfl (by decide) (.slice (some ⟨w1.heap.size, 0, none⟩) 0 (s.size + 2)) 0 [] rfl (hown2.alloc _) ⟨w2.heap.size, 0, none⟩ 1 1 (bvs [34]) rfl rfl (cell_one_new _ _ _) (ints_oneCell .u8 [34]) (by decide) (by unfold maxLen; omega) (by omega) (by have := hg2.size; simp; omega) _ rfl ?_); intro g3 cap3 w3 hown3 hg3 hat3 hlt3))
  have hmap3 : Map w3 w.heap.size D3 := ((hmap.kept hg2 (by simp)).alloc _).kept hg3 (by simp [Value.ownBlock]; omega)
  have hnx3 : Below w.heap.size w w3 := ((hb1.grown hg2 (by omega) (fun j hj => by cases hj)).alloc (by have := hg2.size; omega) _).grown hg3 (by have := hg2.size; simp; omega) (fun j hj => by cases hj; show _ ≤ w1.heap.size; omega)
  clear hmap hown2 hg2 hg3 hat3 hb1 hlt1 hlt3
  simp only [Nat.zero_add, List.nil_append] at hown3
  go_loopw [4, 19] (fun t i wr => ∃ k g cap : Nat, k ≤ s.size ∧ t = .slice (some ⟨g, 0, none⟩) (qt s k).length cap ∧ OwnB wr (w.heap.size + 1) (.slice (some ⟨g, 0, none⟩) (qt s k).length cap) (qt s k) ∧ i = .int .i64 (k : Int) ∧ Map wr w.heap.size D3 ∧ Below w.heap.size w wr)
    (fun _ i _ => s.size - (intOf i).toNat)
  case atStart => exact ⟨0, g3, cap3, Nat.zero_le _, rfl, hown3, rfl, hmap3, hnx3⟩
  case round =>
    obtain ⟨k, g, cap, hk, rfl, hown, rfl, hmap, hnx⟩ := hrel
    have hgl := hown.lt g rfl
    have hln := qt_len s k
    have hsz := hnx.size
    by_cases hlt : k < s.size
    · cases hh : Maps.has D3 (kb (s[k].toNat : Int)) with
      | true =>
        go_wp2_with (first
          | (at_lookup; refine wpList_lookup_own_ok_int _ rfl _ _ 40 rfl 5 5 .u8 lawB Tryd.underlying40 Tryd.underlying5 (zeroB _) w.heap.size 3 D3 rfl hmap _ _ rfl (keyB (byte_wf s[k])) ?_; intro c hat hwc; obtain ⟨d, rfl, hq⟩ := q1_hit hh hat)
          | (at_builtin; go_loud (refine wpList_append_lies _ rfl (.tmp 44) (.tmp 46) 38 rfl (w.heap.size + 1) 5 i0 (.int .u8 0) 1 1 Tryd.underlying38 hi hz0 hz1 hz2 rfl (by decide) (.slice (some ⟨g, 0, none⟩) (qt s k).length cap) (qt s k).length (bvs (qt s k)) rfl (hown.alloc _) ⟨wr.heap.size, 0, none⟩ 2 2 (bvs [92, d]) rfl rfl (cell_two_new _ _ _ _) (bvs_one [92, d]) (by decide) (by unfold maxLen; omega) (by omega) (by simp; omega) _ rfl ?_); intro g1 cap1 w1 hown1 hg1 hat1 hlt1))
        obtain ⟨hv, hown2⟩ := own_snoc (c := qt s (k + 1)) hown1 rfl (by rw [qt_next s k hlt, hq])
        have hmap1 : Map w1 w.heap.size D3 := step_map hmap hg1 (by omega)
        have hnx1 : Below w.heap.size w w1 := step_below hnx hg1 (by omega) (by omega)
        clear hg1 hat1 hlt1 hown1 hown hmap hnx
        go_roundw
        case rel => exact ⟨k + 1, g1, cap1, by omega, hv, hown2, by go_num, hmap1, hnx1⟩
        case measure => simp [intOf]; omega
      | false =>
        cases hst : decide (32 ≤ s[k].toNat ∧ s[k].toNat ≤ 126) with
        | true =>
          go_wp2_with (first
            | (at_lookup; refine wpList_lookup_own_ok_int _ rfl _ _ 40 rfl 5 5 .u8 lawB Tryd.underlying40 Tryd.underlying5 (zeroB _) w.heap.size 3 D3 rfl hmap _ _ rfl (keyB (byte_wf s[k])) ?_; intro c hat hwc)
            | (go_at_call 28; refine (stands_any s[k] _).mono ?_; rintro e w0 ⟨rfl, rfl⟩)
            | (at_builtin; go_loud (refine wpList_append_lies _ rfl (.tmp 51) (.tmp 53) 38 rfl (w.heap.size + 1) 5 i0 (.int .u8 0) 1 1 Tryd.underlying38 hi hz0 hz1 hz2 rfl (by decide) (.slice (some ⟨g, 0, none⟩) (qt s k).length cap) (qt s k).length (bvs (qt s k)) rfl (hown.alloc _) ⟨wr.heap.size, 0, none⟩ 1 1 (bvs [s[k]]) rfl rfl (cell_one_new _ _ _) (bvs_one [s[k]]) (by decide) (by unfold maxLen; omega) (by omega) (by simp; omega) _ rfl ?_); intro g1 cap1 w1 hown1 hg1 hat1 hlt1))
          obtain ⟨hv, hown2⟩ := own_snoc (c := qt s (k + 1)) hown1 rfl (by rw [qt_next s k hlt, q1_stands hh hst])
          have hmap1 : Map w1 w.heap.size D3 := step_map hmap hg1 (by omega)
          have hnx1 : Below w.heap.size w w1 := step_below hnx hg1 (by omega) (by omega)
          clear hg1 hat1 hlt1 hown1 hown hmap hnx
          go_roundw
          case rel => exact ⟨k + 1, g1, cap1, by omega, hv, hown2, by go_num, hmap1, hnx1⟩
          case measure => simp [intOf]; omega
        | false =>
          go_wp2_with (first
            | (at_lookup; refine wpList_lookup_own_ok_int _ rfl _ _ 40 rfl 5 5 .u8 lawB Tryd.underlying40 Tryd.underlying5 (zeroB _) w.heap.size 3 D3 rfl hmap _ _ rfl (keyB (byte_wf s[k])) ?_; intro c hat hwc)
            | (go_at_call 28; refine (stands_any s[k] _).mono ?_; rintro e w0 ⟨rfl, rfl⟩))
          have hlt8 := s[k].toNat_lt
          have hand : bits .and .u8 (s[k].toNat : Int) 15 = (s[k].toNat : Int) % 16 := u8_and15 _ (by omega) (by omega)
          have a1 : (0 : Int) ≤ (s[k].toNat : Int) / 16 := by omega
          have a2 : (s[k].toNat : Int) / 16 < 16 := by omega
          have a3 : (0 : Int) ≤ (s[k].toNat : Int) % 16 := by omega
          have a4 : (s[k].toNat : Int) % 16 < 16 := by omega
          have t1 : ((s[k].toNat : Int) / 16).toNat = s[k].toNat / 16 := by omega
          have t2 : ((s[k].toNat : Int) % 16).toNat = s[k].toNat % 16 := by omega
          have c1 : wr.cell? ⟨0, s[k].toNat / 16, none⟩ = some (bv (hx (s[k].toNat / 16))) := by rw [(hd.below hnx).2 _ (by omega), dg_hx _ (by omega)]; rfl
          have c2 : wr.cell? ⟨0, s[k].toNat % 16, none⟩ = some (bv (hx (s[k].toNat % 16))) := by rw [(hd.below hnx).2 _ (by omega), dg_hx _ (by omega)]; rfl
          unfold bv at c1 c2
          go_region_law (refine step_append_lies _ rfl (.tmp 31) (.tmp 40) 38 rfl (w.heap.size + 1) 5 i0 (.int .u8 0) 1 1 Tryd.underlying38 hi hz0 hz1 hz2 rfl (by decide) (.slice (some ⟨g, 0, none⟩) (qt s k).length cap) (qt s k).length (bvs (qt s k)) (by simp [Act.eval]) (hown.alloc _).drew ⟨wr.heap.size, 0, none⟩ 4 4 (bvs [92, 120, hx (s[k].toNat / 16), hx (s[k].toNat % 16)]) (by simp [Act.eval]) rfl (cell_four_new _ _ _ _ _ _) (bvs_one _) (by decide) (by unfold maxLen; omega) (by omega) (by simp; omega) _ rfl ?_; intro g1 cap1 w1 hown1 hg1 hat1 hlt1)
          all_goals
            obtain ⟨hv, hown2⟩ := own_snoc (c := qt s (k + 1)) hown1 rfl (by rw [qt_next s k hlt, q1_hex hh hst])
            have hmap1 : Map w1 w.heap.size D3 := step_map hmap (grown_drew hg1) (by omega)
            have hnx1 : Below w.heap.size w w1 := step_below hnx (grown_drew hg1) (by omega) (by omega)
            clear hg1 hat1 hlt1 hown1 hown hmap hnx hand a1 a2 a3 a4 t1 t2 c1 c2
            go_wp2
            go_roundw
            case rel => exact ⟨k + 1, g1, cap1, by omega, rfl, hown2, by go_num, hmap1, hnx1⟩
            case measure => simp [intOf]; omega
    · go_wp2_with (first
        | (at_builtin; go_loud (refine wpList_append_lies _ rfl (.tmp 56) (.tmp 57) 38 rfl (w.heap.size + 1) 5 i0 (.int .u8 0) 1 1 Tryd.underlying38 hi hz0 hz1 hz2 rfl (by decide) (.slice (some ⟨g, 0, none⟩) (qt s k).length cap) (qt s k).length (bvs (qt s k)) rfl (hown.alloc _) ⟨wr.heap.size, 0, none⟩ 1 1 (bvs [34]) rfl rfl (cell_one_new _ _ _) (bvs_one [34]) (by decide) (by unfold maxLen; omega) (by omega) (by simp; omega) _ rfl ?_); intro g1 cap1 w1 hown1 hg1 hat1 hlt1; have hcv := conv_own (l := qt s k ++ [34]) (by rw [bvs_append]; exact hown1) (by simp)))
      go_ret
      exact ⟨ret_text (qt_end s k (by omega)), step_below hnx hg1 (by omega) (by omega)⟩
end Go.Proofs.YtenhncepoclolaaDoor.E
