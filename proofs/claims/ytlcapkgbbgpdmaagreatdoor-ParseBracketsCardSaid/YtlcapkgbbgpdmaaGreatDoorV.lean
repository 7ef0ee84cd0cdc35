/- How the program reads a written text whole. -/
import Derived.Test.YtlcapkgbbgpdmaaGreatDoorU
namespace Go.Proofs.YtlcapkgbbgpdmaaGreatDoor.V
open Go.RowKit Go.Maps Go.Proofs.YtlcapkgbbgpdmaaGreatDoor.P Go.Proofs.YtlcapkgbbgpdmaaGreatDoor.A Go.Proofs.YtlcapkgbbgpdmaaGreatDoor.W Go.Proofs.YtlcapkgbbgpdmaaGreatDoor.D Go.Proofs.YtlcapkgbbgpdmaaGreatDoor.D2 Go.Proofs.YtlcapkgbbgpdmaaGreatDoor.Q Go.Proofs.YtlcapkgbbgpdmaaGreatDoor.U
set_option linter.unusedVariables false
set_option maxRecDepth 100000

theorem byte_eq {b : UInt8} {n : Nat} (hn : n < 256) (h : b = UInt8.ofNat n) : ((b.toNat : Int) == (n : Int)) = true := by
  rw [h, beq_iff_eq]; exact byte_ofNat n hn
theorem byte_ne {b : UInt8} {n : Nat} (hn : n < 256) (h : b ≠ UInt8.ofNat n) : ((b.toNat : Int) == (n : Int)) = false := by
  rw [beq_eq_false_iff_ne]; intro e; apply h; apply UInt8.toNat_inj.1; have := byte_ofNat n hn; omega

theorem first_any (s : ByteArray) (w : World) (hd : Dig w) (b : Nat) (D : DataW Unit) (hD : IsMeant D) (hm : Map w b D) (h0 : 0 < s.size) (r : UInt8 × Nat × Nat) (hr : fs s.data.toList = r) :
    Calls Tryz.prog 156 #[.string s, .map (some b)] w fun e w' => e = .returned (fv r) ∧ w = w' := by
  rw [list_head h0, fs_cons] at hr
  by_cases h1 : s[0] = 92
  · have t1 : ((s[0].toNat : Int) == 92) = true := byte_eq (n := 92) (by decide) h1
    rw [if_pos h1, ← drop_list] at hr
    clear h1
    go_enter Tryz.func156, Tryz.ntmps156
    go_wp2_with (first | (go_at_call 182; refine (behind_any _ _ hd b D hD hm r hr).mono ?_; rintro e w0 ⟨rfl, rfl⟩))
    go_ret3
    exact ⟨rfl, rfl⟩
  · have t1 : ((s[0].toNat : Int) == 92) = false := byte_ne (n := 92) (by decide) h1
    rw [if_neg h1] at hr
    clear h1
    by_cases h2 : s[0] = 10
    · have t2 : ((s[0].toNat : Int) == 10) = true := byte_eq (n := 10) (by decide) h2
      rw [if_pos h2] at hr
      subst hr
      clear h2
      go_enter Tryz.func156, Tryz.ntmps156
      go_wp2
      go_ret3
      exact ⟨rfl, rfl⟩
    · have t2 : ((s[0].toNat : Int) == 10) = false := byte_ne (n := 10) (by decide) h2
      rw [if_neg h2] at hr
      clear h2
      cases hst : decide (32 ≤ s[0].toNat ∧ s[0].toNat ≤ 126) with
      | true =>
        rw [if_pos (of_decide_eq_true hst)] at hr
        subst hr
        go_enter Tryz.func156, Tryz.ntmps156
        go_wp2_with (first | (go_at_call 183; refine (stands_any s[0] _).mono ?_; rintro e w0 ⟨rfl, rfl⟩))
        go_ret3
        exact ⟨rfl, rfl⟩
      | false =>
        rw [if_neg (of_decide_eq_false hst)] at hr
        subst hr
        go_enter Tryz.func156, Tryz.ntmps156
        go_wp2_with (first | (go_at_call 183; refine (stands_any s[0] _).mono ?_; rintro e w0 ⟨rfl, rfl⟩))
        go_ret3
        exact ⟨rfl, rfl⟩

abbrev uv (r : List UInt8 × Nat × Nat) : Value := .tuple #[.string ⟨r.1.toArray⟩, .int .i64 (r.2.1 : Int), .int .i64 (r.2.2 : Int)]

theorem whole_any (g cap n : Nat) (l : List UInt8) (w : World) (base : Nat) (hown : OwnB w base (.slice (some ⟨g, 0, none⟩) l.length cap) l) (r : List UInt8 × Nat × Nat) (hr : (if l.length ≤ 60 then (l, n, 0) else ([], 0, 12)) = r) :
    Calls Tryz.prog 155 #[.slice (some ⟨g, 0, none⟩) l.length cap, .int .i64 (n : Int)] w fun e w' => e = .returned (uv r) ∧ w = w' := by
  have hcv := conv_own hown rfl
  by_cases h : l.length ≤ 60
  · rw [if_pos h] at hr
    subst hr
    go_enter Tryz.func155, Tryz.ntmps155
    go_wp2
    go_ret3
    exact ⟨rfl, rfl⟩
  · rw [if_neg h] at hr
    subst hr
    go_enter Tryz.func155, Tryz.ntmps155
    go_wp2
    go_ret3
    exact ⟨rfl, rfl⟩

theorem unquote_loop (s : ByteArray) (w : World) (hs : s.size ≤ 2100) (hd : Dig w) (h0 : 0 < s.size) (hq : s[0] = 34) (R : List UInt8 × Nat × Nat) (hR : rl s.size (s.data.toList.drop 1) 1 [] = R) :
    Calls Tryz.prog 123 #[.string s] w fun e w' => e = .returned (uv R) ∧ Below w.heap.size w w' := by
  obtain ⟨i0, hi, hz0, hz1, hz2⟩ := info_parts infoB
  have HR := Lib.hid hR
  clear hR
  have hb : (s.toList == []) = false := by rw [ByteArray.toList_eq, list_head h0]; rfl
  have hq0 : ((s[0].toNat : Int) != 34) = false := by rw [hq]; rfl
  clear hq
  go_enter Tryz.func123, Tryz.ntmps123
  go_wp2_with (first
    | (go_at_call 154; refine (meant_any _).mono ?_; rintro e w1 ⟨rfl, ⟨D, hD, hmap⟩, hlt1, hb1⟩)
    | (at_make; go_loud (refine wpList_make_own _ rfl _ _ 100 rfl (w.heap.size + 1) 5 i0 (.int .u8 0) 1 Tryz.underlying100 hi hz0 hz1 .i64 .i64 _ 60 rfl rfl (by omega) (by rw [hz2]; omega) (by unfold maxLen; omega) (by omega) ?_); intro w2 hown2 hg2))
  have hmap2 : Map w2 w.heap.size D := hmap.kept hg2 (by simp)
  have hnx2 : Below w.heap.size w w2 := hb1.grown hg2 (by omega) (fun j hj => by cases hj)
  clear hmap hg2 hb1
  go_loopw [6, 7] (fun t i wr => ∃ f k g cap : Nat, ∃ acc : List UInt8, 1 ≤ k ∧ k ≤ s.size ∧ s.size + 1 ≤ f + k ∧ acc.length ≤ k ∧ Hid (rl f (s.data.toList.drop k) k acc = R) ∧
      t = .slice (some ⟨g, 0, none⟩) acc.length cap ∧ OwnB wr (w.heap.size + 1) (.slice (some ⟨g, 0, none⟩) acc.length cap) acc ∧ i = .int .i64 (k : Int) ∧ Map wr w.heap.size D ∧ Below w.heap.size w wr)
    (fun _ i _ => s.size - (intOf i).toNat)
  case atStart => exact ⟨s.size, 1, w1.heap.size, 60, [], Nat.le_refl _, h0, Nat.le_refl _, Nat.zero_le _, HR, rfl, hown2, rfl, hmap2, hnx2⟩
  case round =>
    obtain ⟨f, k, g, cap, acc, hk1, hk, hfk, hal, HF, rfl, hown, rfl, hmap, hnx⟩ := hrel
    have hgl := hown.lt g rfl
    have hsz := hnx.size
    obtain ⟨f, rfl⟩ : ∃ f', f = f' + 1 := ⟨f - 1, by omega⟩
    by_cases hlt : k < s.size
    · have hll : k < s.data.toList.length := by simpa using hlt
      by_cases hc : s[k] = 34
      · have tq : ((s[k].toNat : Int) == 34) = true := byte_eq (n := 34) (by decide) hc
        have hr : (if acc.length ≤ 60 then (acc, k + 1, 0) else ([], 0, 12)) = R := (rl_quote hll hc).symm.trans HF.out
        clear hc HF
        go_wp2_with (first | (go_at_call 155; go_loud (refine (whole_any g cap (k + 1) acc _ _ hown R hr).mono ?_); rintro e w0 ⟨rfl, rfl⟩))
        go_ret3
        exact ⟨rfl, hnx⟩
      · have tq : ((s[k].toNat : Int) == 34) = false := byte_ne (n := 34) (by decide) hc
        obtain ⟨r, hr⟩ : ∃ r, fs (s.data.toList.drop k) = r := ⟨_, rfl⟩
        by_cases he : r.2.2 = 0
        · have te : ((r.2.2 : Int) != 0) = false := by rw [he]; rfl
          have hok := fs_ok (by rw [hr]; exact he)
          have HN : Hid (rl f (s.data.toList.drop (k + r.2.1)) (k + r.2.1) (acc ++ [r.1]) = R) := by
            have := rl_next (f := f) (acc := acc) hll hc (by rw [hr]; exact he)
            rw [hr] at this
            exact this.symm.trans HF.out
          rw [hr] at hok
          have hokl : r.2.1 ≤ s.size - k := by simpa using hok.2
          have hok1 := hok.1
          rw [← drop_list] at hr
          clear hc he HF hok
          go_wp2_with (first
            | (go_at_call 156; go_loud (refine (first_any _ _ (hd.below hnx) _ D hD hmap (by simp; omega) r hr).mono ?_); rintro e w0 ⟨rfl, rfl⟩)
            | (at_builtin; go_loud (refine wpList_append_lies _ rfl (.tmp 47) (.tmp 49) 100 rfl (w.heap.size + 1) 5 i0 (.int .u8 0) 1 1 Tryz.underlying100 hi hz0 hz1 hz2 rfl (by decide) (.slice (some ⟨g, 0, none⟩) acc.length cap) acc.length (bvs acc) rfl (hown.alloc _) ⟨wr.heap.size, 0, none⟩ 1 1 (bvs [r.1]) rfl rfl (cell_one_new _ _ _) (bvs_one [r.1]) (by decide) (by unfold maxLen; omega) (by omega) (by simp; omega) _ rfl ?_); intro g1 cap1 w1' hown1 hg1 hat1 hlt1'))
          obtain ⟨hv, hown2'⟩ := own_snoc (c := acc ++ [r.1]) hown1 rfl rfl
          have hmap1 : Map w1' w.heap.size D := step_map hmap hg1 (by omega)
          have hnx1 : Below w.heap.size w w1' := step_below hnx hg1 (by omega) (by omega)
          clear hg1 hat1 hlt1' hown1 hown hmap hnx
          go_roundw
          case rel => exact ⟨f, k + r.2.1, g1, cap1, acc ++ [r.1], by omega, by omega, by omega, by simp; omega, HN, hv, hown2', by go_num, hmap1, hnx1⟩
          case measure => simp [intOf]; omega
        · have te : ((r.2.2 : Int) != 0) = true := by rw [bne_iff_ne]; intro e; exact he (by omega)
          have HN : Hid (([], 0, r.2.2) = R) := by
            have := rl_err (f := f) (acc := acc) hll hc (by rw [hr]; exact he)
            rw [hr] at this
            exact this.symm.trans HF.out
          rw [← drop_list] at hr
          clear hc he HF
          go_wp2_with (first
            | (go_at_call 156; go_loud (refine (first_any _ _ (hd.below hnx) _ D hD hmap (by simp; omega) r hr).mono ?_); rintro e w0 ⟨rfl, rfl⟩))
          go_ret3
          exact ⟨by rw [← HN.out]; rfl, hnx⟩
    · have HN : Hid (([], 0, 11) = R) := (rl_end (f := f) (acc := acc) (by simp; omega)).symm.trans HF.out
      clear HF
      go_wp2
      go_ret3
      exact ⟨by rw [← HN.out]; rfl, hnx⟩

theorem unquote_any (s : ByteArray) (w : World) (hs : s.size ≤ 2100) (hd : Dig w) :
    Calls Tryz.prog 123 #[.string s] w fun e w' => e = .returned (uv (unq s.data.toList)) ∧ Below w.heap.size w w' := by
  by_cases h0 : s.size = 0
  · rw [list_nil h0]
    have hb : (s.toList == []) = true := by rw [ByteArray.toList_eq, list_nil h0]; rfl
    go_enter Tryz.func123, Tryz.ntmps123
    go_wp2
    go_ret3
    exact ⟨rfl, Below.refl _ _⟩
  · have hp : 0 < s.size := by omega
    by_cases hq : s[0] = 34
    · refine unquote_loop s w hs hd hp hq _ ?_
      have e := list_head hp
      have hl : (s.data.toList.drop 1).length + 1 = s.size := by simp; omega
      rw [← hl]
      generalize s.data.toList.drop 1 = t at *
      rw [e]
      show _ = if _ then _ else _
      rw [if_pos hq]
    · have e : unq s.data.toList = ([], 0, 14) := by
        rw [list_head hp]
        show (if _ then _ else _) = _
        rw [if_neg hq]
      rw [e]
      have hb : (s.toList == []) = false := by rw [ByteArray.toList_eq, list_head hp]; rfl
      have hq0 : ((s[0].toNat : Int) != 34) = true := by
        have : ((s[0].toNat : Int) == 34) = false := byte_ne (n := 34) (by decide) hq
        rw [bne, this]; rfl
      clear e hq
      go_enter Tryz.func123, Tryz.ntmps123
      go_wp2
      go_ret3
      exact ⟨rfl, Below.refl _ _⟩
end Go.Proofs.YtlcapkgbbgpdmaaGreatDoor.V
