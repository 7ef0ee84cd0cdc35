/- How the document reads a written text. -/
import Derived.Test.YtlcapkgbbgpdmaaGreatDoorS2
namespace Go.Proofs.YtlcapkgbbgpdmaaGreatDoor.RU
open Go.RowKit Go.Maps Go.Proofs.YtlcapkgbbgpdmaaGreatDoor.P Go.Proofs.YtlcapkgbbgpdmaaGreatDoor.A Go.Proofs.YtlcapkgbbgpdmaaGreatDoor.Q Go.Proofs.YtlcapkgbbgpdmaaGreatDoor.U Go.Proofs.YtlcapkgbbgpdmaaGreatDoor.V Go.Proofs.YtlcapkgbbgpdmaaGreatDoor.D2 Go.Proofs.YtlcapkgbbgpdmaaGreatDoor.S2
set_option linter.unusedVariables false
set_option maxRecDepth 100000

theorem rdigit_any (b : UInt8) (w : World) :
    Calls Tryz.prog 86 #[.int .u8 (b.toNat : Int)] w fun e w' => e = .returned (.int .i64 (dv b)) ∧ w = w' := by
  have hb := b.toNat_lt
  obtain ⟨d, hd⟩ : ∃ d, Hid (d = dv b) := ⟨_, rfl⟩
  rw [← hd.out]
  by_cases h1 : 48 ≤ b.toNat
  · by_cases h2 : b.toNat ≤ 57
    · have HV : Hid (d = (b.toNat : Int) - 48) := by rw [hd.out]; unfold dv; rw [if_pos ⟨h1, h2⟩]; rfl
      go_enter Tryz.func86, Tryz.ntmps86
      go_wp2
      go_ret
      exact ⟨by rw [HV.out]; rfl, rfl⟩
    · by_cases h3 : 97 ≤ b.toNat
      · by_cases h4 : b.toNat ≤ 102
        · have HV : Hid (d = (b.toNat : Int) - 97 + 10) := by rw [hd.out]; unfold dv; rw [if_neg (by omega), if_pos ⟨h3, h4⟩]; show _ = _; omega
          go_enter Tryz.func86, Tryz.ntmps86
          go_wp2
          go_ret
          exact ⟨by rw [HV.out]; rfl, rfl⟩
        · have HV : Hid (d = -1) := by rw [hd.out]; unfold dv; rw [if_neg (by omega), if_neg (by omega)]; rfl
          go_enter Tryz.func86, Tryz.ntmps86
          go_wp2
          go_ret
          exact ⟨by rw [HV.out]; rfl, rfl⟩
      · have HV : Hid (d = -1) := by rw [hd.out]; unfold dv; rw [if_neg (by omega), if_neg (by omega)]; rfl
        go_enter Tryz.func86, Tryz.ntmps86
        go_wp2
        go_ret
        exact ⟨by rw [HV.out]; rfl, rfl⟩
  · have HV : Hid (d = -1) := by rw [hd.out]; unfold dv; rw [if_neg (by omega), if_neg (by omega)]; rfl
    go_enter Tryz.func86, Tryz.ntmps86
    go_wp2
    go_ret
    exact ⟨by rw [HV.out]; rfl, rfl⟩
theorem own_val {w : World} {base n : Nat} {v : Value} {a : List UInt8} {b : UInt8} {E : Int} (h : w.ownsRow base 5 1 v n (bvs a ++ [.int .u8 E])) (hE : E = (b.toNat : Int)) : w.ownsRow base 5 1 v n (bvs a ++ bvs [b]) := by
  subst hE; exact h

set_option maxRecDepth 100000 in
set_option maxHeartbeats 2000000 in
theorem runq_loop (s : ByteArray) (w : World) (hs : s.size ≤ 2100) (h0 : 0 < s.size) (hq : s[0] = 34) (R : List UInt8 × Nat × Nat) (hR : rl s.size (s.data.toList.drop 1) 1 [] = R) :
    Calls Tryz.prog 56 #[.string s] w fun e w' => e = .returned (uv R) ∧ Below w.heap.size w w' := by
  obtain ⟨i0, hi, hz0, hz1, hz2⟩ := info_parts infoB
  have HR := Lib.hid hR
  clear hR
  have hs0 : ((s.size : Int) == 0) = false := by rw [beq_eq_false_iff_ne]; omega
  have hq0 : ((s[0].toNat : Int) != 34) = false := by rw [hq]; rfl
  clear hq
  go_enter Tryz.func56, Tryz.ntmps56
  go_wp2
  go_loopw [5, 6] (fun t i wr => ∃ (f k : Nat) (ao : Option Addr) (cap : Nat) (acc : List UInt8), 1 ≤ k ∧ k ≤ s.size ∧ s.size + 1 ≤ f + k ∧ acc.length ≤ k ∧ Hid (rl f (s.data.toList.drop k) k acc = R) ∧
      t = .slice ao acc.length cap ∧ OwnB wr w.heap.size (.slice ao acc.length cap) acc ∧ i = .int .i64 (k : Int) ∧ Below w.heap.size w wr)
    (fun _ i _ => s.size - (intOf i).toNat)
  case atStart => exact ⟨s.size, 1, none, 0, [], Nat.le_refl _, h0, Nat.le_refl _, Nat.zero_le _, HR, rfl, World.ownsRow_nil _ _ _ _, rfl, Below.refl _ _⟩
  case round =>
    obtain ⟨f, k, ao, cap, acc, hk1, hk, hfk, hal, HF, rfl, hown, rfl, hnx⟩ := hrel
    have hbase : ∀ j, (Value.slice ao acc.length cap).ownBlock = some j → w.heap.size ≤ j := fun j hj => (hown.lt j hj).1
    have hsz := hnx.size
    obtain ⟨f, rfl⟩ : ∃ f', f = f' + 1 := ⟨f - 1, by omega⟩
    by_cases hlt : k < s.size
    · by_cases hc : s[k] = 34
      · have tq : ((s[k].toNat : Int) != 34) = false := by rw [hc]; rfl
        have hr : (if acc.length ≤ 60 then (acc, k + 1, 0) else ([], 0, 12)) = R := (rl_quote (show k < s.data.toList.length by simpa using hlt) hc).symm.trans HF.out
        have hcv := conv_any hown rfl
        by_cases h60 : acc.length ≤ 60
        · have HN : Hid ((acc, k + 1, 0) = R) := by rw [if_pos h60] at hr; exact hr
          clear hc HF hr
          go_wp2
          go_ret3
          exact ⟨by rw [← HN.out]; rfl, hnx⟩
        · have HN : Hid (([], 0, 12) = R) := by rw [if_neg h60] at hr; exact hr
          clear hc HF hr
          go_wp2
          go_ret3
          exact ⟨by rw [← HN.out]; rfl, hnx⟩
      · have tq : ((s[k].toNat : Int) != 34) = true := by
          have : ((s[k].toNat : Int) == 34) = false := byte_ne (n := 34) (by decide) hc
          rw [bne, this]; rfl
        by_cases h10 : s[k] = 10
        · have t10 : ((s[k].toNat : Int) == 10) = true := byte_eq (n := 10) (by decide) h10
          have HN : Hid (([], 0, 11) = R) := step_err (r := (0, 0, 11)) hlt hc (by rw [drop_cons s k hlt, h10]; rfl) (by decide) HF
          clear hc HF h10
          go_wp2
          go_ret3
          exact ⟨by rw [← HN.out]; rfl, hnx⟩
        · have t10 : ((s[k].toNat : Int) == 10) = false := byte_ne (n := 10) (by decide) h10
          by_cases h92 : s[k] = 92
          · have t92 : ((s[k].toNat : Int) != 92) = false := by rw [h92]; rfl
            have tl : ((s[k].toNat : Int)) = 92 := by rw [h92]; rfl
            have hb := fs_bh hlt h92
            have t32 : ¬ ((s[k].toNat : Int) < 32) := by omega
            have t126 : ¬ (126 < (s[k].toNat : Int)) := by omega
            have TL := Lib.hid tl
            clear tl h92 h10
            by_cases hl1 : k + 1 < s.size
            · by_cases hn : s[k + 1] = 110
              · have tn : ((s[k + 1].toNat : Int) == 110) = true := byte_eq (n := 110) (by decide) hn
                have HN : Hid (rl f (s.data.toList.drop (k + 2)) (k + 2) (acc ++ [10]) = R) := step_ok (r := (10, 2, 0)) hlt hc (by rw [hb, drop_cons s (k + 1) hl1, hn]; rfl) rfl HF
                clear hc HF hb hn
                go_wp2_with (first | (at_builtin; go_loud (refine wpList_append_lies _ rfl (.tmp 60) (.tmp 61) 100 rfl w.heap.size 5 i0 (.int .u8 0) 1 1 Tryz.underlying100 hi hz0 hz1 hz2 rfl (by decide) (.slice ao acc.length cap) acc.length (bvs acc) rfl (hown.alloc _) ⟨wr.heap.size, 0, none⟩ 1 1 (bvs [10]) rfl rfl (cell_one_new _ _ _) (bvs_one [10]) (by decide) (by unfold maxLen; omega) (by omega) (by simp; omega) _ rfl ?_); intro g1 cap1 w1 hown1 hg1 hat1 hlt1))
                obtain ⟨hv, hown2⟩ := own_snoc2 (c := acc ++ [10]) hown1 rfl rfl
                have hnx1 : Below w.heap.size w w1 := step_below2 hnx hg1 hbase (by omega)
                clear hg1 hat1 hlt1 hown1 hown hnx hbase
                go_roundw
                case rel => exact ⟨f, k + 2, _, cap1, acc ++ [10], by omega, by omega, by omega, by simp; omega, HN, hv, hown2, by go_num, hnx1⟩
                case measure => simp only [intOf]; omega
              · have tn : ((s[k + 1].toNat : Int) == 110) = false := byte_ne (n := 110) (by decide) hn
                by_cases h34 : s[k + 1] = 34
                · have t34 : ((s[k + 1].toNat : Int) == 34) = true := byte_eq (n := 34) (by decide) h34
                  have HN : Hid (rl f (s.data.toList.drop (k + 2)) (k + 2) (acc ++ [s[k + 1]]) = R) := by
                    rw [h34]; exact step_ok (r := (34, 2, 0)) hlt hc (by rw [hb, drop_cons s (k + 1) hl1, h34]; rfl) rfl HF
                  clear hc HF hb hn h34
                  go_wp2_with (first | (at_builtin; go_loud (refine wpList_append_lies _ rfl (.tmp 69) (.tmp 71) 100 rfl w.heap.size 5 i0 (.int .u8 0) 1 1 Tryz.underlying100 hi hz0 hz1 hz2 rfl (by decide) (.slice ao acc.length cap) acc.length (bvs acc) rfl (hown.alloc _) ⟨wr.heap.size, 0, none⟩ 1 1 (bvs [s[k + 1]]) rfl rfl (cell_one_new _ _ _) (bvs_one [s[k + 1]]) (by decide) (by unfold maxLen; omega) (by omega) (by simp; omega) _ rfl ?_); intro g1 cap1 w1 hown1 hg1 hat1 hlt1))
                  obtain ⟨hv, hown2⟩ := own_snoc2 (c := acc ++ [s[k + 1]]) hown1 rfl rfl
                  have hnx1 : Below w.heap.size w w1 := step_below2 hnx hg1 hbase (by omega)
                  clear hg1 hat1 hlt1 hown1 hown hnx hbase
                  go_roundw
                  case rel => exact ⟨f, k + 2, _, cap1, acc ++ [s[k + 1]], by omega, by omega, by omega, by simp; omega, HN, hv, hown2, by go_num, hnx1⟩
                  case measure => simp only [intOf]; omega
                · have t34 : ((s[k + 1].toNat : Int) == 34) = false := byte_ne (n := 34) (by decide) h34
                  by_cases h92b : s[k + 1] = 92
                  · have t92b : ((s[k + 1].toNat : Int) == 92) = true := byte_eq (n := 92) (by decide) h92b
                    have HN : Hid (rl f (s.data.toList.drop (k + 2)) (k + 2) (acc ++ [s[k + 1]]) = R) := by
                      rw [h92b]; exact step_ok (r := (92, 2, 0)) hlt hc (by rw [hb, drop_cons s (k + 1) hl1, h92b]; rfl) rfl HF
                    clear hc HF hb hn h34 h92b
                    go_wp2_with (first | (at_builtin; go_loud (refine wpList_append_lies _ rfl (.tmp 69) (.tmp 71) 100 rfl w.heap.size 5 i0 (.int .u8 0) 1 1 Tryz.underlying100 hi hz0 hz1 hz2 rfl (by decide) (.slice ao acc.length cap) acc.length (bvs acc) rfl (hown.alloc _) ⟨wr.heap.size, 0, none⟩ 1 1 (bvs [s[k + 1]]) rfl rfl (cell_one_new _ _ _) (bvs_one [s[k + 1]]) (by decide) (by unfold maxLen; omega) (by omega) (by simp; omega) _ rfl ?_); intro g1 cap1 w1 hown1 hg1 hat1 hlt1))
                    obtain ⟨hv, hown2⟩ := own_snoc2 (c := acc ++ [s[k + 1]]) hown1 rfl rfl
                    have hnx1 : Below w.heap.size w w1 := step_below2 hnx hg1 hbase (by omega)
                    clear hg1 hat1 hlt1 hown1 hown hnx hbase
                    go_roundw
                    case rel => exact ⟨f, k + 2, _, cap1, acc ++ [s[k + 1]], by omega, by omega, by omega, by simp; omega, HN, hv, hown2, by go_num, hnx1⟩
                    case measure => simp only [intOf]; omega
                  · have t92b : ((s[k + 1].toNat : Int) == 92) = false := byte_ne (n := 92) (by decide) h92b
                    by_cases hx : s[k + 1] = 120
                    · have tx : ((s[k + 1].toNat : Int) == 120) = true := byte_eq (n := 120) (by decide) hx
                      rw [bh_x hl1 hx] at hb
                      clear hn h34 h92b hx
                      by_cases hl2 : k + 1 + 1 < s.size
                      · by_cases d0 : dn s[k + 1 + 1] < 16
                        · have e0 : dv s[k + 1 + 1] = (dn s[k + 1 + 1] : Int) := by rw [dv_dn, if_pos d0]
                          generalize hN0 : dn s[k + 1 + 1] = n0 at *
                          by_cases hl3 : k + 1 + 1 + 1 < s.size
                          · by_cases d1 : dn s[k + 1 + 1 + 1] < 16
                            · have e1 : dv s[k + 1 + 1 + 1] = (dn s[k + 1 + 1 + 1] : Int) := by rw [dv_dn, if_pos d1]
                              generalize hN1 : dn s[k + 1 + 1 + 1] = n1 at *
                              have HN : Hid (rl f (s.data.toList.drop (k + 4)) (k + 4) (acc ++ [UInt8.ofNat (16 * n0 + n1)]) = R) := by
                                refine step_ok (r := (UInt8.ofNat (16 * n0 + n1), 4, 0)) hlt hc ?_ rfl HF
                                rw [hb, td_good hl3 (by rw [hN0]; exact d0) (by rw [hN1]; exact d1), hN0, hN1]
                              have hE := byte_ofNat (16 * n0 + n1) (by omega)
                              have HE := Lib.hid hE
                              clear hc HF hb hN0 hN1 hE
                              go_wp2
                              refine wp_loop_rounds 3 ?_
                              rw [rounds_succ]
                              go_wp2_with (first | (go_at_call 86; refine (rdigit_any s[k + 1 + 1] _).mono ?_; rw [e0]; rintro e w0 ⟨rfl, rfl⟩))
                              rw [rounds_succ]
                              go_wp2_with (first | (go_at_call 86; refine (rdigit_any s[k + 1 + 1 + 1] _).mono ?_; rw [e1]; rintro e w0 ⟨rfl, rfl⟩))
                              rw [rounds_succ]
                              go_wp2_with (first | (at_builtin; go_loud (refine wpList_append_lies _ rfl (.tmp 95) (.tmp 98) 100 rfl w.heap.size 5 i0 (.int .u8 0) 1 1 Tryz.underlying100 hi hz0 hz1 hz2 rfl (by decide) (.slice ao acc.length cap) acc.length (bvs acc) rfl (hown.alloc _) ⟨wr.heap.size, 0, none⟩ 1 1 [.int .u8 _] rfl rfl (cell_one_new _ _ _) (ints_oneCell .u8 [_]) (by decide) (by unfold maxLen; omega) (by omega) (by simp; omega) _ rfl ?_); intro g1 cap1 w1 hown1 hg1 hat1 hlt1))
                              have hown1 := own_val (b := UInt8.ofNat (16 * n0 + n1)) hown1 (by have := HE.out; omega)
                              obtain ⟨hv, hown2⟩ := own_snoc2 (c := acc ++ [UInt8.ofNat (16 * n0 + n1)]) hown1 rfl rfl
                              have hnx1 : Below w.heap.size w w1 := step_below2 hnx hg1 hbase (by omega)
                              clear hg1 hat1 hlt1 hown1 hown hnx hbase
                              go_roundw
                              case rel => exact ⟨f, k + 4, _, cap1, acc ++ [UInt8.ofNat (16 * n0 + n1)], by omega, by omega, by omega, by simp; omega, HN, hv, hown2, by go_num, hnx1⟩
                              case measure => simp only [intOf]; omega
                            · have e1 : dv s[k + 1 + 1 + 1] = -1 := by rw [dv_dn, if_neg d1]
                              have HN : Hid (([], 0, 10) = R) := step_err (r := (0, 4, 10)) hlt hc (by rw [hb, td_bad1 hl3 (by rw [hN0]; exact d0) d1]) (by decide) HF
                              clear hc HF hb hN0 d1
                              go_wp2
                              refine wp_loop_rounds 3 ?_
                              rw [rounds_succ]
                              go_wp2_with (first | (go_at_call 86; refine (rdigit_any s[k + 1 + 1] _).mono ?_; rw [e0]; rintro e w0 ⟨rfl, rfl⟩))
                              rw [rounds_succ]
                              go_wp2_with (first | (go_at_call 86; refine (rdigit_any s[k + 1 + 1 + 1] _).mono ?_; rw [e1]; rintro e w0 ⟨rfl, rfl⟩))
                              go_ret3
                              exact ⟨by rw [← HN.out]; rfl, hnx⟩
                          · have HN : Hid (([], 0, 11) = R) := step_err (r := (0, 4, 11)) hlt hc (by rw [hb, td_short hl2 (by rw [hN0]; exact d0) (by omega)]) (by decide) HF
                            clear hc HF hb hN0
                            go_wp2
                            refine wp_loop_rounds 3 ?_
                            rw [rounds_succ]
                            go_wp2_with (first | (go_at_call 86; refine (rdigit_any s[k + 1 + 1] _).mono ?_; rw [e0]; rintro e w0 ⟨rfl, rfl⟩))
                            rw [rounds_succ]
                            go_wp2_with fail
                            go_ret3
                            exact ⟨by rw [← HN.out]; rfl, hnx⟩
                        · have e0 : dv s[k + 1 + 1] = -1 := by rw [dv_dn, if_neg d0]
                          have HN : Hid (([], 0, 10) = R) := step_err (r := (0, 4, 10)) hlt hc (by rw [hb, td_bad hl2 d0]) (by decide) HF
                          clear hc HF hb d0
                          go_wp2
                          refine wp_loop_rounds 3 ?_
                          rw [rounds_succ]
                          go_wp2_with (first | (go_at_call 86; refine (rdigit_any s[k + 1 + 1] _).mono ?_; rw [e0]; rintro e w0 ⟨rfl, rfl⟩))
                          go_ret3
                          exact ⟨by rw [← HN.out]; rfl, hnx⟩
                      · have HN : Hid (([], 0, 11) = R) := step_err (r := (0, 4, 11)) hlt hc (by rw [hb, td_none (by omega)]) (by decide) HF
                        clear hc HF hb
                        go_wp2
                        refine wp_loop_rounds 3 ?_
                        rw [rounds_succ]
                        go_wp2_with fail
                        go_ret3
                        exact ⟨by rw [← HN.out]; rfl, hnx⟩
                    · have tx : ((s[k + 1].toNat : Int) == 120) = false := byte_ne (n := 120) (by decide) hx
                      have HN : Hid (([], 0, 10) = R) := step_err (r := (0, 0, 10)) hlt hc (by rw [hb, drop_cons s (k + 1) hl1, bh_cons, if_neg hx, if_neg h34, if_neg h92b, if_neg hn]) (by decide) HF
                      clear hc HF hb hn h34 h92b hx
                      go_wp2
                      go_ret3
                      exact ⟨by rw [← HN.out]; rfl, hnx⟩
            · have HN : Hid (([], 0, 11) = R) := step_err (r := (0, 0, 11)) hlt hc (by rw [hb, drop_end s (k + 1) (by omega)]; rfl) (by decide) HF
              clear hc HF hb
              go_wp2
              go_ret3
              exact ⟨by rw [← HN.out]; rfl, hnx⟩
          · have t92 : ((s[k].toNat : Int) != 92) = true := by
              have : ((s[k].toNat : Int) == 92) = false := byte_ne (n := 92) (by decide) h92
              rw [bne, this]; rfl
            by_cases hst : 32 ≤ s[k].toNat ∧ s[k].toNat ≤ 126
            · have HN : Hid (rl f (s.data.toList.drop (k + 1)) (k + 1) (acc ++ [s[k]]) = R) := step_ok (r := (s[k], 1, 0)) hlt hc (by rw [drop_cons s k hlt, fs_cons, if_neg h92, if_neg h10, if_pos hst]) rfl HF
              have t32 : ¬ ((s[k].toNat : Int) < 32) := by omega
              have t126 : ¬ (126 < (s[k].toNat : Int)) := by omega
              clear hc HF h10 h92 hst
              go_wp2_with (first | (at_builtin; go_loud (refine wpList_append_lies _ rfl (.tmp 45) (.tmp 47) 100 rfl w.heap.size 5 i0 (.int .u8 0) 1 1 Tryz.underlying100 hi hz0 hz1 hz2 rfl (by decide) (.slice ao acc.length cap) acc.length (bvs acc) rfl (hown.alloc _) ⟨wr.heap.size, 0, none⟩ 1 1 (bvs [s[k]]) rfl rfl (cell_one_new _ _ _) (bvs_one [s[k]]) (by decide) (by unfold maxLen; omega) (by omega) (by simp; omega) _ rfl ?_); intro g1 cap1 w1 hown1 hg1 hat1 hlt1))
              obtain ⟨hv, hown2⟩ := own_snoc2 (c := acc ++ [s[k]]) hown1 rfl rfl
              have hnx1 : Below w.heap.size w w1 := step_below2 hnx hg1 hbase (by omega)
              clear hg1 hat1 hlt1 hown1 hown hnx hbase
              go_roundw
              case rel => exact ⟨f, k + 1, _, cap1, acc ++ [s[k]], by omega, by omega, by omega, by simp; omega, HN, hv, hown2, by go_num, hnx1⟩
              case measure => simp only [intOf]; omega
            · have HN : Hid (([], 0, 10) = R) := step_err (r := (0, 0, 10)) hlt hc (by rw [drop_cons s k hlt, fs_cons, if_neg h92, if_neg h10, if_neg hst]) (by decide) HF
              have hst' : s[k].toNat < 32 ∨ (32 ≤ s[k].toNat ∧ 126 < s[k].toNat) := by omega
              clear hc HF h10 h92 hst
              rcases hst' with h1 | ⟨h1, h2⟩
              all_goals
                go_wp2
                go_ret3
                exact ⟨by rw [← HN.out]; rfl, hnx⟩
    · have HN : Hid (([], 0, 11) = R) := (rl_end (f := f) (acc := acc) (show s.data.toList.length ≤ k by simp; omega)).symm.trans HF.out
      clear HF
      go_wp2
      go_ret3
      exact ⟨by rw [← HN.out]; rfl, hnx⟩

theorem runq_any (s : ByteArray) (w : World) (hs : s.size ≤ 2100) :
    Calls Tryz.prog 56 #[.string s] w fun e w' => e = .returned (uv (unq s.data.toList)) ∧ Below w.heap.size w w' := by
  by_cases h0 : s.size = 0
  · rw [list_nil h0]
    go_enter Tryz.func56, Tryz.ntmps56
    go_wp2
    go_ret3
    exact ⟨rfl, Below.refl _ _⟩
  · have hp : 0 < s.size := by omega
    by_cases hq : s[0] = 34
    · refine runq_loop s w hs hp hq _ ?_
      have e := list_head hp
      have hl : (s.data.toList.drop 1).length + 1 = s.size := by simp; omega
      rw [← hl]
      generalize s.data.toList.drop 1 = t at *
      rw [e]
      show _ = if _ then _ else _
      rw [if_pos hq]
    · have e : unq s.data.toList = ([], 0, 14) := by
        rw [list_head hp]
        show (if _ then _ else _) = _
        rw [if_neg hq]
      rw [e]
      have hq0 : ((s[0].toNat : Int) != 34) = true := by
        have : ((s[0].toNat : Int) == 34) = false := byte_ne (n := 34) (by decide) hq
        rw [bne, this]; rfl
      clear e hq
      go_enter Tryz.func56, Tryz.ntmps56
      go_wp2
      go_ret3
      exact ⟨rfl, Below.refl _ _⟩
end Go.Proofs.YtlcapkgbbgpdmaaGreatDoor.RU
