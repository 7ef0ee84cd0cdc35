/- A source's tokens, by the document. -/
import Derived.Test.YtaioniaadpgmkaaDoorYZ
import Derived.Test.YtaioniaadpgmkaaDoorYT
import Derived.Deep.LoopGhost
import Derived.Outline
namespace Go.Proofs.YtaioniaadpgmkaaDoor.YF
open Go.RowKit Go.Proofs.YtaioniaadpgmkaaDoor.P Go.Proofs.YtaioniaadpgmkaaDoor.A Go.Proofs.YtaioniaadpgmkaaDoor.V Go.Proofs.YtaioniaadpgmkaaDoor.TK Go.Proofs.YtaioniaadpgmkaaDoor.TO Go.Proofs.YtaioniaadpgmkaaDoor.TP Go.Proofs.YtaioniaadpgmkaaDoor.YW Go.Proofs.YtaioniaadpgmkaaDoor.YG Go.Proofs.YtaioniaadpgmkaaDoor.YH Go.Proofs.YtaioniaadpgmkaaDoor.YT Go.Proofs.YtaioniaadpgmkaaDoor.YZ Go.Proofs.YtaioniaadpgmkaaDoor.U
set_option linter.unusedVariables false

theorem own_row0 {w : World} {base : Nat} {v : Value} {ts : List Tok} (h : OwnT w base v ts) : ∀ j, v.ownBlock = some j → base ≤ j := fun j hj => (h.lt j hj).1
theorem bl_no {c : UInt8} (h : bl c = false) : c ≠ 32 ∧ c ≠ 9 ∧ c ≠ 10 := by
  unfold bl at h; simpa using h

theorem rtokens_long (s : ByteArray) (w : World) (hs : 2000 < s.size) (hm : s.size ≤ maxLen) :
    Calls Tryd.prog 12 #[.string s] w fun x w' => x = .returned (.tuple #[.slice none 0 0, .int .i64 0, .int .i64 12]) ∧ w = w' := by
  unfold maxLen at hm
  go_enter Tryd.func12, Tryd.ntmps12
  go_wp2
  go_ret3
  exact ⟨rfl, rfl⟩

set_option maxRecDepth 100000 in
set_option maxHeartbeats 4000000 in
theorem rtokens_short (s : ByteArray) (w : World) (hs : s.size ≤ 2000) :
    Calls Tryd.prog 12 #[.string s] w (TokPost w (toks s.data.toList)) := by
  obtain ⟨L, hL⟩ : ∃ L, Hid (L = toks s.data.toList) := ⟨_, rfl⟩
  rw [← hL.out]
  have HL : Hid (glue [] (from_ s 0) = L) := by show _ = _; rw [hL.out, toks_from s hs]
  obtain ⟨i0, hi, hz0, hz1, hz2⟩ := info_parts infoT
  have hlong : decide (2000 < (s.size : Int)) = false := by simp; omega
  clear hL
  go_enter Tryd.func12, Tryd.ntmps12
  go_wp2
  clear hlong
  go_loopg [5, 6] s.size (fun g v i wx => ∃ (k : Nat) (ts : List Tok), k + g = s.size ∧ i = .int .i64 (k : Int) ∧ Hid (glue ts (from_ s k) = L) ∧ ts.length ≤ k ∧ Hid (Below w.heap.size w wx) ∧ Hid (OwnT wx w.heap.size v ts))
  case atStart => exact ⟨0, [], Nat.zero_add _, rfl, HL, Nat.zero_le _, Below.refl _ _, World.ownsRow_nil _ _ _ _⟩
  case round =>
    obtain ⟨k, ts, hk, rfl, HL', htl, HB, HO⟩ := hrel
    clear HL
    by_cases hlt : k < s.size
    · obtain ⟨g, rfl⟩ : ∃ g, gk = g + 1 := ⟨gk - 1, by omega⟩
      cases hb : bl s[k] with
      | true =>
        have HN := Lib.hid ((glue_blank (ts := ts) hlt hb).symm.trans HL'.out)
        have hbs : s[k] = 32 ∨ s[k] = 9 ∨ s[k] = 10 := by unfold bl at hb; simpa using hb
        clear hb HL'
        rcases hbs with hb | hb | hb
        · have t32 : ((s[k].toNat : Int) == 32) = true := byte_eq (n := 32) (by decide) hb
          clear hb
          go_wp2
          go_roundg g
          case rel => exact ⟨k + 1, ts, by omega, by go_num, HN, by omega, HB, HO⟩
          case measure => omega
        · have t32 : ((s[k].toNat : Int) == 32) = false := by rw [hb]; rfl
          have t9 : ((s[k].toNat : Int) == 9) = true := byte_eq (n := 9) (by decide) hb
          clear hb
          go_wp2
          go_roundg g
          case rel => exact ⟨k + 1, ts, by omega, by go_num, HN, by omega, HB, HO⟩
          case measure => omega
        · have t32 : ((s[k].toNat : Int) == 32) = false := by rw [hb]; rfl
          have t9 : ((s[k].toNat : Int) == 9) = false := by rw [hb]; rfl
          have t10 : ((s[k].toNat : Int) == 10) = true := byte_eq (n := 10) (by decide) hb
          clear hb
          go_wp2
          go_roundg g
          case rel => exact ⟨k + 1, ts, by omega, by go_num, HN, by omega, HB, HO⟩
          case measure => omega
      | false =>
        obtain ⟨n32, n9, n10⟩ := bl_no hb
        have t32 : ((s[k].toNat : Int) == 32) = false := byte_ne (n := 32) (by decide) n32
        have t9 : ((s[k].toNat : Int) == 9) = false := byte_ne (n := 9) (by decide) n9
        have t10 : ((s[k].toNat : Int) == 10) = false := byte_ne (n := 10) (by decide) n10
        by_cases h35 : s[k] = 35
        · have HP0 := (glue_remark (ts := ts) hlt hb h35).symm.trans HL'.out
          have hPle := lasts_le (p := nb) (Nat.le_of_lt hlt)
          obtain ⟨P, hP⟩ : ∃ P, k + lasts nb s k = P := ⟨_, rfl⟩
          have hP1 : k + 1 ≤ P := by rw [← hP, lasts_yes hlt (by rw [h35]; decide)]; omega
          rw [hP] at HP0 hPle
          have HP := Lib.hid HP0
          have HPk := Lib.hid hP
          have t35 : ((s[k].toNat : Int) == 35) = true := byte_eq (n := 35) (by decide) h35
          clear hP n32 n9 n10 h35 hb HP0 HL'
          go_wp2
          go_loop [6] (fun v => ∃ j : Nat, k ≤ j ∧ j ≤ s.size ∧ v = .int .i64 (j : Int) ∧ Hid (j + lasts nb s j = P)) (fun v => s.size - (intOf v).toNat)
          case atStart => exact ⟨k, Nat.le_refl _, Nat.le_of_lt hlt, rfl, HPk⟩
          case round =>
            obtain ⟨j, hkj, hj, rfl, HJ⟩ := hrel
            clear HPk
            by_cases hjl : j < s.size
            · by_cases h10 : s[j] = 10
              · have hjP : j = P := by have := HJ.out; rw [lasts_no hjl (by rw [h10]; decide)] at this; omega
                subst hjP
                have u10 : ((s[j].toNat : Int) != 10) = false := by rw [h10]; rfl
                clear h10 HJ
                go_wp2
                go_roundg (s.size - j)
                case rel => exact ⟨j, ts, by omega, rfl, HP, by omega, HB, HO⟩
                case measure => omega
              · have HJ2 : Hid (j + 1 + lasts nb s (j + 1) = P) := by
                  show _ = _
                  rw [← HJ.out, lasts_yes hjl (by unfold nb; exact decide_eq_true h10)]; omega
                have u10' : ((s[j].toNat : Int) == 10) = false := byte_ne (n := 10) (by decide) h10
                have u10 : ((s[j].toNat : Int) != 10) = true := by rw [bne, u10']; rfl
                clear h10 HJ
                go_wp2
                go_round
                case rel => exact ⟨j + 1, by omega, by omega, by go_num, HJ2⟩
                case measure => simp [intOf]; omega
            · have hjP : j = P := by have := HJ.out; rw [lasts_out (by omega)] at this; omega
              subst hjP
              clear HJ
              go_wp2
              go_roundg (s.size - j)
              case rel => exact ⟨j, ts, by omega, rfl, HP, by omega, HB, HO⟩
              case measure => omega
        · have t35 : ((s[k].toNat : Int) == 35) = false := byte_ne (n := 35) (by decide) h35
          have hex : (s.extract k s.size).data.toList = s.data.toList.drop k := drop_list s k
          obtain ⟨q, hq⟩ : ∃ q, tk (s.data.toList.drop k) = q := ⟨_, rfl⟩
          have HTK := fun W => rtoken_any (s.extract k s.size) W (by simp; omega) (by simp; omega)
          rw [hex, hq] at HTK
          have hstep := glue_next (ts := ts) hq hlt hb h35
          have herr := glue_bad (ts := ts) hq hlt hb h35
          have hlen := @tk_len (s.data.toList.drop k)
          rw [hq] at hlen
          have hll : (s.data.toList.drop k).length = s.size - k := by simp
          rw [hll] at hlen
          obtain ⟨⟨qk, qt, qn⟩, ql, qe⟩ := q
          simp only at hstep herr hlen
          clear hq hll hex n32 n9 n10 h35 hb
          by_cases he : qe = 0
          · subst he
            have HS := Lib.hid ((hstep rfl).symm.trans HL'.out)
            obtain ⟨l1, l2, _⟩ := hlen rfl
            clear hstep herr hlen HL'
            go_wp2_with (first
              | (go_at_call 20; refine (HTK wr).mono ?_; rintro x w4 ⟨rfl, hb4⟩; have HB4 := Lib.hid (HB.out.trans (hb4.mono HB.out.size)); have HO4 := Lib.hid (own_below HO.out hb4 (Nat.le_refl _)); have hz4 := hb4.size; clear hb4)
              | (at_builtin; go_loud (refine wpList_append_lies _ rfl (.tmp 61) (.tmp 63) 23 rfl w.heap.size 32 i0 (.agg #[.int .i64 0, .string ByteArray.empty, .int .i64 0, .int .i64 0]) 4 40 Tryd.underlying23 hi hz0 hz1 hz2 rfl (by decide) u5 ts.length (tvs ts) rfl ((HO4.out.alloc _).alloc _) ⟨w4.heap.size + 1, 0, none⟩ 1 1 (tcell ⟨qk, qt, qn, k⟩) rfl rfl (cell_four_at _ _ _ _ _ _ _ (by simp)) (tcell_one _) (by decide) (by unfold maxLen; omega) (by omega) (by have := HB4.out.size; simp; omega) _ rfl ?_); intro g1 cap1 w5 hown5 hg5 hat5 hlt5; have HB5 := Lib.hid (((HB4.out.alloc HB4.out.size _).alloc (by have := HB4.out.size; simp; omega) _).grown hg5 (by have := HB4.out.size; simp; omega) (own_row0 HO4.out)); have HO5 := Lib.hid (own_snoc1 hown5); clear hown5 hg5 hat5 hlt5))
            go_roundg (s.size - (k + ql))
            case rel => exact ⟨k + ql, ts ++ [⟨qk, qt, qn, k⟩], by omega, by go_num, HS, by simp; omega, HB5, HO5⟩
            case measure => omega
          · have HE := Lib.hid ((herr he).symm.trans HL'.out)
            have he' : ((qe : Int) == 0) = false := by rw [beq_eq_false_iff_ne]; omega
            have he2 : ((qe : Int) != 0) = true := by rw [bne, he']; rfl
            clear hstep herr hlen HL' he
            go_wp2_with (first
              | (go_at_call 20; refine (HTK wr).mono ?_; rintro x w4 ⟨rfl, hb4⟩; have HB4 := Lib.hid (HB.out.trans (hb4.mono HB.out.size)); have HO4 := Lib.hid (own_below HO.out hb4 (Nat.le_refl _)); have hz4 := hb4.size; clear hb4))
            go_ret3
            refine ⟨.slice none 0 0, ?_, ?_, HB4.out.alloc HB4.out.size _⟩
            · rw [← HE.out]; rfl
            · rw [← HE.out]; exact has_nil _
    · have hks : k = s.size := by omega
      have HE := Lib.hid ((glue_end (ts := ts) hks).symm.trans HL'.out)
      clear HL'
      go_wp2_with (first | (at_builtin; go_loud (refine wpList_append_lies _ rfl (.tmp 68) (.tmp 72) 23 rfl w.heap.size 32 i0 (.agg #[.int .i64 0, .string ByteArray.empty, .int .i64 0, .int .i64 0]) 4 40 Tryd.underlying23 hi hz0 hz1 hz2 rfl (by decide) u5 ts.length (tvs ts) rfl (HO.out.alloc _) ⟨wr.heap.size, 0, none⟩ 1 1 (tcell ⟨0, [], 0, s.size⟩) rfl rfl (cell_four_at _ _ _ _ _ _ _ rfl) (tcell_one _) (by decide) (by unfold maxLen; omega) (by omega) (by have := HB.out.size; simp; omega) _ rfl ?_); intro g1 cap1 w5 hown5 hg5 hat5 hlt5; have HB5 := Lib.hid ((HB.out.alloc HB.out.size _).grown hg5 (by have := HB.out.size; simp; omega) (own_row0 HO.out)); have HO5 := Lib.hid (own_snoc1 (x := ⟨0, [], 0, s.size⟩) hown5); clear hown5 hg5 hat5 hlt5))
      go_ret3
      refine ⟨.slice (some ⟨g1, 0, none⟩) (ts.length + 1) cap1, ?_, ?_, HB5.out⟩
      · rw [← HE.out]; rfl
      · rw [← HE.out]; exact own_hasT HO5.out
end Go.Proofs.YtaioniaadpgmkaaDoor.YF
