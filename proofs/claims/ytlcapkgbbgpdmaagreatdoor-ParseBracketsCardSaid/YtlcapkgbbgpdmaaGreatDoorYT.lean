/- A source's tokens, by the program. -/
import Derived.Test.YtlcapkgbbgpdmaaGreatDoorYQ
import Derived.Test.YtlcapkgbbgpdmaaGreatDoorTO
import Derived.Outline
namespace Go.Proofs.YtlcapkgbbgpdmaaGreatDoor.YT
open Go.RowKit Go.Proofs.YtlcapkgbbgpdmaaGreatDoor.P Go.Proofs.YtlcapkgbbgpdmaaGreatDoor.A Go.Proofs.YtlcapkgbbgpdmaaGreatDoor.Q Go.Proofs.YtlcapkgbbgpdmaaGreatDoor.TK Go.Proofs.YtlcapkgbbgpdmaaGreatDoor.TO Go.Proofs.YtlcapkgbbgpdmaaGreatDoor.TP Go.Proofs.YtlcapkgbbgpdmaaGreatDoor.YC Go.Proofs.YtlcapkgbbgpdmaaGreatDoor.YL Go.Proofs.YtlcapkgbbgpdmaaGreatDoor.YR Go.Proofs.YtlcapkgbbgpdmaaGreatDoor.YW Go.Proofs.YtlcapkgbbgpdmaaGreatDoor.YN Go.Proofs.YtlcapkgbbgpdmaaGreatDoor.YS Go.Proofs.YtlcapkgbbgpdmaaGreatDoor.YX Go.Proofs.YtlcapkgbbgpdmaaGreatDoor.YB Go.Proofs.YtlcapkgbbgpdmaaGreatDoor.YG Go.Proofs.YtlcapkgbbgpdmaaGreatDoor.YQ
set_option linter.unusedVariables false
set_option maxRecDepth 100000

/-- What comes of a source: its tokens, or a place and an error. -/
def TokPost (w : World) (L : List Tok × Nat × Nat) (x : Ending) (w' : World) : Prop :=
  ∃ v, x = .returned (.tuple #[v, .int .i64 (L.2.1 : Int), .int .i64 (L.2.2 : Int)]) ∧ HasT w' v L.1 ∧ Below w.heap.size w w'

theorem infoT : (Tryz.prog.info? 38).map (fun i => (i.zero, i.size, i.bytes)) = some (some (.agg #[.int .i64 0, .string ByteArray.empty, .int .i64 0, .int .i64 0]), 4, 40) := by kernel_rfl

/-- What the loop keeps: the tokens so far, the reader, what is still to come. -/
abbrev OwnT (w : World) (base : Nat) (v : Value) (ts : List Tok) : Prop := w.ownsRow base 38 4 v ts.length (tvs ts)

theorem own_gr {r : Nat} {w w' : World} {v : Value} {ts : List Tok} (h : OwnT w (r + 1) v ts) (hg : Gr r w w') : OwnT w' (r + 1) v ts := by
  refine h.kept hg ?_
  cases hb : v.ownBlock with
  | none => exact .inl rfl
  | some b =>
    have := (h.lt b hb).1
    exact .inr (fun e => by injection e with e; omega)
theorem own_row {r : Nat} {w : World} {v : Value} {ts : List Tok} (h : OwnT w (r + 1) v ts) : ∀ j, v.ownBlock = some j → r + 1 ≤ j := fun j hj => (h.lt j hj).1
/-- What is kept from round to round: the reader, the table of digits, what was there. -/
structure Mid (r : Nat) (w W : World) (s : ByteArray) (k : Nat) : Prop where
  rd : RD W r s k
  dig : Dig W
  bel : Below r w W
theorem Mid.gr {r : Nat} {w W W' : World} {s : ByteArray} {k j : Nat} (h : Mid r w W s k) (hg : Gr r W W') (hr : RD W' r s j) (hn : 1 ≠ r) : Mid r w W' s j :=
  ⟨hr, Dig.gr h.dig hg hn, h.bel.grown hg (Nat.le_of_lt h.rd.lt) (fun j hj => by cases hj; exact Nat.le_refl _)⟩
theorem Mid.alloc {r : Nat} {w W : World} {s : ByteArray} {k : Nat} (h : Mid r w W s k) (o : Obj) : Mid r w (W.alloc o) s k :=
  ⟨h.rd.below ((Below.refl _ _).alloc (Nat.le_refl _) o), h.dig.below ((Below.refl _ _).alloc (Nat.le_refl _) o), h.bel.alloc (Nat.le_of_lt h.rd.lt) o⟩
theorem Mid.kept {r : Nat} {w W W' : World} {s : ByteArray} {k : Nat} {row : Option Nat} (h : Mid r w W s k) (hg : W.grownBy W' row) (hrow : ∀ j, row = some j → r + 1 ≤ j) (hn : 1 < r) : Mid r w W' s k := by
  have e1 := hg.block r h.rd.lt (fun e => by have := hrow r e.symm; omega)
  have e2 := hg.block _ h.dig.1 (fun e => by have := hrow _ e.symm; omega)
  exact ⟨h.rd.of_block e1, ⟨Nat.lt_of_lt_of_le h.dig.1 hg.size, fun i hi => (World.cell?_of_block (w := W) (a := ⟨1, i, none⟩) e2).trans (h.dig.2 i hi)⟩,
    h.bel.grown hg (Nat.le_of_lt h.rd.lt) (fun j hj => by have := hrow j hj; omega)⟩
theorem cell_four_at (w : World) (a b c d : Value) (t : TypeId) (n : Nat) (hn : w.heap.size = n) : ∀ j u, [a, b, c, d][j]? = some u → (w.alloc (.cells #[a, b, c, d] t)).cell? ((⟨n, 0, none⟩ : Addr).add j) = some u := by
  subst hn; exact cell_four_new w a b c d t
theorem tcell_one (x : Tok) : ∀ u ∈ tcell x, u.oneCell' = true := by
  intro u hu
  simp only [tcell, List.mem_cons, List.not_mem_nil, or_false] at hu
  rcases hu with rfl | rfl | rfl | rfl <;> rfl
theorem tvs_single (x : Tok) : tvs [x] = tcell x := by simp [tvs]
theorem own_snoc1 {w : World} {base g cap : Nat} {a : List Tok} {x : Tok} (h : w.ownsRow base 38 4 (.slice (some ⟨g, 0, none⟩) (a.length + 1) cap) (a.length + 1) (tvs a ++ tcell x)) :
    OwnT w base (.slice (some ⟨g, 0, none⟩) (a.length + 1) cap) (a ++ [x]) := by
  show w.ownsRow base 38 4 (.slice (some ⟨g, 0, none⟩) (a.length + 1) cap) (a ++ [x]).length (tvs (a ++ [x]))
  rw [List.length_append, tvs_append, tvs_single]
  exact h
theorem has_nil (w : World) : HasT w (.slice none 0 0) [] := ⟨none, 0, rfl, ⟨Nat.le_refl _, by decide⟩, .inl rfl⟩

theorem tokens_long (s : ByteArray) (w : World) (hs : 2000 < s.size) (hm : s.size ≤ maxLen) :
    Calls Tryz.prog 40 #[.string s] w fun x w' => x = .returned (.tuple #[.slice none 0 0, .int .i64 0, .int .i64 12]) ∧ w = w' := by
  unfold maxLen at hm
  go_enter Tryz.func40, Tryz.ntmps40
  go_wp2
  go_ret3
  exact ⟨rfl, rfl⟩

set_option maxHeartbeats 1000000 in
theorem tokens_short (s : ByteArray) (w : World) (hs : s.size ≤ 2000) (hd : Dig w) :
    Calls Tryz.prog 40 #[.string s] w (TokPost w (toks s.data.toList)) := by
  obtain ⟨L, hL⟩ : ∃ L, Hid (L = toks s.data.toList) := ⟨_, rfl⟩
  rw [← hL.out]
  have HL : Hid (glue [] (from_ s (0 + ge s 0)) = L) := by show _ = _; rw [hL.out, toks_glue s hs]
  have hgl : 1 < w.heap.size := hd.1
  have hgd : 1 ≠ w.heap.size := by omega
  obtain ⟨i0, hi, hz0, hz1, hz2⟩ := info_parts infoT
  have hR0 : Hid (RD (w.alloc (.cells #[.string s, .int .i64 0] 86)) w.heap.size s 0) := heap_alloc_new w _
  have hD0 : Hid (Dig (w.alloc (.cells #[.string s, .int .i64 0] 86))) := hd.below ((Below.refl _ _).alloc (Nat.le_refl _) _)
  have hB0 : Hid (Below w.heap.size w (w.alloc (.cells #[.string s, .int .i64 0] 86))) := (Below.refl _ _).alloc (Nat.le_refl _) _
  have hz0' : w.heap.size < (w.alloc (.cells #[.string s, .int .i64 0] 86)).heap.size := by simp
  have hlong : decide (2000 < (s.size : Int)) = false := by simp; omega
  clear hL hd
  go_enter Tryz.func40, Tryz.ntmps40
  go_wp2_with fail
  generalize w.alloc _ = w1 at hR0 hD0 hB0 hz0' ⊢
  refine (gap_any w1 w.heap.size s 0 hR0.out (by omega) (Nat.zero_le _)).mono ?_
  rintro x w2 ⟨rfl, hr2, hg2⟩
  have hk0 := @ge_end s 0 (Nat.zero_le _)
  have hi0 := Lib.hid (ge_idem s 0)
  generalize 0 + ge s 0 = k0 at hr2 hk0 HL hi0 ⊢
  go_wp2
  have HM2 : Hid (Mid w.heap.size w w2 s k0) := (Mid.mk hR0.out hD0.out hB0.out).gr hg2 hr2 hgd
  clear hR0 hD0 hB0 hz0' hr2 hg2 hlong
  generalize hrr : w.heap.size = r at *
  have HRR := Lib.hid hrr
  clear hrr
  go_loopg [6] (s.size - k0) (fun g v wx => ∃ (k : Nat) (ts : List Tok), k + g = s.size ∧ Hid (ge s k = 0) ∧ Hid (glue ts (from_ s k) = L) ∧ ts.length ≤ k ∧ Hid (Mid r w wx s k) ∧ Hid (OwnT wx (r + 1) v ts))
  case atStart => exact ⟨k0, [], by omega, hi0, HL, Nat.zero_le _, HM2, World.ownsRow_nil _ _ _ _⟩
  case round =>
    obtain ⟨k, ts, hk, HG, HL', htl, HM, HO⟩ := hrel
    clear HL hi0 HM2
    have c0 := HM.out.rd.c0
    have c1 := HM.out.rd.c1
    have hrl := HM.out.rd.lt
    by_cases hlt : k < s.size
    · cases gk with
      | zero => omega
      | succ g =>
        obtain ⟨F, hF, hbeg, hread⟩ := read_any s k r hlt (by omega) hgd
        have hread1 := hread wr HM.out.rd HM.out.dig
        obtain ⟨q, hq⟩ : ∃ q, tk (s.data.toList.drop k) = q := ⟨_, rfl⟩
        have hstep := @glue_tok s k ts hlt HG.out
        have herr := @glue_err s k ts hlt HG.out
        have hlen := @tk_len (s.data.toList.drop k)
        rw [hq] at hread1 hstep herr hlen
        have hll : (s.data.toList.drop k).length = s.size - k := by simp
        rw [hll] at hlen
        obtain ⟨⟨qk, qt, qn⟩, ql, qe⟩ := q
        simp only at hstep herr hlen
        clear hread hq hll
        by_cases he : qe = 0
        · subst he
          have HS := Lib.hid ((hstep rfl).symm.trans HL'.out)
          obtain ⟨l1, l2, _⟩ := hlen rfl
          have HI := Lib.hid (ge_idem s (k + ql))
          have hE := @ge_end s (k + ql) (by omega)
          clear hstep herr hlen HL'
          rcases hF with rfl | rfl | rfl | rfl | rfl | rfl
          all_goals
            go_wp2_with (first
              | (go_at_call 62; refine (hbeg _).mono ?_; rintro x w3 ⟨rfl, rfl⟩) | (go_at_call 88; refine hread1.mono ?_; rintro x w4 ⟨K, t, n, j, rfl, hr4, hg4, hok⟩; obtain ⟨rfl, rfl, rfl, rfl⟩ := hok rfl; have HM4 := Lib.hid (HM.out.gr hg4 hr4 hgd); have HO4 := Lib.hid (own_gr HO.out hg4); clear hok hr4 hg4) | (go_at_call 89; refine hread1.mono ?_; rintro x w4 ⟨K, t, n, j, rfl, hr4, hg4, hok⟩; obtain ⟨rfl, rfl, rfl, rfl⟩ := hok rfl; have HM4 := Lib.hid (HM.out.gr hg4 hr4 hgd); have HO4 := Lib.hid (own_gr HO.out hg4); clear hok hr4 hg4) | (go_at_call 91; refine hread1.mono ?_; rintro x w4 ⟨K, t, n, j, rfl, hr4, hg4, hok⟩; obtain ⟨rfl, rfl, rfl, rfl⟩ := hok rfl; have HM4 := Lib.hid (HM.out.gr hg4 hr4 hgd); have HO4 := Lib.hid (own_gr HO.out hg4); clear hok hr4 hg4) | (go_at_call 93; refine hread1.mono ?_; rintro x w4 ⟨K, t, n, j, rfl, hr4, hg4, hok⟩; obtain ⟨rfl, rfl, rfl, rfl⟩ := hok rfl; have HM4 := Lib.hid (HM.out.gr hg4 hr4 hgd); have HO4 := Lib.hid (own_gr HO.out hg4); clear hok hr4 hg4) | (go_at_call 95; refine hread1.mono ?_; rintro x w4 ⟨K, t, n, j, rfl, hr4, hg4, hok⟩; obtain ⟨rfl, rfl, rfl, rfl⟩ := hok rfl; have HM4 := Lib.hid (HM.out.gr hg4 hr4 hgd); have HO4 := Lib.hid (own_gr HO.out hg4); clear hok hr4 hg4) | (go_at_call 96; refine hread1.mono ?_; rintro x w4 ⟨K, t, n, j, rfl, hr4, hg4, hok⟩; obtain ⟨rfl, rfl, rfl, rfl⟩ := hok rfl; have HM4 := Lib.hid (HM.out.gr hg4 hr4 hgd); have HO4 := Lib.hid (own_gr HO.out hg4); clear hok hr4 hg4)
              | (at_builtin; go_loud (refine wpList_append_lies _ rfl (.tmp 40) (.tmp 42) 34 rfl (r + 1) 38 i0 (.agg #[.int .i64 0, .string ByteArray.empty, .int .i64 0, .int .i64 0]) 4 40 Tryz.underlying34 hi hz0 hz1 hz2 rfl (by decide) u6 ts.length (tvs ts) rfl ((HO4.out.alloc _).alloc _) ⟨w4.heap.size + 1, 0, none⟩ 1 1 (tcell ⟨K, t, n, k⟩) rfl rfl (cell_four_at _ _ _ _ _ _ _ (by simp)) (tcell_one _) (by decide) (by unfold maxLen; omega) (by omega) (by have := HM4.out.rd.lt; simp; omega) _ rfl ?_); intro g1 cap1 w5 hown5 hg5 hat5 hlt5; have HM5 := Lib.hid (((HM4.out.alloc _).alloc _).kept hg5 (own_row HO4.out) hgl); have HO5 := Lib.hid (own_snoc1 hown5); clear hown5 hg5 hat5 hlt5)
              | (go_at_call 61; refine (gap_any _ r s (k + ql) HM5.out.rd (by omega) (by omega)).mono ?_; rintro x w6 ⟨rfl, hr6, hg6⟩; have HM6 := Lib.hid (HM5.out.gr hg6 hr6 hgd); have HO6 := Lib.hid (own_gr HO5.out hg6); clear hr6 hg6))
            go_roundg (s.size - (k + ql + ge s (k + ql)))
            case rel => exact ⟨k + ql + ge s (k + ql), ts ++ [⟨K, t, n, k⟩], by omega, HI, HS, by simp; omega, HM6, HO6⟩
            case measure => omega
        · have HE := Lib.hid ((herr he).symm.trans HL'.out)
          have he' : ((qe : Int) == 0) = false := by rw [beq_eq_false_iff_ne]; omega
          have he2 : ((qe : Int) != 0) = true := by rw [bne, he']; rfl
          clear hstep herr hlen HL' he
          rcases hF with rfl | rfl | rfl | rfl | rfl | rfl
          all_goals
            go_wp2_with (first | (go_at_call 62; refine (hbeg _).mono ?_; rintro x w3 ⟨rfl, rfl⟩) | (go_at_call 88; refine hread1.mono ?_; rintro x w4 ⟨K, t, n, j, rfl, hr4, hg4, hok⟩; have HM4 := Lib.hid (HM.out.gr hg4 hr4 hgd); clear hok hr4 hg4) | (go_at_call 89; refine hread1.mono ?_; rintro x w4 ⟨K, t, n, j, rfl, hr4, hg4, hok⟩; have HM4 := Lib.hid (HM.out.gr hg4 hr4 hgd); clear hok hr4 hg4) | (go_at_call 91; refine hread1.mono ?_; rintro x w4 ⟨K, t, n, j, rfl, hr4, hg4, hok⟩; have HM4 := Lib.hid (HM.out.gr hg4 hr4 hgd); clear hok hr4 hg4) | (go_at_call 93; refine hread1.mono ?_; rintro x w4 ⟨K, t, n, j, rfl, hr4, hg4, hok⟩; have HM4 := Lib.hid (HM.out.gr hg4 hr4 hgd); clear hok hr4 hg4) | (go_at_call 95; refine hread1.mono ?_; rintro x w4 ⟨K, t, n, j, rfl, hr4, hg4, hok⟩; have HM4 := Lib.hid (HM.out.gr hg4 hr4 hgd); clear hok hr4 hg4) | (go_at_call 96; refine hread1.mono ?_; rintro x w4 ⟨K, t, n, j, rfl, hr4, hg4, hok⟩; have HM4 := Lib.hid (HM.out.gr hg4 hr4 hgd); clear hok hr4 hg4))
            go_ret3
            refine ⟨.slice none 0 0, ?_, ?_, by rw [HRR.out]; exact (HM4.out.alloc _).bel⟩
            · rw [← HE.out]; rfl
            · rw [← HE.out]; exact has_nil _
    · have hks : k = s.size := by omega
      have HE := Lib.hid ((glue_end (ts := ts) hks).symm.trans HL'.out)
      clear HL'
      go_wp2_with (first | (at_builtin; go_loud (refine wpList_append_lies _ rfl (.tmp 44) (.tmp 48) 34 rfl (r + 1) 38 i0 (.agg #[.int .i64 0, .string ByteArray.empty, .int .i64 0, .int .i64 0]) 4 40 Tryz.underlying34 hi hz0 hz1 hz2 rfl (by decide) u6 ts.length (tvs ts) rfl (HO.out.alloc _) ⟨wr.heap.size, 0, none⟩ 1 1 (tcell ⟨0, [], 0, s.size⟩) rfl rfl (cell_four_at _ _ _ _ _ _ _ rfl) (tcell_one _) (by decide) (by unfold maxLen; omega) (by omega) (by have := HM.out.rd.lt; simp; omega) _ rfl ?_); intro g1 cap1 w5 hown5 hg5 hat5 hlt5; have HM5 := Lib.hid ((HM.out.alloc _).kept hg5 (own_row HO.out) hgl); have HO5 := Lib.hid (own_snoc1 (x := ⟨0, [], 0, s.size⟩) hown5); clear hown5 hg5 hat5 hlt5))
      go_ret3
      refine ⟨.slice (some ⟨g1, 0, none⟩) (ts.length + 1) cap1, ?_, ?_, by rw [HRR.out]; exact HM5.out.bel⟩
      · rw [← HE.out]; rfl
      · rw [← HE.out]; exact own_hasT HO5.out
end Go.Proofs.YtlcapkgbbgpdmaaGreatDoor.YT
