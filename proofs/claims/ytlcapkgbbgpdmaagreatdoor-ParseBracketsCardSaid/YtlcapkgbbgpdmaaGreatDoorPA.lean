/- The parser's small parts: the next token, taking it, a fault; words. -/
import Derived.Test.YtlcapkgbbgpdmaaGreatDoorPS
import Derived.OneCell
import Derived.OwnWalk
import Derived.StillTailTactics
import Derived.Deep.RegionHeld3
import Derived.Defers
import Derived.Outline
import Derived.IntWalk
namespace Go.Proofs.YtlcapkgbbgpdmaaGreatDoor.PA
open Go.RowKit Go.Proofs.YtlcapkgbbgpdmaaGreatDoor.P Go.Proofs.YtlcapkgbbgpdmaaGreatDoor.A Go.Proofs.YtlcapkgbbgpdmaaGreatDoor.TK Go.Proofs.YtlcapkgbbgpdmaaGreatDoor.TO Go.Proofs.YtlcapkgbbgpdmaaGreatDoor.GR Go.Proofs.YtlcapkgbbgpdmaaGreatDoor.MP Go.Proofs.YtlcapkgbbgpdmaaGreatDoor.YR Go.Proofs.YtlcapkgbbgpdmaaGreatDoor.PN Go.Proofs.YtlcapkgbbgpdmaaGreatDoor.PS
set_option linter.unusedVariables false
set_option maxRecDepth 100000

/-- The parser's pointer. -/
abbrev pp (E : En) : Value := .pointer (some ⟨E.r, 0, none⟩)

theorem tf0 (a b c d : Value) (w : World) : (Instr.field 38 (.agg #[a, b, c, d]) 0).run Tryz.prog w = .ok a w := by kernel_rfl
theorem tf1 (a b c d : Value) (w : World) : (Instr.field 38 (.agg #[a, b, c, d]) 1).run Tryz.prog w = .ok b w := by kernel_rfl
theorem tf3 (a b c d : Value) (w : World) : (Instr.field 38 (.agg #[a, b, c, d]) 3).run Tryz.prog w = .ok d w := by kernel_rfl
theorem token_any (w : World) (E : En) (s : St) (d : Nat) (j : Bool) (h : PS w E s d j) :
    Calls Tryz.prog 76 #[pp E] w fun x w' => x = .returned (.agg #[.int .i64 ((hd s.ts).k : Int), .string ⟨(hd s.ts).t.toArray⟩, .int .i64 ((hd s.ts).n : Int), .int .i64 ((hd s.ts).p : Int)]) ∧ Below w.heap.size w w' := by
  obtain ⟨off, cap, hb, hc, hc2, hp, t0, t1, t2, t3⟩ := h.cells
  have l1 := h.lt.1
  have l2 := h.lt.2.1
  have c0 := pc0 hb
  have a1 : (0 : Int) < (s.ts.length : Int) := by omega
  have hz : ∀ o, E.tb < (w.alloc o).heap.size := fun o => by simp; omega
  have hne : w.heap.size ≠ E.tb := by omega
  have hne1 : w.heap.size ≠ E.r := by omega
  clear h hb hc hc2
  go_enter Tryz.func76, Tryz.ntmps76
  go_wp2
  refine bodyPost_ret (v := .agg #[.int .i64 ((hd s.ts).k : Int), .string ⟨(hd s.ts).t.toArray⟩, .int .i64 ((hd s.ts).n : Int), .int .i64 ((hd s.ts).p : Int)]) (by simp [results, Tryz.results76, go_sem]) rfl ⟨rfl, (Below.refl _ _).alloc (Nat.le_refl _) _⟩

theorem take_any (w : World) (E : En) (s : St) (d : Nat) (j : Bool) (h : PS w E s d j) (hk : s.k ≠ 0) :
    Calls Tryz.prog 103 #[pp E] w fun x w' => x = .returned (.agg #[.int .i64 ((hd s.ts).k : Int), .string ⟨(hd s.ts).t.toArray⟩, .int .i64 ((hd s.ts).n : Int), .int .i64 ((hd s.ts).p : Int)]) ∧ Out w E s.take d j w' := by
  have h2 := h.ok.two hk
  have hE := Lib.hid (h.ok.tail hk)
  have L0 := Lib.hid (Lc.start h)
  have hw0 := Lib.hid (Bk.new w #[.int .i64 0, .string ⟨#[]⟩, .int .i64 0, .int .i64 0] 38)
  have er0 := h.lt.1
  clear h hk
  go_enter Tryz.func103, Tryz.ntmps103
  go_wp2_with fail
  refine (token_any _ E s d j (L0.out.alloc _).ps).mono ?_
  rintro x w1 ⟨rfl, hb1⟩
  have L1 := Lib.hid ((L0.out.alloc _).below hb1)
  have B1 := Lib.hid (show Bk w1 w.heap.size _ _ from (hb1.block _ hw0.out.lt).trans hw0.out)
  obtain ⟨off, cap, hbk, hc, hc2, hp, hr⟩ := L1.out.ps.cells
  have HB := Lib.hid hbk
  have c0 := pc0 hbk
  have f0 := hbk.free 0
  have hz : w.heap.size < w1.heap.size := B1.out.lt
  have n1 : w1.heap.size ≠ E.r := by omega
  have n2 : w.heap.size ≠ E.r := by omega
  have n3 : w1.heap.size ≠ w.heap.size := by omega
  obtain ⟨g0, g1, g2, g3⟩ := B1.out.c4
  obtain ⟨k0, k1, k2, k3⟩ := B1.out.f4
  have hn : decide ((cap : Int) = 1) = false := by simp; omega
  have lr := L1.out.ps.lt.1
  clear hb1 hbk hr
  go_wp2
  refine bodyPost_ret (v := .agg #[.int .i64 ((hd s.ts).k : Int), .string ⟨(hd s.ts).t.toArray⟩, .int .i64 ((hd s.ts).n : Int), .int .i64 ((hd s.ts).p : Int)]) (by simp [results, Tryz.results103, go_sem, hz, g0, g1, g2, g3]) rfl ⟨rfl, ?_⟩
  clear c0 f0 g0 g1 g2 g3 k0 k1 k2 k3
  refine Lc.out (Lc.alloc (Lc.put4 (Lc.turn L1.out HB.out 0 _ ?_ ?_ ?_ hE.out ?_) (Nat.le_refl _) _ _ _ _) _)
  · have e : s.ts.length - s.take.ts.length = 1 := by simp [St.take]; omega
    rw [e]
    simp [pcells, St.take]
  · have e : s.ts.length - s.take.ts.length = 1 := by simp [St.take]; omega
    rw [e]; simp [St.take]
  · simp [St.take]
  · exact L1.out.ps.deep
/-- No node's value. -/
abbrev zv : Value := .agg #[.int .i64 0, .string ⟨#[]⟩, .int .i64 0, .int .i64 0, .slice none 0 0, .slice none 0 0]
theorem begin_any (w : World) (E : En) (s : St) (d : Nat) (j : Bool) (h : PS w E s d j) (k : Nat) :
    Calls Tryz.prog 70 #[pp E, .int .i64 (k : Int)] w fun x w' => x = .returned (.agg #[.int .i64 (k : Int), .string ⟨#[]⟩, .int .i64 0, .int .i64 (s.pl : Int), .slice none 0 0, .slice none 0 0]) ∧ Below w.heap.size w w' := by
  have L0 := Lib.hid (Lc.start h)
  have hw0 := Lib.hid (Bk.new w #[.int .i64 0, .string ⟨#[]⟩, .int .i64 0, .int .i64 0, .slice none 0 0, .slice none 0 0] 25)
  have hf3 := tf3
  clear h
  go_enter Tryz.func70, Tryz.ntmps70
  go_wp2_with fail
  refine (token_any _ E s d j (L0.out.alloc _).ps).mono ?_
  rintro x w1 ⟨rfl, hb1⟩
  have HB := Lib.hid hb1
  have B1 := Lib.hid (show Bk w1 w.heap.size _ _ from (hb1.block _ hw0.out.lt).trans hw0.out)
  have hz : w.heap.size < w1.heap.size := B1.out.lt
  obtain ⟨g0, g1, g2, g3, g4, g5⟩ := B1.out.c6
  obtain ⟨k0, k1, k2, k3, k4, k5⟩ := B1.out.f6
  clear hb1
  go_wp2
  refine bodyPost_ret (v := .agg #[.int .i64 (k : Int), .string ⟨#[]⟩, .int .i64 0, .int .i64 (s.pl : Int), .slice none 0 0, .slice none 0 0]) (by simp [results, Tryz.results70, go_sem, g0, g1, g2, g3, g4, g5]; rfl) rfl ⟨rfl, ?_⟩
  exact ((((((((Below.refl _ _).alloc (Nat.le_refl _) _).trans (HB.out.mono (by simp))).setCell (Nat.le_refl _) _).setCell (Nat.le_refl _) _).setCell (Nat.le_refl _) _).setCell (Nat.le_refl _) _).setCell (Nat.le_refl _) _).setCell (Nat.le_refl _) _

theorem fail_yes (w : World) (E : En) (s : St) (d : Nat) (j : Bool) (h : PS w E s d j) (e : Nat) (he : s.e = 0) :
    Calls Tryz.prog 72 #[pp E, .int .i64 (e : Int)] w fun x w' => x = .returned zv ∧ Out w E (s.fail e) d j w' := by
  have L0 := Lib.hid (Lc.start h)
  have hw0 := Lib.hid (Bk.new w #[.int .i64 0, .string ⟨#[]⟩, .int .i64 0, .int .i64 0, .slice none 0 0, .slice none 0 0] 25)
  have lr := h.lt.1
  obtain ⟨off0, cap0, hb0, _⟩ := h.cells
  have c5 := pc5 hb0
  have f5 := hb0.free 5
  have hE := Lib.hid h.ok.last
  have hn0 : w.heap.size ≠ E.r := by omega
  rw [he] at c5
  have HE := Lib.hid he
  have hf3 := tf3
  clear h hb0 he
  go_enter Tryz.func72, Tryz.ntmps72
  go_wp2_with fail
  clear c5 f5
  refine (token_any _ E s d j (L0.out.alloc _).ps).mono ?_
  rintro x w1 ⟨rfl, hb1⟩
  have L1 := Lib.hid ((L0.out.alloc _).below hb1)
  have B1 := Lib.hid (show Bk w1 w.heap.size _ _ from (hb1.block _ hw0.out.lt).trans hw0.out)
  obtain ⟨off, cap, hbk, hc, hc2, hp, hr⟩ := L1.out.ps.cells
  have HB := Lib.hid hbk
  have c0 := pc0 hbk
  have c5 := pc5 hbk
  have c6 := pc6 hbk
  have f0 := hbk.free 0
  have f5 := hbk.free 5
  have f6 := hbk.free 6
  have lr1 := L1.out.ps.lt.1
  have hz : w.heap.size < w1.heap.size := B1.out.lt
  obtain ⟨g0, g1, g2, g3, g4, g5⟩ := B1.out.c6
  obtain ⟨k0, k1, k2, k3, k4, k5⟩ := B1.out.f6
  have a1 : (0 : Int) ≤ (s.ts.length : Int) - 1 := by omega
  have a1' : (1 : Int) ≤ (s.ts.length : Int) := by omega
  have a2 : (s.ts.length : Int) - 1 ≤ (s.ts.length : Int) := by omega
  have a3 : ((s.ts.length : Int) - 1).toNat = s.ts.length - 1 := by omega
  have L1' : Lc w E ⟨s.ts, e, s.p⟩ d j _ := Lc.turn L1.out hbk 5 (.int .i64 (e : Int)) (by simp [pcells]) (by simp) (Nat.le_refl _) L1.out.ps.ok L1.out.ps.deep
  have L2 := Lib.hid (show Lc w E ⟨s.ts, e, (hd s.ts).p⟩ d j _ from Lc.turn L1' (off := off) (cap := cap) (hbk.set 5 (.int .i64 (e : Int))) 6 (.int .i64 ((hd s.ts).p : Int)) (by simp [pcells]) (by simp) (Nat.le_refl _) L1.out.ps.ok L1.out.ps.deep)
  have B2 := Lib.hid ((B1.out.other (b' := E.r) hn0 5 (.int .i64 (e : Int))).other (b' := E.r) hn0 6 (.int .i64 ((hd s.ts).p : Int)))
  have H2 := Lib.hid (show Bk _ E.r (pcells E ⟨s.ts, e, (hd s.ts).p⟩ d j off cap) _ from (hbk.set 5 (.int .i64 (e : Int))).set 6 (.int .i64 ((hd s.ts).p : Int)))
  clear hb1 hbk hr L1'
  go_wp2
  generalize (w1.setCell ⟨E.r, 5, none⟩ _).setCell ⟨E.r, 6, none⟩ _ = w2 at L2 B2 H2 ⊢
  clear c0 c5 c6 f0 f5 f6 g0 g1 g2 g3 g4 g5 k0 k1 k2 k3 k4 k5
  have c0 := pc0 H2.out
  have hwr : IntKind.i64.wrap ((s.ts.length : Int) - 1) = (s.ts.length : Int) - 1 := IntWalk.i64_in _ (by omega)
  go_still_tail 14, (by kernel_rfl)
  change wpList _ _ _ _ _ w2.drew
  have L3 : Hid (Lc w E ⟨s.ts, e, (hd s.ts).p⟩ d j w2.drew) := L2.out.drew
  have B3 : Hid (Bk w2.drew w.heap.size _ _) := B2.out.drew
  have H3 : Hid (Bk w2.drew E.r _ _) := H2.out.drew
  clear L2 B2 H2 c0
  generalize w2.drew = w3 at L3 B3 H3 ⊢
  have c0 := pc0 H3.out
  have f0 := H3.out.free 0
  obtain ⟨g0, g1, g2, g3, g4, g5⟩ := B3.out.c6
  obtain ⟨k0, k1, k2, k3, k4, k5⟩ := B3.out.f6
  go_wp2
  refine bodyPost_ret (v := zv) (by simp [results, Tryz.results72, go_sem, g0, g1, g2, g3, g4, g5]) rfl ⟨rfl, ?_⟩
  have hf : s.fail e = ⟨s.ts.drop (s.ts.length - 1), e, (hd s.ts).p⟩ := if_pos HE.out
  have hl := hE.out.2
  have e1 : s.ts.length - (s.ts.drop (s.ts.length - 1)).length = s.ts.length - 1 := by rw [hl]
  rw [hf]
  refine Lc.out (Lc.put6 (Lc.turn L3.out H3.out 0 _ ?_ ?_ ?_ hE.out.1 L3.out.ps.deep) (Nat.le_refl _) _ _ _ _ _ _)
  · simp only [e1]
    simp [pcells, Nat.mul_comm]
  · simp only [e1]
  · rw [hl]; exact hp
theorem fail_no (w : World) (E : En) (s : St) (d : Nat) (j : Bool) (h : PS w E s d j) (e : Nat) (he : s.e ≠ 0) :
    Calls Tryz.prog 72 #[pp E, .int .i64 (e : Int)] w fun x w' => x = .returned zv ∧ Out w E (s.fail e) d j w' := by
  have L0 := Lib.hid (Lc.start h)
  have lr := h.lt.1
  obtain ⟨off0, cap0, hb0, _⟩ := h.cells
  have c5 := pc5 hb0
  have hn0 : w.heap.size ≠ E.r := by omega
  have hx : ((s.e : Int) == 0) = false := by rw [beq_eq_false_iff_ne]; omega
  have HE := Lib.hid he
  clear h hb0 he
  go_enter Tryz.func72, Tryz.ntmps72
  go_wp2
  refine bodyPost_ret (v := zv) (by simp [results, Tryz.results72, go_sem]) rfl ⟨rfl, ?_⟩
  rw [show s.fail e = s from if_neg HE.out]
  exact (L0.out.alloc _).out
theorem fail_any (w : World) (E : En) (s : St) (d : Nat) (j : Bool) (h : PS w E s d j) (e : Nat) :
    Calls Tryz.prog 72 #[pp E, .int .i64 (e : Int)] w fun x w' => x = .returned zv ∧ Out w E (s.fail e) d j w' := by
  by_cases he : s.e = 0
  · exact fail_yes w E s d j h e he
  · exact fail_no w E s d j h e he

-- words
theorem word_key (w : World) (E : En) (s : St) (d : Nat) (j : Bool) (h : PS w E s d j) (hk : s.k = 6) :
    Calls Tryz.prog 107 #[pp E] w fun x w' => x = .returned (.string ⟨s.word.toArray⟩) ∧ Below w.heap.size w w' := by
  have hw : s.word = (hd s.ts).t := if_pos (.inl hk)
  have hx : (((hd s.ts).k : Int) == 6) = true := by rw [beq_iff_eq]; have : (hd s.ts).k = 6 := hk; omega
  rw [hw]
  clear hw hk
  go_enter Tryz.func107, Tryz.ntmps107
  go_wp2_with fail
  refine (token_any _ E s d j h).mono ?_
  rintro x w1 ⟨rfl, hb1⟩
  have HB := Lib.hid hb1
  clear hb1 h
  go_wp2
  go_ret
  exact ⟨rfl, HB.out.alloc HB.out.size _⟩
theorem word_sign (w : World) (E : En) (s : St) (d : Nat) (j : Bool) (h : PS w E s d j) (hk : s.k = 5) :
    Calls Tryz.prog 107 #[pp E] w fun x w' => x = .returned (.string ⟨s.word.toArray⟩) ∧ Below w.heap.size w w' := by
  have hw : s.word = (hd s.ts).t := if_pos (.inr hk)
  have hx : (((hd s.ts).k : Int) == 6) = false := by rw [beq_eq_false_iff_ne]; have : (hd s.ts).k = 5 := hk; omega
  have hy : (((hd s.ts).k : Int) == 5) = true := by rw [beq_iff_eq]; have : (hd s.ts).k = 5 := hk; omega
  rw [hw]
  clear hw hk
  go_enter Tryz.func107, Tryz.ntmps107
  go_wp2_with fail
  refine (token_any _ E s d j h).mono ?_
  rintro x w1 ⟨rfl, hb1⟩
  have HB := Lib.hid hb1
  clear hb1 h
  go_wp2
  go_ret
  exact ⟨rfl, HB.out.alloc HB.out.size _⟩
theorem word_none (w : World) (E : En) (s : St) (d : Nat) (j : Bool) (h : PS w E s d j) (h6 : s.k ≠ 6) (h5 : s.k ≠ 5) :
    Calls Tryz.prog 107 #[pp E] w fun x w' => x = .returned (.string ⟨s.word.toArray⟩) ∧ Below w.heap.size w w' := by
  have hw : s.word = [] := if_neg (by omega)
  have hx : (((hd s.ts).k : Int) == 6) = false := by rw [beq_eq_false_iff_ne]; have : (hd s.ts).k ≠ 6 := h6; omega
  have hy : (((hd s.ts).k : Int) == 5) = false := by rw [beq_eq_false_iff_ne]; have : (hd s.ts).k ≠ 5 := h5; omega
  rw [hw]
  clear hw h6 h5
  go_enter Tryz.func107, Tryz.ntmps107
  go_wp2_with fail
  refine (token_any _ E s d j h).mono ?_
  rintro x w1 ⟨rfl, hb1⟩
  have HB := Lib.hid hb1
  clear hb1 h
  go_wp2
  go_ret
  exact ⟨rfl, HB.out.alloc HB.out.size _⟩
theorem word_any (w : World) (E : En) (s : St) (d : Nat) (j : Bool) (h : PS w E s d j) :
    Calls Tryz.prog 107 #[pp E] w fun x w' => x = .returned (.string ⟨s.word.toArray⟩) ∧ Below w.heap.size w w' := by
  by_cases h6 : s.k = 6
  · exact word_key w E s d j h h6
  · by_cases h5 : s.k = 5
    · exact word_sign w E s d j h h5
    · exact word_none w E s d j h h6 h5

end Go.Proofs.YtlcapkgbbgpdmaaGreatDoor.PA
