/- the parser, walked: leaves to constructors: several texts in one. -/
import Derived.Test.YtlcapkgbbgpdmaaGreatDoorPD
import Derived.Deep.DrawnRows
import Derived.Deep.RegionLaw
import Derived.Deep.AppendLies
import Derived.Recover
import Derived.Deep.LoopGhost

/- A token as a node. -/
namespace Go.Proofs.YtlcapkgbbgpdmaaGreatDoor.PE
open Go.RowKit Go.Proofs.YtlcapkgbbgpdmaaGreatDoor.P Go.Proofs.YtlcapkgbbgpdmaaGreatDoor.A Go.Proofs.YtlcapkgbbgpdmaaGreatDoor.TK Go.Proofs.YtlcapkgbbgpdmaaGreatDoor.TO Go.Proofs.YtlcapkgbbgpdmaaGreatDoor.GR Go.Proofs.YtlcapkgbbgpdmaaGreatDoor.MP Go.Proofs.YtlcapkgbbgpdmaaGreatDoor.YR Go.Proofs.YtlcapkgbbgpdmaaGreatDoor.PN Go.Proofs.YtlcapkgbbgpdmaaGreatDoor.PS Go.Proofs.YtlcapkgbbgpdmaaGreatDoor.PA Go.Proofs.YtlcapkgbbgpdmaaGreatDoor.PB Go.Proofs.YtlcapkgbbgpdmaaGreatDoor.PC Go.Proofs.YtlcapkgbbgpdmaaGreatDoor.PD
set_option linter.unusedVariables false
set_option maxRecDepth 100000

def LfOut (w : World) (E : En) (s : St) (d : Nat) (j : Bool) (x : Ending) (w' : World) : Prop :=
  x = .returned (.agg #[.int .i64 (leafKind s.k : Int), .string ⟨(hd s.ts).t.toArray⟩, .int .i64 ((hd s.ts).n : Int), .int .i64 (s.pl : Int), .slice none 0 0, .slice none 0 0]) ∧ Out w E s.take d j w'
theorem leaf_ex (w : World) (E : En) (s : St) (d : Nat) (j : Bool) (h : PS w E s d j) (hk : s.k ≠ 0) :
    Calls Tryz.prog 163 #[pp E] w (LfOut w E s d j) := by
  have L0 := Lib.hid (Lc.start h)
  have hw0 := Lib.hid (Bk.new w #[.int .i64 0, .string ⟨#[]⟩, .int .i64 0, .int .i64 0, .slice none 0 0, .slice none 0 0] 25)
  have er0 := h.lt.1
  have HK := Lib.hid hk
  clear h hk
  go_enter Tryz.func163, Tryz.ntmps163
  go_wp2_with fail
  refine (take_any _ E s d j (L0.out.alloc _).ps HK.out).mono ?_
  rintro x w1 ⟨rfl, ho⟩
  have L1 := Lib.hid ((L0.out.alloc _).call ho)
  have B1 := Lib.hid (hw0.out.gr ho.gr (by omega))
  have hz : w.heap.size < w1.heap.size := B1.out.lt
  have L2 := Lib.hid (L1.out.alloc (.cells #[.int .i64 ((hd s.ts).k : Int), .string ⟨(hd s.ts).t.toArray⟩, .int .i64 ((hd s.ts).n : Int), .int .i64 ((hd s.ts).p : Int)] 38))
  have B2 := Lib.hid (B1.out.alloc (.cells #[.int .i64 ((hd s.ts).k : Int), .string ⟨(hd s.ts).t.toArray⟩, .int .i64 ((hd s.ts).n : Int), .int .i64 ((hd s.ts).p : Int)] 38))
  have T2 := Lib.hid (Bk.new w1 #[.int .i64 ((hd s.ts).k : Int), .string ⟨(hd s.ts).t.toArray⟩, .int .i64 ((hd s.ts).n : Int), .int .i64 ((hd s.ts).p : Int)] 38)
  clear ho L1 B1
  go_wp2
  generalize w1.alloc _ = w2 at L2 B2 T2 ⊢
  generalize hg : w1.heap.size = g at T2 hz ⊢
  clear hg
  have D2 := Lib.hid (show Bk w2.drew g _ _ from T2.out)
  obtain ⟨t0, t1, t2, t3⟩ := D2.out.c4
  have HL := fun W => leafKind_any W (hd s.ts).k ⟨(hd s.ts).t.toArray⟩ ((hd s.ts).n : Int) ((hd s.ts).p : Int)
  go_region_held3 (fun w' => w'.cell? ⟨g, 0, none⟩ = some (.int .i64 ((hd s.ts).k : Int)) ∧ w'.cell? ⟨g, 1, none⟩ = some (.string ⟨(hd s.ts).t.toArray⟩) ∧ w'.cell? ⟨g, 2, none⟩ = some (.int .i64 ((hd s.ts).n : Int)) ∧ w'.cell? ⟨g, 3, none⟩ = some (.int .i64 ((hd s.ts).p : Int)))
    (first | with_reducible exact ⟨t0, t1, t2, t3⟩ | with_reducible exact ⟨u0, u1, u2, u3⟩ | (have T4 := T3.out.put6o (b' := w.heap.size) (Nat.ne_of_gt hz); exact ⟨(T4 _ _ _ _ _ _).cell 0 _ rfl, (T4 _ _ _ _ _ _).cell 1 _ rfl, (T4 _ _ _ _ _ _).cell 2 _ rfl, (T4 _ _ _ _ _ _).cell 3 _ rfl⟩))
    (first | (go_at_call 164; refine (HL w2.drew).mono ?_; rintro x w3 ⟨rfl, hb3⟩; have L3 := Lib.hid (L2.out.drew.below hb3); have B3 := Lib.hid (show Bk w3 w.heap.size _ _ from (hb3.block _ B2.out.lt).trans B2.out); have T3 := Lib.hid (show Bk w3 g _ _ from (hb3.block _ T2.out.lt).trans T2.out); obtain ⟨u0, u1, u2, u3⟩ := T3.out.c4; obtain ⟨g0, g1, g2, g3, g4, g5⟩ := B3.out.c6; obtain ⟨k0, k1, k2, k3, k4, k5⟩ := B3.out.f6))
  go_wp2
  refine bodyPost_ret (v := .agg #[.int .i64 (leafKind s.k : Int), .string ⟨(hd s.ts).t.toArray⟩, .int .i64 ((hd s.ts).n : Int), .int .i64 ((hd s.ts).p : Int), .slice none 0 0, .slice none 0 0]) (by simp [results, Tryz.results163, go_sem, g0, g1, g2, g3, g4, g5, St.k]) rfl ?_
  exact ⟨rfl, (L3.out.put6 (Nat.le_refl _) _ _ _ _ _ _).out⟩
theorem leaf_any (w : World) (E : En) (s : St) (d : Nat) (j : Bool) (h : PS w E s d j) (hk : s.k ≠ 0) :
    Calls Tryz.prog 163 #[pp E] w (NOut w E (leaf s) d j) := by
  refine (leaf_ex w E s d j h hk).mono ?_
  rintro x w' ⟨rfl, ho⟩
  exact ⟨none, 0, none, 0, rfl, ho, hasN_leaf _ _ _ _ _ _⟩

set_option maxHeartbeats 1000000 in
theorem keyed_one (w : World) (V : ByteArray) (kn : Nat × Nat) (hkn : keyed V.data.toList = kn) :
    Calls Tryz.prog 212 #[.string V] w fun x w' => x = .returned (.tuple #[.int .i64 (kn.1 : Int), .int .i64 (kn.2 : Int)]) ∧ w = w' := by
  rw [← hkn]
  clear hkn
  by_cases h0 : V.data.toList = [112, 114, 105, 110, 116]
  · have e0 : (V.toList == [112, 114, 105, 110, 116]) = true := by rw [ByteArray.toList_eq, beq_iff_eq]; exact h0
    have hv : keyed V.data.toList = (15, 1) := by rw [h0]; rfl
    rw [hv]
    clear hv h0
    go_enter Tryz.func212, Tryz.ntmps212
    go_wp2
    go_ret2
    exact ⟨rfl, rfl⟩
  · by_cases h1 : V.data.toList = [114, 97, 105, 115, 101]
    · have e0 : (V.toList == [112, 114, 105, 110, 116]) = false := by rw [ByteArray.toList_eq, beq_eq_false_iff_ne]; exact h0
      have e1 : (V.toList == [114, 97, 105, 115, 101]) = true := by rw [ByteArray.toList_eq, beq_iff_eq]; exact h1
      have hv : keyed V.data.toList = (16, 1) := by rw [h1]; rfl
      rw [hv]
      clear hv h0 h1
      go_enter Tryz.func212, Tryz.ntmps212
      go_wp2
      go_ret2
      exact ⟨rfl, rfl⟩
    · by_cases h2 : V.data.toList = [115, 112, 97, 119, 110]
      · have e0 : (V.toList == [112, 114, 105, 110, 116]) = false := by rw [ByteArray.toList_eq, beq_eq_false_iff_ne]; exact h0
        have e1 : (V.toList == [114, 97, 105, 115, 101]) = false := by rw [ByteArray.toList_eq, beq_eq_false_iff_ne]; exact h1
        have e2 : (V.toList == [115, 112, 97, 119, 110]) = true := by rw [ByteArray.toList_eq, beq_iff_eq]; exact h2
        have hv : keyed V.data.toList = (17, 1) := by rw [h2]; rfl
        rw [hv]
        clear hv h0 h1 h2
        go_enter Tryz.func212, Tryz.ntmps212
        go_wp2
        go_ret2
        exact ⟨rfl, rfl⟩
      · by_cases h3 : V.data.toList = [97, 116, 111, 109, 105, 99, 97, 108, 108, 121]
        · have e0 : (V.toList == [112, 114, 105, 110, 116]) = false := by rw [ByteArray.toList_eq, beq_eq_false_iff_ne]; exact h0
          have e1 : (V.toList == [114, 97, 105, 115, 101]) = false := by rw [ByteArray.toList_eq, beq_eq_false_iff_ne]; exact h1
          have e2 : (V.toList == [115, 112, 97, 119, 110]) = false := by rw [ByteArray.toList_eq, beq_eq_false_iff_ne]; exact h2
          have e3 : (V.toList == [97, 116, 111, 109, 105, 99, 97, 108, 108, 121]) = true := by rw [ByteArray.toList_eq, beq_iff_eq]; exact h3
          have hv : keyed V.data.toList = (18, 1) := by rw [h3]; rfl
          rw [hv]
          clear hv h0 h1 h2 h3
          go_enter Tryz.func212, Tryz.ntmps212
          go_wp2
          go_ret2
          exact ⟨rfl, rfl⟩
        · by_cases h4 : V.data.toList = [116, 118, 97, 114]
          · have e0 : (V.toList == [112, 114, 105, 110, 116]) = false := by rw [ByteArray.toList_eq, beq_eq_false_iff_ne]; exact h0
            have e1 : (V.toList == [114, 97, 105, 115, 101]) = false := by rw [ByteArray.toList_eq, beq_eq_false_iff_ne]; exact h1
            have e2 : (V.toList == [115, 112, 97, 119, 110]) = false := by rw [ByteArray.toList_eq, beq_eq_false_iff_ne]; exact h2
            have e3 : (V.toList == [97, 116, 111, 109, 105, 99, 97, 108, 108, 121]) = false := by rw [ByteArray.toList_eq, beq_eq_false_iff_ne]; exact h3
            have e4 : (V.toList == [116, 118, 97, 114]) = true := by rw [ByteArray.toList_eq, beq_iff_eq]; exact h4
            have hv : keyed V.data.toList = (21, 1) := by rw [h4]; rfl
            rw [hv]
            clear hv h0 h1 h2 h3 h4
            go_enter Tryz.func212, Tryz.ntmps212
            go_wp2
            go_ret2
            exact ⟨rfl, rfl⟩
          · by_cases h5 : V.data.toList = [114, 101, 97, 100]
            · have e0 : (V.toList == [112, 114, 105, 110, 116]) = false := by rw [ByteArray.toList_eq, beq_eq_false_iff_ne]; exact h0
              have e1 : (V.toList == [114, 97, 105, 115, 101]) = false := by rw [ByteArray.toList_eq, beq_eq_false_iff_ne]; exact h1
              have e2 : (V.toList == [115, 112, 97, 119, 110]) = false := by rw [ByteArray.toList_eq, beq_eq_false_iff_ne]; exact h2
              have e3 : (V.toList == [97, 116, 111, 109, 105, 99, 97, 108, 108, 121]) = false := by rw [ByteArray.toList_eq, beq_eq_false_iff_ne]; exact h3
              have e4 : (V.toList == [116, 118, 97, 114]) = false := by rw [ByteArray.toList_eq, beq_eq_false_iff_ne]; exact h4
              have e5 : (V.toList == [114, 101, 97, 100]) = true := by rw [ByteArray.toList_eq, beq_iff_eq]; exact h5
              have hv : keyed V.data.toList = (22, 1) := by rw [h5]; rfl
              rw [hv]
              clear hv h0 h1 h2 h3 h4 h5
              go_enter Tryz.func212, Tryz.ntmps212
              go_wp2
              go_ret2
              exact ⟨rfl, rfl⟩
            · by_cases h6 : V.data.toList = [119, 114, 105, 116, 101]
              · have e0 : (V.toList == [112, 114, 105, 110, 116]) = false := by rw [ByteArray.toList_eq, beq_eq_false_iff_ne]; exact h0
                have e1 : (V.toList == [114, 97, 105, 115, 101]) = false := by rw [ByteArray.toList_eq, beq_eq_false_iff_ne]; exact h1
                have e2 : (V.toList == [115, 112, 97, 119, 110]) = false := by rw [ByteArray.toList_eq, beq_eq_false_iff_ne]; exact h2
                have e3 : (V.toList == [97, 116, 111, 109, 105, 99, 97, 108, 108, 121]) = false := by rw [ByteArray.toList_eq, beq_eq_false_iff_ne]; exact h3
                have e4 : (V.toList == [116, 118, 97, 114]) = false := by rw [ByteArray.toList_eq, beq_eq_false_iff_ne]; exact h4
                have e5 : (V.toList == [114, 101, 97, 100]) = false := by rw [ByteArray.toList_eq, beq_eq_false_iff_ne]; exact h5
                have e6 : (V.toList == [119, 114, 105, 116, 101]) = true := by rw [ByteArray.toList_eq, beq_iff_eq]; exact h6
                have hv : keyed V.data.toList = (23, 2) := by rw [h6]; rfl
                rw [hv]
                clear hv h0 h1 h2 h3 h4 h5 h6
                go_enter Tryz.func212, Tryz.ntmps212
                go_wp2
                go_ret2
                exact ⟨rfl, rfl⟩
              · by_cases h7 : V.data.toList = [111, 114, 101, 108, 115, 101]
                · have e0 : (V.toList == [112, 114, 105, 110, 116]) = false := by rw [ByteArray.toList_eq, beq_eq_false_iff_ne]; exact h0
                  have e1 : (V.toList == [114, 97, 105, 115, 101]) = false := by rw [ByteArray.toList_eq, beq_eq_false_iff_ne]; exact h1
                  have e2 : (V.toList == [115, 112, 97, 119, 110]) = false := by rw [ByteArray.toList_eq, beq_eq_false_iff_ne]; exact h2
                  have e3 : (V.toList == [97, 116, 111, 109, 105, 99, 97, 108, 108, 121]) = false := by rw [ByteArray.toList_eq, beq_eq_false_iff_ne]; exact h3
                  have e4 : (V.toList == [116, 118, 97, 114]) = false := by rw [ByteArray.toList_eq, beq_eq_false_iff_ne]; exact h4
                  have e5 : (V.toList == [114, 101, 97, 100]) = false := by rw [ByteArray.toList_eq, beq_eq_false_iff_ne]; exact h5
                  have e6 : (V.toList == [119, 114, 105, 116, 101]) = false := by rw [ByteArray.toList_eq, beq_eq_false_iff_ne]; exact h6
                  have e7 : (V.toList == [111, 114, 101, 108, 115, 101]) = true := by rw [ByteArray.toList_eq, beq_iff_eq]; exact h7
                  have hv : keyed V.data.toList = (20, 2) := by rw [h7]; rfl
                  rw [hv]
                  clear hv h0 h1 h2 h3 h4 h5 h6 h7
                  go_enter Tryz.func212, Tryz.ntmps212
                  go_wp2
                  go_ret2
                  exact ⟨rfl, rfl⟩
                · have e0 : (V.toList == [112, 114, 105, 110, 116]) = false := by rw [ByteArray.toList_eq, beq_eq_false_iff_ne]; exact h0
                  have e1 : (V.toList == [114, 97, 105, 115, 101]) = false := by rw [ByteArray.toList_eq, beq_eq_false_iff_ne]; exact h1
                  have e2 : (V.toList == [115, 112, 97, 119, 110]) = false := by rw [ByteArray.toList_eq, beq_eq_false_iff_ne]; exact h2
                  have e3 : (V.toList == [97, 116, 111, 109, 105, 99, 97, 108, 108, 121]) = false := by rw [ByteArray.toList_eq, beq_eq_false_iff_ne]; exact h3
                  have e4 : (V.toList == [116, 118, 97, 114]) = false := by rw [ByteArray.toList_eq, beq_eq_false_iff_ne]; exact h4
                  have e5 : (V.toList == [114, 101, 97, 100]) = false := by rw [ByteArray.toList_eq, beq_eq_false_iff_ne]; exact h5
                  have e6 : (V.toList == [119, 114, 105, 116, 101]) = false := by rw [ByteArray.toList_eq, beq_eq_false_iff_ne]; exact h6
                  have e7 : (V.toList == [111, 114, 101, 108, 115, 101]) = false := by rw [ByteArray.toList_eq, beq_eq_false_iff_ne]; exact h7
                  have hv : keyed V.data.toList = (0, 0) := by
                    have hf : calls.find? (fun c => decide (c.1 = V.data.toList)) = none := by
                      rw [List.find?_eq_none]
                      intro c hc
                      simp only [calls, List.mem_cons, List.not_mem_nil, or_false] at hc
                      rcases hc with rfl | rfl | rfl | rfl | rfl | rfl | rfl | rfl <;> simp only [decide_eq_true_eq] <;> intro e <;> first | exact h0 e.symm | exact h1 e.symm | exact h2 e.symm | exact h3 e.symm | exact h4 e.symm | exact h5 e.symm | exact h6 e.symm | exact h7 e.symm
                    unfold keyed; rw [hf]
                  rw [hv]
                  clear hv h0 h1 h2 h3 h4 h5 h6 h7
                  go_enter Tryz.func212, Tryz.ntmps212
                  go_wp2
                  go_ret2
                  exact ⟨rfl, rfl⟩
theorem keyed_any (w : World) (u : By) :
    Calls Tryz.prog 212 #[.string ⟨u.toArray⟩] w fun x w' => x = .returned (.tuple #[.int .i64 ((keyed u).1 : Int), .int .i64 ((keyed u).2 : Int)]) ∧ w = w' :=
  keyed_one w ⟨u.toArray⟩ (keyed u) rfl

theorem neq_fn (n : FuncId) (w : World) : (binOp .neq 120 (.func (.func n) #[] #[]) .nilFunc).run Tryz.prog w = .ok (.bool true) w := by kernel_rfl
theorem neq_nil (w : World) : (binOp .neq 120 .nilFunc .nilFunc).run Tryz.prog w = .ok (.bool false) w := by kernel_rfl
theorem neq_atom (u : By) (w : World) : (binOp .neq 120 (atomFn (atomWord u)) .nilFunc).run Tryz.prog w = .ok (.bool (decide (atomWord u ≠ 0))) w := by
  have h : atomWord u = 0 ∨ atomWord u = 1 ∨ atomWord u = 2 ∨ atomWord u = 3 ∨ atomWord u = 4 := by unfold atomWord; repeat' split
                                                                                                    all_goals simp
  rcases h with h | h | h | h | h <;> rw [h]
  · exact neq_nil w
  · exact neq_fn _ w
  · exact neq_fn _ w
  · exact neq_fn _ w
  · exact neq_fn _ w

end Go.Proofs.YtlcapkgbbgpdmaaGreatDoor.PE

/- Whether an atom is next; whether a pattern's atom is. -/
namespace Go.Proofs.YtlcapkgbbgpdmaaGreatDoor.PF
open Go.RowKit Go.Proofs.YtlcapkgbbgpdmaaGreatDoor.P Go.Proofs.YtlcapkgbbgpdmaaGreatDoor.A Go.Proofs.YtlcapkgbbgpdmaaGreatDoor.TK Go.Proofs.YtlcapkgbbgpdmaaGreatDoor.TO Go.Proofs.YtlcapkgbbgpdmaaGreatDoor.GR Go.Proofs.YtlcapkgbbgpdmaaGreatDoor.MP Go.Proofs.YtlcapkgbbgpdmaaGreatDoor.YR Go.Proofs.YtlcapkgbbgpdmaaGreatDoor.PN Go.Proofs.YtlcapkgbbgpdmaaGreatDoor.PS Go.Proofs.YtlcapkgbbgpdmaaGreatDoor.PA Go.Proofs.YtlcapkgbbgpdmaaGreatDoor.PB Go.Proofs.YtlcapkgbbgpdmaaGreatDoor.PC Go.Proofs.YtlcapkgbbgpdmaaGreatDoor.PD Go.Proofs.YtlcapkgbbgpdmaaGreatDoor.PE
set_option linter.unusedVariables false
set_option maxRecDepth 100000
attribute [local go_sem ↓] Go.wp_at_zero Go.wp_at_succ

theorem atAtom_yes (w : World) (E : En) (s : St) (d : Nat) (j : Bool) (h : PS w E s d j) (hk : leafKind s.k ≠ 0) :
    Calls Tryz.prog 214 #[pp E] w fun x w' => x = .returned (.bool true) ∧ Below w.heap.size w w' := by
  have L0 := Lib.hid (Lc.start h)
  have hx' : ((leafKind (hd s.ts).k : Int) == 0) = false := i_ne (b := 0) hk
  have hx : ((leafKind (hd s.ts).k : Int) != 0) = true := by rw [bne, hx']; rfl
  have HT := token_any w.drew E s d j L0.out.drew.ps
  have HL := fun W => leafKind_any W (hd s.ts).k ⟨(hd s.ts).t.toArray⟩ ((hd s.ts).n : Int) ((hd s.ts).p : Int)
  clear h hk
  go_enter Tryz.func214, Tryz.ntmps214
  go_wp2_with fail
  first
    | (go_region_with (first | (go_at_call 76; refine HT.mono ?_; rintro x w1 ⟨rfl, hb1⟩; have L1 := Lib.hid hb1; clear hb1) | (go_at_call 164; refine (HL w1).mono ?_; rintro x w2 ⟨rfl, hb2⟩; have L2 := Lib.hid hb2; clear hb2)))
    | fail
  all_goals
    go_wp2
    go_ret
    exact ⟨rfl, (((Below.refl w.heap.size w).drew).trans (b := w.drew) L1.out).trans (L2.out.mono L1.out.size)⟩

theorem eq_guard (t : Tmp) (v : Value) (w : World) : (eqGuard .neq 120 (.tmp t) (.const .nilFunc) v .nilFunc).run Tryz.prog w = .ok () w := by cases v <;> kernel_rfl
theorem atAtom_no (w : World) (E : En) (s : St) (d : Nat) (j : Bool) (h : PS w E s d j) (hk : leafKind s.k = 0) :
    Calls Tryz.prog 214 #[pp E] w fun x w' => x = .returned (.bool (decide (atomWord s.word ≠ 0))) ∧ Below w.heap.size w w' := by
  have L0 := Lib.hid (Lc.start h)
  have hx' : ((leafKind (hd s.ts).k : Int) == 0) = true := i_eq (b := 0) hk
  have hx : ((leafKind (hd s.ts).k : Int) != 0) = false := by rw [bne, hx']; rfl
  have HT := token_any w.drew E s d j L0.out.drew.ps
  have HL := fun W => leafKind_any W (hd s.ts).k ⟨(hd s.ts).t.toArray⟩ ((hd s.ts).n : Int) ((hd s.ts).p : Int)
  have hna := neq_atom s.word
  have heq := eq_guard 14
  obtain ⟨b, hb⟩ : ∃ b, decide (atomWord s.word ≠ 0) = b := ⟨_, rfl⟩
  rw [hb] at hna ⊢
  clear h hk hb
  go_enter Tryz.func214, Tryz.ntmps214
  go_wp2_with fail
  first
    | (go_region_with (first
        | (go_at_call 76; refine HT.mono ?_; rintro x w1 ⟨rfl, hb1⟩; have L1 := Lib.hid (L0.out.drew.below hb1); have H1 := Lib.hid hb1; obtain ⟨off1, cap1, hk1, _⟩ := L1.out.ps.cells; have u2 := pc2 hk1; clear hb1 hk1)
        | (go_at_call 164; refine (HL w1).mono ?_; rintro x w2 ⟨rfl, hb2⟩; have L2 := Lib.hid (L1.out.below hb2); have H2 := Lib.hid hb2; obtain ⟨off2, cap2, hk2, _⟩ := L2.out.ps.cells; have v2 := pc2 hk2; clear hb2 hk2)
        | (go_at_call 107; refine (word_any w2 E s d j L2.out.ps).mono ?_; rintro x w3 ⟨rfl, hb3⟩; have L3 := Lib.hid (L2.out.below hb3); have H3 := Lib.hid hb3; have hlk := look_atom L3.out.ps s.word; obtain ⟨off3, cap3, hk3, _⟩ := L3.out.ps.cells; have x2 := pc2 hk3; clear hb3 hk3)))
    | fail
  all_goals
    go_wp2
    go_ret
    exact ⟨rfl, ((((Below.refl w.heap.size w).drew).trans (b := w.drew) H1.out).trans (H2.out.mono H1.out.size)).trans (H3.out.mono (Nat.le_trans H1.out.size H2.out.size))⟩
theorem atAtom_any (w : World) (E : En) (s : St) (d : Nat) (j : Bool) (h : PS w E s d j) :
    Calls Tryz.prog 214 #[pp E] w fun x w' => x = .returned (.bool (atAtom s)) ∧ Below w.heap.size w w' := by
  unfold atAtom
  by_cases hk : leafKind s.k = 0
  · have e : (decide (leafKind s.k ≠ 0) || decide (atomWord s.word ≠ 0)) = decide (atomWord s.word ≠ 0) := by simp [hk]
    rw [e]
    exact atAtom_no w E s d j h hk
  · have e : (decide (leafKind s.k ≠ 0) || decide (atomWord s.word ≠ 0)) = true := by simp [hk]
    rw [e]
    exact atAtom_yes w E s d j h hk
end Go.Proofs.YtlcapkgbbgpdmaaGreatDoor.PF

/- One deeper, and less deep again by a deferred call; is a ';' a NodeSeq's, and as it was again; a pattern's atom. -/
namespace Go.Proofs.YtlcapkgbbgpdmaaGreatDoor.PG
open Go.RowKit Go.Proofs.YtlcapkgbbgpdmaaGreatDoor.P Go.Proofs.YtlcapkgbbgpdmaaGreatDoor.A Go.Proofs.YtlcapkgbbgpdmaaGreatDoor.TK Go.Proofs.YtlcapkgbbgpdmaaGreatDoor.TO Go.Proofs.YtlcapkgbbgpdmaaGreatDoor.GR Go.Proofs.YtlcapkgbbgpdmaaGreatDoor.MP Go.Proofs.YtlcapkgbbgpdmaaGreatDoor.YR Go.Proofs.YtlcapkgbbgpdmaaGreatDoor.PN Go.Proofs.YtlcapkgbbgpdmaaGreatDoor.PS Go.Proofs.YtlcapkgbbgpdmaaGreatDoor.PA Go.Proofs.YtlcapkgbbgpdmaaGreatDoor.PB Go.Proofs.YtlcapkgbbgpdmaaGreatDoor.PC Go.Proofs.YtlcapkgbbgpdmaaGreatDoor.PD Go.Proofs.YtlcapkgbbgpdmaaGreatDoor.PE Go.Proofs.YtlcapkgbbgpdmaaGreatDoor.PF
set_option linter.unusedVariables false
set_option maxRecDepth 100000

/-- A part's contract; a part's, called one deeper. -/
def NC (F : FuncId) (P : Part) (d : Nat) (j : Bool) : Prop := ∀ w E s, PS w E s d j → Calls Tryz.prog F #[pp E] w (NOut w E (P s) d j)
def DC (F : FuncId) (P : Part) (d : Nat) (j : Bool) : Prop := ∀ w E s, PS w E s d j → Calls Tryz.prog 104 #[pp E, .func (.func F) #[] #[]] w (NOut w E (P s) d j)
/-- Whose turn it is to be one deeper. -/
def Deep (F : FuncId) : Prop := F = 102 ∨ F = 64 ∨ F = 105 ∨ F = 187

theorem rise_deferred (w : World) (E : En) (s : St) (d : Nat) (j : Bool) (u : FrameMode) (h : PS w E s (d + 1) j) :
    CallsD Tryz.prog 132 #[pp E] u w fun e u' w' => u' = u ∧ (e = .returned (.tuple #[]) ∧ w' = w.setCell ⟨E.r, 3, none⟩ (.int .i64 (d : Int))) := by
  obtain ⟨off, cap, hb, _⟩ := h.cells
  have c3 := pc3 hb
  have f3 := hb.free 3
  have hd := h.deep
  have e : (((d + 1 : Nat) : Int) - 1) = (d : Int) := by omega
  clear h hb
  go_enter_d Tryz.func132, Tryz.ntmps132
  go_wp2
  go_end0
  exact ⟨rfl, rfl⟩
theorem rise_out {w : World} {E : En} {s : St} {d : Nat} {j : Bool} (h : PS w E s (d + 1) j) : Out w E s d j (w.setCell ⟨E.r, 3, none⟩ (.int .i64 (d : Int))) := by
  obtain ⟨off, cap, hb, _⟩ := h.cells
  have hd := h.deep
  refine (Lc.turn (Lc.start h) hb 3 (.int .i64 (d : Int)) ?_ ?_ (Nat.le_refl _) h.ok (by omega)).out
  · simp [pcells]
  · simp

set_option maxHeartbeats 1000000 in
theorem deeper_full (F : FuncId) (P : Part) (d : Nat) (j : Bool) (hF : Deep F) (hC : NC F P (d + 1) j) (hd : d < 40) : DC F P d j := by
  intro w E s h
  have L0 := Lib.hid (Lc.start h)
  have hw0 := Lib.hid (Bk.new w #[.int .i64 0, .string ⟨#[]⟩, .int .i64 0, .int .i64 0, .slice none 0 0, .slice none 0 0] 25)
  have er0 := h.lt.1
  obtain ⟨off, cap, hb, _⟩ := h.cells
  have c3 := pc3 hb
  have f3 := hb.free 3
  have hx : ((d : Int) == 40) = false := i_ne (b := 40) (by omega)
  have hn : w.heap.size ≠ E.r := by omega
  have L1 := Lib.hid ((show Lc w E s (d + 1) j _ from Lc.turn L0.out hb 3 (.int .i64 ((d : Int) + 1)) (by simp [pcells]) (by simp) (Nat.le_refl _) h.ok (by omega)).alloc (.cells #[.int .i64 0, .string ⟨#[]⟩, .int .i64 0, .int .i64 0, .slice none 0 0, .slice none 0 0] 25))
  have B1 := Lib.hid (show Bk ((w.setCell ⟨E.r, 3, none⟩ (.int .i64 ((d : Int) + 1))).alloc (.cells #[.int .i64 0, .string ⟨#[]⟩, .int .i64 0, .int .i64 0, .slice none 0 0, .slice none 0 0] 25)) w.heap.size _ _ from heap_at _ _ _ (set_size _ _ _))
  have HC := Lib.hid hC
  clear h hb hC hw0
  rcases hF with rfl | rfl | rfl | rfl
  all_goals
    go_enter_defers Tryz.func104, Tryz.ntmps104
    go_wp2_with fail
    refine (HC.out _ E s L1.out.ps).mono ?_
    rintro x w1 ⟨ao, ac, bo, bc, rfl, ho, hN⟩
    have L2 := Lib.hid (L1.out.call ho)
    have B2 := Lib.hid (B1.out.gr ho.gr hn)
    have hz : w.heap.size < w1.heap.size := B2.out.lt
    have N2 := Lib.hid (hN.mono (lo' := w.heap.size + 1) (by simp []))
    obtain ⟨g0, g1, g2, g3, g4, g5⟩ := B2.out.c6
    obtain ⟨k0, k1, k2, k3, k4, k5⟩ := B2.out.f6
    clear ho hN c3 f3 L1 B1
    go_wp2
    refine leaves_cons (f := 132) (args := #[pp E]) (by simp) (by simp [go_sem]) ?_
    refine (rise_deferred _ E (P s).2 d j .returning (L2.out.put6 (Nat.le_refl _) _ _ _ _ _ _).ps).mono ?_
    rintro e u' w2 ⟨rfl, rfl, rfl⟩
    refine ⟨.agg #[.int .i64 ((P s).1.kind : Int), .string ⟨(P s).1.text.toArray⟩, .int .i64 ((P s).1.num : Int), .int .i64 ((P s).1.pl : Int), .slice ao (P s).1.names.length ac, .slice bo (P s).1.kids.length bc], by simp [results, Tryz.results104, go_sem, g0, g1, g2, g3, g4, g5], _, _, _, _, rfl, ?_, ?_⟩
    · exact ((L2.out.put6 (Nat.le_refl _) _ _ _ _ _ _).call (rise_out (L2.out.put6 (Nat.le_refl _) _ _ _ _ _ _).ps)).out
    · exact ((N2.out.put6 (Nat.lt_succ_self _) _ _ _ _ _ _).set (by omega) _ _).mono (Nat.le_succ _)

set_option maxHeartbeats 1000000 in
theorem deeper_none (F : FuncId) (j : Bool) (hF : Deep F) : DC F (failed 15) 40 j := by
  intro w E s h
  have L0 := Lib.hid (Lc.start h)
  have hw0 := Lib.hid (Bk.new w #[.int .i64 0, .string ⟨#[]⟩, .int .i64 0, .int .i64 0, .slice none 0 0, .slice none 0 0] 25)
  have er0 := h.lt.1
  obtain ⟨off, cap, hb, _⟩ := h.cells
  have c3 := pc3 hb
  have hn : w.heap.size ≠ E.r := by omega
  clear h hb
  rcases hF with rfl | rfl | rfl | rfl
  all_goals
    go_enter_defers Tryz.func104, Tryz.ntmps104
    go_wp2_with fail
    refine (fail_any _ E s 40 j (L0.out.alloc _).ps 15).mono ?_
    rintro x w1 ⟨rfl, ho⟩
    have L1 := Lib.hid ((L0.out.alloc _).call ho)
    have B1 := Lib.hid (hw0.out.gr ho.gr hn)
    have hz : w.heap.size < w1.heap.size := B1.out.lt
    obtain ⟨g0, g1, g2, g3, g4, g5⟩ := B1.out.c6
    obtain ⟨k0, k1, k2, k3, k4, k5⟩ := B1.out.f6
    clear ho c3
    go_wp2
    refine ⟨zv, by simp [results, Tryz.results104, go_sem, g0, g1, g2, g3, g4, g5], _, _, _, _, rfl, (L1.out.put6 (Nat.le_refl _) _ _ _ _ _ _).out, hasN_leaf _ _ _ _ _ _⟩
end Go.Proofs.YtlcapkgbbgpdmaaGreatDoor.PG

/- Parts of the parser without a loop. -/
namespace Go.Proofs.YtlcapkgbbgpdmaaGreatDoor.PH
open Go.RowKit Go.Proofs.YtlcapkgbbgpdmaaGreatDoor.P Go.Proofs.YtlcapkgbbgpdmaaGreatDoor.A Go.Proofs.YtlcapkgbbgpdmaaGreatDoor.TK Go.Proofs.YtlcapkgbbgpdmaaGreatDoor.TO Go.Proofs.YtlcapkgbbgpdmaaGreatDoor.GR Go.Proofs.YtlcapkgbbgpdmaaGreatDoor.MP Go.Proofs.YtlcapkgbbgpdmaaGreatDoor.YR Go.Proofs.YtlcapkgbbgpdmaaGreatDoor.PN Go.Proofs.YtlcapkgbbgpdmaaGreatDoor.PS Go.Proofs.YtlcapkgbbgpdmaaGreatDoor.PA Go.Proofs.YtlcapkgbbgpdmaaGreatDoor.PB Go.Proofs.YtlcapkgbbgpdmaaGreatDoor.PC Go.Proofs.YtlcapkgbbgpdmaaGreatDoor.PD Go.Proofs.YtlcapkgbbgpdmaaGreatDoor.PE Go.Proofs.YtlcapkgbbgpdmaaGreatDoor.PF Go.Proofs.YtlcapkgbbgpdmaaGreatDoor.PG
set_option linter.unusedVariables false
set_option maxRecDepth 100000

/-- A level: what is called one deeper. -/
structure LevOK (L : Lev) (d : Nat) : Prop where
  x : ∀ j, DC 102 (L.x j) d j
  f : ∀ j, DC 64 (L.f j) d j
  y : ∀ j, DC 105 L.y d j

theorem exp_any {R : Part} {d : Nat} {j : Bool} (hC : DC 102 R d j) : NC 75 R d j := by
  intro w E s h
  have L0 := Lib.hid (Lc.start h)
  have er0 := h.lt.1
  clear h
  go_enter Tryz.func75, Tryz.ntmps75
  go_wp2_with fail
  refine (hC _ E s (L0.out.alloc _).ps).mono ?_
  rintro x w1 ⟨ao1, ac1, bo1, bc1, rfl, ho, hN⟩
  have L1 := Lib.hid ((L0.out.alloc _).call ho)
  have Brb1 := Lib.hid (show Bk w1 w.heap.size #[.int .i64 0, .string ⟨#[]⟩, .int .i64 0, .int .i64 0, .slice none 0 0, .slice none 0 0] 25 from Bk.gr (heap_at _ _ _ (by simp [])) ho.gr (by omega))
  have zrb1 : w.heap.size < w1.heap.size := Brb1.out.lt
  have Nx1 := Lib.hid (show Hn w1 (w.heap.size + 1) ((R s).1) (.slice ao1 ((R s).1).names.length ac1, .slice bo1 ((R s).1).kids.length bc1) from hN.mono (by simp []))
  clear ho hN L0
  obtain ⟨grb0, grb1, grb2, grb3, grb4, grb5⟩ := Brb1.out.c6
  obtain ⟨frb0, frb1, frb2, frb3, frb4, frb5⟩ := Brb1.out.f6
  go_wp2
  refine bodyPost_ret (v := .agg #[.int .i64 ((R s).1.kind : Int), .string ⟨(R s).1.text.toArray⟩, .int .i64 ((R s).1.num : Int), .int .i64 ((R s).1.pl : Int), .slice ao1 (R s).1.names.length ac1, .slice bo1 (R s).1.kids.length bc1]) (by simp [results, Tryz.results75, go_sem, grb0, grb1, grb2, grb3, grb4, grb5]) rfl ?_
  exact ⟨_, _, _, _, rfl, ((((((L1.out.set (by omega) 0 _).set (by omega) 1 _).set (by omega) 2 _).set (by omega) 3 _).set (by omega) 4 _).set (by omega) 5 _).out, (((((((Nx1.out.set (b := w.heap.size) (by omega) 0 _).set (b := w.heap.size) (by omega) 1 _).set (b := w.heap.size) (by omega) 2 _).set (b := w.heap.size) (by omega) 3 _).set (b := w.heap.size) (by omega) 4 _).set (b := w.heap.size) (by omega) 5 _)).mono (by omega)⟩

theorem outer_any {R : Part} {d : Nat} {j : Bool} (hC : DC 187 R d j) : NC 165 R d j := by
  intro w E s h
  have L0 := Lib.hid (Lc.start h)
  have er0 := h.lt.1
  clear h
  go_enter Tryz.func165, Tryz.ntmps165
  go_wp2_with fail
  refine (hC _ E s (L0.out.alloc _).ps).mono ?_
  rintro x w1 ⟨ao1, ac1, bo1, bc1, rfl, ho, hN⟩
  have L1 := Lib.hid ((L0.out.alloc _).call ho)
  have Brb1 := Lib.hid (show Bk w1 w.heap.size #[.int .i64 0, .string ⟨#[]⟩, .int .i64 0, .int .i64 0, .slice none 0 0, .slice none 0 0] 25 from Bk.gr (heap_at _ _ _ (by simp [])) ho.gr (by omega))
  have zrb1 : w.heap.size < w1.heap.size := Brb1.out.lt
  have Nx1 := Lib.hid (show Hn w1 (w.heap.size + 1) ((R s).1) (.slice ao1 ((R s).1).names.length ac1, .slice bo1 ((R s).1).kids.length bc1) from hN.mono (by simp []))
  clear ho hN L0
  obtain ⟨grb0, grb1, grb2, grb3, grb4, grb5⟩ := Brb1.out.c6
  obtain ⟨frb0, frb1, frb2, frb3, frb4, frb5⟩ := Brb1.out.f6
  go_wp2
  refine bodyPost_ret (v := .agg #[.int .i64 ((R s).1.kind : Int), .string ⟨(R s).1.text.toArray⟩, .int .i64 ((R s).1.num : Int), .int .i64 ((R s).1.pl : Int), .slice ao1 (R s).1.names.length ac1, .slice bo1 (R s).1.kids.length bc1]) (by simp [results, Tryz.results165, go_sem, grb0, grb1, grb2, grb3, grb4, grb5]) rfl ?_
  exact ⟨_, _, _, _, rfl, ((((((L1.out.set (by omega) 0 _).set (by omega) 1 _).set (by omega) 2 _).set (by omega) 3 _).set (by omega) 4 _).set (by omega) 5 _).out, (((((((Nx1.out.set (b := w.heap.size) (by omega) 0 _).set (b := w.heap.size) (by omega) 1 _).set (b := w.heap.size) (by omega) 2 _).set (b := w.heap.size) (by omega) 3 _).set (b := w.heap.size) (by omega) 4 _).set (b := w.heap.size) (by omega) 5 _)).mono (by omega)⟩

def BC (F : FuncId) (R : Part) (d : Nat) (j : Bool) : Prop := ∀ w E s, PS w E s d j → Calls Tryz.prog 101 #[pp E, .func (.func F) #[] #[]] w (NOut w E (bracketed R s) d j)
theorem bracketed_any {F : FuncId} {R : Part} {d : Nat} {j : Bool} (hC : DC F R d j) : BC F R d j := by
  intro w E s h
  have L0 := Lib.hid (Lc.start h)
  have er0 := h.lt.1
  clear h
  go_enter Tryz.func101, Tryz.ntmps101
  go_wp2_with fail
  refine (hC _ E s (L0.out.alloc _).ps).mono ?_
  rintro x w1 ⟨ao1, ac1, bo1, bc1, rfl, ho, hN⟩
  have L1 := Lib.hid ((L0.out.alloc _).call ho)
  have Brb1 := Lib.hid (show Bk w1 w.heap.size #[.int .i64 0, .string ⟨#[]⟩, .int .i64 0, .int .i64 0, .slice none 0 0, .slice none 0 0] 25 from Bk.gr (heap_at _ _ _ (by simp [])) ho.gr (by omega))
  have zrb1 : w.heap.size < w1.heap.size := Brb1.out.lt
  have Nx1 := Lib.hid (show Hn w1 (w.heap.size + 1) ((R s).1) (.slice ao1 ((R s).1).names.length ac1, .slice bo1 ((R s).1).kids.length bc1) from hN.mono (by simp []))
  clear ho hN L0
  go_wp2_with fail
  refine (expect_any _ E (R s).2 d j (L1.out.alloc _).ps [41] (by decide)).mono ?_
  rintro x w2 ⟨rfl, ho⟩
  have L2 := Lib.hid ((L1.out.alloc _).call ho)
  have Brb2 := Lib.hid (show Bk w2 w.heap.size #[.int .i64 0, .string ⟨#[]⟩, .int .i64 0, .int .i64 0, .slice none 0 0, .slice none 0 0] 25 from Bk.gr (Brb1.out.alloc _) ho.gr (by omega))
  have Bnb2 := Lib.hid (show Bk w2 w1.heap.size #[.int .i64 ((R s).1.kind : Int), .string ⟨(R s).1.text.toArray⟩, .int .i64 ((R s).1.num : Int), .int .i64 ((R s).1.pl : Int), .slice ao1 (R s).1.names.length ac1, .slice bo1 (R s).1.kids.length bc1] 25 from Bk.gr (heap_at _ _ _ (by simp [])) ho.gr (by omega))
  have Nx2 := Lib.hid (show Hn w2 (w.heap.size + 1) ((R s).1) (.slice ao1 ((R s).1).names.length ac1, .slice bo1 ((R s).1).kids.length bc1) from Hn.gr (Nx1.out.alloc _) ho.gr (by omega))
  have zrb2 : w.heap.size < w2.heap.size := Brb2.out.lt
  have znb2 : w1.heap.size < w2.heap.size := Bnb2.out.lt
  clear ho L1 Brb1 Nx1
  obtain ⟨grb0, grb1, grb2, grb3, grb4, grb5⟩ := Brb2.out.c6
  obtain ⟨frb0, frb1, frb2, frb3, frb4, frb5⟩ := Brb2.out.f6
  obtain ⟨gnb0, gnb1, gnb2, gnb3, gnb4, gnb5⟩ := Bnb2.out.c6
  obtain ⟨fnb0, fnb1, fnb2, fnb3, fnb4, fnb5⟩ := Bnb2.out.f6
  go_wp2
  refine bodyPost_ret (v := .agg #[.int .i64 ((R s).1.kind : Int), .string ⟨(R s).1.text.toArray⟩, .int .i64 ((R s).1.num : Int), .int .i64 ((R s).1.pl : Int), .slice ao1 (R s).1.names.length ac1, .slice bo1 (R s).1.kids.length bc1]) (by simp [results, Tryz.results101, go_sem, grb0, grb1, grb2, grb3, grb4, grb5]) rfl ?_
  exact ⟨_, _, _, _, rfl, ((((((L2.out.set (by omega) 0 _).set (by omega) 1 _).set (by omega) 2 _).set (by omega) 3 _).set (by omega) 4 _).set (by omega) 5 _).out, (((((((Nx2.out.set (b := w.heap.size) (by omega) 0 _).set (b := w.heap.size) (by omega) 1 _).set (b := w.heap.size) (by omega) 2 _).set (b := w.heap.size) (by omega) 3 _).set (b := w.heap.size) (by omega) 4 _).set (b := w.heap.size) (by omega) 5 _)).mono (by omega)⟩

theorem retry_any (w : World) (E : En) (s : St) (d : Nat) (j : Bool) (h : PS w E s d j) (hk : s.k ≠ 0) : Calls Tryz.prog 67 #[pp E] w (NOut w E (retryP s) d j) := by
  have hk0 := Lib.hid hk
  clear hk
  have L0 := Lib.hid (Lc.start h)
  have er0 := h.lt.1
  clear h
  go_enter Tryz.func67, Tryz.ntmps67
  go_wp2_with fail
  refine (begin_any _ E s d j (L0.out.alloc _).ps 19).mono ?_
  rintro x w1 ⟨rfl, hb⟩
  have ho := Out.of_below (L0.out.alloc _).ps hb
  have L1 := Lib.hid ((L0.out.alloc _).call ho)
  have Brb1 := Lib.hid (show Bk w1 w.heap.size #[.int .i64 0, .string ⟨#[]⟩, .int .i64 0, .int .i64 0, .slice none 0 0, .slice none 0 0] 25 from Bk.gr (heap_at _ _ _ (by simp [])) ho.gr (by omega))
  have zrb1 : w.heap.size < w1.heap.size := Brb1.out.lt
  clear ho hb L0
  go_wp2_with fail
  refine (take_any _ E s d j (L1.out.alloc _).ps hk0.out).mono ?_
  rintro x w2 ⟨rfl, ho⟩
  have L2 := Lib.hid ((L1.out.alloc _).call ho)
  have Brb2 := Lib.hid (show Bk w2 w.heap.size #[.int .i64 0, .string ⟨#[]⟩, .int .i64 0, .int .i64 0, .slice none 0 0, .slice none 0 0] 25 from Bk.gr (Brb1.out.alloc _) ho.gr (by omega))
  have Bnb2 := Lib.hid (show Bk w2 w1.heap.size #[.int .i64 19, .string ⟨#[]⟩, .int .i64 0, .int .i64 (s.pl : Int), .slice none 0 0, .slice none 0 0] 25 from Bk.gr (heap_at _ _ _ (by simp [])) ho.gr (by omega))
  have zrb2 : w.heap.size < w2.heap.size := Brb2.out.lt
  have znb2 : w1.heap.size < w2.heap.size := Bnb2.out.lt
  clear ho L1 Brb1
  obtain ⟨grb0, grb1, grb2, grb3, grb4, grb5⟩ := Brb2.out.c6
  obtain ⟨frb0, frb1, frb2, frb3, frb4, frb5⟩ := Brb2.out.f6
  obtain ⟨gnb0, gnb1, gnb2, gnb3, gnb4, gnb5⟩ := Bnb2.out.c6
  obtain ⟨fnb0, fnb1, fnb2, fnb3, fnb4, fnb5⟩ := Bnb2.out.f6
  go_wp2
  refine bodyPost_ret (v := .agg #[.int .i64 19, .string ⟨#[]⟩, .int .i64 0, .int .i64 (s.pl : Int), .slice none 0 0, .slice none 0 0]) (by simp [results, Tryz.results67, go_sem, grb0, grb1, grb2, grb3, grb4, grb5]) rfl ?_
  exact ⟨_, _, _, _, rfl, ((((((L2.out.set (by omega) 0 _).set (by omega) 1 _).set (by omega) 2 _).set (by omega) 3 _).set (by omega) 4 _).set (by omega) 5 _).out, hasN_leaf _ _ _ _ _ _⟩

set_option maxHeartbeats 400000 in
theorem fun_any {L : Lev} {d : Nat} (hL : LevOK L d) (j : Bool) : NC 64 (funP L j) d j := by
  intro w E s h
  have HX := exp_any (hL.x j)
  have L0 := Lib.hid (Lc.start h)
  have er0 := h.lt.1
  clear h
  go_enter Tryz.func64, Tryz.ntmps64
  go_wp2_with fail
  refine (begin_any _ E s d j (L0.out.alloc _).ps 6).mono ?_
  rintro x w1 ⟨rfl, hb⟩
  have ho := Out.of_below (L0.out.alloc _).ps hb
  have L1 := Lib.hid ((L0.out.alloc _).call ho)
  have Brb1 := Lib.hid (show Bk w1 w.heap.size #[.int .i64 0, .string ⟨#[]⟩, .int .i64 0, .int .i64 0, .slice none 0 0, .slice none 0 0] 25 from Bk.gr (heap_at _ _ _ (by simp [])) ho.gr (by omega))
  have zrb1 : w.heap.size < w1.heap.size := Brb1.out.lt
  clear ho hb L0
  go_wp2_with fail
  refine (expect_any _ E s d j (L1.out.alloc _).ps wFun (by decide)).mono ?_
  rintro x w2 ⟨rfl, ho⟩
  have L2 := Lib.hid ((L1.out.alloc _).call ho)
  have Brb2 := Lib.hid (show Bk w2 w.heap.size #[.int .i64 0, .string ⟨#[]⟩, .int .i64 0, .int .i64 0, .slice none 0 0, .slice none 0 0] 25 from Bk.gr (Brb1.out.alloc _) ho.gr (by omega))
  have Bnb2 := Lib.hid (show Bk w2 w1.heap.size #[.int .i64 6, .string ⟨#[]⟩, .int .i64 0, .int .i64 (s.pl : Int), .slice none 0 0, .slice none 0 0] 25 from Bk.gr (heap_at _ _ _ (by simp [])) ho.gr (by omega))
  have zrb2 : w.heap.size < w2.heap.size := Brb2.out.lt
  have znb2 : w1.heap.size < w2.heap.size := Bnb2.out.lt
  clear ho L1 Brb1
  go_wp2_with fail
  refine (name_any _ E (expect wFun s) d j L2.out.ps).mono ?_
  rintro x w3 ⟨rfl, ho⟩
  have L3 := Lib.hid (L2.out.call ho)
  have Brb3 := Lib.hid (show Bk w3 w.heap.size #[.int .i64 0, .string ⟨#[]⟩, .int .i64 0, .int .i64 0, .slice none 0 0, .slice none 0 0] 25 from Bk.gr Brb2.out ho.gr (by omega))
  have Bnb3 := Lib.hid (show Bk w3 w1.heap.size #[.int .i64 6, .string ⟨#[]⟩, .int .i64 0, .int .i64 (s.pl : Int), .slice none 0 0, .slice none 0 0] 25 from Bk.gr Bnb2.out ho.gr (by omega))
  have zrb3 : w.heap.size < w3.heap.size := Brb3.out.lt
  have znb3 : w1.heap.size < w3.heap.size := Bnb3.out.lt
  clear ho L2 Brb2 Bnb2
  obtain ⟨gnb0, gnb1, gnb2, gnb3, gnb4, gnb5⟩ := Bnb3.out.c6
  obtain ⟨fnb0, fnb1, fnb2, fnb3, fnb4, fnb5⟩ := Bnb3.out.f6
  go_wp2_with fail
  refine (expect_any _ E (text 3 (expect wFun s)).2 d j (L3.out.set (by omega) 1 _).ps wArrow (by decide)).mono ?_
  rintro x w4 ⟨rfl, ho⟩
  have L4 := Lib.hid ((L3.out.set (by omega) 1 _).call ho)
  have Brb4 := Lib.hid (show Bk w4 w.heap.size #[.int .i64 0, .string ⟨#[]⟩, .int .i64 0, .int .i64 0, .slice none 0 0, .slice none 0 0] 25 from Bk.gr (Brb3.out.other (b' := w1.heap.size) (by omega) 1 _) ho.gr (by omega))
  have Bnb4 := Lib.hid (show Bk w4 w1.heap.size #[.int .i64 6, .string ⟨(text 3 (expect wFun s)).1.toArray⟩, .int .i64 0, .int .i64 (s.pl : Int), .slice none 0 0, .slice none 0 0] 25 from Bk.gr (Bnb3.out.set 1 _) ho.gr (by omega))
  have zrb4 : w.heap.size < w4.heap.size := Brb4.out.lt
  have znb4 : w1.heap.size < w4.heap.size := Bnb4.out.lt
  clear ho L3 Brb3 Bnb3 gnb0 gnb1 gnb2 gnb3 gnb4 gnb5 fnb0 fnb1 fnb2 fnb3 fnb4 fnb5
  go_wp2_with fail
  refine (HX _ E (expect wArrow (text 3 (expect wFun s)).2) L4.out.ps).mono ?_
  rintro x w5 ⟨ao5, ac5, bo5, bc5, rfl, ho, hN⟩
  have L5 := Lib.hid (L4.out.call ho)
  have Brb5 := Lib.hid (show Bk w5 w.heap.size #[.int .i64 0, .string ⟨#[]⟩, .int .i64 0, .int .i64 0, .slice none 0 0, .slice none 0 0] 25 from Bk.gr Brb4.out ho.gr (by omega))
  have Bnb5 := Lib.hid (show Bk w5 w1.heap.size #[.int .i64 6, .string ⟨(text 3 (expect wFun s)).1.toArray⟩, .int .i64 0, .int .i64 (s.pl : Int), .slice none 0 0, .slice none 0 0] 25 from Bk.gr Bnb4.out ho.gr (by omega))
  have zrb5 : w.heap.size < w5.heap.size := Brb5.out.lt
  have znb5 : w1.heap.size < w5.heap.size := Bnb5.out.lt
  have Nx5 := Lib.hid (show Hn w5 w4.heap.size ((L.x j (expect wArrow (text 3 (expect wFun s)).2)).1) (.slice ao5 ((L.x j (expect wArrow (text 3 (expect wFun s)).2)).1).names.length ac5, .slice bo5 ((L.x j (expect wArrow (text 3 (expect wFun s)).2)).1).kids.length bc5) from hN.mono (by simp []))
  clear ho hN L4 Brb4 Bnb4
  obtain ⟨grb0, grb1, grb2, grb3, grb4, grb5⟩ := Brb5.out.c6
  obtain ⟨frb0, frb1, frb2, frb3, frb4, frb5⟩ := Brb5.out.f6
  obtain ⟨gnb0, gnb1, gnb2, gnb3, gnb4, gnb5⟩ := Bnb5.out.c6
  obtain ⟨fnb0, fnb1, fnb2, fnb3, fnb4, fnb5⟩ := Bnb5.out.f6
  go_wp2
  refine bodyPost_ret (v := .agg #[.int .i64 6, .string ⟨(text 3 (expect wFun s)).1.toArray⟩, .int .i64 0, .int .i64 (s.pl : Int), .slice none 0 0, .slice (some ⟨w5.heap.size, 0, none⟩) 1 1]) (by simp [results, Tryz.results64, go_sem, grb0, grb1, grb2, grb3, grb4, grb5, zrb5]) rfl ?_
  exact ⟨_, _, _, _, rfl, ((((((((L5.out.set (by omega) 5 _).set (by omega) 0 _).set (by omega) 1 _).set (by omega) 2 _).set (by omega) 3 _).set (by omega) 4 _).set (by omega) 5 _).alloc _).out, ((Kd.made (((((((Nx5.out.set (b := w1.heap.size) (by omega) 5 _).set (b := w.heap.size) (by omega) 0 _).set (b := w.heap.size) (by omega) 1 _).set (b := w.heap.size) (by omega) 2 _).set (b := w.heap.size) (by omega) 3 _).set (b := w.heap.size) (by omega) 4 _).set (b := w.heap.size) (by omega) 5 _) (base := w.heap.size) (by omega) (by simp []; omega) (by simp []) _ rfl).has 6 _ 0 _)⟩

end Go.Proofs.YtlcapkgbbgpdmaaGreatDoor.PH

/- What a name is to mean; an exp with it. -/
namespace Go.Proofs.YtlcapkgbbgpdmaaGreatDoor.PI
open Go.RowKit Go.Proofs.YtlcapkgbbgpdmaaGreatDoor.P Go.Proofs.YtlcapkgbbgpdmaaGreatDoor.A Go.Proofs.YtlcapkgbbgpdmaaGreatDoor.TK Go.Proofs.YtlcapkgbbgpdmaaGreatDoor.TO Go.Proofs.YtlcapkgbbgpdmaaGreatDoor.GR Go.Proofs.YtlcapkgbbgpdmaaGreatDoor.MP Go.Proofs.YtlcapkgbbgpdmaaGreatDoor.YR Go.Proofs.YtlcapkgbbgpdmaaGreatDoor.PN Go.Proofs.YtlcapkgbbgpdmaaGreatDoor.PS Go.Proofs.YtlcapkgbbgpdmaaGreatDoor.PA Go.Proofs.YtlcapkgbbgpdmaaGreatDoor.PB Go.Proofs.YtlcapkgbbgpdmaaGreatDoor.PC Go.Proofs.YtlcapkgbbgpdmaaGreatDoor.PD Go.Proofs.YtlcapkgbbgpdmaaGreatDoor.PE Go.Proofs.YtlcapkgbbgpdmaaGreatDoor.PF Go.Proofs.YtlcapkgbbgpdmaaGreatDoor.PG Go.Proofs.YtlcapkgbbgpdmaaGreatDoor.PH
set_option linter.unusedVariables false
set_option maxRecDepth 100000

/-- A bind's answer: its value is a row of one that it owns. -/
def BOut (w : World) (E : En) (r : Tree × St) (d : Nat) (j : Bool) (x : Ending) (w' : World) : Prop :=
  ∃ g v q, x = .returned (.agg #[.int .i64 (r.1.kind : Int), .string ⟨r.1.text.toArray⟩, .int .i64 0, .int .i64 (r.1.pl : Int), .slice none 0 0, .slice (some ⟨g, 0, none⟩) 1 1]) ∧ Out w E r.2 d j w' ∧
    r.1 = .node r.1.kind r.1.text [] [v] 0 r.1.pl ∧ Kd w' w.heap.size (.slice (some ⟨g, 0, none⟩) 1 1) [v] [q]
theorem BOut.nout {w : World} {E : En} {r : Tree × St} {d : Nat} {j : Bool} {x : Ending} {w' : World} (h : BOut w E r d j x w') : NOut w E r d j x w' := by
  obtain ⟨g, v, q, rfl, ho, hr, hk⟩ := h
  have hh := hk.has r.1.kind r.1.text 0 r.1.pl
  rw [← hr] at hh
  have e1 : r.1.num = 0 := by rw [hr]; rfl
  have e2 : r.1.names.length = 0 := by rw [hr]; rfl
  have e3 : r.1.kids.length = 1 := by rw [hr]; rfl
  refine ⟨none, 0, some ⟨g, 0, none⟩, 1, ?_, ho, ?_⟩
  · rw [e1, e2, e3]; rfl
  · rw [e2, e3]; exact hh

set_option maxHeartbeats 1000000 in
theorem bind_rec {L : Lev} {d : Nat} (hL : LevOK L d) (j : Bool) (k1 k2 : Nat) : ∀ w E s, PS w E s d j → (expect wLet s).is wRec = true → Calls Tryz.prog 97 #[pp E, .int .i64 (k1 : Int), .int .i64 (k2 : Int)] w (BOut w E (bindP L j k1 k2 s) d j) := by
  intro w E s h his
  have his0 := Lib.hid his
  have HA := fun W hW => accept_any W E (expect wLet s) d j hW wRec (by decide)
  rw [his] at HA
  clear his
  have L0 := Lib.hid (Lc.start h)
  have er0 := h.lt.1
  clear h
  go_enter Tryz.func97, Tryz.ntmps97
  go_wp2_with fail
  refine (begin_any _ E s d j (L0.out.alloc _).ps k1).mono ?_
  rintro x w1 ⟨rfl, hb⟩
  have ho := Out.of_below (L0.out.alloc _).ps hb
  have L1 := Lib.hid ((L0.out.alloc _).call ho)
  have Brb1 := Lib.hid (show Bk w1 w.heap.size #[.int .i64 0, .string ⟨#[]⟩, .int .i64 0, .int .i64 0, .slice none 0 0, .slice none 0 0] 25 from Bk.gr (heap_at _ _ _ (by simp [])) ho.gr (by omega))
  have zrb1 : w.heap.size < w1.heap.size := Brb1.out.lt
  clear ho hb L0
  go_wp2_with fail
  refine (expect_any _ E s d j (L1.out.alloc _).ps wLet (by decide)).mono ?_
  rintro x w2 ⟨rfl, ho⟩
  have L2 := Lib.hid ((L1.out.alloc _).call ho)
  have Brb2 := Lib.hid (show Bk w2 w.heap.size #[.int .i64 0, .string ⟨#[]⟩, .int .i64 0, .int .i64 0, .slice none 0 0, .slice none 0 0] 25 from Bk.gr (Brb1.out.alloc _) ho.gr (by omega))
  have Bnb2 := Lib.hid (show Bk w2 w1.heap.size #[.int .i64 (k1 : Int), .string ⟨#[]⟩, .int .i64 0, .int .i64 (s.pl : Int), .slice none 0 0, .slice none 0 0] 25 from Bk.gr (heap_at _ _ _ (by simp [])) ho.gr (by omega))
  have zrb2 : w.heap.size < w2.heap.size := Brb2.out.lt
  have znb2 : w1.heap.size < w2.heap.size := Bnb2.out.lt
  clear ho L1 Brb1
  go_wp2_with fail
  refine (HA _ L2.out.ps).mono ?_
  rintro x w3 ⟨rfl, ho⟩
  have L3 := Lib.hid (L2.out.call ho)
  have Brb3 := Lib.hid (show Bk w3 w.heap.size #[.int .i64 0, .string ⟨#[]⟩, .int .i64 0, .int .i64 0, .slice none 0 0, .slice none 0 0] 25 from Bk.gr Brb2.out ho.gr (by omega))
  have Bnb3 := Lib.hid (show Bk w3 w1.heap.size #[.int .i64 (k1 : Int), .string ⟨#[]⟩, .int .i64 0, .int .i64 (s.pl : Int), .slice none 0 0, .slice none 0 0] 25 from Bk.gr Bnb2.out ho.gr (by omega))
  have zrb3 : w.heap.size < w3.heap.size := Brb3.out.lt
  have znb3 : w1.heap.size < w3.heap.size := Bnb3.out.lt
  clear ho L2 Brb2 Bnb2
  obtain ⟨gnb0, gnb1, gnb2, gnb3, gnb4, gnb5⟩ := Bnb3.out.c6
  obtain ⟨fnb0, fnb1, fnb2, fnb3, fnb4, fnb5⟩ := Bnb3.out.f6
  go_wp2_with fail
  refine (name_any _ E (accept wRec (expect wLet s)).2 d j (L3.out.set (by omega) 0 _).ps).mono ?_
  rintro x w4 ⟨rfl, ho⟩
  have L4 := Lib.hid ((L3.out.set (by omega) 0 _).call ho)
  have Brb4 := Lib.hid (show Bk w4 w.heap.size #[.int .i64 0, .string ⟨#[]⟩, .int .i64 0, .int .i64 0, .slice none 0 0, .slice none 0 0] 25 from Bk.gr (Brb3.out.other (b' := w1.heap.size) (by omega) 0 _) ho.gr (by omega))
  have Bnb4 := Lib.hid (show Bk w4 w1.heap.size #[.int .i64 (k2 : Int), .string ⟨#[]⟩, .int .i64 0, .int .i64 (s.pl : Int), .slice none 0 0, .slice none 0 0] 25 from Bk.gr (Bnb3.out.set 0 _) ho.gr (by omega))
  have zrb4 : w.heap.size < w4.heap.size := Brb4.out.lt
  have znb4 : w1.heap.size < w4.heap.size := Bnb4.out.lt
  clear ho L3 Brb3 Bnb3 gnb0 gnb1 gnb2 gnb3 gnb4 gnb5 fnb0 fnb1 fnb2 fnb3 fnb4 fnb5
  obtain ⟨gnb0, gnb1, gnb2, gnb3, gnb4, gnb5⟩ := Bnb4.out.c6
  obtain ⟨fnb0, fnb1, fnb2, fnb3, fnb4, fnb5⟩ := Bnb4.out.f6
  go_wp2_with fail
  refine (expect_any _ E (text 3 (accept wRec (expect wLet s)).2).2 d j (L4.out.set (by omega) 1 _).ps [61] (by decide)).mono ?_
  rintro x w5 ⟨rfl, ho⟩
  have L5 := Lib.hid ((L4.out.set (by omega) 1 _).call ho)
  have Brb5 := Lib.hid (show Bk w5 w.heap.size #[.int .i64 0, .string ⟨#[]⟩, .int .i64 0, .int .i64 0, .slice none 0 0, .slice none 0 0] 25 from Bk.gr (Brb4.out.other (b' := w1.heap.size) (by omega) 1 _) ho.gr (by omega))
  have Bnb5 := Lib.hid (show Bk w5 w1.heap.size #[.int .i64 (k2 : Int), .string ⟨(text 3 (accept wRec (expect wLet s)).2).1.toArray⟩, .int .i64 0, .int .i64 (s.pl : Int), .slice none 0 0, .slice none 0 0] 25 from Bk.gr (Bnb4.out.set 1 _) ho.gr (by omega))
  have zrb5 : w.heap.size < w5.heap.size := Brb5.out.lt
  have znb5 : w1.heap.size < w5.heap.size := Bnb5.out.lt
  clear ho L4 Brb4 Bnb4 gnb0 gnb1 gnb2 gnb3 gnb4 gnb5 fnb0 fnb1 fnb2 fnb3 fnb4 fnb5
  go_wp2_with fail
  refine (hL.f j _ E (expect [61] (text 3 (accept wRec (expect wLet s)).2).2) L5.out.ps).mono ?_
  rintro x w6 ⟨ao6, ac6, bo6, bc6, rfl, ho, hN⟩
  have L6 := Lib.hid (L5.out.call ho)
  have Brb6 := Lib.hid (show Bk w6 w.heap.size #[.int .i64 0, .string ⟨#[]⟩, .int .i64 0, .int .i64 0, .slice none 0 0, .slice none 0 0] 25 from Bk.gr Brb5.out ho.gr (by omega))
  have Bnb6 := Lib.hid (show Bk w6 w1.heap.size #[.int .i64 (k2 : Int), .string ⟨(text 3 (accept wRec (expect wLet s)).2).1.toArray⟩, .int .i64 0, .int .i64 (s.pl : Int), .slice none 0 0, .slice none 0 0] 25 from Bk.gr Bnb5.out ho.gr (by omega))
  have zrb6 : w.heap.size < w6.heap.size := Brb6.out.lt
  have znb6 : w1.heap.size < w6.heap.size := Bnb6.out.lt
  have Nx6 := Lib.hid (show Hn w6 w5.heap.size ((L.f j (expect [61] (text 3 (accept wRec (expect wLet s)).2).2)).1) (.slice ao6 ((L.f j (expect [61] (text 3 (accept wRec (expect wLet s)).2).2)).1).names.length ac6, .slice bo6 ((L.f j (expect [61] (text 3 (accept wRec (expect wLet s)).2).2)).1).kids.length bc6) from hN.mono (by simp []))
  clear ho hN L5 Brb5 Bnb5
  obtain ⟨grb0, grb1, grb2, grb3, grb4, grb5⟩ := Brb6.out.c6
  obtain ⟨frb0, frb1, frb2, frb3, frb4, frb5⟩ := Brb6.out.f6
  obtain ⟨gnb0, gnb1, gnb2, gnb3, gnb4, gnb5⟩ := Bnb6.out.c6
  obtain ⟨fnb0, fnb1, fnb2, fnb3, fnb4, fnb5⟩ := Bnb6.out.f6
  go_wp2
  refine bodyPost_ret (v := .agg #[.int .i64 (k2 : Int), .string ⟨(text 3 (accept wRec (expect wLet s)).2).1.toArray⟩, .int .i64 0, .int .i64 (s.pl : Int), .slice none 0 0, .slice (some ⟨w6.heap.size, 0, none⟩) 1 1]) (by simp [results, Tryz.results97, go_sem, grb0, grb1, grb2, grb3, grb4, grb5, zrb6]) rfl ?_
  have ha : (accept wRec (expect wLet s)).1 = true := by unfold accept; rw [his0.out]; rfl
  have hr : bindP L j k1 k2 s = (.node k2 (text 3 (accept wRec (expect wLet s)).2).1 [] [(L.f j (expect [61] (text 3 (accept wRec (expect wLet s)).2).2)).1] 0 s.pl, (L.f j (expect [61] (text 3 (accept wRec (expect wLet s)).2).2)).2) := by simp only [bindP, ha, if_true]
  rw [hr]
  exact ⟨_, _, _, rfl, ((((((((L6.out.set (by omega) 5 _).set (by omega) 0 _).set (by omega) 1 _).set (by omega) 2 _).set (by omega) 3 _).set (by omega) 4 _).set (by omega) 5 _).alloc _).out, rfl, Kd.made (((((((Nx6.out.set (b := w1.heap.size) (by omega) 5 _).set (b := w.heap.size) (by omega) 0 _).set (b := w.heap.size) (by omega) 1 _).set (b := w.heap.size) (by omega) 2 _).set (b := w.heap.size) (by omega) 3 _).set (b := w.heap.size) (by omega) 4 _).set (b := w.heap.size) (by omega) 5 _) (base := w.heap.size) (by omega) (by simp []; omega) (by simp []) _ rfl⟩

set_option maxHeartbeats 1000000 in
theorem bind_plain {L : Lev} {d : Nat} (hL : LevOK L d) (j : Bool) (k1 k2 : Nat) : ∀ w E s, PS w E s d j → (expect wLet s).is wRec = false → Calls Tryz.prog 97 #[pp E, .int .i64 (k1 : Int), .int .i64 (k2 : Int)] w (BOut w E (bindP L j k1 k2 s) d j) := by
  intro w E s h his
  have his0 := Lib.hid his
  have HA := fun W hW => accept_any W E (expect wLet s) d j hW wRec (by decide)
  rw [his] at HA
  clear his
  have L0 := Lib.hid (Lc.start h)
  have er0 := h.lt.1
  clear h
  go_enter Tryz.func97, Tryz.ntmps97
  go_wp2_with fail
  refine (begin_any _ E s d j (L0.out.alloc _).ps k1).mono ?_
  rintro x w1 ⟨rfl, hb⟩
  have ho := Out.of_below (L0.out.alloc _).ps hb
  have L1 := Lib.hid ((L0.out.alloc _).call ho)
  have Brb1 := Lib.hid (show Bk w1 w.heap.size #[.int .i64 0, .string ⟨#[]⟩, .int .i64 0, .int .i64 0, .slice none 0 0, .slice none 0 0] 25 from Bk.gr (heap_at _ _ _ (by simp [])) ho.gr (by omega))
  have zrb1 : w.heap.size < w1.heap.size := Brb1.out.lt
  clear ho hb L0
  go_wp2_with fail
  refine (expect_any _ E s d j (L1.out.alloc _).ps wLet (by decide)).mono ?_
  rintro x w2 ⟨rfl, ho⟩
  have L2 := Lib.hid ((L1.out.alloc _).call ho)
  have Brb2 := Lib.hid (show Bk w2 w.heap.size #[.int .i64 0, .string ⟨#[]⟩, .int .i64 0, .int .i64 0, .slice none 0 0, .slice none 0 0] 25 from Bk.gr (Brb1.out.alloc _) ho.gr (by omega))
  have Bnb2 := Lib.hid (show Bk w2 w1.heap.size #[.int .i64 (k1 : Int), .string ⟨#[]⟩, .int .i64 0, .int .i64 (s.pl : Int), .slice none 0 0, .slice none 0 0] 25 from Bk.gr (heap_at _ _ _ (by simp [])) ho.gr (by omega))
  have zrb2 : w.heap.size < w2.heap.size := Brb2.out.lt
  have znb2 : w1.heap.size < w2.heap.size := Bnb2.out.lt
  clear ho L1 Brb1
  go_wp2_with fail
  refine (HA _ L2.out.ps).mono ?_
  rintro x w3 ⟨rfl, ho⟩
  have L3 := Lib.hid (L2.out.call ho)
  have Brb3 := Lib.hid (show Bk w3 w.heap.size #[.int .i64 0, .string ⟨#[]⟩, .int .i64 0, .int .i64 0, .slice none 0 0, .slice none 0 0] 25 from Bk.gr Brb2.out ho.gr (by omega))
  have Bnb3 := Lib.hid (show Bk w3 w1.heap.size #[.int .i64 (k1 : Int), .string ⟨#[]⟩, .int .i64 0, .int .i64 (s.pl : Int), .slice none 0 0, .slice none 0 0] 25 from Bk.gr Bnb2.out ho.gr (by omega))
  have zrb3 : w.heap.size < w3.heap.size := Brb3.out.lt
  have znb3 : w1.heap.size < w3.heap.size := Bnb3.out.lt
  clear ho L2 Brb2 Bnb2
  obtain ⟨gnb0, gnb1, gnb2, gnb3, gnb4, gnb5⟩ := Bnb3.out.c6
  obtain ⟨fnb0, fnb1, fnb2, fnb3, fnb4, fnb5⟩ := Bnb3.out.f6
  go_wp2_with fail
  refine (name_any _ E (accept wRec (expect wLet s)).2 d j L3.out.ps).mono ?_
  rintro x w4 ⟨rfl, ho⟩
  have L4 := Lib.hid (L3.out.call ho)
  have Brb4 := Lib.hid (show Bk w4 w.heap.size #[.int .i64 0, .string ⟨#[]⟩, .int .i64 0, .int .i64 0, .slice none 0 0, .slice none 0 0] 25 from Bk.gr Brb3.out ho.gr (by omega))
  have Bnb4 := Lib.hid (show Bk w4 w1.heap.size #[.int .i64 (k1 : Int), .string ⟨#[]⟩, .int .i64 0, .int .i64 (s.pl : Int), .slice none 0 0, .slice none 0 0] 25 from Bk.gr Bnb3.out ho.gr (by omega))
  have zrb4 : w.heap.size < w4.heap.size := Brb4.out.lt
  have znb4 : w1.heap.size < w4.heap.size := Bnb4.out.lt
  clear ho L3 Brb3 Bnb3 gnb0 gnb1 gnb2 gnb3 gnb4 gnb5 fnb0 fnb1 fnb2 fnb3 fnb4 fnb5
  obtain ⟨gnb0, gnb1, gnb2, gnb3, gnb4, gnb5⟩ := Bnb4.out.c6
  obtain ⟨fnb0, fnb1, fnb2, fnb3, fnb4, fnb5⟩ := Bnb4.out.f6
  go_wp2_with fail
  refine (expect_any _ E (text 3 (accept wRec (expect wLet s)).2).2 d j (L4.out.set (by omega) 1 _).ps [61] (by decide)).mono ?_
  rintro x w5 ⟨rfl, ho⟩
  have L5 := Lib.hid ((L4.out.set (by omega) 1 _).call ho)
  have Brb5 := Lib.hid (show Bk w5 w.heap.size #[.int .i64 0, .string ⟨#[]⟩, .int .i64 0, .int .i64 0, .slice none 0 0, .slice none 0 0] 25 from Bk.gr (Brb4.out.other (b' := w1.heap.size) (by omega) 1 _) ho.gr (by omega))
  have Bnb5 := Lib.hid (show Bk w5 w1.heap.size #[.int .i64 (k1 : Int), .string ⟨(text 3 (accept wRec (expect wLet s)).2).1.toArray⟩, .int .i64 0, .int .i64 (s.pl : Int), .slice none 0 0, .slice none 0 0] 25 from Bk.gr (Bnb4.out.set 1 _) ho.gr (by omega))
  have zrb5 : w.heap.size < w5.heap.size := Brb5.out.lt
  have znb5 : w1.heap.size < w5.heap.size := Bnb5.out.lt
  clear ho L4 Brb4 Bnb4 gnb0 gnb1 gnb2 gnb3 gnb4 gnb5 fnb0 fnb1 fnb2 fnb3 fnb4 fnb5
  go_wp2_with fail
  refine (hL.x j _ E (expect [61] (text 3 (accept wRec (expect wLet s)).2).2) L5.out.ps).mono ?_
  rintro x w6 ⟨ao6, ac6, bo6, bc6, rfl, ho, hN⟩
  have L6 := Lib.hid (L5.out.call ho)
  have Brb6 := Lib.hid (show Bk w6 w.heap.size #[.int .i64 0, .string ⟨#[]⟩, .int .i64 0, .int .i64 0, .slice none 0 0, .slice none 0 0] 25 from Bk.gr Brb5.out ho.gr (by omega))
  have Bnb6 := Lib.hid (show Bk w6 w1.heap.size #[.int .i64 (k1 : Int), .string ⟨(text 3 (accept wRec (expect wLet s)).2).1.toArray⟩, .int .i64 0, .int .i64 (s.pl : Int), .slice none 0 0, .slice none 0 0] 25 from Bk.gr Bnb5.out ho.gr (by omega))
  have zrb6 : w.heap.size < w6.heap.size := Brb6.out.lt
  have znb6 : w1.heap.size < w6.heap.size := Bnb6.out.lt
  have Nx6 := Lib.hid (show Hn w6 w5.heap.size ((L.x j (expect [61] (text 3 (accept wRec (expect wLet s)).2).2)).1) (.slice ao6 ((L.x j (expect [61] (text 3 (accept wRec (expect wLet s)).2).2)).1).names.length ac6, .slice bo6 ((L.x j (expect [61] (text 3 (accept wRec (expect wLet s)).2).2)).1).kids.length bc6) from hN.mono (by simp []))
  clear ho hN L5 Brb5 Bnb5
  obtain ⟨grb0, grb1, grb2, grb3, grb4, grb5⟩ := Brb6.out.c6
  obtain ⟨frb0, frb1, frb2, frb3, frb4, frb5⟩ := Brb6.out.f6
  obtain ⟨gnb0, gnb1, gnb2, gnb3, gnb4, gnb5⟩ := Bnb6.out.c6
  obtain ⟨fnb0, fnb1, fnb2, fnb3, fnb4, fnb5⟩ := Bnb6.out.f6
  go_wp2
  refine bodyPost_ret (v := .agg #[.int .i64 (k1 : Int), .string ⟨(text 3 (accept wRec (expect wLet s)).2).1.toArray⟩, .int .i64 0, .int .i64 (s.pl : Int), .slice none 0 0, .slice (some ⟨w6.heap.size, 0, none⟩) 1 1]) (by simp [results, Tryz.results97, go_sem, grb0, grb1, grb2, grb3, grb4, grb5, zrb6]) rfl ?_
  have ha : (accept wRec (expect wLet s)).1 = false := by unfold accept; rw [his0.out]; rfl
  have hr : bindP L j k1 k2 s = (.node k1 (text 3 (accept wRec (expect wLet s)).2).1 [] [(L.x j (expect [61] (text 3 (accept wRec (expect wLet s)).2).2)).1] 0 s.pl, (L.x j (expect [61] (text 3 (accept wRec (expect wLet s)).2).2)).2) := by simp only [bindP, ha, Bool.false_eq_true, if_false]
  rw [hr]
  exact ⟨_, _, _, rfl, ((((((((L6.out.set (by omega) 5 _).set (by omega) 0 _).set (by omega) 1 _).set (by omega) 2 _).set (by omega) 3 _).set (by omega) 4 _).set (by omega) 5 _).alloc _).out, rfl, Kd.made (((((((Nx6.out.set (b := w1.heap.size) (by omega) 5 _).set (b := w.heap.size) (by omega) 0 _).set (b := w.heap.size) (by omega) 1 _).set (b := w.heap.size) (by omega) 2 _).set (b := w.heap.size) (by omega) 3 _).set (b := w.heap.size) (by omega) 4 _).set (b := w.heap.size) (by omega) 5 _) (base := w.heap.size) (by omega) (by simp []; omega) (by simp []) _ rfl⟩

theorem bind_any {L : Lev} {d : Nat} (hL : LevOK L d) (j : Bool) (k1 k2 : Nat) (w : World) (E : En) (s : St) (h : PS w E s d j) : Calls Tryz.prog 97 #[pp E, .int .i64 (k1 : Int), .int .i64 (k2 : Int)] w (BOut w E (bindP L j k1 k2 s) d j) := by
  cases his : (expect wLet s).is wRec with
  | true => exact bind_rec hL j k1 k2 w E s h his
  | false => exact bind_plain hL j k1 k2 w E s h his
end Go.Proofs.YtlcapkgbbgpdmaaGreatDoor.PI

/- let. -/
namespace Go.Proofs.YtlcapkgbbgpdmaaGreatDoor.PJ
open Go.RowKit Go.Proofs.YtlcapkgbbgpdmaaGreatDoor.P Go.Proofs.YtlcapkgbbgpdmaaGreatDoor.A Go.Proofs.YtlcapkgbbgpdmaaGreatDoor.TK Go.Proofs.YtlcapkgbbgpdmaaGreatDoor.TO Go.Proofs.YtlcapkgbbgpdmaaGreatDoor.GR Go.Proofs.YtlcapkgbbgpdmaaGreatDoor.MP Go.Proofs.YtlcapkgbbgpdmaaGreatDoor.YR Go.Proofs.YtlcapkgbbgpdmaaGreatDoor.PN Go.Proofs.YtlcapkgbbgpdmaaGreatDoor.PS Go.Proofs.YtlcapkgbbgpdmaaGreatDoor.PA Go.Proofs.YtlcapkgbbgpdmaaGreatDoor.PB Go.Proofs.YtlcapkgbbgpdmaaGreatDoor.PC Go.Proofs.YtlcapkgbbgpdmaaGreatDoor.PD Go.Proofs.YtlcapkgbbgpdmaaGreatDoor.PE Go.Proofs.YtlcapkgbbgpdmaaGreatDoor.PF Go.Proofs.YtlcapkgbbgpdmaaGreatDoor.PG Go.Proofs.YtlcapkgbbgpdmaaGreatDoor.PH Go.Proofs.YtlcapkgbbgpdmaaGreatDoor.PI
set_option linter.unusedVariables false
set_option maxRecDepth 100000
attribute [local go_sem ↓] Go.wp_at_zero Go.wp_at_succ

set_option maxHeartbeats 1000000 in
theorem let_any {L : Lev} {d : Nat} (hL : LevOK L d) (j : Bool) : NC 63 (letP L j) d j := by
  intro w E s h
  have HX := exp_any (hL.x j)
  have L0 := Lib.hid (Lc.start h)
  have er0 := h.lt.1
  clear h
  go_enter Tryz.func63, Tryz.ntmps63
  go_wp2_with fail
  refine (bind_any hL j 8 9 _ E s (L0.out.alloc _).ps).mono ?_
  rintro x w1 ⟨g, v, q, rfl, ho, hr, hK⟩
  have L1 := Lib.hid ((L0.out.alloc _).call ho)
  have Brb1 := Lib.hid (show Bk w1 w.heap.size #[.int .i64 0, .string ⟨#[]⟩, .int .i64 0, .int .i64 0, .slice none 0 0, .slice none 0 0] 25 from Bk.gr (heap_at _ _ _ (by simp [])) ho.gr (by omega))
  have zrb1 : w.heap.size < w1.heap.size := Brb1.out.lt
  have hsz : (w.alloc (.cells #[.int .i64 0, .string ⟨#[]⟩, .int .i64 0, .int .i64 0, .slice none 0 0, .slice none 0 0] 25)).heap.size = w.heap.size + 1 := by simp
  rw [hsz] at hK
  have K1 := Lib.hid (hK.ka (Nat.le_refl _))
  clear hsz
  have HR := Lib.hid hr
  clear ho hK hr L0
  go_wp2_with fail
  have K1b := Lib.hid (Ka.alloc K1.out (.cells #[.int .i64 ((bindP L j 8 9 s).1.kind : Int), .string ⟨(bindP L j 8 9 s).1.text.toArray⟩, .int .i64 0, .int .i64 ((bindP L j 8 9 s).1.pl : Int), .slice none 0 0, .slice (some ⟨g, 0, none⟩) 1 1] 25))
  refine (expect_any _ E (bindP L j 8 9 s).2 d j (L1.out.alloc _).ps wIn (by decide)).mono ?_
  rintro x w2 ⟨rfl, ho⟩
  have L2 := Lib.hid ((L1.out.alloc _).call ho)
  have Brb2 := Lib.hid (show Bk w2 w.heap.size #[.int .i64 0, .string ⟨#[]⟩, .int .i64 0, .int .i64 0, .slice none 0 0, .slice none 0 0] 25 from Bk.gr (Brb1.out.alloc _) ho.gr (by omega))
  have Bnb2 := Lib.hid (show Bk w2 w1.heap.size #[.int .i64 ((bindP L j 8 9 s).1.kind : Int), .string ⟨(bindP L j 8 9 s).1.text.toArray⟩, .int .i64 0, .int .i64 ((bindP L j 8 9 s).1.pl : Int), .slice none 0 0, .slice (some ⟨g, 0, none⟩) 1 1] 25 from Bk.gr (heap_at _ _ _ (by simp [])) ho.gr (by omega))
  have zrb2 : w.heap.size < w2.heap.size := Brb2.out.lt
  have znb2 : w1.heap.size < w2.heap.size := Bnb2.out.lt
  have K2 := Lib.hid (Ka.gr K1b.out ho.gr (by omega))
  clear ho L1 Brb1
  obtain ⟨gnb0, gnb1, gnb2, gnb3, gnb4, gnb5⟩ := Bnb2.out.c6
  obtain ⟨fnb0, fnb1, fnb2, fnb3, fnb4, fnb5⟩ := Bnb2.out.f6
  go_wp2
  go_region_law (first
    | (refine step_kid w3 (.tmp 9) (.tmp 12) (w.heap.size + 1) w1.heap.size 1 w2.heap.size (.slice (some ⟨g, 0, none⟩) 1 1) [v] [q] ((L.x j (expect wIn (bindP L j 8 9 s).2)).1) (.slice ao3 ((L.x j (expect wIn (bindP L j 8 9 s).2)).1).names.length ac3, .slice bo3 ((L.x j (expect wIn (bindP L j 8 9 s).2)).1).kids.length bc3) _ (by rfl) (by rfl) (by rfl) (by rfl) K3.out Nx3.out rfl (by decide) p1 p5.out p2 p3 znb3 rfl ?_; intro gg3 cp3 w3a hka hgrow; have L3a := Lib.hid (Lc.grown (L3.out.alloc _) hgrow (fun k hk => by have := (K3.out.1.lt k hk).1; omega)); have K3a := Lib.hid hka; have Brb3a := Lib.hid (show Bk w3a w.heap.size #[.int .i64 0, .string ⟨#[]⟩, .int .i64 0, .int .i64 0, .slice none 0 0, .slice none 0 0] 25 from Bk.grown (Bk.alloc Brb3.out _) hgrow (fun e => by have := (K3.out.1.lt _ e).1; omega)); have zrb3a := Brb3a.out.lt; have Bnb3a := Lib.hid (show Bk w3a w1.heap.size #[.int .i64 ((bindP L j 8 9 s).1.kind : Int), .string ⟨(bindP L j 8 9 s).1.text.toArray⟩, .int .i64 0, .int .i64 ((bindP L j 8 9 s).1.pl : Int), .slice none 0 0, .slice (some ⟨g, 0, none⟩) 1 1] 25 from Bk.grown (Bk.alloc Bnb3.out _) hgrow (Ka.alloc K3.out (.cells #[] 0)).2.1); have znb3a := Bnb3a.out.lt; obtain ⟨e0, e1, e2, e3, e4, e5⟩ := Bnb3a.out.c6; obtain ⟨h0, h1, h2, h3, h4, h5⟩ := Bnb3a.out.f6; clear hka hgrow)
    | (go_simp; go_at_call 75; refine (HX _ E (expect wIn (bindP L j 8 9 s).2) L2.out.drew.ps).mono ?_; rintro x w3 ⟨ao3, ac3, bo3, bc3, rfl, ho, hN⟩; have L3 := Lib.hid (L2.out.drew.call ho); have Brb3 := Lib.hid (show Bk w3 w.heap.size #[.int .i64 0, .string ⟨#[]⟩, .int .i64 0, .int .i64 0, .slice none 0 0, .slice none 0 0] 25 from Bk.gr Brb2.out.drew ho.gr (by omega)); have zrb3 : w.heap.size < w3.heap.size := Brb3.out.lt; have Bnb3 := Lib.hid (show Bk w3 w1.heap.size #[.int .i64 ((bindP L j 8 9 s).1.kind : Int), .string ⟨(bindP L j 8 9 s).1.text.toArray⟩, .int .i64 0, .int .i64 ((bindP L j 8 9 s).1.pl : Int), .slice none 0 0, .slice (some ⟨g, 0, none⟩) 1 1] 25 from Bk.gr Bnb2.out.drew ho.gr (by omega)); have znb3 : w1.heap.size < w3.heap.size := Bnb3.out.lt; have K3 := Lib.hid (Ka.gr K2.out.drew1 ho.gr (by omega)); have Nx3 := Lib.hid (show Hn w3 w2.heap.size ((L.x j (expect wIn (bindP L j 8 9 s).2)).1) (.slice ao3 ((L.x j (expect wIn (bindP L j 8 9 s).2)).1).names.length ac3, .slice bo3 ((L.x j (expect wIn (bindP L j 8 9 s).2)).1).kids.length bc3) from hN); obtain ⟨c0, c1, c2, c3, c4, c5⟩ := Bnb3.out.c6; obtain ⟨d0, d1, d2, d3, d4, d5⟩ := Bnb3.out.f6; have hzz : w2.heap.size ≤ w3.heap.size := ho.gr.size; have p1 : (w.heap.size + 1) ≤ w2.heap.size := (by omega); have p2 : w1.heap.size < w2.heap.size := (by omega); have p3 : (w.heap.size + 1) ≤ w3.heap.size := (by omega); have p5 := Lib.hid (show ∀ k, (.slice (some ⟨g, 0, none⟩) 1 1 : Value).ownBlock = some k → k < w2.heap.size from fun k hk => (K2.out.1.lt k hk).2); clear ho hN hzz))
  all_goals
    obtain ⟨grb0, grb1, grb2, grb3, grb4, grb5⟩ := Brb3a.out.c6
    obtain ⟨frb0, frb1, frb2, frb3, frb4, frb5⟩ := Brb3a.out.f6
    go_wp2
    refine bodyPost_ret (v := .agg #[.int .i64 ((bindP L j 8 9 s).1.kind : Int), .string ⟨(bindP L j 8 9 s).1.text.toArray⟩, .int .i64 0, .int .i64 ((bindP L j 8 9 s).1.pl : Int), .slice none 0 0, .slice (some ⟨gg3, 0, none⟩) 2 cp3]) (by simp [results, Tryz.results63, go_sem, grb0, grb1, grb2, grb3, grb4, grb5]) rfl ?_
    have y1 : (bindP L j 8 9 s).1.names = [] := by rw [HR.out]; rfl
    have y2 : (bindP L j 8 9 s).1.kids = [v] := by rw [HR.out]; rfl
    have y3 : (bindP L j 8 9 s).1.num = 0 := by rw [HR.out]; rfl
    have hl : letP L j s = (.node (bindP L j 8 9 s).1.kind (bindP L j 8 9 s).1.text (bindP L j 8 9 s).1.names ((bindP L j 8 9 s).1.kids ++ [(L.x j (expect wIn (bindP L j 8 9 s).2)).1]) (bindP L j 8 9 s).1.num (bindP L j 8 9 s).1.pl, (L.x j (expect wIn (bindP L j 8 9 s).2)).2) := rfl
    rw [hl, y1, y2, y3]
    exact ⟨_, _, _, _, rfl, (((((((L3a.out.set (by omega) 5 _).set (by omega) 0 _).set (by omega) 1 _).set (by omega) 2 _).set (by omega) 3 _).set (by omega) 4 _).set (by omega) 5 _).out, (Ka.has (Ka.other (b := w.heap.size) (Ka.other (b := w.heap.size) (Ka.other (b := w.heap.size) (Ka.other (b := w.heap.size) (Ka.other (b := w.heap.size) (Ka.other (b := w.heap.size) (Ka.set K3a.out 5 _) (by omega) 0 _) (by omega) 1 _) (by omega) 2 _) (by omega) 3 _) (by omega) 4 _) (by omega) 5 _) _ _ 0 _).mono (by omega)⟩

end Go.Proofs.YtlcapkgbbgpdmaaGreatDoor.PJ

/- A ';' makes a NodeSeq within brackets, a match, a try: turned on, and as it was by a deferred closure. -/
namespace Go.Proofs.YtlcapkgbbgpdmaaGreatDoor.PK
open Go.RowKit Go.Proofs.YtlcapkgbbgpdmaaGreatDoor.P Go.Proofs.YtlcapkgbbgpdmaaGreatDoor.A Go.Proofs.YtlcapkgbbgpdmaaGreatDoor.TK Go.Proofs.YtlcapkgbbgpdmaaGreatDoor.TO Go.Proofs.YtlcapkgbbgpdmaaGreatDoor.GR Go.Proofs.YtlcapkgbbgpdmaaGreatDoor.MP Go.Proofs.YtlcapkgbbgpdmaaGreatDoor.YR Go.Proofs.YtlcapkgbbgpdmaaGreatDoor.PN Go.Proofs.YtlcapkgbbgpdmaaGreatDoor.PS Go.Proofs.YtlcapkgbbgpdmaaGreatDoor.PA Go.Proofs.YtlcapkgbbgpdmaaGreatDoor.PB Go.Proofs.YtlcapkgbbgpdmaaGreatDoor.PC Go.Proofs.YtlcapkgbbgpdmaaGreatDoor.PD Go.Proofs.YtlcapkgbbgpdmaaGreatDoor.PE Go.Proofs.YtlcapkgbbgpdmaaGreatDoor.PF Go.Proofs.YtlcapkgbbgpdmaaGreatDoor.PG Go.Proofs.YtlcapkgbbgpdmaaGreatDoor.PH Go.Proofs.YtlcapkgbbgpdmaaGreatDoor.PI Go.Proofs.YtlcapkgbbgpdmaaGreatDoor.PJ
set_option linter.unusedVariables false
set_option maxRecDepth 100000

theorem noPanic_of {Q : Exit → Act → World → Prop} {a : Act} {w : World} (h : Q .normal a w) : NoPanic Q .normal a w := h
abbrev jfn (c1 c2 : Nat) : Value := .func (.func 130) #[] #[.pointer (some ⟨c2, 0, none⟩), .pointer (some ⟨c1, 0, none⟩)]
def JOut (w : World) (E : En) (s : St) (d : Nat) (j : Bool) (x : Ending) (w' : World) : Prop :=
  ∃ c1 c2, x = .returned (jfn c1 c2) ∧ Out w E s d true w' ∧ Bk w' c1 #[pp E] 71 ∧ Bk w' c2 #[.bool j] 4 ∧ w.heap.size ≤ c1 ∧ w.heap.size ≤ c2

theorem joining_any (w : World) (E : En) (s : St) (d : Nat) (j : Bool) (h : PS w E s d j) :
    Calls Tryz.prog 99 #[pp E] w (JOut w E s d j) := by
  have L0 := Lib.hid (Lc.start h)
  have er0 := h.lt.1
  obtain ⟨off, cap, hb, _⟩ := h.cells
  have c4 := pc4 hb
  have f4 := hb.free 4
  have hn : w.heap.size ≠ E.r := by omega
  have hn2 : w.heap.size + 1 ≠ E.r := by omega
  have HB := Lib.hid hb
  have hmf : ∀ (fn : Fn) (first cap : Array Value) (w : World), (Instr.makeFunc fn first cap).run Tryz.prog w = .ok (.func fn first cap) w := fun _ _ _ _ => rfl
  clear h hb
  go_enter Tryz.func99, Tryz.ntmps99
  go_wp2
  go_ret
  refine ⟨w.heap.size, w.heap.size + 1, rfl, ?_, ?_, ?_, Nat.le_refl _, Nat.le_succ _⟩
  · have T : Lc w E s d true (w.setCell ⟨E.r, 4, none⟩ (.bool true)) := Lc.turn L0.out HB.out 4 (.bool true) (by simp [pcells]) (by simp) (Nat.le_refl _) L0.out.ps.ok L0.out.ps.deep
    exact ((T.alloc _).alloc _).out
  · exact Bk.alloc (heap_at _ _ _ (set_size _ _ _)) _
  · exact heap_at _ _ _ (by simp [])

theorem join_deferred (w : World) (E : En) (s : St) (d : Nat) (j : Bool) (u : FrameMode) (h : PS w E s d true) (c1 c2 : Nat) (h1 : Bk w c1 #[pp E] 71) (h2 : Bk w c2 #[.bool j] 4) :
    CallsD Tryz.prog 130 #[.pointer (some ⟨c2, 0, none⟩), .pointer (some ⟨c1, 0, none⟩)] u w fun e u' w' => u' = u ∧ (e = .returned (.tuple #[]) ∧ w' = w.setCell ⟨E.r, 4, none⟩ (.bool j)) := by
  obtain ⟨off, cap, hb, _⟩ := h.cells
  have c4 := pc4 hb
  have f4 := hb.free 4
  have k1 := h1.cell 0 (pp E) rfl
  have k2 := h2.cell 0 (.bool j) rfl
  clear h hb h1 h2
  go_enter_d Tryz.func130, Tryz.ntmps130
  go_wp2
  go_end0
  exact ⟨rfl, rfl⟩
theorem join_out {w : World} {E : En} {s : St} {d : Nat} {j : Bool} (h : PS w E s d true) : Out w E s d j (w.setCell ⟨E.r, 4, none⟩ (.bool j)) := by
  obtain ⟨off, cap, hb, _⟩ := h.cells
  refine (Lc.turn (Lc.start h) hb 4 (.bool j) ?_ ?_ (Nat.le_refl _) h.ok h.deep).out
  · simp [pcells]
  · simp
end Go.Proofs.YtlcapkgbbgpdmaaGreatDoor.PK

/- Brackets; a type's atom; a pattern's atom. -/
namespace Go.Proofs.YtlcapkgbbgpdmaaGreatDoor.PL
open Go.RowKit Go.Proofs.YtlcapkgbbgpdmaaGreatDoor.P Go.Proofs.YtlcapkgbbgpdmaaGreatDoor.A Go.Proofs.YtlcapkgbbgpdmaaGreatDoor.TK Go.Proofs.YtlcapkgbbgpdmaaGreatDoor.TO Go.Proofs.YtlcapkgbbgpdmaaGreatDoor.GR Go.Proofs.YtlcapkgbbgpdmaaGreatDoor.MP Go.Proofs.YtlcapkgbbgpdmaaGreatDoor.YR Go.Proofs.YtlcapkgbbgpdmaaGreatDoor.PN Go.Proofs.YtlcapkgbbgpdmaaGreatDoor.PS Go.Proofs.YtlcapkgbbgpdmaaGreatDoor.PA Go.Proofs.YtlcapkgbbgpdmaaGreatDoor.PB Go.Proofs.YtlcapkgbbgpdmaaGreatDoor.PC Go.Proofs.YtlcapkgbbgpdmaaGreatDoor.PD Go.Proofs.YtlcapkgbbgpdmaaGreatDoor.PE Go.Proofs.YtlcapkgbbgpdmaaGreatDoor.PF Go.Proofs.YtlcapkgbbgpdmaaGreatDoor.PG Go.Proofs.YtlcapkgbbgpdmaaGreatDoor.PH Go.Proofs.YtlcapkgbbgpdmaaGreatDoor.PI Go.Proofs.YtlcapkgbbgpdmaaGreatDoor.PJ Go.Proofs.YtlcapkgbbgpdmaaGreatDoor.PK
set_option linter.unusedVariables false
set_option maxRecDepth 100000

set_option maxHeartbeats 1000000 in
theorem brackets_unit {L : Lev} {d : Nat} (hL : LevOK L d) (j : Bool) : ∀ w E s, PS w E s d j → (expect [40] s).is [41] = true → Calls Tryz.prog 66 #[pp E] w (NOut w E (bracketsP L s) d j) := by
  intro w E s h his
  have his0 := Lib.hid his
  have HA := fun W hW => accept_any W E (expect [40] s) d true hW [41] (by decide)
  rw [his] at HA
  clear his
  have hmf : ∀ (fn : Fn) (first cap : Array Value) (w : World), (Instr.makeFunc fn first cap).run Tryz.prog w = .ok (.func fn first cap) w := fun _ _ _ _ => rfl
  have ha : (accept [41] (expect [40] s)).2 = (expect [40] s).take := by unfold accept; rw [his0.out]; rfl
  have hr : bracketsP L s = (.node 3 [] [] [] 0 s.pl, (accept [41] (expect [40] s)).2) := by unfold bracketsP; rw [if_pos his0.out, ha]
  rw [hr]
  clear ha hr
  have L0 := Lib.hid (Lc.start h)
  have er0 := h.lt.1
  clear h
  go_enter_defers Tryz.func66, Tryz.ntmps66
  go_wp2_with fail
  refine (joining_any _ E s d j (L0.out.alloc _).ps).mono ?_
  rintro x w1 ⟨c1, c2, rfl, ho, hc1, hc2, m1, m2⟩
  have L1 := Lib.hid ((L0.out.alloc _).call ho)
  have Brb1 := Lib.hid (show Bk w1 w.heap.size #[.int .i64 0, .string ⟨#[]⟩, .int .i64 0, .int .i64 0, .slice none 0 0, .slice none 0 0] 25 from Bk.gr (heap_at _ _ _ (by simp [])) ho.gr (by omega))
  have zrb1 : w.heap.size < w1.heap.size := Brb1.out.lt
  have Bc11 := Lib.hid hc1
  have Bc21 := Lib.hid hc2
  have M1 : w.heap.size + 1 ≤ c1 := (by simpa using m1)
  have M2 : w.heap.size + 1 ≤ c2 := (by simpa using m2)
  have zc11 := Bc11.out.lt
  have zc21 := Bc21.out.lt
  clear ho hc1 hc2 m1 m2 L0
  go_wp2_with fail
  refine (begin_any _ E s d true L1.out.ps 3).mono ?_
  rintro x w2 ⟨rfl, hb⟩
  have ho := Out.of_below L1.out.ps hb
  have L2 := Lib.hid (L1.out.call ho)
  have Brb2 := Lib.hid (show Bk w2 w.heap.size #[.int .i64 0, .string ⟨#[]⟩, .int .i64 0, .int .i64 0, .slice none 0 0, .slice none 0 0] 25 from Bk.gr Brb1.out ho.gr (by omega))
  have Bc12 := Lib.hid (show Bk w2 c1 #[pp E] 71 from Bk.gr Bc11.out ho.gr (by omega))
  have Bc22 := Lib.hid (show Bk w2 c2 #[.bool j] 4 from Bk.gr Bc21.out ho.gr (by omega))
  have zrb2 : w.heap.size < w2.heap.size := Brb2.out.lt
  have zc12 : c1 < w2.heap.size := Bc12.out.lt
  have zc22 : c2 < w2.heap.size := Bc22.out.lt
  clear ho hb L1 Brb1 Bc11 Bc21
  go_wp2_with fail
  refine (expect_any _ E s d true (L2.out.alloc _).ps [40] (by decide)).mono ?_
  rintro x w3 ⟨rfl, ho⟩
  have L3 := Lib.hid ((L2.out.alloc _).call ho)
  have Brb3 := Lib.hid (show Bk w3 w.heap.size #[.int .i64 0, .string ⟨#[]⟩, .int .i64 0, .int .i64 0, .slice none 0 0, .slice none 0 0] 25 from Bk.gr (Brb2.out.alloc _) ho.gr (by omega))
  have Bc13 := Lib.hid (show Bk w3 c1 #[pp E] 71 from Bk.gr (Bc12.out.alloc _) ho.gr (by omega))
  have Bc23 := Lib.hid (show Bk w3 c2 #[.bool j] 4 from Bk.gr (Bc22.out.alloc _) ho.gr (by omega))
  have Bnb3 := Lib.hid (show Bk w3 w2.heap.size #[.int .i64 3, .string ⟨#[]⟩, .int .i64 0, .int .i64 (s.pl : Int), .slice none 0 0, .slice none 0 0] 25 from Bk.gr (heap_at _ _ _ (by simp [])) ho.gr (by omega))
  have zrb3 : w.heap.size < w3.heap.size := Brb3.out.lt
  have zc13 : c1 < w3.heap.size := Bc13.out.lt
  have zc23 : c2 < w3.heap.size := Bc23.out.lt
  have znb3 : w2.heap.size < w3.heap.size := Bnb3.out.lt
  clear ho L2 Brb2 Bc12 Bc22
  go_wp2_with fail
  refine (HA _ L3.out.ps).mono ?_
  rintro x w4 ⟨rfl, ho⟩
  have L4 := Lib.hid (L3.out.call ho)
  have Brb4 := Lib.hid (show Bk w4 w.heap.size #[.int .i64 0, .string ⟨#[]⟩, .int .i64 0, .int .i64 0, .slice none 0 0, .slice none 0 0] 25 from Bk.gr Brb3.out ho.gr (by omega))
  have Bc14 := Lib.hid (show Bk w4 c1 #[pp E] 71 from Bk.gr Bc13.out ho.gr (by omega))
  have Bc24 := Lib.hid (show Bk w4 c2 #[.bool j] 4 from Bk.gr Bc23.out ho.gr (by omega))
  have Bnb4 := Lib.hid (show Bk w4 w2.heap.size #[.int .i64 3, .string ⟨#[]⟩, .int .i64 0, .int .i64 (s.pl : Int), .slice none 0 0, .slice none 0 0] 25 from Bk.gr Bnb3.out ho.gr (by omega))
  have zrb4 : w.heap.size < w4.heap.size := Brb4.out.lt
  have zc14 : c1 < w4.heap.size := Bc14.out.lt
  have zc24 : c2 < w4.heap.size := Bc24.out.lt
  have znb4 : w2.heap.size < w4.heap.size := Bnb4.out.lt
  clear ho L3 Brb3 Bc13 Bc23 Bnb3
  obtain ⟨grb0, grb1, grb2, grb3, grb4, grb5⟩ := Brb4.out.c6
  obtain ⟨frb0, frb1, frb2, frb3, frb4, frb5⟩ := Brb4.out.f6
  obtain ⟨gnb0, gnb1, gnb2, gnb3, gnb4, gnb5⟩ := Bnb4.out.c6
  obtain ⟨fnb0, fnb1, fnb2, fnb3, fnb4, fnb5⟩ := Bnb4.out.f6
  go_wp2
  refine leaves_cons (f := 130) (args := #[.pointer (some ⟨c2, 0, none⟩), .pointer (some ⟨c1, 0, none⟩)]) (by simp) (by simp [go_sem]) ?_
  refine (join_deferred _ E (accept [41] (expect [40] s)).2 d j .returning ((((((L4.out.set (by omega) 0 _).set (by omega) 1 _).set (by omega) 2 _).set (by omega) 3 _).set (by omega) 4 _).set (by omega) 5 _).ps c1 c2 ((((((Bc14.out.other (b' := w.heap.size) (by omega) 0 _).other (b' := w.heap.size) (by omega) 1 _).other (b' := w.heap.size) (by omega) 2 _).other (b' := w.heap.size) (by omega) 3 _).other (b' := w.heap.size) (by omega) 4 _).other (b' := w.heap.size) (by omega) 5 _) ((((((Bc24.out.other (b' := w.heap.size) (by omega) 0 _).other (b' := w.heap.size) (by omega) 1 _).other (b' := w.heap.size) (by omega) 2 _).other (b' := w.heap.size) (by omega) 3 _).other (b' := w.heap.size) (by omega) 4 _).other (b' := w.heap.size) (by omega) 5 _)).mono ?_
  rintro e u' wz ⟨rfl, rfl, rfl⟩
  have hne : w.heap.size ≠ E.r := by omega
  refine ⟨.agg #[.int .i64 3, .string ⟨#[]⟩, .int .i64 0, .int .i64 (s.pl : Int), .slice none 0 0, .slice none 0 0], by simp [results, Tryz.results66, go_sem, grb0, grb1, grb2, grb3, grb4, grb5], _, _, _, _, rfl, (Lc.call ((((((L4.out.set (by omega) 0 _).set (by omega) 1 _).set (by omega) 2 _).set (by omega) 3 _).set (by omega) 4 _).set (by omega) 5 _) (join_out ((((((L4.out.set (by omega) 0 _).set (by omega) 1 _).set (by omega) 2 _).set (by omega) 3 _).set (by omega) 4 _).set (by omega) 5 _).ps)).out, Hn.set (hasN_leaf _ _ _ _ _ _) (by omega) _ _⟩

set_option maxHeartbeats 1000000 in
theorem brackets_exp {L : Lev} {d : Nat} (hL : LevOK L d) (j : Bool) : ∀ w E s, PS w E s d j → (expect [40] s).is [41] = false → Calls Tryz.prog 66 #[pp E] w (NOut w E (bracketsP L s) d j) := by
  intro w E s h his
  have his0 := Lib.hid his
  have HA := fun W hW => accept_any W E (expect [40] s) d true hW [41] (by decide)
  rw [his] at HA
  clear his
  have hmf : ∀ (fn : Fn) (first cap : Array Value) (w : World), (Instr.makeFunc fn first cap).run Tryz.prog w = .ok (.func fn first cap) w := fun _ _ _ _ => rfl
  have ha : (accept [41] (expect [40] s)).2 = (expect [40] s) := by unfold accept; rw [his0.out]; rfl
  have hr : bracketsP L s = bracketed (L.x true) (accept [41] (expect [40] s)).2 := by unfold bracketsP; rw [if_neg (by rw [his0.out]; decide), ha]
  rw [hr]
  clear ha hr
  have L0 := Lib.hid (Lc.start h)
  have er0 := h.lt.1
  clear h
  go_enter_defers Tryz.func66, Tryz.ntmps66
  go_wp2_with fail
  refine (joining_any _ E s d j (L0.out.alloc _).ps).mono ?_
  rintro x w1 ⟨c1, c2, rfl, ho, hc1, hc2, m1, m2⟩
  have L1 := Lib.hid ((L0.out.alloc _).call ho)
  have Brb1 := Lib.hid (show Bk w1 w.heap.size #[.int .i64 0, .string ⟨#[]⟩, .int .i64 0, .int .i64 0, .slice none 0 0, .slice none 0 0] 25 from Bk.gr (heap_at _ _ _ (by simp [])) ho.gr (by omega))
  have zrb1 : w.heap.size < w1.heap.size := Brb1.out.lt
  have Bc11 := Lib.hid hc1
  have Bc21 := Lib.hid hc2
  have M1 : w.heap.size + 1 ≤ c1 := (by simpa using m1)
  have M2 : w.heap.size + 1 ≤ c2 := (by simpa using m2)
  have zc11 := Bc11.out.lt
  have zc21 := Bc21.out.lt
  clear ho hc1 hc2 m1 m2 L0
  go_wp2_with fail
  refine (begin_any _ E s d true L1.out.ps 3).mono ?_
  rintro x w2 ⟨rfl, hb⟩
  have ho := Out.of_below L1.out.ps hb
  have L2 := Lib.hid (L1.out.call ho)
  have Brb2 := Lib.hid (show Bk w2 w.heap.size #[.int .i64 0, .string ⟨#[]⟩, .int .i64 0, .int .i64 0, .slice none 0 0, .slice none 0 0] 25 from Bk.gr Brb1.out ho.gr (by omega))
  have Bc12 := Lib.hid (show Bk w2 c1 #[pp E] 71 from Bk.gr Bc11.out ho.gr (by omega))
  have Bc22 := Lib.hid (show Bk w2 c2 #[.bool j] 4 from Bk.gr Bc21.out ho.gr (by omega))
  have zrb2 : w.heap.size < w2.heap.size := Brb2.out.lt
  have zc12 : c1 < w2.heap.size := Bc12.out.lt
  have zc22 : c2 < w2.heap.size := Bc22.out.lt
  clear ho hb L1 Brb1 Bc11 Bc21
  go_wp2_with fail
  refine (expect_any _ E s d true (L2.out.alloc _).ps [40] (by decide)).mono ?_
  rintro x w3 ⟨rfl, ho⟩
  have L3 := Lib.hid ((L2.out.alloc _).call ho)
  have Brb3 := Lib.hid (show Bk w3 w.heap.size #[.int .i64 0, .string ⟨#[]⟩, .int .i64 0, .int .i64 0, .slice none 0 0, .slice none 0 0] 25 from Bk.gr (Brb2.out.alloc _) ho.gr (by omega))
  have Bc13 := Lib.hid (show Bk w3 c1 #[pp E] 71 from Bk.gr (Bc12.out.alloc _) ho.gr (by omega))
  have Bc23 := Lib.hid (show Bk w3 c2 #[.bool j] 4 from Bk.gr (Bc22.out.alloc _) ho.gr (by omega))
  have Bnb3 := Lib.hid (show Bk w3 w2.heap.size #[.int .i64 3, .string ⟨#[]⟩, .int .i64 0, .int .i64 (s.pl : Int), .slice none 0 0, .slice none 0 0] 25 from Bk.gr (heap_at _ _ _ (by simp [])) ho.gr (by omega))
  have zrb3 : w.heap.size < w3.heap.size := Brb3.out.lt
  have zc13 : c1 < w3.heap.size := Bc13.out.lt
  have zc23 : c2 < w3.heap.size := Bc23.out.lt
  have znb3 : w2.heap.size < w3.heap.size := Bnb3.out.lt
  clear ho L2 Brb2 Bc12 Bc22
  go_wp2_with fail
  refine (HA _ L3.out.ps).mono ?_
  rintro x w4 ⟨rfl, ho⟩
  have L4 := Lib.hid (L3.out.call ho)
  have Brb4 := Lib.hid (show Bk w4 w.heap.size #[.int .i64 0, .string ⟨#[]⟩, .int .i64 0, .int .i64 0, .slice none 0 0, .slice none 0 0] 25 from Bk.gr Brb3.out ho.gr (by omega))
  have Bc14 := Lib.hid (show Bk w4 c1 #[pp E] 71 from Bk.gr Bc13.out ho.gr (by omega))
  have Bc24 := Lib.hid (show Bk w4 c2 #[.bool j] 4 from Bk.gr Bc23.out ho.gr (by omega))
  have Bnb4 := Lib.hid (show Bk w4 w2.heap.size #[.int .i64 3, .string ⟨#[]⟩, .int .i64 0, .int .i64 (s.pl : Int), .slice none 0 0, .slice none 0 0] 25 from Bk.gr Bnb3.out ho.gr (by omega))
  have zrb4 : w.heap.size < w4.heap.size := Brb4.out.lt
  have zc14 : c1 < w4.heap.size := Bc14.out.lt
  have zc24 : c2 < w4.heap.size := Bc24.out.lt
  have znb4 : w2.heap.size < w4.heap.size := Bnb4.out.lt
  clear ho L3 Brb3 Bc13 Bc23 Bnb3
  go_wp2_with fail
  refine (bracketed_any (hL.x true) _ E (accept [41] (expect [40] s)).2 L4.out.ps).mono ?_
  rintro x w5 ⟨ao5, ac5, bo5, bc5, rfl, ho, hN⟩
  have L5 := Lib.hid (L4.out.call ho)
  have Brb5 := Lib.hid (show Bk w5 w.heap.size #[.int .i64 0, .string ⟨#[]⟩, .int .i64 0, .int .i64 0, .slice none 0 0, .slice none 0 0] 25 from Bk.gr Brb4.out ho.gr (by omega))
  have Bc15 := Lib.hid (show Bk w5 c1 #[pp E] 71 from Bk.gr Bc14.out ho.gr (by omega))
  have Bc25 := Lib.hid (show Bk w5 c2 #[.bool j] 4 from Bk.gr Bc24.out ho.gr (by omega))
  have Bnb5 := Lib.hid (show Bk w5 w2.heap.size #[.int .i64 3, .string ⟨#[]⟩, .int .i64 0, .int .i64 (s.pl : Int), .slice none 0 0, .slice none 0 0] 25 from Bk.gr Bnb4.out ho.gr (by omega))
  have zrb5 : w.heap.size < w5.heap.size := Brb5.out.lt
  have zc15 : c1 < w5.heap.size := Bc15.out.lt
  have zc25 : c2 < w5.heap.size := Bc25.out.lt
  have znb5 : w2.heap.size < w5.heap.size := Bnb5.out.lt
  have Nx5 := Lib.hid (show Hn w5 w4.heap.size ((bracketed (L.x true) (accept [41] (expect [40] s)).2).1) (.slice ao5 ((bracketed (L.x true) (accept [41] (expect [40] s)).2).1).names.length ac5, .slice bo5 ((bracketed (L.x true) (accept [41] (expect [40] s)).2).1).kids.length bc5) from hN.mono (by simp []))
  clear ho hN L4 Brb4 Bc14 Bc24 Bnb4
  obtain ⟨grb0, grb1, grb2, grb3, grb4, grb5⟩ := Brb5.out.c6
  obtain ⟨frb0, frb1, frb2, frb3, frb4, frb5⟩ := Brb5.out.f6
  go_wp2
  refine leaves_cons (f := 130) (args := #[.pointer (some ⟨c2, 0, none⟩), .pointer (some ⟨c1, 0, none⟩)]) (by simp) (by simp [go_sem]) ?_
  refine (join_deferred _ E (bracketed (L.x true) (accept [41] (expect [40] s)).2).2 d j .returning ((((((L5.out.set (by omega) 0 _).set (by omega) 1 _).set (by omega) 2 _).set (by omega) 3 _).set (by omega) 4 _).set (by omega) 5 _).ps c1 c2 ((((((Bc15.out.other (b' := w.heap.size) (by omega) 0 _).other (b' := w.heap.size) (by omega) 1 _).other (b' := w.heap.size) (by omega) 2 _).other (b' := w.heap.size) (by omega) 3 _).other (b' := w.heap.size) (by omega) 4 _).other (b' := w.heap.size) (by omega) 5 _) ((((((Bc25.out.other (b' := w.heap.size) (by omega) 0 _).other (b' := w.heap.size) (by omega) 1 _).other (b' := w.heap.size) (by omega) 2 _).other (b' := w.heap.size) (by omega) 3 _).other (b' := w.heap.size) (by omega) 4 _).other (b' := w.heap.size) (by omega) 5 _)).mono ?_
  rintro e u' wz ⟨rfl, rfl, rfl⟩
  have hne : w.heap.size ≠ E.r := by omega
  refine ⟨.agg #[.int .i64 ((bracketed (L.x true) (accept [41] (expect [40] s)).2).1.kind : Int), .string ⟨(bracketed (L.x true) (accept [41] (expect [40] s)).2).1.text.toArray⟩, .int .i64 ((bracketed (L.x true) (accept [41] (expect [40] s)).2).1.num : Int), .int .i64 ((bracketed (L.x true) (accept [41] (expect [40] s)).2).1.pl : Int), .slice ao5 (bracketed (L.x true) (accept [41] (expect [40] s)).2).1.names.length ac5, .slice bo5 (bracketed (L.x true) (accept [41] (expect [40] s)).2).1.kids.length bc5], by simp [results, Tryz.results66, go_sem, grb0, grb1, grb2, grb3, grb4, grb5], _, _, _, _, rfl, (Lc.call ((((((L5.out.set (by omega) 0 _).set (by omega) 1 _).set (by omega) 2 _).set (by omega) 3 _).set (by omega) 4 _).set (by omega) 5 _) (join_out ((((((L5.out.set (by omega) 0 _).set (by omega) 1 _).set (by omega) 2 _).set (by omega) 3 _).set (by omega) 4 _).set (by omega) 5 _).ps)).out, Hn.set (Hn.mono ((((((Nx5.out.set (b := w.heap.size) (by omega) 0 _).set (b := w.heap.size) (by omega) 1 _).set (b := w.heap.size) (by omega) 2 _).set (b := w.heap.size) (by omega) 3 _).set (b := w.heap.size) (by omega) 4 _).set (b := w.heap.size) (by omega) 5 _) (by omega)) (by omega) _ _⟩

theorem brackets_any {L : Lev} {d : Nat} (hL : LevOK L d) (j : Bool) : NC 66 (bracketsP L) d j := by
  intro w E s h
  cases his : (expect [40] s).is [41] with
  | true => exact brackets_unit hL j w E s h his
  | false => exact brackets_exp hL j w E s h his

set_option maxHeartbeats 1000000 in
theorem tyatom_app {T : Part} {d : Nat} {j : Bool} (hT : DC 187 T d j) : ∀ w E s, PS w E s d j → s.is [40] = true → Calls Tryz.prog 197 #[pp E] w (NOut w E (tyatom T s) d j) := by
  intro w E s h his
  have his0 := Lib.hid his
  have HA := fun W hW => accept_any W E s d j hW [40] (by decide)
  rw [his] at HA
  clear his
  have ha : (accept [40] s).2 = s.take := by unfold accept; rw [his0.out]; rfl
  have hr : tyatom T s = bracketed T (accept [40] s).2 := by unfold tyatom; rw [if_pos his0.out, ha]
  rw [hr]
  clear ha hr
  have L0 := Lib.hid (Lc.start h)
  have er0 := h.lt.1
  clear h
  go_enter Tryz.func197, Tryz.ntmps197
  go_wp2_with fail
  refine (HA _ (L0.out.alloc _).ps).mono ?_
  rintro x w1 ⟨rfl, ho⟩
  have L1 := Lib.hid ((L0.out.alloc _).call ho)
  have Brb1 := Lib.hid (show Bk w1 w.heap.size #[.int .i64 0, .string ⟨#[]⟩, .int .i64 0, .int .i64 0, .slice none 0 0, .slice none 0 0] 25 from Bk.gr (heap_at _ _ _ (by simp [])) ho.gr (by omega))
  have zrb1 : w.heap.size < w1.heap.size := Brb1.out.lt
  clear ho L0
  go_wp2_with fail
  refine (bracketed_any hT _ E (accept [40] s).2 L1.out.ps).mono ?_
  rintro x w2 ⟨ao2, ac2, bo2, bc2, rfl, ho, hN⟩
  have L2 := Lib.hid (L1.out.call ho)
  have Brb2 := Lib.hid (show Bk w2 w.heap.size #[.int .i64 0, .string ⟨#[]⟩, .int .i64 0, .int .i64 0, .slice none 0 0, .slice none 0 0] 25 from Bk.gr Brb1.out ho.gr (by omega))
  have zrb2 : w.heap.size < w2.heap.size := Brb2.out.lt
  have Nx2 := Lib.hid (show Hn w2 w1.heap.size ((bracketed T (accept [40] s).2).1) (.slice ao2 ((bracketed T (accept [40] s).2).1).names.length ac2, .slice bo2 ((bracketed T (accept [40] s).2).1).kids.length bc2) from hN.mono (by simp []))
  clear ho hN L1 Brb1
  obtain ⟨grb0, grb1, grb2, grb3, grb4, grb5⟩ := Brb2.out.c6
  obtain ⟨frb0, frb1, frb2, frb3, frb4, frb5⟩ := Brb2.out.f6
  go_wp2
  refine bodyPost_ret (v := .agg #[.int .i64 ((bracketed T (accept [40] s).2).1.kind : Int), .string ⟨(bracketed T (accept [40] s).2).1.text.toArray⟩, .int .i64 ((bracketed T (accept [40] s).2).1.num : Int), .int .i64 ((bracketed T (accept [40] s).2).1.pl : Int), .slice ao2 (bracketed T (accept [40] s).2).1.names.length ac2, .slice bo2 (bracketed T (accept [40] s).2).1.kids.length bc2]) (by simp [results, Tryz.results197, go_sem, grb0, grb1, grb2, grb3, grb4, grb5]) rfl ?_
  exact ⟨_, _, _, _, rfl, ((((((L2.out.set (by omega) 0 _).set (by omega) 1 _).set (by omega) 2 _).set (by omega) 3 _).set (by omega) 4 _).set (by omega) 5 _).out, (Hn.mono ((((((Nx2.out.set (b := w.heap.size) (by omega) 0 _).set (b := w.heap.size) (by omega) 1 _).set (b := w.heap.size) (by omega) 2 _).set (b := w.heap.size) (by omega) 3 _).set (b := w.heap.size) (by omega) 4 _).set (b := w.heap.size) (by omega) 5 _) (by omega))⟩

set_option maxHeartbeats 1000000 in
theorem tyatom_name {T : Part} {d : Nat} {j : Bool} (hT : DC 187 T d j) : ∀ w E s, PS w E s d j → s.is [40] = false → Calls Tryz.prog 197 #[pp E] w (NOut w E (tyatom T s) d j) := by
  intro w E s h his
  have his0 := Lib.hid his
  have HA := fun W hW => accept_any W E s d j hW [40] (by decide)
  rw [his] at HA
  clear his
  have ha : (accept [40] s).2 = s := by unfold accept; rw [his0.out]; rfl
  have hr : tyatom T s = (.node 27 (text 3 (accept [40] s).2).1 [] [] 0 (St.pl (accept [40] s).2), (text 3 (accept [40] s).2).2) := by unfold tyatom; rw [if_neg (by rw [his0.out]; decide), ha]
  rw [hr]
  clear ha hr
  have L0 := Lib.hid (Lc.start h)
  have er0 := h.lt.1
  clear h
  go_enter Tryz.func197, Tryz.ntmps197
  go_wp2_with fail
  refine (HA _ (L0.out.alloc _).ps).mono ?_
  rintro x w1 ⟨rfl, ho⟩
  have L1 := Lib.hid ((L0.out.alloc _).call ho)
  have Brb1 := Lib.hid (show Bk w1 w.heap.size #[.int .i64 0, .string ⟨#[]⟩, .int .i64 0, .int .i64 0, .slice none 0 0, .slice none 0 0] 25 from Bk.gr (heap_at _ _ _ (by simp [])) ho.gr (by omega))
  have zrb1 : w.heap.size < w1.heap.size := Brb1.out.lt
  clear ho L0
  go_wp2_with fail
  refine (begin_any _ E (accept [40] s).2 d j L1.out.ps 27).mono ?_
  rintro x w2 ⟨rfl, hb⟩
  have ho := Out.of_below L1.out.ps hb
  have L2 := Lib.hid (L1.out.call ho)
  have Brb2 := Lib.hid (show Bk w2 w.heap.size #[.int .i64 0, .string ⟨#[]⟩, .int .i64 0, .int .i64 0, .slice none 0 0, .slice none 0 0] 25 from Bk.gr Brb1.out ho.gr (by omega))
  have zrb2 : w.heap.size < w2.heap.size := Brb2.out.lt
  clear ho hb L1 Brb1
  go_wp2_with fail
  refine (name_any _ E (accept [40] s).2 d j (L2.out.alloc _).ps).mono ?_
  rintro x w3 ⟨rfl, ho⟩
  have L3 := Lib.hid ((L2.out.alloc _).call ho)
  have Brb3 := Lib.hid (show Bk w3 w.heap.size #[.int .i64 0, .string ⟨#[]⟩, .int .i64 0, .int .i64 0, .slice none 0 0, .slice none 0 0] 25 from Bk.gr (Brb2.out.alloc _) ho.gr (by omega))
  have Bnb3 := Lib.hid (show Bk w3 w2.heap.size #[.int .i64 27, .string ⟨#[]⟩, .int .i64 0, .int .i64 (St.pl (accept [40] s).2 : Int), .slice none 0 0, .slice none 0 0] 25 from Bk.gr (heap_at _ _ _ (by simp [])) ho.gr (by omega))
  have zrb3 : w.heap.size < w3.heap.size := Brb3.out.lt
  have znb3 : w2.heap.size < w3.heap.size := Bnb3.out.lt
  clear ho L2 Brb2
  obtain ⟨grb0, grb1, grb2, grb3, grb4, grb5⟩ := Brb3.out.c6
  obtain ⟨frb0, frb1, frb2, frb3, frb4, frb5⟩ := Brb3.out.f6
  obtain ⟨gnb0, gnb1, gnb2, gnb3, gnb4, gnb5⟩ := Bnb3.out.c6
  obtain ⟨fnb0, fnb1, fnb2, fnb3, fnb4, fnb5⟩ := Bnb3.out.f6
  go_wp2
  refine bodyPost_ret (v := .agg #[.int .i64 27, .string ⟨(text 3 (accept [40] s).2).1.toArray⟩, .int .i64 0, .int .i64 (St.pl (accept [40] s).2 : Int), .slice none 0 0, .slice none 0 0]) (by simp [results, Tryz.results197, go_sem, grb0, grb1, grb2, grb3, grb4, grb5]) rfl ?_
  exact ⟨_, _, _, _, rfl, (((((((L3.out.set (by omega) 1 _).set (by omega) 0 _).set (by omega) 1 _).set (by omega) 2 _).set (by omega) 3 _).set (by omega) 4 _).set (by omega) 5 _).out, hasN_leaf _ _ _ _ _ _⟩

theorem tyatom_any {T : Part} {d : Nat} {j : Bool} (hT : DC 187 T d j) : NC 197 (tyatom T) d j := by
  intro w E s h
  cases his : s.is [40] with
  | true => exact tyatom_app hT w E s h his
  | false => exact tyatom_name hT w E s h his

end Go.Proofs.YtlcapkgbbgpdmaaGreatDoor.PL

/- A constructor, and what stands behind it. -/
namespace Go.Proofs.YtlcapkgbbgpdmaaGreatDoor.PM
open Go.RowKit Go.Proofs.YtlcapkgbbgpdmaaGreatDoor.P Go.Proofs.YtlcapkgbbgpdmaaGreatDoor.A Go.Proofs.YtlcapkgbbgpdmaaGreatDoor.TK Go.Proofs.YtlcapkgbbgpdmaaGreatDoor.TO Go.Proofs.YtlcapkgbbgpdmaaGreatDoor.GR Go.Proofs.YtlcapkgbbgpdmaaGreatDoor.MP Go.Proofs.YtlcapkgbbgpdmaaGreatDoor.YR Go.Proofs.YtlcapkgbbgpdmaaGreatDoor.PN Go.Proofs.YtlcapkgbbgpdmaaGreatDoor.PS Go.Proofs.YtlcapkgbbgpdmaaGreatDoor.PA Go.Proofs.YtlcapkgbbgpdmaaGreatDoor.PB Go.Proofs.YtlcapkgbbgpdmaaGreatDoor.PC Go.Proofs.YtlcapkgbbgpdmaaGreatDoor.PD Go.Proofs.YtlcapkgbbgpdmaaGreatDoor.PE Go.Proofs.YtlcapkgbbgpdmaaGreatDoor.PF Go.Proofs.YtlcapkgbbgpdmaaGreatDoor.PG Go.Proofs.YtlcapkgbbgpdmaaGreatDoor.PH Go.Proofs.YtlcapkgbbgpdmaaGreatDoor.PI Go.Proofs.YtlcapkgbbgpdmaaGreatDoor.PJ Go.Proofs.YtlcapkgbbgpdmaaGreatDoor.PK Go.Proofs.YtlcapkgbbgpdmaaGreatDoor.PL
set_option linter.unusedVariables false
set_option maxRecDepth 100000
attribute [local go_sem ↓] Go.wp_at_zero Go.wp_at_succ

/-- A test's contract. -/
def TC (F : FuncId) (m : St → Bool) (d : Nat) (j : Bool) : Prop := ∀ w E s, PS w E s d j → Calls Tryz.prog F #[pp E] w fun x w' => x = .returned (.bool (m s)) ∧ Below w.heap.size w w'
theorem conLoop_no {more : St → Bool} {R : Part} {k : Nat} {n : Tree} {s : St} (h : more s = false) : conLoop more R k n s = (n, s) := by
  cases k with
  | zero => rfl
  | succ k => show (if more s = true then _ else _) = _; rw [if_neg (by rw [h]; decide)]
theorem conLoop_full {more : St → Bool} {R : Part} {k : Nat} {n : Tree} {s : St} (h : more s = true) (h4 : n.kids.length = 4) : conLoop more R (k + 1) n s = (zero, s.fail 16) := by
  show (if more s = true then _ else _) = _; rw [if_pos h, if_pos h4]
theorem conLoop_step {more : St → Bool} {R : Part} {k : Nat} {n : Tree} {s : St} (h : more s = true) (h4 : n.kids.length ≠ 4) : conLoop more R (k + 1) n s = conLoop more R k (n.more (R s).1) (R s).2 := by
  show (if more s = true then _ else _) = _; rw [if_pos h, if_neg h4]

set_option maxHeartbeats 2000000 in
theorem con_atoms {more : St → Bool} {R : Part} {d : Nat} {j : Bool} (hM : TC 214 more d j) (hR : NC 213 R d j) (w : World) (E : En) (s : St) (h : PS w E s d j) (hk : s.k ≠ 0) :
    Calls Tryz.prog 134 #[pp E, .func (.func 214) #[] #[], .func (.func 213) #[] #[]] w (NOut w E (conP more R s) d j) := by
  have HM := Lib.hid hM
  have HR0 := Lib.hid hR
  have hk0 := Lib.hid hk
  clear hM hR hk
  obtain ⟨R0, hR0⟩ : ∃ R0, Hid (conP more R s = R0) := ⟨_, rfl⟩
  rw [hR0.out]
  have L0 := Lib.hid (Lc.start h)
  have er0 := h.lt.1
  clear h
  go_enter Tryz.func134, Tryz.ntmps134
  go_wp2_with fail
  refine (leaf_ex _ E s d j (L0.out.alloc _).ps hk0.out).mono ?_
  rintro x w1 ⟨rfl, ho⟩
  have L1 := Lib.hid ((L0.out.alloc _).call ho)
  have Brb1 := Lib.hid (show Bk w1 w.heap.size #[.int .i64 0, .string ⟨#[]⟩, .int .i64 0, .int .i64 0, .slice none 0 0, .slice none 0 0] 25 from Bk.gr (heap_at _ _ _ (by simp [])) ho.gr (by omega))
  have zrb1 : w.heap.size < w1.heap.size := Brb1.out.lt
  clear ho L0
  go_wp2
  have LS := Lib.hid (show Lc w E s.take d j (w1.alloc (.cells #[.int .i64 (leafKind s.k : Int), .string ⟨(hd s.ts).t.toArray⟩, .int .i64 ((hd s.ts).n : Int), .int .i64 (s.pl : Int), .slice none 0 0, .slice none 0 0] 25)) from (L1.out.alloc _))
  have BS := Lib.hid (show Bk (w1.alloc (.cells #[.int .i64 (leafKind s.k : Int), .string ⟨(hd s.ts).t.toArray⟩, .int .i64 ((hd s.ts).n : Int), .int .i64 (s.pl : Int), .slice none 0 0, .slice none 0 0] 25)) w.heap.size #[.int .i64 0, .string ⟨#[]⟩, .int .i64 0, .int .i64 0, .slice none 0 0, .slice none 0 0] 25 from (Brb1.out.alloc _))
  have NS := Lib.hid (Bk.new w1 #[.int .i64 (leafKind s.k : Int), .string ⟨(hd s.ts).t.toArray⟩, .int .i64 ((hd s.ts).n : Int), .int .i64 (s.pl : Int), .slice none 0 0, .slice none 0 0] 25)
  generalize w1.alloc _ = wq at LS BS NS ⊢
  generalize hnb : w1.heap.size = nb at *
  have HNB := Lib.hid hnb
  clear hnb Brb1 L1
  go_loopg [10] 5 (fun g v0 wx => ∃ (kids : List Tree) (qs : List (Value × Value)) (ao : Option Addr) (ac : Nat) (st : St), g + kids.length = 5 ∧ kids.length ≤ 4 ∧ Hid (conLoop more R g (.node (leafKind s.k) (hd s.ts).t [] kids (hd s.ts).n s.pl) st = R0) ∧ Hid (Lc w E st d j wx) ∧ Hid (Bk wx w.heap.size #[.int .i64 0, .string ⟨#[]⟩, .int .i64 0, .int .i64 0, .slice none 0 0, .slice none 0 0] 25) ∧ Hid (Bk wx nb #[.int .i64 (leafKind s.k : Int), .string ⟨(hd s.ts).t.toArray⟩, .int .i64 ((hd s.ts).n : Int), .int .i64 (s.pl : Int), .slice none 0 0, .slice ao kids.length ac] 25) ∧ Hid (Ka wx (w.heap.size + 1) nb (.slice ao kids.length ac) kids qs))
  case atStart => exact ⟨[], [], none, 0, s.take, rfl, (by decide), hR0, LS, BS, NS, Ka.nil _ _ _⟩
  case round =>
    obtain ⟨kids, qs, ao, ac, st, hgk, hk4, HT, LW, BW, NW, KW⟩ := hrel
    clear LS BS NS hR0
    have z1 := BW.out.lt
    have z2 := NW.out.lt
    obtain ⟨y0, y1, y2, y3, y4, y5⟩ := NW.out.c6
    cases hm : more st with
    | false =>
      have HE := Lib.hid ((conLoop_no (k := gk) (R := R) (n := (.node (leafKind s.k) (hd s.ts).t [] kids (hd s.ts).n s.pl)) hm).symm.trans HT.out)
      have hc := HM.out wr E st LW.out.ps
      rw [hm] at hc
      clear hm HT
      go_wp2_with fail
      refine (hc).mono ?_
      rintro x w2 ⟨rfl, hb⟩
      have ho := Out.of_below LW.out.ps hb
      have L2 := Lib.hid (LW.out.call ho)
      have Brb2 := Lib.hid (show Bk w2 w.heap.size #[.int .i64 0, .string ⟨#[]⟩, .int .i64 0, .int .i64 0, .slice none 0 0, .slice none 0 0] 25 from Bk.gr BW.out ho.gr (by omega))
      have Bnb2 := Lib.hid (show Bk w2 nb #[.int .i64 (leafKind s.k : Int), .string ⟨(hd s.ts).t.toArray⟩, .int .i64 ((hd s.ts).n : Int), .int .i64 (s.pl : Int), .slice none 0 0, .slice ao kids.length ac] 25 from Bk.gr NW.out ho.gr (by omega))
      have zrb2 : w.heap.size < w2.heap.size := Brb2.out.lt
      have znb2 : nb < w2.heap.size := Bnb2.out.lt
      have hgr := Lib.hid ho.gr
      clear ho hb LW BW NW
      obtain ⟨grb0, grb1, grb2, grb3, grb4, grb5⟩ := Brb2.out.c6
      obtain ⟨frb0, frb1, frb2, frb3, frb4, frb5⟩ := Brb2.out.f6
      obtain ⟨gnb0, gnb1, gnb2, gnb3, gnb4, gnb5⟩ := Bnb2.out.c6
      obtain ⟨fnb0, fnb1, fnb2, fnb3, fnb4, fnb5⟩ := Bnb2.out.f6
      have KX := Lib.hid (Ka.gr KW.out (show Gr E.r wr w2 from hgr.out) (by omega))
      go_wp2
      refine bodyPost_ret (v := .agg #[.int .i64 (leafKind s.k : Int), .string ⟨(hd s.ts).t.toArray⟩, .int .i64 ((hd s.ts).n : Int), .int .i64 (s.pl : Int), .slice none 0 0, .slice ao kids.length ac]) (by simp [results, Tryz.results134, go_sem, grb0, grb1, grb2, grb3, grb4, grb5]) rfl ?_
      rw [← HE.out]
      exact ⟨none, 0, ao, ac, rfl, ((((((L2.out.set (by omega) 0 _).set (by omega) 1 _).set (by omega) 2 _).set (by omega) 3 _).set (by omega) 4 _).set (by omega) 5 _).out, (Ka.has (Ka.other (b := w.heap.size) (Ka.other (b := w.heap.size) (Ka.other (b := w.heap.size) (Ka.other (b := w.heap.size) (Ka.other (b := w.heap.size) (Ka.other (b := w.heap.size) KX.out (by omega) 0 _) (by omega) 1 _) (by omega) 2 _) (by omega) 3 _) (by omega) 4 _) (by omega) 5 _) _ _ _ _).mono (by omega)⟩
    | true =>
      have hc := HM.out wr E st LW.out.ps
      rw [hm] at hc
      by_cases h4 : kids.length = 4
      · obtain ⟨m, rfl⟩ : ∃ m, gk = m + 1 := ⟨0, by omega⟩
        have HE := Lib.hid ((conLoop_full (k := m) (R := R) (n := (.node (leafKind s.k) (hd s.ts).t [] kids (hd s.ts).n s.pl)) hm h4).symm.trans HT.out)
        have hx : ((kids.length : Int) == 4) = true := i_eq (b := 4) h4
        clear hm HT h4
        go_wp2_with fail
        refine (hc).mono ?_
        rintro x w2 ⟨rfl, hb⟩
        have ho := Out.of_below LW.out.ps hb
        have L2 := Lib.hid (LW.out.call ho)
        have Brb2 := Lib.hid (show Bk w2 w.heap.size #[.int .i64 0, .string ⟨#[]⟩, .int .i64 0, .int .i64 0, .slice none 0 0, .slice none 0 0] 25 from Bk.gr BW.out ho.gr (by omega))
        have Bnb2 := Lib.hid (show Bk w2 nb #[.int .i64 (leafKind s.k : Int), .string ⟨(hd s.ts).t.toArray⟩, .int .i64 ((hd s.ts).n : Int), .int .i64 (s.pl : Int), .slice none 0 0, .slice ao kids.length ac] 25 from Bk.gr NW.out ho.gr (by omega))
        have zrb2 : w.heap.size < w2.heap.size := Brb2.out.lt
        have znb2 : nb < w2.heap.size := Bnb2.out.lt
        clear ho hb LW BW NW
        obtain ⟨gnb0, gnb1, gnb2, gnb3, gnb4, gnb5⟩ := Bnb2.out.c6
        obtain ⟨fnb0, fnb1, fnb2, fnb3, fnb4, fnb5⟩ := Bnb2.out.f6
        go_wp2_with fail
        refine (fail_any _ E st d j L2.out.ps 16).mono ?_
        rintro x w3 ⟨rfl, ho⟩
        have L3 := Lib.hid (L2.out.call ho)
        have Brb3 := Lib.hid (show Bk w3 w.heap.size #[.int .i64 0, .string ⟨#[]⟩, .int .i64 0, .int .i64 0, .slice none 0 0, .slice none 0 0] 25 from Bk.gr Brb2.out ho.gr (by omega))
        have Bnb3 := Lib.hid (show Bk w3 nb #[.int .i64 (leafKind s.k : Int), .string ⟨(hd s.ts).t.toArray⟩, .int .i64 ((hd s.ts).n : Int), .int .i64 (s.pl : Int), .slice none 0 0, .slice ao kids.length ac] 25 from Bk.gr Bnb2.out ho.gr (by omega))
        have zrb3 : w.heap.size < w3.heap.size := Brb3.out.lt
        have znb3 : nb < w3.heap.size := Bnb3.out.lt
        clear ho L2 Brb2 Bnb2 gnb0 gnb1 gnb2 gnb3 gnb4 gnb5 fnb0 fnb1 fnb2 fnb3 fnb4 fnb5
        obtain ⟨grb0, grb1, grb2, grb3, grb4, grb5⟩ := Brb3.out.c6
        obtain ⟨frb0, frb1, frb2, frb3, frb4, frb5⟩ := Brb3.out.f6
        obtain ⟨gnb0, gnb1, gnb2, gnb3, gnb4, gnb5⟩ := Bnb3.out.c6
        obtain ⟨fnb0, fnb1, fnb2, fnb3, fnb4, fnb5⟩ := Bnb3.out.f6
        go_wp2
        refine bodyPost_ret (v := .agg #[.int .i64 0, .string ⟨#[]⟩, .int .i64 0, .int .i64 0, .slice none 0 0, .slice none 0 0]) (by simp [results, Tryz.results134, go_sem, grb0, grb1, grb2, grb3, grb4, grb5]) rfl ?_
        rw [← HE.out]
        exact ⟨none, 0, none, 0, rfl, ((((((L3.out.set (by omega) 0 _).set (by omega) 1 _).set (by omega) 2 _).set (by omega) 3 _).set (by omega) 4 _).set (by omega) 5 _).out, hasN_leaf _ _ _ _ _ _⟩
      · have hx : ((kids.length : Int) == 4) = false := i_ne (b := 4) h4
        obtain ⟨m, rfl⟩ : ∃ m, gk = m + 1 := ⟨gk - 1, by omega⟩
        have HS := Lib.hid ((conLoop_step (k := m) (R := R) (n := (.node (leafKind s.k) (hd s.ts).t [] kids (hd s.ts).n s.pl)) hm h4).symm.trans HT.out)
        have hk3 : kids.length + 1 ≤ 4 := by omega
        clear hm HT h4
        go_wp2_with fail
        refine (hc).mono ?_
        rintro x w2 ⟨rfl, hb⟩
        have ho := Out.of_below LW.out.ps hb
        have L2 := Lib.hid (LW.out.call ho)
        have Brb2 := Lib.hid (show Bk w2 w.heap.size #[.int .i64 0, .string ⟨#[]⟩, .int .i64 0, .int .i64 0, .slice none 0 0, .slice none 0 0] 25 from Bk.gr BW.out ho.gr (by omega))
        have Bnb2 := Lib.hid (show Bk w2 nb #[.int .i64 (leafKind s.k : Int), .string ⟨(hd s.ts).t.toArray⟩, .int .i64 ((hd s.ts).n : Int), .int .i64 (s.pl : Int), .slice none 0 0, .slice ao kids.length ac] 25 from Bk.gr NW.out ho.gr (by omega))
        have zrb2 : w.heap.size < w2.heap.size := Brb2.out.lt
        have znb2 : nb < w2.heap.size := Bnb2.out.lt
        have KX := Lib.hid (Ka.gr KW.out ho.gr (by omega))
        clear ho hb LW BW NW
        obtain ⟨gnb0, gnb1, gnb2, gnb3, gnb4, gnb5⟩ := Bnb2.out.c6
        obtain ⟨fnb0, fnb1, fnb2, fnb3, fnb4, fnb5⟩ := Bnb2.out.f6
        go_wp2
        have hn4 : kids.length ≤ 5000 := by omega
        go_region_law (first
          | (refine step_kid w3 (.tmp 20) (.tmp 24) (w.heap.size + 1) nb kids.length w2.heap.size (.slice ao kids.length ac) kids qs ((R st).1) (.slice ao3 ((R st).1).names.length ac3, .slice bo3 ((R st).1).kids.length bc3) _ (by rfl) (by rfl) (by rfl) (by rfl) K3.out Nx3.out rfl hn4 p1 p5.out p2 p3 znb3 rfl ?_; intro gg3 cp3 w3a hka hgrow; have mg3 : w3.heap.size ≤ w3a.heap.size := Nat.le_trans (by simp) hgrow.size; have L3a := Lib.hid (Lc.grown (L3.out.alloc _) hgrow (fun k hk => by have := (K3.out.1.lt k hk).1; omega)); have K3a := Lib.hid hka; have Brb3a := Lib.hid (show Bk w3a w.heap.size #[.int .i64 0, .string ⟨#[]⟩, .int .i64 0, .int .i64 0, .slice none 0 0, .slice none 0 0] 25 from Bk.grown (Bk.alloc Brb3.out _) hgrow (fun e => by have := (K3.out.1.lt _ e).1; omega)); have zrb3a := Brb3a.out.lt; have Bnb3a := Lib.hid (show Bk w3a nb #[.int .i64 (leafKind s.k : Int), .string ⟨(hd s.ts).t.toArray⟩, .int .i64 ((hd s.ts).n : Int), .int .i64 (s.pl : Int), .slice none 0 0, .slice ao kids.length ac] 25 from Bk.grown (Bk.alloc Bnb3.out _) hgrow (Ka.alloc K3.out (.cells #[] 0)).2.1); have znb3a := Bnb3a.out.lt; obtain ⟨e0, e1, e2, e3, e4, e5⟩ := Bnb3a.out.c6; obtain ⟨h0, h1, h2, h3, h4, h5⟩ := Bnb3a.out.f6; clear hka hgrow)
          | (go_simp; go_at_call 213; refine (HR0.out _ E st L2.out.drew.ps).mono ?_; rintro x w3 ⟨ao3, ac3, bo3, bc3, rfl, ho, hN⟩; have L3 := Lib.hid (L2.out.drew.call ho); have Brb3 := Lib.hid (show Bk w3 w.heap.size #[.int .i64 0, .string ⟨#[]⟩, .int .i64 0, .int .i64 0, .slice none 0 0, .slice none 0 0] 25 from Bk.gr Brb2.out.drew ho.gr (by omega)); have zrb3 : w.heap.size < w3.heap.size := Brb3.out.lt; have Bnb3 := Lib.hid (show Bk w3 nb #[.int .i64 (leafKind s.k : Int), .string ⟨(hd s.ts).t.toArray⟩, .int .i64 ((hd s.ts).n : Int), .int .i64 (s.pl : Int), .slice none 0 0, .slice ao kids.length ac] 25 from Bk.gr Bnb2.out.drew ho.gr (by omega)); have znb3 : nb < w3.heap.size := Bnb3.out.lt; have K3 := Lib.hid (Ka.gr KX.out.drew1 ho.gr (by omega)); have Nx3 := Lib.hid (show Hn w3 w2.heap.size ((R st).1) (.slice ao3 ((R st).1).names.length ac3, .slice bo3 ((R st).1).kids.length bc3) from hN); obtain ⟨cc0, cc1, cc2, cc3, cc4, cc5⟩ := Bnb3.out.c6; obtain ⟨d0, d1, d2, d3, d4, d5⟩ := Bnb3.out.f6; have hzz : w2.heap.size ≤ w3.heap.size := ho.gr.size; have p1 : (w.heap.size + 1) ≤ w2.heap.size := (by omega); have p2 : nb < w2.heap.size := (by omega); have p3 : (w.heap.size + 1) ≤ w3.heap.size := (by omega); have p5 := Lib.hid (show ∀ k, (.slice ao kids.length ac : Value).ownBlock = some k → k < w2.heap.size from fun k hk => (KX.out.1.lt k hk).2); clear ho hN hzz))
        all_goals
          go_wp2
          go_roundg m
          case rel => exact ⟨kids ++ [(R st).1], _, some ⟨gg3, 0, none⟩, cp3, (R st).2, by simp; omega, by simp; omega, HS, Lib.hid (L3a.out.set (by omega) 5 _), Lib.hid (Brb3a.out.other (b' := nb) (by omega) 5 _), by show Bk _ _ _ _; simpa using (Bnb3a.out.set 5 _), by show Ka _ _ _ _ _ _; simpa using Ka.set K3a.out 5 _⟩
          case measure => omega

set_option maxHeartbeats 2000000 in
theorem con_patoms {more : St → Bool} {R : Part} {d : Nat} {j : Bool} (hM : TC 135 more d j) (hR : NC 133 R d j) (w : World) (E : En) (s : St) (h : PS w E s d j) (hk : s.k ≠ 0) :
    Calls Tryz.prog 134 #[pp E, .func (.func 135) #[] #[], .func (.func 133) #[] #[]] w (NOut w E (conP more R s) d j) := by
  have HM := Lib.hid hM
  have HR0 := Lib.hid hR
  have hk0 := Lib.hid hk
  clear hM hR hk
  obtain ⟨R0, hR0⟩ : ∃ R0, Hid (conP more R s = R0) := ⟨_, rfl⟩
  rw [hR0.out]
  have L0 := Lib.hid (Lc.start h)
  have er0 := h.lt.1
  clear h
  go_enter Tryz.func134, Tryz.ntmps134
  go_wp2_with fail
  refine (leaf_ex _ E s d j (L0.out.alloc _).ps hk0.out).mono ?_
  rintro x w1 ⟨rfl, ho⟩
  have L1 := Lib.hid ((L0.out.alloc _).call ho)
  have Brb1 := Lib.hid (show Bk w1 w.heap.size #[.int .i64 0, .string ⟨#[]⟩, .int .i64 0, .int .i64 0, .slice none 0 0, .slice none 0 0] 25 from Bk.gr (heap_at _ _ _ (by simp [])) ho.gr (by omega))
  have zrb1 : w.heap.size < w1.heap.size := Brb1.out.lt
  clear ho L0
  go_wp2
  have LS := Lib.hid (show Lc w E s.take d j (w1.alloc (.cells #[.int .i64 (leafKind s.k : Int), .string ⟨(hd s.ts).t.toArray⟩, .int .i64 ((hd s.ts).n : Int), .int .i64 (s.pl : Int), .slice none 0 0, .slice none 0 0] 25)) from (L1.out.alloc _))
  have BS := Lib.hid (show Bk (w1.alloc (.cells #[.int .i64 (leafKind s.k : Int), .string ⟨(hd s.ts).t.toArray⟩, .int .i64 ((hd s.ts).n : Int), .int .i64 (s.pl : Int), .slice none 0 0, .slice none 0 0] 25)) w.heap.size #[.int .i64 0, .string ⟨#[]⟩, .int .i64 0, .int .i64 0, .slice none 0 0, .slice none 0 0] 25 from (Brb1.out.alloc _))
  have NS := Lib.hid (Bk.new w1 #[.int .i64 (leafKind s.k : Int), .string ⟨(hd s.ts).t.toArray⟩, .int .i64 ((hd s.ts).n : Int), .int .i64 (s.pl : Int), .slice none 0 0, .slice none 0 0] 25)
  generalize w1.alloc _ = wq at LS BS NS ⊢
  generalize hnb : w1.heap.size = nb at *
  have HNB := Lib.hid hnb
  clear hnb Brb1 L1
  go_loopg [10] 5 (fun g v0 wx => ∃ (kids : List Tree) (qs : List (Value × Value)) (ao : Option Addr) (ac : Nat) (st : St), g + kids.length = 5 ∧ kids.length ≤ 4 ∧ Hid (conLoop more R g (.node (leafKind s.k) (hd s.ts).t [] kids (hd s.ts).n s.pl) st = R0) ∧ Hid (Lc w E st d j wx) ∧ Hid (Bk wx w.heap.size #[.int .i64 0, .string ⟨#[]⟩, .int .i64 0, .int .i64 0, .slice none 0 0, .slice none 0 0] 25) ∧ Hid (Bk wx nb #[.int .i64 (leafKind s.k : Int), .string ⟨(hd s.ts).t.toArray⟩, .int .i64 ((hd s.ts).n : Int), .int .i64 (s.pl : Int), .slice none 0 0, .slice ao kids.length ac] 25) ∧ Hid (Ka wx (w.heap.size + 1) nb (.slice ao kids.length ac) kids qs))
  case atStart => exact ⟨[], [], none, 0, s.take, rfl, (by decide), hR0, LS, BS, NS, Ka.nil _ _ _⟩
  case round =>
    obtain ⟨kids, qs, ao, ac, st, hgk, hk4, HT, LW, BW, NW, KW⟩ := hrel
    clear LS BS NS hR0
    have z1 := BW.out.lt
    have z2 := NW.out.lt
    obtain ⟨y0, y1, y2, y3, y4, y5⟩ := NW.out.c6
    cases hm : more st with
    | false =>
      have HE := Lib.hid ((conLoop_no (k := gk) (R := R) (n := (.node (leafKind s.k) (hd s.ts).t [] kids (hd s.ts).n s.pl)) hm).symm.trans HT.out)
      have hc := HM.out wr E st LW.out.ps
      rw [hm] at hc
      clear hm HT
      go_wp2_with fail
      refine (hc).mono ?_
      rintro x w2 ⟨rfl, hb⟩
      have ho := Out.of_below LW.out.ps hb
      have L2 := Lib.hid (LW.out.call ho)
      have Brb2 := Lib.hid (show Bk w2 w.heap.size #[.int .i64 0, .string ⟨#[]⟩, .int .i64 0, .int .i64 0, .slice none 0 0, .slice none 0 0] 25 from Bk.gr BW.out ho.gr (by omega))
      have Bnb2 := Lib.hid (show Bk w2 nb #[.int .i64 (leafKind s.k : Int), .string ⟨(hd s.ts).t.toArray⟩, .int .i64 ((hd s.ts).n : Int), .int .i64 (s.pl : Int), .slice none 0 0, .slice ao kids.length ac] 25 from Bk.gr NW.out ho.gr (by omega))
      have zrb2 : w.heap.size < w2.heap.size := Brb2.out.lt
      have znb2 : nb < w2.heap.size := Bnb2.out.lt
      have hgr := Lib.hid ho.gr
      clear ho hb LW BW NW
      obtain ⟨grb0, grb1, grb2, grb3, grb4, grb5⟩ := Brb2.out.c6
      obtain ⟨frb0, frb1, frb2, frb3, frb4, frb5⟩ := Brb2.out.f6
      obtain ⟨gnb0, gnb1, gnb2, gnb3, gnb4, gnb5⟩ := Bnb2.out.c6
      obtain ⟨fnb0, fnb1, fnb2, fnb3, fnb4, fnb5⟩ := Bnb2.out.f6
      have KX := Lib.hid (Ka.gr KW.out (show Gr E.r wr w2 from hgr.out) (by omega))
      go_wp2
      refine bodyPost_ret (v := .agg #[.int .i64 (leafKind s.k : Int), .string ⟨(hd s.ts).t.toArray⟩, .int .i64 ((hd s.ts).n : Int), .int .i64 (s.pl : Int), .slice none 0 0, .slice ao kids.length ac]) (by simp [results, Tryz.results134, go_sem, grb0, grb1, grb2, grb3, grb4, grb5]) rfl ?_
      rw [← HE.out]
      exact ⟨none, 0, ao, ac, rfl, ((((((L2.out.set (by omega) 0 _).set (by omega) 1 _).set (by omega) 2 _).set (by omega) 3 _).set (by omega) 4 _).set (by omega) 5 _).out, (Ka.has (Ka.other (b := w.heap.size) (Ka.other (b := w.heap.size) (Ka.other (b := w.heap.size) (Ka.other (b := w.heap.size) (Ka.other (b := w.heap.size) (Ka.other (b := w.heap.size) KX.out (by omega) 0 _) (by omega) 1 _) (by omega) 2 _) (by omega) 3 _) (by omega) 4 _) (by omega) 5 _) _ _ _ _).mono (by omega)⟩
    | true =>
      have hc := HM.out wr E st LW.out.ps
      rw [hm] at hc
      by_cases h4 : kids.length = 4
      · obtain ⟨m, rfl⟩ : ∃ m, gk = m + 1 := ⟨0, by omega⟩
        have HE := Lib.hid ((conLoop_full (k := m) (R := R) (n := (.node (leafKind s.k) (hd s.ts).t [] kids (hd s.ts).n s.pl)) hm h4).symm.trans HT.out)
        have hx : ((kids.length : Int) == 4) = true := i_eq (b := 4) h4
        clear hm HT h4
        go_wp2_with fail
        refine (hc).mono ?_
        rintro x w2 ⟨rfl, hb⟩
        have ho := Out.of_below LW.out.ps hb
        have L2 := Lib.hid (LW.out.call ho)
        have Brb2 := Lib.hid (show Bk w2 w.heap.size #[.int .i64 0, .string ⟨#[]⟩, .int .i64 0, .int .i64 0, .slice none 0 0, .slice none 0 0] 25 from Bk.gr BW.out ho.gr (by omega))
        have Bnb2 := Lib.hid (show Bk w2 nb #[.int .i64 (leafKind s.k : Int), .string ⟨(hd s.ts).t.toArray⟩, .int .i64 ((hd s.ts).n : Int), .int .i64 (s.pl : Int), .slice none 0 0, .slice ao kids.length ac] 25 from Bk.gr NW.out ho.gr (by omega))
        have zrb2 : w.heap.size < w2.heap.size := Brb2.out.lt
        have znb2 : nb < w2.heap.size := Bnb2.out.lt
        clear ho hb LW BW NW
        obtain ⟨gnb0, gnb1, gnb2, gnb3, gnb4, gnb5⟩ := Bnb2.out.c6
        obtain ⟨fnb0, fnb1, fnb2, fnb3, fnb4, fnb5⟩ := Bnb2.out.f6
        go_wp2_with fail
        refine (fail_any _ E st d j L2.out.ps 16).mono ?_
        rintro x w3 ⟨rfl, ho⟩
        have L3 := Lib.hid (L2.out.call ho)
        have Brb3 := Lib.hid (show Bk w3 w.heap.size #[.int .i64 0, .string ⟨#[]⟩, .int .i64 0, .int .i64 0, .slice none 0 0, .slice none 0 0] 25 from Bk.gr Brb2.out ho.gr (by omega))
        have Bnb3 := Lib.hid (show Bk w3 nb #[.int .i64 (leafKind s.k : Int), .string ⟨(hd s.ts).t.toArray⟩, .int .i64 ((hd s.ts).n : Int), .int .i64 (s.pl : Int), .slice none 0 0, .slice ao kids.length ac] 25 from Bk.gr Bnb2.out ho.gr (by omega))
        have zrb3 : w.heap.size < w3.heap.size := Brb3.out.lt
        have znb3 : nb < w3.heap.size := Bnb3.out.lt
        clear ho L2 Brb2 Bnb2 gnb0 gnb1 gnb2 gnb3 gnb4 gnb5 fnb0 fnb1 fnb2 fnb3 fnb4 fnb5
        obtain ⟨grb0, grb1, grb2, grb3, grb4, grb5⟩ := Brb3.out.c6
        obtain ⟨frb0, frb1, frb2, frb3, frb4, frb5⟩ := Brb3.out.f6
        obtain ⟨gnb0, gnb1, gnb2, gnb3, gnb4, gnb5⟩ := Bnb3.out.c6
        obtain ⟨fnb0, fnb1, fnb2, fnb3, fnb4, fnb5⟩ := Bnb3.out.f6
        go_wp2
        refine bodyPost_ret (v := .agg #[.int .i64 0, .string ⟨#[]⟩, .int .i64 0, .int .i64 0, .slice none 0 0, .slice none 0 0]) (by simp [results, Tryz.results134, go_sem, grb0, grb1, grb2, grb3, grb4, grb5]) rfl ?_
        rw [← HE.out]
        exact ⟨none, 0, none, 0, rfl, ((((((L3.out.set (by omega) 0 _).set (by omega) 1 _).set (by omega) 2 _).set (by omega) 3 _).set (by omega) 4 _).set (by omega) 5 _).out, hasN_leaf _ _ _ _ _ _⟩
      · have hx : ((kids.length : Int) == 4) = false := i_ne (b := 4) h4
        obtain ⟨m, rfl⟩ : ∃ m, gk = m + 1 := ⟨gk - 1, by omega⟩
        have HS := Lib.hid ((conLoop_step (k := m) (R := R) (n := (.node (leafKind s.k) (hd s.ts).t [] kids (hd s.ts).n s.pl)) hm h4).symm.trans HT.out)
        have hk3 : kids.length + 1 ≤ 4 := by omega
        clear hm HT h4
        go_wp2_with fail
        refine (hc).mono ?_
        rintro x w2 ⟨rfl, hb⟩
        have ho := Out.of_below LW.out.ps hb
        have L2 := Lib.hid (LW.out.call ho)
        have Brb2 := Lib.hid (show Bk w2 w.heap.size #[.int .i64 0, .string ⟨#[]⟩, .int .i64 0, .int .i64 0, .slice none 0 0, .slice none 0 0] 25 from Bk.gr BW.out ho.gr (by omega))
        have Bnb2 := Lib.hid (show Bk w2 nb #[.int .i64 (leafKind s.k : Int), .string ⟨(hd s.ts).t.toArray⟩, .int .i64 ((hd s.ts).n : Int), .int .i64 (s.pl : Int), .slice none 0 0, .slice ao kids.length ac] 25 from Bk.gr NW.out ho.gr (by omega))
        have zrb2 : w.heap.size < w2.heap.size := Brb2.out.lt
        have znb2 : nb < w2.heap.size := Bnb2.out.lt
        have KX := Lib.hid (Ka.gr KW.out ho.gr (by omega))
        clear ho hb LW BW NW
        obtain ⟨gnb0, gnb1, gnb2, gnb3, gnb4, gnb5⟩ := Bnb2.out.c6
        obtain ⟨fnb0, fnb1, fnb2, fnb3, fnb4, fnb5⟩ := Bnb2.out.f6
        go_wp2
        have hn4 : kids.length ≤ 5000 := by omega
        go_region_law (first
          | (refine step_kid w3 (.tmp 20) (.tmp 24) (w.heap.size + 1) nb kids.length w2.heap.size (.slice ao kids.length ac) kids qs ((R st).1) (.slice ao3 ((R st).1).names.length ac3, .slice bo3 ((R st).1).kids.length bc3) _ (by rfl) (by rfl) (by rfl) (by rfl) K3.out Nx3.out rfl hn4 p1 p5.out p2 p3 znb3 rfl ?_; intro gg3 cp3 w3a hka hgrow; have mg3 : w3.heap.size ≤ w3a.heap.size := Nat.le_trans (by simp) hgrow.size; have L3a := Lib.hid (Lc.grown (L3.out.alloc _) hgrow (fun k hk => by have := (K3.out.1.lt k hk).1; omega)); have K3a := Lib.hid hka; have Brb3a := Lib.hid (show Bk w3a w.heap.size #[.int .i64 0, .string ⟨#[]⟩, .int .i64 0, .int .i64 0, .slice none 0 0, .slice none 0 0] 25 from Bk.grown (Bk.alloc Brb3.out _) hgrow (fun e => by have := (K3.out.1.lt _ e).1; omega)); have zrb3a := Brb3a.out.lt; have Bnb3a := Lib.hid (show Bk w3a nb #[.int .i64 (leafKind s.k : Int), .string ⟨(hd s.ts).t.toArray⟩, .int .i64 ((hd s.ts).n : Int), .int .i64 (s.pl : Int), .slice none 0 0, .slice ao kids.length ac] 25 from Bk.grown (Bk.alloc Bnb3.out _) hgrow (Ka.alloc K3.out (.cells #[] 0)).2.1); have znb3a := Bnb3a.out.lt; obtain ⟨e0, e1, e2, e3, e4, e5⟩ := Bnb3a.out.c6; obtain ⟨h0, h1, h2, h3, h4, h5⟩ := Bnb3a.out.f6; clear hka hgrow)
          | (go_simp; go_at_call 133; refine (HR0.out _ E st L2.out.drew.ps).mono ?_; rintro x w3 ⟨ao3, ac3, bo3, bc3, rfl, ho, hN⟩; have L3 := Lib.hid (L2.out.drew.call ho); have Brb3 := Lib.hid (show Bk w3 w.heap.size #[.int .i64 0, .string ⟨#[]⟩, .int .i64 0, .int .i64 0, .slice none 0 0, .slice none 0 0] 25 from Bk.gr Brb2.out.drew ho.gr (by omega)); have zrb3 : w.heap.size < w3.heap.size := Brb3.out.lt; have Bnb3 := Lib.hid (show Bk w3 nb #[.int .i64 (leafKind s.k : Int), .string ⟨(hd s.ts).t.toArray⟩, .int .i64 ((hd s.ts).n : Int), .int .i64 (s.pl : Int), .slice none 0 0, .slice ao kids.length ac] 25 from Bk.gr Bnb2.out.drew ho.gr (by omega)); have znb3 : nb < w3.heap.size := Bnb3.out.lt; have K3 := Lib.hid (Ka.gr KX.out.drew1 ho.gr (by omega)); have Nx3 := Lib.hid (show Hn w3 w2.heap.size ((R st).1) (.slice ao3 ((R st).1).names.length ac3, .slice bo3 ((R st).1).kids.length bc3) from hN); obtain ⟨cc0, cc1, cc2, cc3, cc4, cc5⟩ := Bnb3.out.c6; obtain ⟨d0, d1, d2, d3, d4, d5⟩ := Bnb3.out.f6; have hzz : w2.heap.size ≤ w3.heap.size := ho.gr.size; have p1 : (w.heap.size + 1) ≤ w2.heap.size := (by omega); have p2 : nb < w2.heap.size := (by omega); have p3 : (w.heap.size + 1) ≤ w3.heap.size := (by omega); have p5 := Lib.hid (show ∀ k, (.slice ao kids.length ac : Value).ownBlock = some k → k < w2.heap.size from fun k hk => (KX.out.1.lt k hk).2); clear ho hN hzz))
        all_goals
          go_wp2
          go_roundg m
          case rel => exact ⟨kids ++ [(R st).1], _, some ⟨gg3, 0, none⟩, cp3, (R st).2, by simp; omega, by simp; omega, HS, Lib.hid (L3a.out.set (by omega) 5 _), Lib.hid (Brb3a.out.other (b' := nb) (by omega) 5 _), by show Bk _ _ _ _; simpa using (Bnb3a.out.set 5 _), by show Ka _ _ _ _ _ _; simpa using Ka.set K3a.out 5 _⟩
          case measure => omega

end Go.Proofs.YtlcapkgbbgpdmaaGreatDoor.PM
