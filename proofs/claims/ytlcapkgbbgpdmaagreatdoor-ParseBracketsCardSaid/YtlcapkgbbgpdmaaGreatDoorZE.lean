/- the parser, walked: matches, atoms, apps, types, lists: several texts in one. -/
import Derived.Test.YtlcapkgbbgpdmaaGreatDoorZD

/- match. -/
namespace Go.Proofs.YtlcapkgbbgpdmaaGreatDoor.PW
open Go.RowKit Go.Proofs.YtlcapkgbbgpdmaaGreatDoor.P Go.Proofs.YtlcapkgbbgpdmaaGreatDoor.A Go.Proofs.YtlcapkgbbgpdmaaGreatDoor.TK Go.Proofs.YtlcapkgbbgpdmaaGreatDoor.TO Go.Proofs.YtlcapkgbbgpdmaaGreatDoor.GR Go.Proofs.YtlcapkgbbgpdmaaGreatDoor.MP Go.Proofs.YtlcapkgbbgpdmaaGreatDoor.YR Go.Proofs.YtlcapkgbbgpdmaaGreatDoor.PN Go.Proofs.YtlcapkgbbgpdmaaGreatDoor.PS Go.Proofs.YtlcapkgbbgpdmaaGreatDoor.PA Go.Proofs.YtlcapkgbbgpdmaaGreatDoor.PB Go.Proofs.YtlcapkgbbgpdmaaGreatDoor.PC Go.Proofs.YtlcapkgbbgpdmaaGreatDoor.PD Go.Proofs.YtlcapkgbbgpdmaaGreatDoor.PE Go.Proofs.YtlcapkgbbgpdmaaGreatDoor.PF Go.Proofs.YtlcapkgbbgpdmaaGreatDoor.PG Go.Proofs.YtlcapkgbbgpdmaaGreatDoor.PH Go.Proofs.YtlcapkgbbgpdmaaGreatDoor.PI Go.Proofs.YtlcapkgbbgpdmaaGreatDoor.PJ Go.Proofs.YtlcapkgbbgpdmaaGreatDoor.PK Go.Proofs.YtlcapkgbbgpdmaaGreatDoor.PL Go.Proofs.YtlcapkgbbgpdmaaGreatDoor.PM Go.Proofs.YtlcapkgbbgpdmaaGreatDoor.PO Go.Proofs.YtlcapkgbbgpdmaaGreatDoor.PP Go.Proofs.YtlcapkgbbgpdmaaGreatDoor.PR Go.Proofs.YtlcapkgbbgpdmaaGreatDoor.PT Go.Proofs.YtlcapkgbbgpdmaaGreatDoor.PU Go.Proofs.YtlcapkgbbgpdmaaGreatDoor.PV
set_option linter.unusedVariables false
set_option maxRecDepth 100000
attribute [local go_sem ↓] Go.wp_at_zero Go.wp_at_succ

def matchEnd (p : Nat) : Option (List Tree) × St → Tree × St
  | (none, r) => (zero, r)
  | (some ks, r) => (.node 11 [] [] ks 0 p, expect wEnd r)
theorem match_eq (L : Lev) (s : St) : matchP L s = matchEnd s.pl (rowsLoop L 21 0 [(L.x true (expect wMatch s)).1] (expect wWith (L.x true (expect wMatch s)).2)) := by
  unfold matchP matchEnd
  rfl
theorem rows_no {L : Lev} {n rows : Nat} {ks : List Tree} {s : St} (h0 : rows ≠ 0) (h : s.is [124] = false) : rowsLoop L n rows ks s = (some ks, s) := by
  cases n with
  | zero => rfl
  | succ n => unfold rowsLoop; rw [if_neg (by rw [h]; simp [h0])]
theorem rows_full {L : Lev} {n : Nat} {ks : List Tree} {s : St} (h : s.is [124] = true) : rowsLoop L (n + 1) 20 ks s = (none, s.fail 16) := by
  unfold rowsLoop; rw [if_pos (by rw [h]; simp), if_pos rfl]
/-- A row. -/
def rowS (L : Lev) (s : St) : St := (L.x true (expect wArrow (L.y (expect [124] s)).2)).2
theorem rows_step {L : Lev} {n rows : Nat} {ks : List Tree} {s : St} (h : rows = 0 ∨ s.is [124] = true) (h20 : rows ≠ 20) :
    rowsLoop L (n + 1) rows ks s = rowsLoop L n (rows + 1) ((ks ++ [(L.y (expect [124] s)).1]) ++ [(L.x true (expect wArrow (L.y (expect [124] s)).2)).1]) (rowS L s) := by
  conv => lhs; unfold rowsLoop
  rw [if_pos (by rcases h with h | h <;> simp [h]), if_neg h20]
  rfl

set_option maxHeartbeats 8000000 in
theorem match_any {L : Lev} {d : Nat} (hL : LevOK L d) (j : Bool) : NC 68 (matchP L) d j := by
  intro w E s h
  have HX := exp_any (hL.x true)
  have HY := hL.y true
  have hmf : ∀ (fn : Fn) (first cap : Array Value) (w : World), (Instr.makeFunc fn first cap).run Tryz.prog w = .ok (.func fn first cap) w := fun _ _ _ _ => rfl
  obtain ⟨R1, hR1⟩ : ∃ R1, Hid (matchP L s = R1) := ⟨_, rfl⟩
  rw [hR1.out]
  have hR2 := Lib.hid ((match_eq L s).symm.trans hR1.out)
  clear hR1
  have L0 := Lib.hid (Lc.start h)
  have er0 := h.lt.1
  clear h
  go_enter_defers Tryz.func68, Tryz.ntmps68
  go_wp2_with fail
  refine (joining_any _ E s d j (L0.out.alloc _).ps).mono ?_
  rintro x w1 ⟨c1, c2, rfl, ho, hc1, hc2, m1, m2⟩
  have L1 := Lib.hid ((L0.out.alloc _).call ho)
  have Brb1 := Lib.hid (show Bk w1 w.heap.size #[.int .i64 0, .string ⟨#[]⟩, .int .i64 0, .int .i64 0, .slice none 0 0, .slice none 0 0] 25 from Bk.gr (heap_at _ _ _ (by simp [])) ho.gr (by omega))
  have zrb1 : w.heap.size < w1.heap.size := Brb1.out.lt
  have Bc11 := Lib.hid hc1
  have Bc21 := Lib.hid hc2
  have M1 : w.heap.size + 1 ≤ c1 := (by simpa using m1)
  have M2 : w.heap.size + 1 ≤ c2 := (by simpa using m2)
  have zc11 := Bc11.out.lt
  have zc21 := Bc21.out.lt
  clear ho hc1 hc2 m1 m2 L0
  go_wp2_with fail
  refine (begin_any _ E s d true L1.out.ps 11).mono ?_
  rintro x w2 ⟨rfl, hb⟩
  have ho := Out.of_below L1.out.ps hb
  have L2 := Lib.hid (L1.out.call ho)
  have Brb2 := Lib.hid (show Bk w2 w.heap.size #[.int .i64 0, .string ⟨#[]⟩, .int .i64 0, .int .i64 0, .slice none 0 0, .slice none 0 0] 25 from Bk.gr Brb1.out ho.gr (by omega))
  have Bc12 := Lib.hid (show Bk w2 c1 #[pp E] 71 from Bk.gr Bc11.out ho.gr (by omega))
  have Bc22 := Lib.hid (show Bk w2 c2 #[.bool j] 4 from Bk.gr Bc21.out ho.gr (by omega))
  have zrb2 : w.heap.size < w2.heap.size := Brb2.out.lt
  have zc12 : c1 < w2.heap.size := Bc12.out.lt
  have zc22 : c2 < w2.heap.size := Bc22.out.lt
  clear ho hb L1 Brb1 Bc11 Bc21
  go_wp2_with fail
  refine (expect_any _ E s d true (L2.out.alloc _).ps wMatch (by decide)).mono ?_
  rintro x w3 ⟨rfl, ho⟩
  have L3 := Lib.hid ((L2.out.alloc _).call ho)
  have Brb3 := Lib.hid (show Bk w3 w.heap.size #[.int .i64 0, .string ⟨#[]⟩, .int .i64 0, .int .i64 0, .slice none 0 0, .slice none 0 0] 25 from Bk.gr (Brb2.out.alloc _) ho.gr (by omega))
  have Bc13 := Lib.hid (show Bk w3 c1 #[pp E] 71 from Bk.gr (Bc12.out.alloc _) ho.gr (by omega))
  have Bc23 := Lib.hid (show Bk w3 c2 #[.bool j] 4 from Bk.gr (Bc22.out.alloc _) ho.gr (by omega))
  have Bnb3 := Lib.hid (show Bk w3 w2.heap.size #[.int .i64 11, .string ⟨#[]⟩, .int .i64 0, .int .i64 (s.pl : Int), .slice none 0 0, .slice none 0 0] 25 from Bk.gr (heap_at _ _ _ (by simp [])) ho.gr (by omega))
  have zrb3 : w.heap.size < w3.heap.size := Brb3.out.lt
  have zc13 : c1 < w3.heap.size := Bc13.out.lt
  have zc23 : c2 < w3.heap.size := Bc23.out.lt
  have znb3 : w2.heap.size < w3.heap.size := Bnb3.out.lt
  clear ho L2 Brb2 Bc12 Bc22
  go_wp2_with fail
  refine (HX _ E (expect wMatch s) L3.out.ps).mono ?_
  rintro x w4 ⟨ao4, ac4, bo4, bc4, rfl, ho, hN⟩
  have mm4 : w3.heap.size ≤ w4.heap.size := Nat.le_trans (by simp []) ho.gr.size
  have L4 := Lib.hid (L3.out.call ho)
  have Brb4 := Lib.hid (show Bk w4 w.heap.size #[.int .i64 0, .string ⟨#[]⟩, .int .i64 0, .int .i64 0, .slice none 0 0, .slice none 0 0] 25 from Bk.gr Brb3.out ho.gr (by omega))
  have Bc14 := Lib.hid (show Bk w4 c1 #[pp E] 71 from Bk.gr Bc13.out ho.gr (by omega))
  have Bc24 := Lib.hid (show Bk w4 c2 #[.bool j] 4 from Bk.gr Bc23.out ho.gr (by omega))
  have Bnb4 := Lib.hid (show Bk w4 w2.heap.size #[.int .i64 11, .string ⟨#[]⟩, .int .i64 0, .int .i64 (s.pl : Int), .slice none 0 0, .slice none 0 0] 25 from Bk.gr Bnb3.out ho.gr (by omega))
  have zrb4 : w.heap.size < w4.heap.size := Brb4.out.lt
  have zc14 : c1 < w4.heap.size := Bc14.out.lt
  have zc24 : c2 < w4.heap.size := Bc24.out.lt
  have znb4 : w2.heap.size < w4.heap.size := Bnb4.out.lt
  have Nx4 := Lib.hid (show Hn w4 w3.heap.size ((L.x true (expect wMatch s)).1) (.slice ao4 ((L.x true (expect wMatch s)).1).names.length ac4, .slice bo4 ((L.x true (expect wMatch s)).1).kids.length bc4) from hN.mono (by simp []))
  clear ho hN L3 Brb3 Bc13 Bc23 Bnb3
  obtain ⟨gnb0, gnb1, gnb2, gnb3, gnb4, gnb5⟩ := Bnb4.out.c6
  obtain ⟨fnb0, fnb1, fnb2, fnb3, fnb4, fnb5⟩ := Bnb4.out.f6
  go_wp2_with fail
  refine (expect_any _ E (L.x true (expect wMatch s)).2 d true ((L4.out.set (by omega) 5 _).alloc _).ps wWith (by decide)).mono ?_
  rintro x w5 ⟨rfl, ho⟩
  have mm5 : w4.heap.size ≤ w5.heap.size := Nat.le_trans (by simp []) ho.gr.size
  have L5 := Lib.hid (((L4.out.set (by omega) 5 _).alloc _).call ho)
  have Brb5 := Lib.hid (show Bk w5 w.heap.size #[.int .i64 0, .string ⟨#[]⟩, .int .i64 0, .int .i64 0, .slice none 0 0, .slice none 0 0] 25 from Bk.gr ((Brb4.out.other (b' := w2.heap.size) (by omega) 5 _).alloc _) ho.gr (by omega))
  have Bc15 := Lib.hid (show Bk w5 c1 #[pp E] 71 from Bk.gr ((Bc14.out.other (b' := w2.heap.size) (by omega) 5 _).alloc _) ho.gr (by omega))
  have Bc25 := Lib.hid (show Bk w5 c2 #[.bool j] 4 from Bk.gr ((Bc24.out.other (b' := w2.heap.size) (by omega) 5 _).alloc _) ho.gr (by omega))
  have Bnb5 := Lib.hid (show Bk w5 w2.heap.size #[.int .i64 11, .string ⟨#[]⟩, .int .i64 0, .int .i64 (s.pl : Int), .slice none 0 0, .slice (some ⟨w4.heap.size, 0, none⟩) 1 1] 25 from Bk.gr ((Bnb4.out.set 5 _).alloc _) ho.gr (by omega))
  have Kr5 := Lib.hid (Ka.gr (Kd.ka2 (Kd.made (Hn.set (b := w2.heap.size) Nx4.out (by omega) 5 _) (base := w3.heap.size) (n := w4.heap.size) (by omega) (by simp []; omega) (by simp []) _ rfl) (by omega)) ho.gr (by omega))
  have zrb5 : w.heap.size < w5.heap.size := Brb5.out.lt
  have zc15 : c1 < w5.heap.size := Bc15.out.lt
  have zc25 : c2 < w5.heap.size := Bc25.out.lt
  have znb5 : w2.heap.size < w5.heap.size := Bnb5.out.lt
  clear ho L4 Brb4 Bc14 Bc24 Bnb4 Nx4 gnb0 gnb1 gnb2 gnb3 gnb4 gnb5 fnb0 fnb1 fnb2 fnb3 fnb4 fnb5
  go_wp2
  generalize hnb : w2.heap.size = nb at *
  have HNB := Lib.hid hnb
  generalize hba : w3.heap.size = base at *
  have HBA := Lib.hid hba
  clear hnb hba
  have l1 : c1 < base := by omega
  have l2 : c2 < base := by omega
  have l3 : nb < base := by omega
  have l4 : w.heap.size < base := by omega
  have l6 : nb ≠ c1 := by have := HNB.out; omega
  have l7 : nb ≠ c2 := by have := HNB.out; omega
  have l8 : nb ≠ w.heap.size := by have := HNB.out; omega
  go_loopg [4] 21 (fun g v0 wx => ∃ (rows : Nat) (kids : List Tree) (qs : List (Value × Value)) (ao : Option Addr) (ac : Nat) (st : St), v0 = .int .i64 (rows : Int) ∧ g + rows = 21 ∧ rows ≤ 20 ∧ kids.length ≤ 1 + 2 * rows ∧ Hid (matchEnd s.pl (rowsLoop L g rows kids st) = R1) ∧ base ≤ wx.heap.size ∧ Hid (Lc w E st d true wx) ∧ Hid (Bk wx w.heap.size #[.int .i64 0, .string ⟨#[]⟩, .int .i64 0, .int .i64 0, .slice none 0 0, .slice none 0 0] 25) ∧ Hid (Bk wx c1 #[pp E] 71) ∧ Hid (Bk wx c2 #[.bool j] 4) ∧ Hid (Bk wx nb #[.int .i64 11, .string ⟨#[]⟩, .int .i64 0, .int .i64 (s.pl : Int), .slice none 0 0, .slice ao kids.length ac] 25) ∧ Hid (Ka wx base nb (.slice ao kids.length ac) kids qs))
  case atStart => exact ⟨0, [(L.x true (expect wMatch s)).1], [(.slice ao4 ((L.x true (expect wMatch s)).1).names.length ac4, .slice bo4 ((L.x true (expect wMatch s)).1).kids.length bc4)], some ⟨w4.heap.size, 0, none⟩, 1, (expect wWith (L.x true (expect wMatch s)).2), rfl, rfl, by decide, Nat.le_refl _, hR2, by omega, L5, Brb5, Bc15, Bc25, Bnb5, Kr5⟩
  case round =>
    obtain ⟨rows, kids, qs, ao, ac, st, rfl, hgr, h20, hkl, HT, lb, LW, BW, AW, CW, NW, KW⟩ := hrel
    clear hR2 L5 Brb5 Bc15 Bc25 Bnb5 Kr5
    have z1 := BW.out.lt
    have z2 := NW.out.lt
    have z3 := AW.out.lt
    have z4 := CW.out.lt
    by_cases h0 : rows = 0
    · have hx0 : ((rows : Int) == 0) = true := i_eq (b := 0) h0
      have hor : rows = 0 ∨ st.is [124] = true := .inl h0
      have h20' : rows ≠ 20 := by omega
      clear h0
      obtain ⟨m, rfl⟩ : ∃ m, gk = m + 1 := ⟨gk - 1, by omega⟩
      have HS := Lib.hid ((congrArg (matchEnd s.pl) (rows_step (L := L) (n := m) (ks := kids) hor h20')).symm.trans HT.out)
      have hr19 : rows ≤ 19 := by omega
      have h20x : ((rows : Int) == 20) = false := i_ne (b := 20) h20'
      clear HT hor h20'
      go_wp2_with fail
      refine (expect_any _ E st d true LW.out.ps [124] (by decide)).mono ?_
      rintro x w6 ⟨rfl, ho⟩
      have mm6 : wr.heap.size ≤ w6.heap.size := Nat.le_trans (by simp []) ho.gr.size
      have L6 := Lib.hid (LW.out.call ho)
      have Brb6 := Lib.hid (show Bk w6 w.heap.size #[.int .i64 0, .string ⟨#[]⟩, .int .i64 0, .int .i64 0, .slice none 0 0, .slice none 0 0] 25 from Bk.gr BW.out ho.gr (by omega))
      have Bc16 := Lib.hid (show Bk w6 c1 #[pp E] 71 from Bk.gr AW.out ho.gr (by omega))
      have Bc26 := Lib.hid (show Bk w6 c2 #[.bool j] 4 from Bk.gr CW.out ho.gr (by omega))
      have Bnb6 := Lib.hid (show Bk w6 nb #[.int .i64 11, .string ⟨#[]⟩, .int .i64 0, .int .i64 (s.pl : Int), .slice none 0 0, .slice ao kids.length ac] 25 from Bk.gr NW.out ho.gr (by omega))
      have Kr6 := Lib.hid (Ka.gr KW.out ho.gr (by omega))
      have zrb6 : w.heap.size < w6.heap.size := Brb6.out.lt
      have zc16 : c1 < w6.heap.size := Bc16.out.lt
      have zc26 : c2 < w6.heap.size := Bc26.out.lt
      have znb6 : nb < w6.heap.size := Bnb6.out.lt
      clear ho LW BW AW CW NW KW
      obtain ⟨gnb0, gnb1, gnb2, gnb3, gnb4, gnb5⟩ := Bnb6.out.c6
      obtain ⟨fnb0, fnb1, fnb2, fnb3, fnb4, fnb5⟩ := Bnb6.out.f6
      go_wp2
      have hk1000 : kids.length ≤ 5000 := by omega
      refine wp_region_noPanic ?_
      go_region_law (first
        | (refine step_kid w7 (.tmp 33) (.tmp 36) base nb kids.length w6.heap.size (.slice ao kids.length ac) kids qs ((L.y (expect [124] st)).1) (.slice ao7 ((L.y (expect [124] st)).1).names.length ac7, .slice bo7 ((L.y (expect [124] st)).1).kids.length bc7) _ (by rfl) (by rfl) (by rfl) (by rfl) K7.out Np7.out rfl hk1000 p1 p5.out p2 p3 znb7 rfl ?_; intro gg7 cp7 w7a hka hgrow; have mg7 : w7.heap.size ≤ w7a.heap.size := Nat.le_trans (by simp) hgrow.size; have L7a := Lib.hid (Lc.grown (L7.out.alloc _) hgrow (fun k hk => by have := (K7.out.1.lt k hk).1; omega)); have K7a := Lib.hid hka; have Brb7a := Lib.hid (show Bk w7a w.heap.size #[.int .i64 0, .string ⟨#[]⟩, .int .i64 0, .int .i64 0, .slice none 0 0, .slice none 0 0] 25 from Bk.grown (Bk.alloc Brb7.out _) hgrow (fun e => by have := (K7.out.1.lt _ e).1; omega)); have zrb7a := Brb7a.out.lt; have Bc17a := Lib.hid (show Bk w7a c1 #[pp E] 71 from Bk.grown (Bk.alloc Bc17.out _) hgrow (fun e => by have := (K7.out.1.lt _ e).1; omega)); have zc17a := Bc17a.out.lt; have Bc27a := Lib.hid (show Bk w7a c2 #[.bool j] 4 from Bk.grown (Bk.alloc Bc27.out _) hgrow (fun e => by have := (K7.out.1.lt _ e).1; omega)); have zc27a := Bc27a.out.lt; have Bnb7a := Lib.hid (show Bk w7a nb #[.int .i64 11, .string ⟨#[]⟩, .int .i64 0, .int .i64 (s.pl : Int), .slice none 0 0, .slice ao kids.length ac] 25 from Bk.grown (Bk.alloc Bnb7.out _) hgrow (Ka.alloc K7.out (.cells #[] 0)).2.1); have znb7a := Bnb7a.out.lt; obtain ⟨e0, e1, e2, e3, e4, e5⟩ := Bnb7a.out.c6; obtain ⟨h0, h1, h2, h3, h4, h5⟩ := Bnb7a.out.f6; clear hka hgrow)
        | (go_simp; go_at_call 104; refine (HY _ E (expect [124] st) L6.out.drew.ps).mono ?_; rintro x w7 ⟨ao7, ac7, bo7, bc7, rfl, ho, hN⟩; have L7 := Lib.hid (L6.out.drew.call ho); have Brb7 := Lib.hid (show Bk w7 w.heap.size #[.int .i64 0, .string ⟨#[]⟩, .int .i64 0, .int .i64 0, .slice none 0 0, .slice none 0 0] 25 from Bk.gr Brb6.out.drew ho.gr (by omega)); have zrb7 : w.heap.size < w7.heap.size := Brb7.out.lt; have Bc17 := Lib.hid (show Bk w7 c1 #[pp E] 71 from Bk.gr Bc16.out.drew ho.gr (by omega)); have zc17 : c1 < w7.heap.size := Bc17.out.lt; have Bc27 := Lib.hid (show Bk w7 c2 #[.bool j] 4 from Bk.gr Bc26.out.drew ho.gr (by omega)); have zc27 : c2 < w7.heap.size := Bc27.out.lt; have Bnb7 := Lib.hid (show Bk w7 nb #[.int .i64 11, .string ⟨#[]⟩, .int .i64 0, .int .i64 (s.pl : Int), .slice none 0 0, .slice ao kids.length ac] 25 from Bk.gr Bnb6.out.drew ho.gr (by omega)); have znb7 : nb < w7.heap.size := Bnb7.out.lt; have K7 := Lib.hid (Ka.gr Kr6.out.drew1 ho.gr (by omega)); have Np7 := Lib.hid (show Hn w7 w6.heap.size ((L.y (expect [124] st)).1) (.slice ao7 ((L.y (expect [124] st)).1).names.length ac7, .slice bo7 ((L.y (expect [124] st)).1).kids.length bc7) from hN); obtain ⟨cc0, cc1, cc2, cc3, cc4, cc5⟩ := Bnb7.out.c6; obtain ⟨d0, d1, d2, d3, d4, d5⟩ := Bnb7.out.f6; have hzz : w6.heap.size ≤ w7.heap.size := ho.gr.size; have p1 : base ≤ w6.heap.size := (by omega); have p2 : nb < w6.heap.size := (by omega); have p3 : base ≤ w7.heap.size := (by omega); have p5 := Lib.hid (show ∀ k, (.slice ao kids.length ac : Value).ownBlock = some k → k < w6.heap.size from fun k hk => (Kr6.out.1.lt k hk).2); clear ho hN hzz))
      all_goals refine noPanic_of ?_
      all_goals
        go_wp2_with fail
        have sz7 := L7a.out.gr.size
        have lb2 : nb < w7a.heap.size := znb7a
        refine (expect_any _ E (L.y (expect [124] st)).2 d true (L7a.out.set (by omega) 5 _).ps wArrow (by decide)).mono ?_
        rintro x w8 ⟨rfl, ho⟩
        have mm8 : w7a.heap.size ≤ w8.heap.size := Nat.le_trans (by simp []) ho.gr.size
        have L8 := Lib.hid ((L7a.out.set (by omega) 5 _).call ho)
        have Brb8 := Lib.hid (show Bk w8 w.heap.size #[.int .i64 0, .string ⟨#[]⟩, .int .i64 0, .int .i64 0, .slice none 0 0, .slice none 0 0] 25 from Bk.gr (Brb7a.out.other (b' := nb) (by omega) 5 _) ho.gr (by omega))
        have Bc18 := Lib.hid (show Bk w8 c1 #[pp E] 71 from Bk.gr (Bc17a.out.other (b' := nb) (by omega) 5 _) ho.gr (by omega))
        have Bc28 := Lib.hid (show Bk w8 c2 #[.bool j] 4 from Bk.gr (Bc27a.out.other (b' := nb) (by omega) 5 _) ho.gr (by omega))
        have Bnb8 := Lib.hid (show Bk w8 nb #[.int .i64 11, .string ⟨#[]⟩, .int .i64 0, .int .i64 (s.pl : Int), .slice none 0 0, .slice (some ⟨gg7, 0, none⟩) (kids.length + 1) cp7] 25 from Bk.gr (Bnb7a.out.set 5 _) ho.gr (by omega))
        have Kr8 := Lib.hid (Ka.gr (Ka.set K7a.out 5 _) ho.gr (by omega))
        have zrb8 : w.heap.size < w8.heap.size := Brb8.out.lt
        have zc18 : c1 < w8.heap.size := Bc18.out.lt
        have zc28 : c2 < w8.heap.size := Bc28.out.lt
        have znb8 : nb < w8.heap.size := Bnb8.out.lt
        clear ho L7a Brb7a Bc17a Bc27a Bnb7a K7a
        obtain ⟨gnb0, gnb1, gnb2, gnb3, gnb4, gnb5⟩ := Bnb8.out.c6
        obtain ⟨fnb0, fnb1, fnb2, fnb3, fnb4, fnb5⟩ := Bnb8.out.f6
        go_wp2
        have hk1001 : kids.length + 1 ≤ 5000 := by omega
        refine wp_region_noPanic ?_
        go_region_law (first
          | (refine step_kid w9 (.tmp 42) (.tmp 45) base nb (kids.length + 1) w8.heap.size (.slice (some ⟨gg7, 0, none⟩) (kids.length + 1) cp7) (kids ++ [(L.y (expect [124] st)).1]) (qs ++ [(.slice ao7 ((L.y (expect [124] st)).1).names.length ac7, .slice bo7 ((L.y (expect [124] st)).1).kids.length bc7)]) ((L.x true (expect wArrow (L.y (expect [124] st)).2)).1) (.slice ao9 ((L.x true (expect wArrow (L.y (expect [124] st)).2)).1).names.length ac9, .slice bo9 ((L.x true (expect wArrow (L.y (expect [124] st)).2)).1).kids.length bc9) _ (by rfl) (by rfl) (by rfl) (by rfl) K9.out Nb9.out (by rw [List.length_append]; rfl) hk1001 p1 p5.out p2 p3 znb9 rfl ?_; intro gg9 cp9 w9a hka hgrow; have mg9 : w9.heap.size ≤ w9a.heap.size := Nat.le_trans (by simp) hgrow.size; have L9a := Lib.hid (Lc.grown (L9.out.alloc _) hgrow (fun k hk => by have := (K9.out.1.lt k hk).1; omega)); have K9a := Lib.hid hka; have Brb9a := Lib.hid (show Bk w9a w.heap.size #[.int .i64 0, .string ⟨#[]⟩, .int .i64 0, .int .i64 0, .slice none 0 0, .slice none 0 0] 25 from Bk.grown (Bk.alloc Brb9.out _) hgrow (fun e => by have := (K9.out.1.lt _ e).1; omega)); have zrb9a := Brb9a.out.lt; have Bc19a := Lib.hid (show Bk w9a c1 #[pp E] 71 from Bk.grown (Bk.alloc Bc19.out _) hgrow (fun e => by have := (K9.out.1.lt _ e).1; omega)); have zc19a := Bc19a.out.lt; have Bc29a := Lib.hid (show Bk w9a c2 #[.bool j] 4 from Bk.grown (Bk.alloc Bc29.out _) hgrow (fun e => by have := (K9.out.1.lt _ e).1; omega)); have zc29a := Bc29a.out.lt; have Bnb9a := Lib.hid (show Bk w9a nb #[.int .i64 11, .string ⟨#[]⟩, .int .i64 0, .int .i64 (s.pl : Int), .slice none 0 0, .slice (some ⟨gg7, 0, none⟩) (kids.length + 1) cp7] 25 from Bk.grown (Bk.alloc Bnb9.out _) hgrow (Ka.alloc K9.out (.cells #[] 0)).2.1); have znb9a := Bnb9a.out.lt; obtain ⟨e0, e1, e2, e3, e4, e5⟩ := Bnb9a.out.c6; obtain ⟨h0, h1, h2, h3, h4, h5⟩ := Bnb9a.out.f6; clear hka hgrow)
          | (go_simp; go_at_call 75; refine (HX _ E (expect wArrow (L.y (expect [124] st)).2) L8.out.drew.ps).mono ?_; rintro x w9 ⟨ao9, ac9, bo9, bc9, rfl, ho, hN⟩; have L9 := Lib.hid (L8.out.drew.call ho); have Brb9 := Lib.hid (show Bk w9 w.heap.size #[.int .i64 0, .string ⟨#[]⟩, .int .i64 0, .int .i64 0, .slice none 0 0, .slice none 0 0] 25 from Bk.gr Brb8.out.drew ho.gr (by omega)); have zrb9 : w.heap.size < w9.heap.size := Brb9.out.lt; have Bc19 := Lib.hid (show Bk w9 c1 #[pp E] 71 from Bk.gr Bc18.out.drew ho.gr (by omega)); have zc19 : c1 < w9.heap.size := Bc19.out.lt; have Bc29 := Lib.hid (show Bk w9 c2 #[.bool j] 4 from Bk.gr Bc28.out.drew ho.gr (by omega)); have zc29 : c2 < w9.heap.size := Bc29.out.lt; have Bnb9 := Lib.hid (show Bk w9 nb #[.int .i64 11, .string ⟨#[]⟩, .int .i64 0, .int .i64 (s.pl : Int), .slice none 0 0, .slice (some ⟨gg7, 0, none⟩) (kids.length + 1) cp7] 25 from Bk.gr Bnb8.out.drew ho.gr (by omega)); have znb9 : nb < w9.heap.size := Bnb9.out.lt; have K9 := Lib.hid (Ka.gr Kr8.out.drew1 ho.gr (by omega)); have Nb9 := Lib.hid (show Hn w9 w8.heap.size ((L.x true (expect wArrow (L.y (expect [124] st)).2)).1) (.slice ao9 ((L.x true (expect wArrow (L.y (expect [124] st)).2)).1).names.length ac9, .slice bo9 ((L.x true (expect wArrow (L.y (expect [124] st)).2)).1).kids.length bc9) from hN); obtain ⟨cc0, cc1, cc2, cc3, cc4, cc5⟩ := Bnb9.out.c6; obtain ⟨d0, d1, d2, d3, d4, d5⟩ := Bnb9.out.f6; have hzz : w8.heap.size ≤ w9.heap.size := ho.gr.size; have p1 : base ≤ w8.heap.size := (by omega); have p2 : nb < w8.heap.size := (by omega); have p3 : base ≤ w9.heap.size := (by omega); have p5 := Lib.hid (show ∀ k, (.slice (some ⟨gg7, 0, none⟩) (kids.length + 1) cp7 : Value).ownBlock = some k → k < w8.heap.size from fun k hk => (Kr8.out.1.lt k hk).2); clear ho hN hzz))
        all_goals refine noPanic_of ?_
        all_goals
          go_wp2
          go_roundg m
          case rel => exact ⟨rows + 1, ((kids ++ [(L.y (expect [124] st)).1]) ++ [(L.x true (expect wArrow (L.y (expect [124] st)).2)).1]), _, some ⟨gg9, 0, none⟩, cp9, rowS L st, by go_num, by omega, by omega, by simp; omega, HS, by simp []; omega, Lib.hid (L9a.out.set (by omega) 5 _), Lib.hid (Brb9a.out.other (b' := nb) (by omega) 5 _), Lib.hid (Bc19a.out.other (b' := nb) (by omega) 5 _), Lib.hid (Bc29a.out.other (b' := nb) (by omega) 5 _), by show Bk _ _ _ _; simpa using (Bnb9a.out.set 5 _), by show Ka _ _ _ _ _ _; simpa using Ka.set K9a.out 5 _⟩
          case measure => omega
    · have hx0 : ((rows : Int) == 0) = false := i_ne (b := 0) h0
      have hc := is_any (wr.alloc (.cells #[.string ⟨#[124]⟩] 9)) E st d true (LW.out.alloc _).ps wr.heap.size [[124]] (strs_new wr [[124]]) (by simp) (by decide) (by decide) 1 rfl
      rw [any_one] at hc
      cases hm : st.is [124] with
      | false =>
        have HE := Lib.hid ((congrArg (matchEnd s.pl) (rows_no (L := L) (n := gk) (ks := kids) h0 hm)).symm.trans HT.out)
        rw [hm] at hc
        clear hm HT h0
        go_wp2_with fail
        refine (hc).mono ?_
        rintro x w6 ⟨rfl, hb⟩
        have ho := Out.of_below (LW.out.alloc _).ps hb
        have L6 := Lib.hid ((LW.out.alloc _).call ho)
        have Brb6 := Lib.hid (show Bk w6 w.heap.size #[.int .i64 0, .string ⟨#[]⟩, .int .i64 0, .int .i64 0, .slice none 0 0, .slice none 0 0] 25 from Bk.gr (BW.out.alloc _) ho.gr (by omega))
        have Bc16 := Lib.hid (show Bk w6 c1 #[pp E] 71 from Bk.gr (AW.out.alloc _) ho.gr (by omega))
        have Bc26 := Lib.hid (show Bk w6 c2 #[.bool j] 4 from Bk.gr (CW.out.alloc _) ho.gr (by omega))
        have Bnb6 := Lib.hid (show Bk w6 nb #[.int .i64 11, .string ⟨#[]⟩, .int .i64 0, .int .i64 (s.pl : Int), .slice none 0 0, .slice ao kids.length ac] 25 from Bk.gr (NW.out.alloc _) ho.gr (by omega))
        have Kr6 := Lib.hid (Ka.gr (Ka.alloc KW.out _) ho.gr (by omega))
        have zrb6 : w.heap.size < w6.heap.size := Brb6.out.lt
        have zc16 : c1 < w6.heap.size := Bc16.out.lt
        have zc26 : c2 < w6.heap.size := Bc26.out.lt
        have znb6 : nb < w6.heap.size := Bnb6.out.lt
        clear ho hb LW BW AW CW NW KW
        go_wp2_with fail
        refine (expect_any _ E st d true L6.out.ps wEnd (by decide)).mono ?_
        rintro x w7 ⟨rfl, ho⟩
        have L7 := Lib.hid (L6.out.call ho)
        have Brb7 := Lib.hid (show Bk w7 w.heap.size #[.int .i64 0, .string ⟨#[]⟩, .int .i64 0, .int .i64 0, .slice none 0 0, .slice none 0 0] 25 from Bk.gr Brb6.out ho.gr (by omega))
        have Bc17 := Lib.hid (show Bk w7 c1 #[pp E] 71 from Bk.gr Bc16.out ho.gr (by omega))
        have Bc27 := Lib.hid (show Bk w7 c2 #[.bool j] 4 from Bk.gr Bc26.out ho.gr (by omega))
        have Bnb7 := Lib.hid (show Bk w7 nb #[.int .i64 11, .string ⟨#[]⟩, .int .i64 0, .int .i64 (s.pl : Int), .slice none 0 0, .slice ao kids.length ac] 25 from Bk.gr Bnb6.out ho.gr (by omega))
        have Kr7 := Lib.hid (Ka.gr Kr6.out ho.gr (by omega))
        have zrb7 : w.heap.size < w7.heap.size := Brb7.out.lt
        have zc17 : c1 < w7.heap.size := Bc17.out.lt
        have zc27 : c2 < w7.heap.size := Bc27.out.lt
        have znb7 : nb < w7.heap.size := Bnb7.out.lt
        clear ho L6 Brb6 Bc16 Bc26 Bnb6 Kr6
        obtain ⟨grb0, grb1, grb2, grb3, grb4, grb5⟩ := Brb7.out.c6
        obtain ⟨frb0, frb1, frb2, frb3, frb4, frb5⟩ := Brb7.out.f6
        obtain ⟨gnb0, gnb1, gnb2, gnb3, gnb4, gnb5⟩ := Bnb7.out.c6
        obtain ⟨fnb0, fnb1, fnb2, fnb3, fnb4, fnb5⟩ := Bnb7.out.f6
        have HE2 : (.node 11 [] [] kids 0 s.pl, expect wEnd st) = R1 := HE.out
        have HE3 := Lib.hid HE2
        clear HE2
        go_wp2
        refine leaves_cons (f := 130) (args := #[.pointer (some ⟨c2, 0, none⟩), .pointer (some ⟨c1, 0, none⟩)]) (by simp) (by simp [go_sem]) ?_
        refine (join_deferred _ E (expect wEnd st) d j .returning ((((((L7.out.set (by omega) 0 _).set (by omega) 1 _).set (by omega) 2 _).set (by omega) 3 _).set (by omega) 4 _).set (by omega) 5 _).ps c1 c2 ((((((Bc17.out.other (b' := w.heap.size) (by omega) 0 _).other (b' := w.heap.size) (by omega) 1 _).other (b' := w.heap.size) (by omega) 2 _).other (b' := w.heap.size) (by omega) 3 _).other (b' := w.heap.size) (by omega) 4 _).other (b' := w.heap.size) (by omega) 5 _) ((((((Bc27.out.other (b' := w.heap.size) (by omega) 0 _).other (b' := w.heap.size) (by omega) 1 _).other (b' := w.heap.size) (by omega) 2 _).other (b' := w.heap.size) (by omega) 3 _).other (b' := w.heap.size) (by omega) 4 _).other (b' := w.heap.size) (by omega) 5 _)).mono ?_
        rintro e u' wz ⟨rfl, rfl, rfl⟩
        have hne : w.heap.size ≠ E.r := by omega
        rw [← HE3.out]; refine ⟨.agg #[.int .i64 11, .string ⟨#[]⟩, .int .i64 0, .int .i64 (s.pl : Int), .slice none 0 0, .slice ao kids.length ac], by simp [results, Tryz.results68, go_sem, grb0, grb1, grb2, grb3, grb4, grb5], _, _, _, _, rfl, (Lc.call ((((((L7.out.set (by omega) 0 _).set (by omega) 1 _).set (by omega) 2 _).set (by omega) 3 _).set (by omega) 4 _).set (by omega) 5 _) (join_out ((((((L7.out.set (by omega) 0 _).set (by omega) 1 _).set (by omega) 2 _).set (by omega) 3 _).set (by omega) 4 _).set (by omega) 5 _).ps)).out, Hn.set ((Ka.has (Ka.other (b := w.heap.size) (Ka.other (b := w.heap.size) (Ka.other (b := w.heap.size) (Ka.other (b := w.heap.size) (Ka.other (b := w.heap.size) (Ka.other (b := w.heap.size) Kr7.out (by omega) 0 _) (by omega) 1 _) (by omega) 2 _) (by omega) 3 _) (by omega) 4 _) (by omega) 5 _) 11 _ 0 _).mono (by omega)) (by omega) _ _⟩
      | true =>
        rw [hm] at hc
        by_cases h20' : rows = 20
        · subst h20'
          obtain ⟨m, rfl⟩ : ∃ m, gk = m + 1 := ⟨0, by omega⟩
          have HE := Lib.hid ((congrArg (matchEnd s.pl) (rows_full (L := L) (n := m) (ks := kids) hm)).symm.trans HT.out)
          clear hm HT h0
          go_wp2_with fail
          refine (hc).mono ?_
          rintro x w6 ⟨rfl, hb⟩
          have ho := Out.of_below (LW.out.alloc _).ps hb
          have L6 := Lib.hid ((LW.out.alloc _).call ho)
          have Brb6 := Lib.hid (show Bk w6 w.heap.size #[.int .i64 0, .string ⟨#[]⟩, .int .i64 0, .int .i64 0, .slice none 0 0, .slice none 0 0] 25 from Bk.gr (BW.out.alloc _) ho.gr (by omega))
          have Bc16 := Lib.hid (show Bk w6 c1 #[pp E] 71 from Bk.gr (AW.out.alloc _) ho.gr (by omega))
          have Bc26 := Lib.hid (show Bk w6 c2 #[.bool j] 4 from Bk.gr (CW.out.alloc _) ho.gr (by omega))
          have Bnb6 := Lib.hid (show Bk w6 nb #[.int .i64 11, .string ⟨#[]⟩, .int .i64 0, .int .i64 (s.pl : Int), .slice none 0 0, .slice ao kids.length ac] 25 from Bk.gr (NW.out.alloc _) ho.gr (by omega))
          have Kr6 := Lib.hid (Ka.gr (Ka.alloc KW.out _) ho.gr (by omega))
          have zrb6 : w.heap.size < w6.heap.size := Brb6.out.lt
          have zc16 : c1 < w6.heap.size := Bc16.out.lt
          have zc26 : c2 < w6.heap.size := Bc26.out.lt
          have znb6 : nb < w6.heap.size := Bnb6.out.lt
          clear ho hb LW BW AW CW NW KW
          go_wp2_with fail
          refine (fail_any _ E st d true L6.out.ps 16).mono ?_
          rintro x w7 ⟨rfl, ho⟩
          have L7 := Lib.hid (L6.out.call ho)
          have Brb7 := Lib.hid (show Bk w7 w.heap.size #[.int .i64 0, .string ⟨#[]⟩, .int .i64 0, .int .i64 0, .slice none 0 0, .slice none 0 0] 25 from Bk.gr Brb6.out ho.gr (by omega))
          have Bc17 := Lib.hid (show Bk w7 c1 #[pp E] 71 from Bk.gr Bc16.out ho.gr (by omega))
          have Bc27 := Lib.hid (show Bk w7 c2 #[.bool j] 4 from Bk.gr Bc26.out ho.gr (by omega))
          have Bnb7 := Lib.hid (show Bk w7 nb #[.int .i64 11, .string ⟨#[]⟩, .int .i64 0, .int .i64 (s.pl : Int), .slice none 0 0, .slice ao kids.length ac] 25 from Bk.gr Bnb6.out ho.gr (by omega))
          have Kr7 := Lib.hid (Ka.gr Kr6.out ho.gr (by omega))
          have zrb7 : w.heap.size < w7.heap.size := Brb7.out.lt
          have zc17 : c1 < w7.heap.size := Bc17.out.lt
          have zc27 : c2 < w7.heap.size := Bc27.out.lt
          have znb7 : nb < w7.heap.size := Bnb7.out.lt
          clear ho L6 Brb6 Bc16 Bc26 Bnb6 Kr6
          obtain ⟨grb0, grb1, grb2, grb3, grb4, grb5⟩ := Brb7.out.c6
          obtain ⟨frb0, frb1, frb2, frb3, frb4, frb5⟩ := Brb7.out.f6
          have HE2 : (zero, st.fail 16) = R1 := HE.out
          have HE3 := Lib.hid HE2
          clear HE2
          go_wp2
          refine leaves_cons (f := 130) (args := #[.pointer (some ⟨c2, 0, none⟩), .pointer (some ⟨c1, 0, none⟩)]) (by simp) (by simp [go_sem]) ?_
          refine (join_deferred _ E (st.fail 16) d j .returning ((((((L7.out.set (by omega) 0 _).set (by omega) 1 _).set (by omega) 2 _).set (by omega) 3 _).set (by omega) 4 _).set (by omega) 5 _).ps c1 c2 ((((((Bc17.out.other (b' := w.heap.size) (by omega) 0 _).other (b' := w.heap.size) (by omega) 1 _).other (b' := w.heap.size) (by omega) 2 _).other (b' := w.heap.size) (by omega) 3 _).other (b' := w.heap.size) (by omega) 4 _).other (b' := w.heap.size) (by omega) 5 _) ((((((Bc27.out.other (b' := w.heap.size) (by omega) 0 _).other (b' := w.heap.size) (by omega) 1 _).other (b' := w.heap.size) (by omega) 2 _).other (b' := w.heap.size) (by omega) 3 _).other (b' := w.heap.size) (by omega) 4 _).other (b' := w.heap.size) (by omega) 5 _)).mono ?_
          rintro e u' wz ⟨rfl, rfl, rfl⟩
          have hne : w.heap.size ≠ E.r := by omega
          rw [← HE3.out]; refine ⟨.agg #[.int .i64 0, .string ⟨#[]⟩, .int .i64 0, .int .i64 0, .slice none 0 0, .slice none 0 0], by simp [results, Tryz.results68, go_sem, grb0, grb1, grb2, grb3, grb4, grb5], _, _, _, _, rfl, (Lc.call ((((((L7.out.set (by omega) 0 _).set (by omega) 1 _).set (by omega) 2 _).set (by omega) 3 _).set (by omega) 4 _).set (by omega) 5 _) (join_out ((((((L7.out.set (by omega) 0 _).set (by omega) 1 _).set (by omega) 2 _).set (by omega) 3 _).set (by omega) 4 _).set (by omega) 5 _).ps)).out, Hn.set (hasN_leaf _ _ _ _ _ _) (by omega) _ _⟩
        · have hor : rows = 0 ∨ st.is [124] = true := .inr hm
          clear h0
          obtain ⟨m, rfl⟩ : ∃ m, gk = m + 1 := ⟨gk - 1, by omega⟩
          have HS := Lib.hid ((congrArg (matchEnd s.pl) (rows_step (L := L) (n := m) (ks := kids) hor h20')).symm.trans HT.out)
          have hr19 : rows ≤ 19 := by omega
          have h20x : ((rows : Int) == 20) = false := i_ne (b := 20) h20'
          clear HT hor h20' hm
          go_wp2_with fail
          refine (hc).mono ?_
          rintro x w6 ⟨rfl, hb⟩
          have ho := Out.of_below (LW.out.alloc _).ps hb
          have mm6 : wr.heap.size ≤ w6.heap.size := Nat.le_trans (by simp []) ho.gr.size
          have L6 := Lib.hid ((LW.out.alloc _).call ho)
          have Brb6 := Lib.hid (show Bk w6 w.heap.size #[.int .i64 0, .string ⟨#[]⟩, .int .i64 0, .int .i64 0, .slice none 0 0, .slice none 0 0] 25 from Bk.gr (BW.out.alloc _) ho.gr (by omega))
          have Bc16 := Lib.hid (show Bk w6 c1 #[pp E] 71 from Bk.gr (AW.out.alloc _) ho.gr (by omega))
          have Bc26 := Lib.hid (show Bk w6 c2 #[.bool j] 4 from Bk.gr (CW.out.alloc _) ho.gr (by omega))
          have Bnb6 := Lib.hid (show Bk w6 nb #[.int .i64 11, .string ⟨#[]⟩, .int .i64 0, .int .i64 (s.pl : Int), .slice none 0 0, .slice ao kids.length ac] 25 from Bk.gr (NW.out.alloc _) ho.gr (by omega))
          have Kr6 := Lib.hid (Ka.gr (Ka.alloc KW.out _) ho.gr (by omega))
          have zrb6 : w.heap.size < w6.heap.size := Brb6.out.lt
          have zc16 : c1 < w6.heap.size := Bc16.out.lt
          have zc26 : c2 < w6.heap.size := Bc26.out.lt
          have znb6 : nb < w6.heap.size := Bnb6.out.lt
          clear ho hb LW BW AW CW NW KW
          go_wp2_with fail
          refine (expect_any _ E st d true L6.out.ps [124] (by decide)).mono ?_
          rintro x w7 ⟨rfl, ho⟩
          have mm7 : w6.heap.size ≤ w7.heap.size := Nat.le_trans (by simp []) ho.gr.size
          have L7 := Lib.hid (L6.out.call ho)
          have Brb7 := Lib.hid (show Bk w7 w.heap.size #[.int .i64 0, .string ⟨#[]⟩, .int .i64 0, .int .i64 0, .slice none 0 0, .slice none 0 0] 25 from Bk.gr Brb6.out ho.gr (by omega))
          have Bc17 := Lib.hid (show Bk w7 c1 #[pp E] 71 from Bk.gr Bc16.out ho.gr (by omega))
          have Bc27 := Lib.hid (show Bk w7 c2 #[.bool j] 4 from Bk.gr Bc26.out ho.gr (by omega))
          have Bnb7 := Lib.hid (show Bk w7 nb #[.int .i64 11, .string ⟨#[]⟩, .int .i64 0, .int .i64 (s.pl : Int), .slice none 0 0, .slice ao kids.length ac] 25 from Bk.gr Bnb6.out ho.gr (by omega))
          have Kr7 := Lib.hid (Ka.gr Kr6.out ho.gr (by omega))
          have zrb7 : w.heap.size < w7.heap.size := Brb7.out.lt
          have zc17 : c1 < w7.heap.size := Bc17.out.lt
          have zc27 : c2 < w7.heap.size := Bc27.out.lt
          have znb7 : nb < w7.heap.size := Bnb7.out.lt
          clear ho L6 Brb6 Bc16 Bc26 Bnb6 Kr6
          obtain ⟨gnb0, gnb1, gnb2, gnb3, gnb4, gnb5⟩ := Bnb7.out.c6
          obtain ⟨fnb0, fnb1, fnb2, fnb3, fnb4, fnb5⟩ := Bnb7.out.f6
          go_wp2
          have hk1000 : kids.length ≤ 5000 := by omega
          refine wp_region_noPanic ?_
          go_region_law (first
            | (refine step_kid w8 (.tmp 33) (.tmp 36) base nb kids.length w7.heap.size (.slice ao kids.length ac) kids qs ((L.y (expect [124] st)).1) (.slice ao8 ((L.y (expect [124] st)).1).names.length ac8, .slice bo8 ((L.y (expect [124] st)).1).kids.length bc8) _ (by rfl) (by rfl) (by rfl) (by rfl) K8.out Np8.out rfl hk1000 p1 p5.out p2 p3 znb8 rfl ?_; intro gg8 cp8 w8a hka hgrow; have mg8 : w8.heap.size ≤ w8a.heap.size := Nat.le_trans (by simp) hgrow.size; have L8a := Lib.hid (Lc.grown (L8.out.alloc _) hgrow (fun k hk => by have := (K8.out.1.lt k hk).1; omega)); have K8a := Lib.hid hka; have Brb8a := Lib.hid (show Bk w8a w.heap.size #[.int .i64 0, .string ⟨#[]⟩, .int .i64 0, .int .i64 0, .slice none 0 0, .slice none 0 0] 25 from Bk.grown (Bk.alloc Brb8.out _) hgrow (fun e => by have := (K8.out.1.lt _ e).1; omega)); have zrb8a := Brb8a.out.lt; have Bc18a := Lib.hid (show Bk w8a c1 #[pp E] 71 from Bk.grown (Bk.alloc Bc18.out _) hgrow (fun e => by have := (K8.out.1.lt _ e).1; omega)); have zc18a := Bc18a.out.lt; have Bc28a := Lib.hid (show Bk w8a c2 #[.bool j] 4 from Bk.grown (Bk.alloc Bc28.out _) hgrow (fun e => by have := (K8.out.1.lt _ e).1; omega)); have zc28a := Bc28a.out.lt; have Bnb8a := Lib.hid (show Bk w8a nb #[.int .i64 11, .string ⟨#[]⟩, .int .i64 0, .int .i64 (s.pl : Int), .slice none 0 0, .slice ao kids.length ac] 25 from Bk.grown (Bk.alloc Bnb8.out _) hgrow (Ka.alloc K8.out (.cells #[] 0)).2.1); have znb8a := Bnb8a.out.lt; obtain ⟨e0, e1, e2, e3, e4, e5⟩ := Bnb8a.out.c6; obtain ⟨h0, h1, h2, h3, h4, h5⟩ := Bnb8a.out.f6; clear hka hgrow)
            | (go_simp; go_at_call 104; refine (HY _ E (expect [124] st) L7.out.drew.ps).mono ?_; rintro x w8 ⟨ao8, ac8, bo8, bc8, rfl, ho, hN⟩; have L8 := Lib.hid (L7.out.drew.call ho); have Brb8 := Lib.hid (show Bk w8 w.heap.size #[.int .i64 0, .string ⟨#[]⟩, .int .i64 0, .int .i64 0, .slice none 0 0, .slice none 0 0] 25 from Bk.gr Brb7.out.drew ho.gr (by omega)); have zrb8 : w.heap.size < w8.heap.size := Brb8.out.lt; have Bc18 := Lib.hid (show Bk w8 c1 #[pp E] 71 from Bk.gr Bc17.out.drew ho.gr (by omega)); have zc18 : c1 < w8.heap.size := Bc18.out.lt; have Bc28 := Lib.hid (show Bk w8 c2 #[.bool j] 4 from Bk.gr Bc27.out.drew ho.gr (by omega)); have zc28 : c2 < w8.heap.size := Bc28.out.lt; have Bnb8 := Lib.hid (show Bk w8 nb #[.int .i64 11, .string ⟨#[]⟩, .int .i64 0, .int .i64 (s.pl : Int), .slice none 0 0, .slice ao kids.length ac] 25 from Bk.gr Bnb7.out.drew ho.gr (by omega)); have znb8 : nb < w8.heap.size := Bnb8.out.lt; have K8 := Lib.hid (Ka.gr Kr7.out.drew1 ho.gr (by omega)); have Np8 := Lib.hid (show Hn w8 w7.heap.size ((L.y (expect [124] st)).1) (.slice ao8 ((L.y (expect [124] st)).1).names.length ac8, .slice bo8 ((L.y (expect [124] st)).1).kids.length bc8) from hN); obtain ⟨cc0, cc1, cc2, cc3, cc4, cc5⟩ := Bnb8.out.c6; obtain ⟨d0, d1, d2, d3, d4, d5⟩ := Bnb8.out.f6; have hzz : w7.heap.size ≤ w8.heap.size := ho.gr.size; have p1 : base ≤ w7.heap.size := (by omega); have p2 : nb < w7.heap.size := (by omega); have p3 : base ≤ w8.heap.size := (by omega); have p5 := Lib.hid (show ∀ k, (.slice ao kids.length ac : Value).ownBlock = some k → k < w7.heap.size from fun k hk => (Kr7.out.1.lt k hk).2); clear ho hN hzz))
          all_goals refine noPanic_of ?_
          all_goals
            go_wp2_with fail
            have sz8 := L8a.out.gr.size
            have lb2 : nb < w8a.heap.size := znb8a
            refine (expect_any _ E (L.y (expect [124] st)).2 d true (L8a.out.set (by omega) 5 _).ps wArrow (by decide)).mono ?_
            rintro x w9 ⟨rfl, ho⟩
            have mm9 : w8a.heap.size ≤ w9.heap.size := Nat.le_trans (by simp []) ho.gr.size
            have L9 := Lib.hid ((L8a.out.set (by omega) 5 _).call ho)
            have Brb9 := Lib.hid (show Bk w9 w.heap.size #[.int .i64 0, .string ⟨#[]⟩, .int .i64 0, .int .i64 0, .slice none 0 0, .slice none 0 0] 25 from Bk.gr (Brb8a.out.other (b' := nb) (by omega) 5 _) ho.gr (by omega))
            have Bc19 := Lib.hid (show Bk w9 c1 #[pp E] 71 from Bk.gr (Bc18a.out.other (b' := nb) (by omega) 5 _) ho.gr (by omega))
            have Bc29 := Lib.hid (show Bk w9 c2 #[.bool j] 4 from Bk.gr (Bc28a.out.other (b' := nb) (by omega) 5 _) ho.gr (by omega))
            have Bnb9 := Lib.hid (show Bk w9 nb #[.int .i64 11, .string ⟨#[]⟩, .int .i64 0, .int .i64 (s.pl : Int), .slice none 0 0, .slice (some ⟨gg8, 0, none⟩) (kids.length + 1) cp8] 25 from Bk.gr (Bnb8a.out.set 5 _) ho.gr (by omega))
            have Kr9 := Lib.hid (Ka.gr (Ka.set K8a.out 5 _) ho.gr (by omega))
            have zrb9 : w.heap.size < w9.heap.size := Brb9.out.lt
            have zc19 : c1 < w9.heap.size := Bc19.out.lt
            have zc29 : c2 < w9.heap.size := Bc29.out.lt
            have znb9 : nb < w9.heap.size := Bnb9.out.lt
            clear ho L8a Brb8a Bc18a Bc28a Bnb8a K8a
            obtain ⟨gnb0, gnb1, gnb2, gnb3, gnb4, gnb5⟩ := Bnb9.out.c6
            obtain ⟨fnb0, fnb1, fnb2, fnb3, fnb4, fnb5⟩ := Bnb9.out.f6
            go_wp2
            have hk1001 : kids.length + 1 ≤ 5000 := by omega
            refine wp_region_noPanic ?_
            go_region_law (first
              | (refine step_kid w10 (.tmp 42) (.tmp 45) base nb (kids.length + 1) w9.heap.size (.slice (some ⟨gg8, 0, none⟩) (kids.length + 1) cp8) (kids ++ [(L.y (expect [124] st)).1]) (qs ++ [(.slice ao8 ((L.y (expect [124] st)).1).names.length ac8, .slice bo8 ((L.y (expect [124] st)).1).kids.length bc8)]) ((L.x true (expect wArrow (L.y (expect [124] st)).2)).1) (.slice ao10 ((L.x true (expect wArrow (L.y (expect [124] st)).2)).1).names.length ac10, .slice bo10 ((L.x true (expect wArrow (L.y (expect [124] st)).2)).1).kids.length bc10) _ (by rfl) (by rfl) (by rfl) (by rfl) K10.out Nb10.out (by rw [List.length_append]; rfl) hk1001 p1 p5.out p2 p3 znb10 rfl ?_; intro gg10 cp10 w10a hka hgrow; have mg10 : w10.heap.size ≤ w10a.heap.size := Nat.le_trans (by simp) hgrow.size; have L10a := Lib.hid (Lc.grown (L10.out.alloc _) hgrow (fun k hk => by have := (K10.out.1.lt k hk).1; omega)); have K10a := Lib.hid hka; have Brb10a := Lib.hid (show Bk w10a w.heap.size #[.int .i64 0, .string ⟨#[]⟩, .int .i64 0, .int .i64 0, .slice none 0 0, .slice none 0 0] 25 from Bk.grown (Bk.alloc Brb10.out _) hgrow (fun e => by have := (K10.out.1.lt _ e).1; omega)); have zrb10a := Brb10a.out.lt; have Bc110a := Lib.hid (show Bk w10a c1 #[pp E] 71 from Bk.grown (Bk.alloc Bc110.out _) hgrow (fun e => by have := (K10.out.1.lt _ e).1; omega)); have zc110a := Bc110a.out.lt; have Bc210a := Lib.hid (show Bk w10a c2 #[.bool j] 4 from Bk.grown (Bk.alloc Bc210.out _) hgrow (fun e => by have := (K10.out.1.lt _ e).1; omega)); have zc210a := Bc210a.out.lt; have Bnb10a := Lib.hid (show Bk w10a nb #[.int .i64 11, .string ⟨#[]⟩, .int .i64 0, .int .i64 (s.pl : Int), .slice none 0 0, .slice (some ⟨gg8, 0, none⟩) (kids.length + 1) cp8] 25 from Bk.grown (Bk.alloc Bnb10.out _) hgrow (Ka.alloc K10.out (.cells #[] 0)).2.1); have znb10a := Bnb10a.out.lt; obtain ⟨e0, e1, e2, e3, e4, e5⟩ := Bnb10a.out.c6; obtain ⟨h0, h1, h2, h3, h4, h5⟩ := Bnb10a.out.f6; clear hka hgrow)
              | (go_simp; go_at_call 75; refine (HX _ E (expect wArrow (L.y (expect [124] st)).2) L9.out.drew.ps).mono ?_; rintro x w10 ⟨ao10, ac10, bo10, bc10, rfl, ho, hN⟩; have L10 := Lib.hid (L9.out.drew.call ho); have Brb10 := Lib.hid (show Bk w10 w.heap.size #[.int .i64 0, .string ⟨#[]⟩, .int .i64 0, .int .i64 0, .slice none 0 0, .slice none 0 0] 25 from Bk.gr Brb9.out.drew ho.gr (by omega)); have zrb10 : w.heap.size < w10.heap.size := Brb10.out.lt; have Bc110 := Lib.hid (show Bk w10 c1 #[pp E] 71 from Bk.gr Bc19.out.drew ho.gr (by omega)); have zc110 : c1 < w10.heap.size := Bc110.out.lt; have Bc210 := Lib.hid (show Bk w10 c2 #[.bool j] 4 from Bk.gr Bc29.out.drew ho.gr (by omega)); have zc210 : c2 < w10.heap.size := Bc210.out.lt; have Bnb10 := Lib.hid (show Bk w10 nb #[.int .i64 11, .string ⟨#[]⟩, .int .i64 0, .int .i64 (s.pl : Int), .slice none 0 0, .slice (some ⟨gg8, 0, none⟩) (kids.length + 1) cp8] 25 from Bk.gr Bnb9.out.drew ho.gr (by omega)); have znb10 : nb < w10.heap.size := Bnb10.out.lt; have K10 := Lib.hid (Ka.gr Kr9.out.drew1 ho.gr (by omega)); have Nb10 := Lib.hid (show Hn w10 w9.heap.size ((L.x true (expect wArrow (L.y (expect [124] st)).2)).1) (.slice ao10 ((L.x true (expect wArrow (L.y (expect [124] st)).2)).1).names.length ac10, .slice bo10 ((L.x true (expect wArrow (L.y (expect [124] st)).2)).1).kids.length bc10) from hN); obtain ⟨cc0, cc1, cc2, cc3, cc4, cc5⟩ := Bnb10.out.c6; obtain ⟨d0, d1, d2, d3, d4, d5⟩ := Bnb10.out.f6; have hzz : w9.heap.size ≤ w10.heap.size := ho.gr.size; have p1 : base ≤ w9.heap.size := (by omega); have p2 : nb < w9.heap.size := (by omega); have p3 : base ≤ w10.heap.size := (by omega); have p5 := Lib.hid (show ∀ k, (.slice (some ⟨gg8, 0, none⟩) (kids.length + 1) cp8 : Value).ownBlock = some k → k < w9.heap.size from fun k hk => (Kr9.out.1.lt k hk).2); clear ho hN hzz))
            all_goals refine noPanic_of ?_
            all_goals
              go_wp2
              go_roundg m
              case rel => exact ⟨rows + 1, ((kids ++ [(L.y (expect [124] st)).1]) ++ [(L.x true (expect wArrow (L.y (expect [124] st)).2)).1]), _, some ⟨gg10, 0, none⟩, cp10, rowS L st, by go_num, by omega, by omega, by simp; omega, HS, by simp []; omega, Lib.hid (L10a.out.set (by omega) 5 _), Lib.hid (Brb10a.out.other (b' := nb) (by omega) 5 _), Lib.hid (Bc110a.out.other (b' := nb) (by omega) 5 _), Lib.hid (Bc210a.out.other (b' := nb) (by omega) 5 _), by show Bk _ _ _ _; simpa using (Bnb10a.out.set 5 _), by show Ka _ _ _ _ _ _; simpa using Ka.set K10a.out 5 _⟩
              case measure => omega

end Go.Proofs.YtlcapkgbbgpdmaaGreatDoor.PW

/- Atoms; exps, by the word that they begin with. -/
namespace Go.Proofs.YtlcapkgbbgpdmaaGreatDoor.PX
open Go.RowKit Go.Proofs.YtlcapkgbbgpdmaaGreatDoor.P Go.Proofs.YtlcapkgbbgpdmaaGreatDoor.A Go.Proofs.YtlcapkgbbgpdmaaGreatDoor.TK Go.Proofs.YtlcapkgbbgpdmaaGreatDoor.TO Go.Proofs.YtlcapkgbbgpdmaaGreatDoor.GR Go.Proofs.YtlcapkgbbgpdmaaGreatDoor.MP Go.Proofs.YtlcapkgbbgpdmaaGreatDoor.YR Go.Proofs.YtlcapkgbbgpdmaaGreatDoor.PN Go.Proofs.YtlcapkgbbgpdmaaGreatDoor.PS Go.Proofs.YtlcapkgbbgpdmaaGreatDoor.PA Go.Proofs.YtlcapkgbbgpdmaaGreatDoor.PB Go.Proofs.YtlcapkgbbgpdmaaGreatDoor.PC Go.Proofs.YtlcapkgbbgpdmaaGreatDoor.PD Go.Proofs.YtlcapkgbbgpdmaaGreatDoor.PE Go.Proofs.YtlcapkgbbgpdmaaGreatDoor.PF Go.Proofs.YtlcapkgbbgpdmaaGreatDoor.PG Go.Proofs.YtlcapkgbbgpdmaaGreatDoor.PH Go.Proofs.YtlcapkgbbgpdmaaGreatDoor.PI Go.Proofs.YtlcapkgbbgpdmaaGreatDoor.PJ Go.Proofs.YtlcapkgbbgpdmaaGreatDoor.PK Go.Proofs.YtlcapkgbbgpdmaaGreatDoor.PL Go.Proofs.YtlcapkgbbgpdmaaGreatDoor.PM Go.Proofs.YtlcapkgbbgpdmaaGreatDoor.PO Go.Proofs.YtlcapkgbbgpdmaaGreatDoor.PP Go.Proofs.YtlcapkgbbgpdmaaGreatDoor.PR Go.Proofs.YtlcapkgbbgpdmaaGreatDoor.PT Go.Proofs.YtlcapkgbbgpdmaaGreatDoor.PU Go.Proofs.YtlcapkgbbgpdmaaGreatDoor.PV Go.Proofs.YtlcapkgbbgpdmaaGreatDoor.PW
set_option linter.unusedVariables false
set_option maxRecDepth 100000

set_option maxHeartbeats 1000000 in
theorem atom_leaf {L : Lev} {d : Nat} (hL : LevOK L d) (j : Bool) : ∀ w E s, PS w E s d j → leafKind s.k ≠ 0 → Calls Tryz.prog 213 #[pp E] w (NOut w E (leaf s) d j) := by
  intro w E s h
  have HL := fun W => leafKind_any W (hd s.ts).k ⟨(hd s.ts).t.toArray⟩ ((hd s.ts).n : Int) ((hd s.ts).p : Int)
  intro h0
  have x0 : ((leafKind (hd s.ts).k : Int) != 0) = true := i_nf (b := 0) h0
  have hk0 := Lib.hid (show s.k ≠ 0 from fun e => h0 (by rw [e]; rfl))
  clear h0
  have L0 := Lib.hid (Lc.start h)
  have er0 := h.lt.1
  clear h
  go_enter Tryz.func213, Tryz.ntmps213
  go_wp2_with fail
  refine (token_any _ E s d j (L0.out.alloc _).ps).mono ?_
  rintro x w1 ⟨rfl, hb⟩
  have ho := Out.of_below (L0.out.alloc _).ps hb
  have L1 := Lib.hid ((L0.out.alloc _).call ho)
  have Brb1 := Lib.hid (show Bk w1 w.heap.size #[.int .i64 0, .string ⟨#[]⟩, .int .i64 0, .int .i64 0, .slice none 0 0, .slice none 0 0] 25 from Bk.gr (heap_at _ _ _ (by simp [])) ho.gr (by omega))
  have zrb1 : w.heap.size < w1.heap.size := Brb1.out.lt
  clear ho hb L0
  go_wp2_with fail
  refine (HL _).mono ?_
  rintro x w2 ⟨rfl, hb⟩
  have ho := Out.of_below L1.out.ps hb
  have L2 := Lib.hid (L1.out.call ho)
  have Brb2 := Lib.hid (show Bk w2 w.heap.size #[.int .i64 0, .string ⟨#[]⟩, .int .i64 0, .int .i64 0, .slice none 0 0, .slice none 0 0] 25 from Bk.gr Brb1.out ho.gr (by omega))
  have zrb2 : w.heap.size < w2.heap.size := Brb2.out.lt
  clear ho hb L1 Brb1
  go_wp2_with fail
  refine (leaf_any _ E s d j L2.out.ps hk0.out).mono ?_
  rintro x w3 ⟨ao3, ac3, bo3, bc3, rfl, ho, hN⟩
  have L3 := Lib.hid (L2.out.call ho)
  have Brb3 := Lib.hid (show Bk w3 w.heap.size #[.int .i64 0, .string ⟨#[]⟩, .int .i64 0, .int .i64 0, .slice none 0 0, .slice none 0 0] 25 from Bk.gr Brb2.out ho.gr (by omega))
  have zrb3 : w.heap.size < w3.heap.size := Brb3.out.lt
  have Nx3 := Lib.hid (show Hn w3 w2.heap.size ((leaf s).1) (.slice ao3 ((leaf s).1).names.length ac3, .slice bo3 ((leaf s).1).kids.length bc3) from hN.mono (by simp []))
  clear ho hN L2 Brb2
  obtain ⟨grb0, grb1, grb2, grb3, grb4, grb5⟩ := Brb3.out.c6
  obtain ⟨frb0, frb1, frb2, frb3, frb4, frb5⟩ := Brb3.out.f6
  go_wp2
  refine bodyPost_ret (v := .agg #[.int .i64 ((leaf s).1.kind : Int), .string ⟨(leaf s).1.text.toArray⟩, .int .i64 ((leaf s).1.num : Int), .int .i64 ((leaf s).1.pl : Int), .slice ao3 (leaf s).1.names.length ac3, .slice bo3 (leaf s).1.kids.length bc3]) (by simp [results, Tryz.results213, go_sem, grb0, grb1, grb2, grb3, grb4, grb5]) rfl ?_
  exact ⟨_, _, _, _, rfl, ((((((L3.out.set (by omega) 0 _).set (by omega) 1 _).set (by omega) 2 _).set (by omega) 3 _).set (by omega) 4 _).set (by omega) 5 _).out, (Hn.put6 Nx3.out (by omega) _ _ _ _ _ _).mono (by omega)⟩

set_option maxHeartbeats 1000000 in
theorem atom_brackets {L : Lev} {d : Nat} (hL : LevOK L d) (j : Bool) : ∀ w E s, PS w E s d j → leafKind s.k = 0 → atomWord s.word = 1 → Calls Tryz.prog 213 #[pp E] w (NOut w E (bracketsP L s) d j) := by
  intro w E s h
  have HL := fun W => leafKind_any W (hd s.ts).k ⟨(hd s.ts).t.toArray⟩ ((hd s.ts).n : Int) ((hd s.ts).p : Int)
  intro h0 hw
  have x0 : ((leafKind (hd s.ts).k : Int) != 0) = false := i_nt (b := 0) h0
  have hg := eq_guard 17
  have hfn : atomFn (atomWord s.word) = (.func (.func 66) #[] #[]) := by rw [hw]; rfl
  have hq := neq_fn 66
  clear h0 hw
  have L0 := Lib.hid (Lc.start h)
  have er0 := h.lt.1
  clear h
  go_enter Tryz.func213, Tryz.ntmps213
  go_wp2_with fail
  refine (token_any _ E s d j (L0.out.alloc _).ps).mono ?_
  rintro x w1 ⟨rfl, hb⟩
  have ho := Out.of_below (L0.out.alloc _).ps hb
  have L1 := Lib.hid ((L0.out.alloc _).call ho)
  have Brb1 := Lib.hid (show Bk w1 w.heap.size #[.int .i64 0, .string ⟨#[]⟩, .int .i64 0, .int .i64 0, .slice none 0 0, .slice none 0 0] 25 from Bk.gr (heap_at _ _ _ (by simp [])) ho.gr (by omega))
  have zrb1 : w.heap.size < w1.heap.size := Brb1.out.lt
  clear ho hb L0
  go_wp2_with fail
  refine (HL _).mono ?_
  rintro x w2 ⟨rfl, hb⟩
  have ho := Out.of_below L1.out.ps hb
  have L2 := Lib.hid (L1.out.call ho)
  have Brb2 := Lib.hid (show Bk w2 w.heap.size #[.int .i64 0, .string ⟨#[]⟩, .int .i64 0, .int .i64 0, .slice none 0 0, .slice none 0 0] 25 from Bk.gr Brb1.out ho.gr (by omega))
  have zrb2 : w.heap.size < w2.heap.size := Brb2.out.lt
  clear ho hb L1 Brb1
  go_wp2_with fail
  obtain ⟨off, cap, hpb, _⟩ := L2.out.drew.ps.cells
  have cm := pc2 hpb
  have hlk := look_atom L2.out.drew.ps s.word
  rw [hfn] at hlk
  clear hpb
  go_region_held3 (fun w' => w'.cell? ⟨E.r, 2, none⟩ = some (.map (some E.m2)) ∧ (Instr.lookup 72 (.map (some E.m2)) (.string ⟨s.word.toArray⟩) false).run Tryz.prog w' = .ok (.func (.func 66) #[] #[]) w')
    (first | with_reducible exact ⟨cm, hlk⟩ | with_reducible exact ⟨cm2, hlk2⟩)
    (first | (go_at_call 107; refine (word_any w2.drew E s d j L2.out.drew.ps).mono ?_; rintro z w3 ⟨rfl, hb⟩; have L3 := Lib.hid (L2.out.drew.below hb); have Brb3 := Lib.hid (show Bk w3 w.heap.size #[.int .i64 0, .string ⟨#[]⟩, .int .i64 0, .int .i64 0, .slice none 0 0, .slice none 0 0] 25 from (hb.block _ Brb2.out.lt).trans Brb2.out); have zrb3 := Brb3.out.lt; have hlk2 := look_atom L3.out.ps s.word; rw [hfn] at hlk2; obtain ⟨off2, cap2, hpb2, _⟩ := L3.out.ps.cells; have cm2 := pc2 hpb2; clear hb hpb2))
  clear cm hlk cm2 hlk2
  go_wp2_with fail
  refine (brackets_any hL j _ E s L3.out.ps).mono ?_
  rintro x w4 ⟨ao4, ac4, bo4, bc4, rfl, ho, hN⟩
  have L4 := Lib.hid (L3.out.call ho)
  have Brb4 := Lib.hid (show Bk w4 w.heap.size #[.int .i64 0, .string ⟨#[]⟩, .int .i64 0, .int .i64 0, .slice none 0 0, .slice none 0 0] 25 from Bk.gr Brb3.out ho.gr (by omega))
  have zrb4 : w.heap.size < w4.heap.size := Brb4.out.lt
  have Nx4 := Lib.hid (show Hn w4 w3.heap.size ((bracketsP L s).1) (.slice ao4 ((bracketsP L s).1).names.length ac4, .slice bo4 ((bracketsP L s).1).kids.length bc4) from hN.mono (by simp []))
  clear ho hN L3 Brb3
  obtain ⟨grb0, grb1, grb2, grb3, grb4, grb5⟩ := Brb4.out.c6
  obtain ⟨frb0, frb1, frb2, frb3, frb4, frb5⟩ := Brb4.out.f6
  go_wp2
  refine bodyPost_ret (v := .agg #[.int .i64 ((bracketsP L s).1.kind : Int), .string ⟨(bracketsP L s).1.text.toArray⟩, .int .i64 ((bracketsP L s).1.num : Int), .int .i64 ((bracketsP L s).1.pl : Int), .slice ao4 (bracketsP L s).1.names.length ac4, .slice bo4 (bracketsP L s).1.kids.length bc4]) (by simp [results, Tryz.results213, go_sem, grb0, grb1, grb2, grb3, grb4, grb5]) rfl ?_
  exact ⟨_, _, _, _, rfl, ((((((L4.out.set (by omega) 0 _).set (by omega) 1 _).set (by omega) 2 _).set (by omega) 3 _).set (by omega) 4 _).set (by omega) 5 _).out, (Hn.put6 Nx4.out (by omega) _ _ _ _ _ _).mono (by omega)⟩

set_option maxHeartbeats 1000000 in
theorem atom_retry {L : Lev} {d : Nat} (hL : LevOK L d) (j : Bool) : ∀ w E s, PS w E s d j → leafKind s.k = 0 → atomWord s.word = 2 → Calls Tryz.prog 213 #[pp E] w (NOut w E (retryP s) d j) := by
  intro w E s h
  have HL := fun W => leafKind_any W (hd s.ts).k ⟨(hd s.ts).t.toArray⟩ ((hd s.ts).n : Int) ((hd s.ts).p : Int)
  intro h0 hw
  have x0 : ((leafKind (hd s.ts).k : Int) != 0) = false := i_nt (b := 0) h0
  have hg := eq_guard 17
  have hfn : atomFn (atomWord s.word) = (.func (.func 67) #[] #[]) := by rw [hw]; rfl
  have hq := neq_fn 67
  have hk0 := Lib.hid (show s.k ≠ 0 from fun e => by have : s.word = [] := if_neg (by omega); rw [this] at hw; exact absurd hw (by decide))
  clear h0 hw
  have L0 := Lib.hid (Lc.start h)
  have er0 := h.lt.1
  clear h
  go_enter Tryz.func213, Tryz.ntmps213
  go_wp2_with fail
  refine (token_any _ E s d j (L0.out.alloc _).ps).mono ?_
  rintro x w1 ⟨rfl, hb⟩
  have ho := Out.of_below (L0.out.alloc _).ps hb
  have L1 := Lib.hid ((L0.out.alloc _).call ho)
  have Brb1 := Lib.hid (show Bk w1 w.heap.size #[.int .i64 0, .string ⟨#[]⟩, .int .i64 0, .int .i64 0, .slice none 0 0, .slice none 0 0] 25 from Bk.gr (heap_at _ _ _ (by simp [])) ho.gr (by omega))
  have zrb1 : w.heap.size < w1.heap.size := Brb1.out.lt
  clear ho hb L0
  go_wp2_with fail
  refine (HL _).mono ?_
  rintro x w2 ⟨rfl, hb⟩
  have ho := Out.of_below L1.out.ps hb
  have L2 := Lib.hid (L1.out.call ho)
  have Brb2 := Lib.hid (show Bk w2 w.heap.size #[.int .i64 0, .string ⟨#[]⟩, .int .i64 0, .int .i64 0, .slice none 0 0, .slice none 0 0] 25 from Bk.gr Brb1.out ho.gr (by omega))
  have zrb2 : w.heap.size < w2.heap.size := Brb2.out.lt
  clear ho hb L1 Brb1
  go_wp2_with fail
  obtain ⟨off, cap, hpb, _⟩ := L2.out.drew.ps.cells
  have cm := pc2 hpb
  have hlk := look_atom L2.out.drew.ps s.word
  rw [hfn] at hlk
  clear hpb
  go_region_held3 (fun w' => w'.cell? ⟨E.r, 2, none⟩ = some (.map (some E.m2)) ∧ (Instr.lookup 72 (.map (some E.m2)) (.string ⟨s.word.toArray⟩) false).run Tryz.prog w' = .ok (.func (.func 67) #[] #[]) w')
    (first | with_reducible exact ⟨cm, hlk⟩ | with_reducible exact ⟨cm2, hlk2⟩)
    (first | (go_at_call 107; refine (word_any w2.drew E s d j L2.out.drew.ps).mono ?_; rintro z w3 ⟨rfl, hb⟩; have L3 := Lib.hid (L2.out.drew.below hb); have Brb3 := Lib.hid (show Bk w3 w.heap.size #[.int .i64 0, .string ⟨#[]⟩, .int .i64 0, .int .i64 0, .slice none 0 0, .slice none 0 0] 25 from (hb.block _ Brb2.out.lt).trans Brb2.out); have zrb3 := Brb3.out.lt; have hlk2 := look_atom L3.out.ps s.word; rw [hfn] at hlk2; obtain ⟨off2, cap2, hpb2, _⟩ := L3.out.ps.cells; have cm2 := pc2 hpb2; clear hb hpb2))
  clear cm hlk cm2 hlk2
  go_wp2_with fail
  refine (retry_any _ E s d j L3.out.ps hk0.out).mono ?_
  rintro x w4 ⟨ao4, ac4, bo4, bc4, rfl, ho, hN⟩
  have L4 := Lib.hid (L3.out.call ho)
  have Brb4 := Lib.hid (show Bk w4 w.heap.size #[.int .i64 0, .string ⟨#[]⟩, .int .i64 0, .int .i64 0, .slice none 0 0, .slice none 0 0] 25 from Bk.gr Brb3.out ho.gr (by omega))
  have zrb4 : w.heap.size < w4.heap.size := Brb4.out.lt
  have Nx4 := Lib.hid (show Hn w4 w3.heap.size ((retryP s).1) (.slice ao4 ((retryP s).1).names.length ac4, .slice bo4 ((retryP s).1).kids.length bc4) from hN.mono (by simp []))
  clear ho hN L3 Brb3
  obtain ⟨grb0, grb1, grb2, grb3, grb4, grb5⟩ := Brb4.out.c6
  obtain ⟨frb0, frb1, frb2, frb3, frb4, frb5⟩ := Brb4.out.f6
  go_wp2
  refine bodyPost_ret (v := .agg #[.int .i64 ((retryP s).1.kind : Int), .string ⟨(retryP s).1.text.toArray⟩, .int .i64 ((retryP s).1.num : Int), .int .i64 ((retryP s).1.pl : Int), .slice ao4 (retryP s).1.names.length ac4, .slice bo4 (retryP s).1.kids.length bc4]) (by simp [results, Tryz.results213, go_sem, grb0, grb1, grb2, grb3, grb4, grb5]) rfl ?_
  exact ⟨_, _, _, _, rfl, ((((((L4.out.set (by omega) 0 _).set (by omega) 1 _).set (by omega) 2 _).set (by omega) 3 _).set (by omega) 4 _).set (by omega) 5 _).out, (Hn.put6 Nx4.out (by omega) _ _ _ _ _ _).mono (by omega)⟩

set_option maxHeartbeats 1000000 in
theorem atom_match {L : Lev} {d : Nat} (hL : LevOK L d) (j : Bool) : ∀ w E s, PS w E s d j → leafKind s.k = 0 → atomWord s.word = 3 → Calls Tryz.prog 213 #[pp E] w (NOut w E (matchP L s) d j) := by
  intro w E s h
  have HL := fun W => leafKind_any W (hd s.ts).k ⟨(hd s.ts).t.toArray⟩ ((hd s.ts).n : Int) ((hd s.ts).p : Int)
  intro h0 hw
  have x0 : ((leafKind (hd s.ts).k : Int) != 0) = false := i_nt (b := 0) h0
  have hg := eq_guard 17
  have hfn : atomFn (atomWord s.word) = (.func (.func 68) #[] #[]) := by rw [hw]; rfl
  have hq := neq_fn 68
  clear h0 hw
  have L0 := Lib.hid (Lc.start h)
  have er0 := h.lt.1
  clear h
  go_enter Tryz.func213, Tryz.ntmps213
  go_wp2_with fail
  refine (token_any _ E s d j (L0.out.alloc _).ps).mono ?_
  rintro x w1 ⟨rfl, hb⟩
  have ho := Out.of_below (L0.out.alloc _).ps hb
  have L1 := Lib.hid ((L0.out.alloc _).call ho)
  have Brb1 := Lib.hid (show Bk w1 w.heap.size #[.int .i64 0, .string ⟨#[]⟩, .int .i64 0, .int .i64 0, .slice none 0 0, .slice none 0 0] 25 from Bk.gr (heap_at _ _ _ (by simp [])) ho.gr (by omega))
  have zrb1 : w.heap.size < w1.heap.size := Brb1.out.lt
  clear ho hb L0
  go_wp2_with fail
  refine (HL _).mono ?_
  rintro x w2 ⟨rfl, hb⟩
  have ho := Out.of_below L1.out.ps hb
  have L2 := Lib.hid (L1.out.call ho)
  have Brb2 := Lib.hid (show Bk w2 w.heap.size #[.int .i64 0, .string ⟨#[]⟩, .int .i64 0, .int .i64 0, .slice none 0 0, .slice none 0 0] 25 from Bk.gr Brb1.out ho.gr (by omega))
  have zrb2 : w.heap.size < w2.heap.size := Brb2.out.lt
  clear ho hb L1 Brb1
  go_wp2_with fail
  obtain ⟨off, cap, hpb, _⟩ := L2.out.drew.ps.cells
  have cm := pc2 hpb
  have hlk := look_atom L2.out.drew.ps s.word
  rw [hfn] at hlk
  clear hpb
  go_region_held3 (fun w' => w'.cell? ⟨E.r, 2, none⟩ = some (.map (some E.m2)) ∧ (Instr.lookup 72 (.map (some E.m2)) (.string ⟨s.word.toArray⟩) false).run Tryz.prog w' = .ok (.func (.func 68) #[] #[]) w')
    (first | with_reducible exact ⟨cm, hlk⟩ | with_reducible exact ⟨cm2, hlk2⟩)
    (first | (go_at_call 107; refine (word_any w2.drew E s d j L2.out.drew.ps).mono ?_; rintro z w3 ⟨rfl, hb⟩; have L3 := Lib.hid (L2.out.drew.below hb); have Brb3 := Lib.hid (show Bk w3 w.heap.size #[.int .i64 0, .string ⟨#[]⟩, .int .i64 0, .int .i64 0, .slice none 0 0, .slice none 0 0] 25 from (hb.block _ Brb2.out.lt).trans Brb2.out); have zrb3 := Brb3.out.lt; have hlk2 := look_atom L3.out.ps s.word; rw [hfn] at hlk2; obtain ⟨off2, cap2, hpb2, _⟩ := L3.out.ps.cells; have cm2 := pc2 hpb2; clear hb hpb2))
  clear cm hlk cm2 hlk2
  go_wp2_with fail
  refine (match_any hL j _ E s L3.out.ps).mono ?_
  rintro x w4 ⟨ao4, ac4, bo4, bc4, rfl, ho, hN⟩
  have L4 := Lib.hid (L3.out.call ho)
  have Brb4 := Lib.hid (show Bk w4 w.heap.size #[.int .i64 0, .string ⟨#[]⟩, .int .i64 0, .int .i64 0, .slice none 0 0, .slice none 0 0] 25 from Bk.gr Brb3.out ho.gr (by omega))
  have zrb4 : w.heap.size < w4.heap.size := Brb4.out.lt
  have Nx4 := Lib.hid (show Hn w4 w3.heap.size ((matchP L s).1) (.slice ao4 ((matchP L s).1).names.length ac4, .slice bo4 ((matchP L s).1).kids.length bc4) from hN.mono (by simp []))
  clear ho hN L3 Brb3
  obtain ⟨grb0, grb1, grb2, grb3, grb4, grb5⟩ := Brb4.out.c6
  obtain ⟨frb0, frb1, frb2, frb3, frb4, frb5⟩ := Brb4.out.f6
  go_wp2
  refine bodyPost_ret (v := .agg #[.int .i64 ((matchP L s).1.kind : Int), .string ⟨(matchP L s).1.text.toArray⟩, .int .i64 ((matchP L s).1.num : Int), .int .i64 ((matchP L s).1.pl : Int), .slice ao4 (matchP L s).1.names.length ac4, .slice bo4 (matchP L s).1.kids.length bc4]) (by simp [results, Tryz.results213, go_sem, grb0, grb1, grb2, grb3, grb4, grb5]) rfl ?_
  exact ⟨_, _, _, _, rfl, ((((((L4.out.set (by omega) 0 _).set (by omega) 1 _).set (by omega) 2 _).set (by omega) 3 _).set (by omega) 4 _).set (by omega) 5 _).out, (Hn.put6 Nx4.out (by omega) _ _ _ _ _ _).mono (by omega)⟩

set_option maxHeartbeats 1000000 in
theorem atom_try {L : Lev} {d : Nat} (hL : LevOK L d) (j : Bool) : ∀ w E s, PS w E s d j → leafKind s.k = 0 → atomWord s.word = 4 → Calls Tryz.prog 213 #[pp E] w (NOut w E (tryP L s) d j) := by
  intro w E s h
  have HL := fun W => leafKind_any W (hd s.ts).k ⟨(hd s.ts).t.toArray⟩ ((hd s.ts).n : Int) ((hd s.ts).p : Int)
  intro h0 hw
  have x0 : ((leafKind (hd s.ts).k : Int) != 0) = false := i_nt (b := 0) h0
  have hg := eq_guard 17
  have hfn : atomFn (atomWord s.word) = (.func (.func 69) #[] #[]) := by rw [hw]; rfl
  have hq := neq_fn 69
  clear h0 hw
  have L0 := Lib.hid (Lc.start h)
  have er0 := h.lt.1
  clear h
  go_enter Tryz.func213, Tryz.ntmps213
  go_wp2_with fail
  refine (token_any _ E s d j (L0.out.alloc _).ps).mono ?_
  rintro x w1 ⟨rfl, hb⟩
  have ho := Out.of_below (L0.out.alloc _).ps hb
  have L1 := Lib.hid ((L0.out.alloc _).call ho)
  have Brb1 := Lib.hid (show Bk w1 w.heap.size #[.int .i64 0, .string ⟨#[]⟩, .int .i64 0, .int .i64 0, .slice none 0 0, .slice none 0 0] 25 from Bk.gr (heap_at _ _ _ (by simp [])) ho.gr (by omega))
  have zrb1 : w.heap.size < w1.heap.size := Brb1.out.lt
  clear ho hb L0
  go_wp2_with fail
  refine (HL _).mono ?_
  rintro x w2 ⟨rfl, hb⟩
  have ho := Out.of_below L1.out.ps hb
  have L2 := Lib.hid (L1.out.call ho)
  have Brb2 := Lib.hid (show Bk w2 w.heap.size #[.int .i64 0, .string ⟨#[]⟩, .int .i64 0, .int .i64 0, .slice none 0 0, .slice none 0 0] 25 from Bk.gr Brb1.out ho.gr (by omega))
  have zrb2 : w.heap.size < w2.heap.size := Brb2.out.lt
  clear ho hb L1 Brb1
  go_wp2_with fail
  obtain ⟨off, cap, hpb, _⟩ := L2.out.drew.ps.cells
  have cm := pc2 hpb
  have hlk := look_atom L2.out.drew.ps s.word
  rw [hfn] at hlk
  clear hpb
  go_region_held3 (fun w' => w'.cell? ⟨E.r, 2, none⟩ = some (.map (some E.m2)) ∧ (Instr.lookup 72 (.map (some E.m2)) (.string ⟨s.word.toArray⟩) false).run Tryz.prog w' = .ok (.func (.func 69) #[] #[]) w')
    (first | with_reducible exact ⟨cm, hlk⟩ | with_reducible exact ⟨cm2, hlk2⟩)
    (first | (go_at_call 107; refine (word_any w2.drew E s d j L2.out.drew.ps).mono ?_; rintro z w3 ⟨rfl, hb⟩; have L3 := Lib.hid (L2.out.drew.below hb); have Brb3 := Lib.hid (show Bk w3 w.heap.size #[.int .i64 0, .string ⟨#[]⟩, .int .i64 0, .int .i64 0, .slice none 0 0, .slice none 0 0] 25 from (hb.block _ Brb2.out.lt).trans Brb2.out); have zrb3 := Brb3.out.lt; have hlk2 := look_atom L3.out.ps s.word; rw [hfn] at hlk2; obtain ⟨off2, cap2, hpb2, _⟩ := L3.out.ps.cells; have cm2 := pc2 hpb2; clear hb hpb2))
  clear cm hlk cm2 hlk2
  go_wp2_with fail
  refine (try_any hL j _ E s L3.out.ps).mono ?_
  rintro x w4 ⟨ao4, ac4, bo4, bc4, rfl, ho, hN⟩
  have L4 := Lib.hid (L3.out.call ho)
  have Brb4 := Lib.hid (show Bk w4 w.heap.size #[.int .i64 0, .string ⟨#[]⟩, .int .i64 0, .int .i64 0, .slice none 0 0, .slice none 0 0] 25 from Bk.gr Brb3.out ho.gr (by omega))
  have zrb4 : w.heap.size < w4.heap.size := Brb4.out.lt
  have Nx4 := Lib.hid (show Hn w4 w3.heap.size ((tryP L s).1) (.slice ao4 ((tryP L s).1).names.length ac4, .slice bo4 ((tryP L s).1).kids.length bc4) from hN.mono (by simp []))
  clear ho hN L3 Brb3
  obtain ⟨grb0, grb1, grb2, grb3, grb4, grb5⟩ := Brb4.out.c6
  obtain ⟨frb0, frb1, frb2, frb3, frb4, frb5⟩ := Brb4.out.f6
  go_wp2
  refine bodyPost_ret (v := .agg #[.int .i64 ((tryP L s).1.kind : Int), .string ⟨(tryP L s).1.text.toArray⟩, .int .i64 ((tryP L s).1.num : Int), .int .i64 ((tryP L s).1.pl : Int), .slice ao4 (tryP L s).1.names.length ac4, .slice bo4 (tryP L s).1.kids.length bc4]) (by simp [results, Tryz.results213, go_sem, grb0, grb1, grb2, grb3, grb4, grb5]) rfl ?_
  exact ⟨_, _, _, _, rfl, ((((((L4.out.set (by omega) 0 _).set (by omega) 1 _).set (by omega) 2 _).set (by omega) 3 _).set (by omega) 4 _).set (by omega) 5 _).out, (Hn.put6 Nx4.out (by omega) _ _ _ _ _ _).mono (by omega)⟩

set_option maxHeartbeats 1000000 in
theorem atom_none {L : Lev} {d : Nat} (hL : LevOK L d) (j : Bool) : ∀ w E s, PS w E s d j → leafKind s.k = 0 → atomWord s.word = 0 → Calls Tryz.prog 213 #[pp E] w (NOut w E ((zero, s.fail 14)) d j) := by
  intro w E s h
  have HL := fun W => leafKind_any W (hd s.ts).k ⟨(hd s.ts).t.toArray⟩ ((hd s.ts).n : Int) ((hd s.ts).p : Int)
  intro h0 hw
  have x0 : ((leafKind (hd s.ts).k : Int) != 0) = false := i_nt (b := 0) h0
  have hg := eq_guard 17
  have hfn : atomFn (atomWord s.word) = .nilFunc := by rw [hw]; rfl
  have hq := neq_nil
  clear h0 hw
  have L0 := Lib.hid (Lc.start h)
  have er0 := h.lt.1
  clear h
  go_enter Tryz.func213, Tryz.ntmps213
  go_wp2_with fail
  refine (token_any _ E s d j (L0.out.alloc _).ps).mono ?_
  rintro x w1 ⟨rfl, hb⟩
  have ho := Out.of_below (L0.out.alloc _).ps hb
  have L1 := Lib.hid ((L0.out.alloc _).call ho)
  have Brb1 := Lib.hid (show Bk w1 w.heap.size #[.int .i64 0, .string ⟨#[]⟩, .int .i64 0, .int .i64 0, .slice none 0 0, .slice none 0 0] 25 from Bk.gr (heap_at _ _ _ (by simp [])) ho.gr (by omega))
  have zrb1 : w.heap.size < w1.heap.size := Brb1.out.lt
  clear ho hb L0
  go_wp2_with fail
  refine (HL _).mono ?_
  rintro x w2 ⟨rfl, hb⟩
  have ho := Out.of_below L1.out.ps hb
  have L2 := Lib.hid (L1.out.call ho)
  have Brb2 := Lib.hid (show Bk w2 w.heap.size #[.int .i64 0, .string ⟨#[]⟩, .int .i64 0, .int .i64 0, .slice none 0 0, .slice none 0 0] 25 from Bk.gr Brb1.out ho.gr (by omega))
  have zrb2 : w.heap.size < w2.heap.size := Brb2.out.lt
  clear ho hb L1 Brb1
  go_wp2_with fail
  obtain ⟨off, cap, hpb, _⟩ := L2.out.drew.ps.cells
  have cm := pc2 hpb
  have hlk := look_atom L2.out.drew.ps s.word
  rw [hfn] at hlk
  clear hpb
  go_region_held3 (fun w' => w'.cell? ⟨E.r, 2, none⟩ = some (.map (some E.m2)) ∧ (Instr.lookup 72 (.map (some E.m2)) (.string ⟨s.word.toArray⟩) false).run Tryz.prog w' = .ok .nilFunc w')
    (first | with_reducible exact ⟨cm, hlk⟩ | with_reducible exact ⟨cm2, hlk2⟩)
    (first | (go_at_call 107; refine (word_any w2.drew E s d j L2.out.drew.ps).mono ?_; rintro z w3 ⟨rfl, hb⟩; have L3 := Lib.hid (L2.out.drew.below hb); have Brb3 := Lib.hid (show Bk w3 w.heap.size #[.int .i64 0, .string ⟨#[]⟩, .int .i64 0, .int .i64 0, .slice none 0 0, .slice none 0 0] 25 from (hb.block _ Brb2.out.lt).trans Brb2.out); have zrb3 := Brb3.out.lt; have hlk2 := look_atom L3.out.ps s.word; rw [hfn] at hlk2; obtain ⟨off2, cap2, hpb2, _⟩ := L3.out.ps.cells; have cm2 := pc2 hpb2; clear hb hpb2))
  clear cm hlk cm2 hlk2
  go_wp2_with fail
  refine (fail_any _ E s d j L3.out.ps 14).mono ?_
  rintro x w4 ⟨rfl, ho⟩
  have L4 := Lib.hid (L3.out.call ho)
  have Brb4 := Lib.hid (show Bk w4 w.heap.size #[.int .i64 0, .string ⟨#[]⟩, .int .i64 0, .int .i64 0, .slice none 0 0, .slice none 0 0] 25 from Bk.gr Brb3.out ho.gr (by omega))
  have zrb4 : w.heap.size < w4.heap.size := Brb4.out.lt
  clear ho L3 Brb3
  obtain ⟨grb0, grb1, grb2, grb3, grb4, grb5⟩ := Brb4.out.c6
  obtain ⟨frb0, frb1, frb2, frb3, frb4, frb5⟩ := Brb4.out.f6
  go_wp2
  refine bodyPost_ret (v := .agg #[.int .i64 0, .string ⟨#[]⟩, .int .i64 0, .int .i64 0, .slice none 0 0, .slice none 0 0]) (by simp [results, Tryz.results213, go_sem, grb0, grb1, grb2, grb3, grb4, grb5]) rfl ?_
  exact ⟨_, _, _, _, rfl, ((((((L4.out.set (by omega) 0 _).set (by omega) 1 _).set (by omega) 2 _).set (by omega) 3 _).set (by omega) 4 _).set (by omega) 5 _).out, hasN_leaf _ _ _ _ _ _⟩

theorem atomWord_le (u : By) : atomWord u = 0 ∨ atomWord u = 1 ∨ atomWord u = 2 ∨ atomWord u = 3 ∨ atomWord u = 4 := by
  unfold atomWord
  repeat' split
  all_goals simp
theorem atom_any {L : Lev} {d : Nat} (hL : LevOK L d) (j : Bool) : NC 213 (atomP L) d j := by
  intro w E s h
  unfold atomP
  by_cases h0 : leafKind s.k = 0
  · rw [if_neg (by simpa using h0)]
    rcases atomWord_le s.word with e | e | e | e | e
    · have := atom_none hL j w E s h h0 e; rw [e]; exact this
    · have := atom_brackets hL j w E s h h0 e; rw [e]; exact this
    · have := atom_retry hL j w E s h h0 e; rw [e]; exact this
    · have := atom_match hL j w E s h h0 e; rw [e]; exact this
    · have := atom_try hL j w E s h h0 e; rw [e]; exact this
  · rw [if_pos h0]; exact atom_leaf hL j w E s h h0

set_option maxHeartbeats 1000000 in
theorem anyExp_let {L : Lev} {d : Nat} (hL : LevOK L d) (j : Bool) : ∀ w E s, PS w E s d j → expWord s.word = 1 → Calls Tryz.prog 102 #[pp E] w (NOut w E (letP L j s) d j) := by
  intro w E s h hw
  have hg := eq_guard 11
  have hfn : expFn (expWord s.word) = (.func (.func 63) #[] #[]) := by rw [hw]; rfl
  have hq := neq_fn 63
  clear hw
  have L0 := Lib.hid (Lc.start h)
  have er0 := h.lt.1
  clear h
  have LA := Lib.hid (L0.out.alloc (.cells #[.int .i64 0, .string ⟨#[]⟩, .int .i64 0, .int .i64 0, .slice none 0 0, .slice none 0 0] 25))
  have BA := Lib.hid (Bk.new w #[.int .i64 0, .string ⟨#[]⟩, .int .i64 0, .int .i64 0, .slice none 0 0, .slice none 0 0] 25)
  go_enter Tryz.func102, Tryz.ntmps102
  go_wp2_with fail
  generalize hwq : w.alloc _ = wq at LA BA ⊢
  have HWQ := Lib.hid hwq
  clear hwq
  have zrb0 := BA.out.lt
  obtain ⟨off, cap, hpb, _⟩ := LA.out.drew.ps.cells
  have cm := pc1 hpb
  have hlk := look_exp LA.out.drew.ps s.word
  rw [hfn] at hlk
  clear hpb
  go_region_held3 (fun w' => w'.cell? ⟨E.r, 1, none⟩ = some (.map (some E.m1)) ∧ (Instr.lookup 72 (.map (some E.m1)) (.string ⟨s.word.toArray⟩) false).run Tryz.prog w' = .ok (.func (.func 63) #[] #[]) w')
    (first | with_reducible exact ⟨cm, hlk⟩ | with_reducible exact ⟨cm2, hlk2⟩)
    (first | (go_at_call 107; refine (word_any wq.drew E s d j LA.out.drew.ps).mono ?_; rintro z w1 ⟨rfl, hb⟩; have L1 := Lib.hid (LA.out.drew.below hb); have Brb1 := Lib.hid (show Bk w1 w.heap.size #[.int .i64 0, .string ⟨#[]⟩, .int .i64 0, .int .i64 0, .slice none 0 0, .slice none 0 0] 25 from (hb.block _ BA.out.lt).trans BA.out); have zrb1 := Brb1.out.lt; have hlk2 := look_exp L1.out.ps s.word; rw [hfn] at hlk2; obtain ⟨off2, cap2, hpb2, _⟩ := L1.out.ps.cells; have cm2 := pc1 hpb2; clear hb hpb2))
  clear cm hlk cm2 hlk2
  go_wp2_with fail
  refine (let_any hL j _ E s L1.out.ps).mono ?_
  rintro x w2 ⟨ao2, ac2, bo2, bc2, rfl, ho, hN⟩
  have L2 := Lib.hid (L1.out.call ho)
  have Brb2 := Lib.hid (show Bk w2 w.heap.size #[.int .i64 0, .string ⟨#[]⟩, .int .i64 0, .int .i64 0, .slice none 0 0, .slice none 0 0] 25 from Bk.gr Brb1.out ho.gr (by omega))
  have zrb2 : w.heap.size < w2.heap.size := Brb2.out.lt
  have Nx2 := Lib.hid (show Hn w2 w1.heap.size ((letP L j s).1) (.slice ao2 ((letP L j s).1).names.length ac2, .slice bo2 ((letP L j s).1).kids.length bc2) from hN.mono (by simp []))
  clear ho hN L1 Brb1
  obtain ⟨grb0, grb1, grb2, grb3, grb4, grb5⟩ := Brb2.out.c6
  obtain ⟨frb0, frb1, frb2, frb3, frb4, frb5⟩ := Brb2.out.f6
  go_wp2
  refine bodyPost_ret (v := .agg #[.int .i64 ((letP L j s).1.kind : Int), .string ⟨(letP L j s).1.text.toArray⟩, .int .i64 ((letP L j s).1.num : Int), .int .i64 ((letP L j s).1.pl : Int), .slice ao2 (letP L j s).1.names.length ac2, .slice bo2 (letP L j s).1.kids.length bc2]) (by simp [results, Tryz.results102, go_sem, grb0, grb1, grb2, grb3, grb4, grb5]) rfl ?_
  exact ⟨_, _, _, _, rfl, ((((((L2.out.set (by omega) 0 _).set (by omega) 1 _).set (by omega) 2 _).set (by omega) 3 _).set (by omega) 4 _).set (by omega) 5 _).out, (Hn.put6 Nx2.out (by omega) _ _ _ _ _ _).mono (by omega)⟩

set_option maxHeartbeats 1000000 in
theorem anyExp_fun {L : Lev} {d : Nat} (hL : LevOK L d) (j : Bool) : ∀ w E s, PS w E s d j → expWord s.word = 2 → Calls Tryz.prog 102 #[pp E] w (NOut w E (funP L j s) d j) := by
  intro w E s h hw
  have hg := eq_guard 11
  have hfn : expFn (expWord s.word) = (.func (.func 64) #[] #[]) := by rw [hw]; rfl
  have hq := neq_fn 64
  clear hw
  have L0 := Lib.hid (Lc.start h)
  have er0 := h.lt.1
  clear h
  have LA := Lib.hid (L0.out.alloc (.cells #[.int .i64 0, .string ⟨#[]⟩, .int .i64 0, .int .i64 0, .slice none 0 0, .slice none 0 0] 25))
  have BA := Lib.hid (Bk.new w #[.int .i64 0, .string ⟨#[]⟩, .int .i64 0, .int .i64 0, .slice none 0 0, .slice none 0 0] 25)
  go_enter Tryz.func102, Tryz.ntmps102
  go_wp2_with fail
  generalize hwq : w.alloc _ = wq at LA BA ⊢
  have HWQ := Lib.hid hwq
  clear hwq
  have zrb0 := BA.out.lt
  obtain ⟨off, cap, hpb, _⟩ := LA.out.drew.ps.cells
  have cm := pc1 hpb
  have hlk := look_exp LA.out.drew.ps s.word
  rw [hfn] at hlk
  clear hpb
  go_region_held3 (fun w' => w'.cell? ⟨E.r, 1, none⟩ = some (.map (some E.m1)) ∧ (Instr.lookup 72 (.map (some E.m1)) (.string ⟨s.word.toArray⟩) false).run Tryz.prog w' = .ok (.func (.func 64) #[] #[]) w')
    (first | with_reducible exact ⟨cm, hlk⟩ | with_reducible exact ⟨cm2, hlk2⟩)
    (first | (go_at_call 107; refine (word_any wq.drew E s d j LA.out.drew.ps).mono ?_; rintro z w1 ⟨rfl, hb⟩; have L1 := Lib.hid (LA.out.drew.below hb); have Brb1 := Lib.hid (show Bk w1 w.heap.size #[.int .i64 0, .string ⟨#[]⟩, .int .i64 0, .int .i64 0, .slice none 0 0, .slice none 0 0] 25 from (hb.block _ BA.out.lt).trans BA.out); have zrb1 := Brb1.out.lt; have hlk2 := look_exp L1.out.ps s.word; rw [hfn] at hlk2; obtain ⟨off2, cap2, hpb2, _⟩ := L1.out.ps.cells; have cm2 := pc1 hpb2; clear hb hpb2))
  clear cm hlk cm2 hlk2
  go_wp2_with fail
  refine (fun_any hL j _ E s L1.out.ps).mono ?_
  rintro x w2 ⟨ao2, ac2, bo2, bc2, rfl, ho, hN⟩
  have L2 := Lib.hid (L1.out.call ho)
  have Brb2 := Lib.hid (show Bk w2 w.heap.size #[.int .i64 0, .string ⟨#[]⟩, .int .i64 0, .int .i64 0, .slice none 0 0, .slice none 0 0] 25 from Bk.gr Brb1.out ho.gr (by omega))
  have zrb2 : w.heap.size < w2.heap.size := Brb2.out.lt
  have Nx2 := Lib.hid (show Hn w2 w1.heap.size ((funP L j s).1) (.slice ao2 ((funP L j s).1).names.length ac2, .slice bo2 ((funP L j s).1).kids.length bc2) from hN.mono (by simp []))
  clear ho hN L1 Brb1
  obtain ⟨grb0, grb1, grb2, grb3, grb4, grb5⟩ := Brb2.out.c6
  obtain ⟨frb0, frb1, frb2, frb3, frb4, frb5⟩ := Brb2.out.f6
  go_wp2
  refine bodyPost_ret (v := .agg #[.int .i64 ((funP L j s).1.kind : Int), .string ⟨(funP L j s).1.text.toArray⟩, .int .i64 ((funP L j s).1.num : Int), .int .i64 ((funP L j s).1.pl : Int), .slice ao2 (funP L j s).1.names.length ac2, .slice bo2 (funP L j s).1.kids.length bc2]) (by simp [results, Tryz.results102, go_sem, grb0, grb1, grb2, grb3, grb4, grb5]) rfl ?_
  exact ⟨_, _, _, _, rfl, ((((((L2.out.set (by omega) 0 _).set (by omega) 1 _).set (by omega) 2 _).set (by omega) 3 _).set (by omega) 4 _).set (by omega) 5 _).out, (Hn.put6 Nx2.out (by omega) _ _ _ _ _ _).mono (by omega)⟩

set_option maxHeartbeats 1000000 in
theorem anyExp_cond {L : Lev} {d : Nat} (hL : LevOK L d) (j : Bool) : ∀ w E s, PS w E s d j → expWord s.word = 3 → Calls Tryz.prog 102 #[pp E] w (NOut w E (condP L j s) d j) := by
  intro w E s h hw
  have hg := eq_guard 11
  have hfn : expFn (expWord s.word) = (.func (.func 65) #[] #[]) := by rw [hw]; rfl
  have hq := neq_fn 65
  clear hw
  have L0 := Lib.hid (Lc.start h)
  have er0 := h.lt.1
  clear h
  have LA := Lib.hid (L0.out.alloc (.cells #[.int .i64 0, .string ⟨#[]⟩, .int .i64 0, .int .i64 0, .slice none 0 0, .slice none 0 0] 25))
  have BA := Lib.hid (Bk.new w #[.int .i64 0, .string ⟨#[]⟩, .int .i64 0, .int .i64 0, .slice none 0 0, .slice none 0 0] 25)
  go_enter Tryz.func102, Tryz.ntmps102
  go_wp2_with fail
  generalize hwq : w.alloc _ = wq at LA BA ⊢
  have HWQ := Lib.hid hwq
  clear hwq
  have zrb0 := BA.out.lt
  obtain ⟨off, cap, hpb, _⟩ := LA.out.drew.ps.cells
  have cm := pc1 hpb
  have hlk := look_exp LA.out.drew.ps s.word
  rw [hfn] at hlk
  clear hpb
  go_region_held3 (fun w' => w'.cell? ⟨E.r, 1, none⟩ = some (.map (some E.m1)) ∧ (Instr.lookup 72 (.map (some E.m1)) (.string ⟨s.word.toArray⟩) false).run Tryz.prog w' = .ok (.func (.func 65) #[] #[]) w')
    (first | with_reducible exact ⟨cm, hlk⟩ | with_reducible exact ⟨cm2, hlk2⟩)
    (first | (go_at_call 107; refine (word_any wq.drew E s d j LA.out.drew.ps).mono ?_; rintro z w1 ⟨rfl, hb⟩; have L1 := Lib.hid (LA.out.drew.below hb); have Brb1 := Lib.hid (show Bk w1 w.heap.size #[.int .i64 0, .string ⟨#[]⟩, .int .i64 0, .int .i64 0, .slice none 0 0, .slice none 0 0] 25 from (hb.block _ BA.out.lt).trans BA.out); have zrb1 := Brb1.out.lt; have hlk2 := look_exp L1.out.ps s.word; rw [hfn] at hlk2; obtain ⟨off2, cap2, hpb2, _⟩ := L1.out.ps.cells; have cm2 := pc1 hpb2; clear hb hpb2))
  clear cm hlk cm2 hlk2
  go_wp2_with fail
  refine (cond_any hL j _ E s L1.out.ps).mono ?_
  rintro x w2 ⟨ao2, ac2, bo2, bc2, rfl, ho, hN⟩
  have L2 := Lib.hid (L1.out.call ho)
  have Brb2 := Lib.hid (show Bk w2 w.heap.size #[.int .i64 0, .string ⟨#[]⟩, .int .i64 0, .int .i64 0, .slice none 0 0, .slice none 0 0] 25 from Bk.gr Brb1.out ho.gr (by omega))
  have zrb2 : w.heap.size < w2.heap.size := Brb2.out.lt
  have Nx2 := Lib.hid (show Hn w2 w1.heap.size ((condP L j s).1) (.slice ao2 ((condP L j s).1).names.length ac2, .slice bo2 ((condP L j s).1).kids.length bc2) from hN.mono (by simp []))
  clear ho hN L1 Brb1
  obtain ⟨grb0, grb1, grb2, grb3, grb4, grb5⟩ := Brb2.out.c6
  obtain ⟨frb0, frb1, frb2, frb3, frb4, frb5⟩ := Brb2.out.f6
  go_wp2
  refine bodyPost_ret (v := .agg #[.int .i64 ((condP L j s).1.kind : Int), .string ⟨(condP L j s).1.text.toArray⟩, .int .i64 ((condP L j s).1.num : Int), .int .i64 ((condP L j s).1.pl : Int), .slice ao2 (condP L j s).1.names.length ac2, .slice bo2 (condP L j s).1.kids.length bc2]) (by simp [results, Tryz.results102, go_sem, grb0, grb1, grb2, grb3, grb4, grb5]) rfl ?_
  exact ⟨_, _, _, _, rfl, ((((((L2.out.set (by omega) 0 _).set (by omega) 1 _).set (by omega) 2 _).set (by omega) 3 _).set (by omega) 4 _).set (by omega) 5 _).out, (Hn.put6 Nx2.out (by omega) _ _ _ _ _ _).mono (by omega)⟩

set_option maxHeartbeats 1000000 in
theorem anyExp_seq {L : Lev} {d : Nat} (hL : LevOK L d) (j : Bool) (hQ : NC 131 (seqP L j) d j) : ∀ w E s, PS w E s d j → expWord s.word = 0 → Calls Tryz.prog 102 #[pp E] w (NOut w E (seqP L j s) d j) := by
  intro w E s h hw
  have hg := eq_guard 11
  have hfn : expFn (expWord s.word) = .nilFunc := by rw [hw]; rfl
  have hq := neq_nil
  clear hw
  have HQ := Lib.hid hQ
  clear hQ
  have L0 := Lib.hid (Lc.start h)
  have er0 := h.lt.1
  clear h
  have LA := Lib.hid (L0.out.alloc (.cells #[.int .i64 0, .string ⟨#[]⟩, .int .i64 0, .int .i64 0, .slice none 0 0, .slice none 0 0] 25))
  have BA := Lib.hid (Bk.new w #[.int .i64 0, .string ⟨#[]⟩, .int .i64 0, .int .i64 0, .slice none 0 0, .slice none 0 0] 25)
  go_enter Tryz.func102, Tryz.ntmps102
  go_wp2_with fail
  generalize hwq : w.alloc _ = wq at LA BA ⊢
  have HWQ := Lib.hid hwq
  clear hwq
  have zrb0 := BA.out.lt
  obtain ⟨off, cap, hpb, _⟩ := LA.out.drew.ps.cells
  have cm := pc1 hpb
  have hlk := look_exp LA.out.drew.ps s.word
  rw [hfn] at hlk
  clear hpb
  go_region_held3 (fun w' => w'.cell? ⟨E.r, 1, none⟩ = some (.map (some E.m1)) ∧ (Instr.lookup 72 (.map (some E.m1)) (.string ⟨s.word.toArray⟩) false).run Tryz.prog w' = .ok .nilFunc w')
    (first | with_reducible exact ⟨cm, hlk⟩ | with_reducible exact ⟨cm2, hlk2⟩)
    (first | (go_at_call 107; refine (word_any wq.drew E s d j LA.out.drew.ps).mono ?_; rintro z w1 ⟨rfl, hb⟩; have L1 := Lib.hid (LA.out.drew.below hb); have Brb1 := Lib.hid (show Bk w1 w.heap.size #[.int .i64 0, .string ⟨#[]⟩, .int .i64 0, .int .i64 0, .slice none 0 0, .slice none 0 0] 25 from (hb.block _ BA.out.lt).trans BA.out); have zrb1 := Brb1.out.lt; have hlk2 := look_exp L1.out.ps s.word; rw [hfn] at hlk2; obtain ⟨off2, cap2, hpb2, _⟩ := L1.out.ps.cells; have cm2 := pc1 hpb2; clear hb hpb2))
  clear cm hlk cm2 hlk2
  go_wp2_with fail
  refine (HQ.out _ E s L1.out.ps).mono ?_
  rintro x w2 ⟨ao2, ac2, bo2, bc2, rfl, ho, hN⟩
  have L2 := Lib.hid (L1.out.call ho)
  have Brb2 := Lib.hid (show Bk w2 w.heap.size #[.int .i64 0, .string ⟨#[]⟩, .int .i64 0, .int .i64 0, .slice none 0 0, .slice none 0 0] 25 from Bk.gr Brb1.out ho.gr (by omega))
  have zrb2 : w.heap.size < w2.heap.size := Brb2.out.lt
  have Nx2 := Lib.hid (show Hn w2 w1.heap.size ((seqP L j s).1) (.slice ao2 ((seqP L j s).1).names.length ac2, .slice bo2 ((seqP L j s).1).kids.length bc2) from hN.mono (by simp []))
  clear ho hN L1 Brb1
  obtain ⟨grb0, grb1, grb2, grb3, grb4, grb5⟩ := Brb2.out.c6
  obtain ⟨frb0, frb1, frb2, frb3, frb4, frb5⟩ := Brb2.out.f6
  go_wp2
  refine bodyPost_ret (v := .agg #[.int .i64 ((seqP L j s).1.kind : Int), .string ⟨(seqP L j s).1.text.toArray⟩, .int .i64 ((seqP L j s).1.num : Int), .int .i64 ((seqP L j s).1.pl : Int), .slice ao2 (seqP L j s).1.names.length ac2, .slice bo2 (seqP L j s).1.kids.length bc2]) (by simp [results, Tryz.results102, go_sem, grb0, grb1, grb2, grb3, grb4, grb5]) rfl ?_
  exact ⟨_, _, _, _, rfl, ((((((L2.out.set (by omega) 0 _).set (by omega) 1 _).set (by omega) 2 _).set (by omega) 3 _).set (by omega) 4 _).set (by omega) 5 _).out, (Hn.put6 Nx2.out (by omega) _ _ _ _ _ _).mono (by omega)⟩

theorem anyExp_any {L : Lev} {d : Nat} (hL : LevOK L d) (j : Bool) (hQ : NC 131 (seqP L j) d j) : NC 102 (anyExpP L j) d j := by
  intro w E s h
  have hc : expWord s.word = 0 ∨ expWord s.word = 1 ∨ expWord s.word = 2 ∨ expWord s.word = 3 := by
    unfold expWord
    repeat' split
    all_goals simp
  unfold anyExpP
  rcases hc with e | e | e | e
  · have := anyExp_seq hL j hQ w E s h e; rw [e]; exact this
  · have := anyExp_let hL j w E s h e; rw [e]; exact this
  · have := anyExp_fun hL j w E s h e; rw [e]; exact this
  · have := anyExp_cond hL j w E s h e; rw [e]; exact this
end Go.Proofs.YtlcapkgbbgpdmaaGreatDoor.PX

/- Apps. -/
namespace Go.Proofs.YtlcapkgbbgpdmaaGreatDoor.PY
open Go.RowKit Go.Proofs.YtlcapkgbbgpdmaaGreatDoor.P Go.Proofs.YtlcapkgbbgpdmaaGreatDoor.A Go.Proofs.YtlcapkgbbgpdmaaGreatDoor.TK Go.Proofs.YtlcapkgbbgpdmaaGreatDoor.TO Go.Proofs.YtlcapkgbbgpdmaaGreatDoor.GR Go.Proofs.YtlcapkgbbgpdmaaGreatDoor.MP Go.Proofs.YtlcapkgbbgpdmaaGreatDoor.YR Go.Proofs.YtlcapkgbbgpdmaaGreatDoor.PN Go.Proofs.YtlcapkgbbgpdmaaGreatDoor.PS Go.Proofs.YtlcapkgbbgpdmaaGreatDoor.PA Go.Proofs.YtlcapkgbbgpdmaaGreatDoor.PB Go.Proofs.YtlcapkgbbgpdmaaGreatDoor.PC Go.Proofs.YtlcapkgbbgpdmaaGreatDoor.PD Go.Proofs.YtlcapkgbbgpdmaaGreatDoor.PE Go.Proofs.YtlcapkgbbgpdmaaGreatDoor.PF Go.Proofs.YtlcapkgbbgpdmaaGreatDoor.PG Go.Proofs.YtlcapkgbbgpdmaaGreatDoor.PH Go.Proofs.YtlcapkgbbgpdmaaGreatDoor.PI Go.Proofs.YtlcapkgbbgpdmaaGreatDoor.PJ Go.Proofs.YtlcapkgbbgpdmaaGreatDoor.PK Go.Proofs.YtlcapkgbbgpdmaaGreatDoor.PL Go.Proofs.YtlcapkgbbgpdmaaGreatDoor.PM Go.Proofs.YtlcapkgbbgpdmaaGreatDoor.PO Go.Proofs.YtlcapkgbbgpdmaaGreatDoor.PP Go.Proofs.YtlcapkgbbgpdmaaGreatDoor.PR Go.Proofs.YtlcapkgbbgpdmaaGreatDoor.PT Go.Proofs.YtlcapkgbbgpdmaaGreatDoor.PU Go.Proofs.YtlcapkgbbgpdmaaGreatDoor.PV Go.Proofs.YtlcapkgbbgpdmaaGreatDoor.PW Go.Proofs.YtlcapkgbbgpdmaaGreatDoor.PX
set_option linter.unusedVariables false
set_option maxRecDepth 100000
attribute [local go_sem ↓] Go.wp_at_zero Go.wp_at_succ

/-- So many atoms. -/
def apSt (R : Part) (s : St) : Nat → List Tree × St
  | 0 => ([], s)
  | k + 1 => ((apSt R s k).1 ++ [(R (apSt R s k).2).1], (R (apSt R s k).2).2)
theorem apSt_len (R : Part) (s : St) : ∀ k, (apSt R s k).1.length = k
  | 0 => rfl
  | k + 1 => by
    show ((apSt R s k).1 ++ [_]).length = _
    rw [List.length_append, apSt_len R s k]; rfl
theorem callLoop_no {L : Lev} {k : Nat} {n : Tree} {s : St} (h : atAtom s = false) : callLoop L k n s = (n, s) := by
  cases k with
  | zero => rfl
  | succ k => show (if atAtom s = true then _ else _) = _; rw [if_neg (by rw [h]; decide)]
theorem callLoop_step {L : Lev} {k : Nat} {n : Tree} {s : St} (h : atAtom s = true) : callLoop L (k + 1) n s = callLoop L k (.node 7 [] [] [n, (atomP L s).1] 0 n.pl) (atomP L s).2 := by
  show (if atAtom s = true then _ else _) = _; rw [if_pos h]

set_option maxHeartbeats 2000000 in
theorem app_key1 {R : Part} {d : Nat} {j : Bool} (hR : NC 213 R d j) (K : Nat) : ∀ w E s, PS w E s d j → keyed s.word = (K, 1) → K ≠ 0 → Calls Tryz.prog 206 #[pp E] w (NOut w E (.node K [] [] (apSt R s.take 1).1 0 s.pl, (apSt R s.take 1).2) d j) := by
  intro w E s h hkd hk0
  have HR0 := Lib.hid hR
  have HK := fun W => keyed_any W s.word
  simp only [hkd] at HK
  have hx : ((K : Int) != 0) = true := i_nf (b := 0) hk0
  have hkk := Lib.hid (show s.k ≠ 0 from fun e => by have e2 : s.word = [] := if_neg (by omega); rw [e2] at hkd; exact hk0 (congrArg Prod.fst hkd).symm)
  clear hkd hk0 hR
  have L0 := Lib.hid (Lc.start h)
  have er0 := h.lt.1
  clear h
  go_enter Tryz.func206, Tryz.ntmps206
  go_wp2_with fail
  refine (word_any _ E s d j (L0.out.alloc _).ps).mono ?_
  rintro x w1 ⟨rfl, hb⟩
  have ho := Out.of_below (L0.out.alloc _).ps hb
  have L1 := Lib.hid ((L0.out.alloc _).call ho)
  have Brb1 := Lib.hid (show Bk w1 w.heap.size #[.int .i64 0, .string ⟨#[]⟩, .int .i64 0, .int .i64 0, .slice none 0 0, .slice none 0 0] 25 from Bk.gr (heap_at _ _ _ (by simp [])) ho.gr (by omega))
  have zrb1 : w.heap.size < w1.heap.size := Brb1.out.lt
  clear ho hb L0
  go_wp2_with fail
  refine (HK w1).mono ?_
  rintro x wz ⟨rfl, rfl⟩
  go_wp2_with fail
  refine (begin_any _ E s d j L1.out.ps K).mono ?_
  rintro x w2 ⟨rfl, hb⟩
  have ho := Out.of_below L1.out.ps hb
  have L2 := Lib.hid (L1.out.call ho)
  have Brb2 := Lib.hid (show Bk w2 w.heap.size #[.int .i64 0, .string ⟨#[]⟩, .int .i64 0, .int .i64 0, .slice none 0 0, .slice none 0 0] 25 from Bk.gr Brb1.out ho.gr (by omega))
  have zrb2 : w.heap.size < w2.heap.size := Brb2.out.lt
  clear ho hb L1 Brb1
  go_wp2_with fail
  refine (take_any _ E s d j (L2.out.alloc _).ps hkk.out).mono ?_
  rintro x w3 ⟨rfl, ho⟩
  have L3 := Lib.hid ((L2.out.alloc _).call ho)
  have Brb3 := Lib.hid (show Bk w3 w.heap.size #[.int .i64 0, .string ⟨#[]⟩, .int .i64 0, .int .i64 0, .slice none 0 0, .slice none 0 0] 25 from Bk.gr (Brb2.out.alloc _) ho.gr (by omega))
  have Bnb3 := Lib.hid (show Bk w3 w2.heap.size #[.int .i64 (K : Int), .string ⟨#[]⟩, .int .i64 0, .int .i64 (s.pl : Int), .slice none 0 0, .slice none 0 0] 25 from Bk.gr (heap_at _ _ _ (by simp [])) ho.gr (by omega))
  have zrb3 : w.heap.size < w3.heap.size := Brb3.out.lt
  have znb3 : w2.heap.size < w3.heap.size := Bnb3.out.lt
  clear ho L2 Brb2
  go_wp2
  generalize hnb : w2.heap.size = nb at *
  have HNB := Lib.hid hnb
  clear hnb
  go_loopg [21] 1 (fun g v0 wx => ∃ (m : Nat) (qs : List (Value × Value)) (ao : Option Addr) (ac : Nat), g + m = 1 ∧ v0 = .int .i64 (m : Int) ∧ Hid (Lc w E (apSt R s.take m).2 d j wx) ∧ Hid (Bk wx w.heap.size #[.int .i64 0, .string ⟨#[]⟩, .int .i64 0, .int .i64 0, .slice none 0 0, .slice none 0 0] 25) ∧ Hid (Bk wx nb #[.int .i64 (K : Int), .string ⟨#[]⟩, .int .i64 0, .int .i64 (s.pl : Int), .slice none 0 0, .slice ao m ac] 25) ∧ Hid (Ka wx (w.heap.size + 1) nb (.slice ao m ac) (apSt R s.take m).1 qs))
  case atStart => exact ⟨0, [], none, 0, rfl, rfl, L3, Brb3, Bnb3, Ka.nil _ _ _⟩
  case round =>
    obtain ⟨m, qs, ao, ac, hgm, rfl, LW, BW, NW, KW⟩ := hrel
    clear L3 Brb3 Bnb3
    have z1 := BW.out.lt
    have z2 := NW.out.lt
    have hm4 : m = 0 ∨ m = 1 := by omega
    rcases hm4 with rfl | rfl
    · obtain rfl : gk = 1 := by omega
      obtain ⟨gnb0, gnb1, gnb2, gnb3, gnb4, gnb5⟩ := NW.out.c6
      obtain ⟨fnb0, fnb1, fnb2, fnb3, fnb4, fnb5⟩ := NW.out.f6
      go_wp2
      go_region_law (first
        | (refine step_kid w4 (.tmp 24) (.tmp 27) (w.heap.size + 1) nb 0 wr.heap.size (.slice ao 0 ac) (apSt R s.take 0).1 qs ((R (apSt R s.take 0).2).1) (.slice ao4 ((R (apSt R s.take 0).2).1).names.length ac4, .slice bo4 ((R (apSt R s.take 0).2).1).kids.length bc4) _ (by rfl) (by rfl) (by rfl) (by rfl) K4.out Nx4.out (apSt_len R s.take 0) (by decide) p1 p5.out p2 p3 znb4 rfl ?_; intro gg4 cp4 w4a hka hgrow; have mg4 : w4.heap.size ≤ w4a.heap.size := Nat.le_trans (by simp) hgrow.size; have L4a := Lib.hid (Lc.grown (L4.out.alloc _) hgrow (fun k hk => by have := (K4.out.1.lt k hk).1; omega)); have K4a := Lib.hid hka; have Brb4a := Lib.hid (show Bk w4a w.heap.size #[.int .i64 0, .string ⟨#[]⟩, .int .i64 0, .int .i64 0, .slice none 0 0, .slice none 0 0] 25 from Bk.grown (Bk.alloc Brb4.out _) hgrow (fun e => by have := (K4.out.1.lt _ e).1; omega)); have zrb4a := Brb4a.out.lt; have Bnb4a := Lib.hid (show Bk w4a nb #[.int .i64 (K : Int), .string ⟨#[]⟩, .int .i64 0, .int .i64 (s.pl : Int), .slice none 0 0, .slice ao 0 ac] 25 from Bk.grown (Bk.alloc Bnb4.out _) hgrow (Ka.alloc K4.out (.cells #[] 0)).2.1); have znb4a := Bnb4a.out.lt; obtain ⟨e0, e1, e2, e3, e4, e5⟩ := Bnb4a.out.c6; obtain ⟨h0, h1, h2, h3, h4, h5⟩ := Bnb4a.out.f6; clear hka hgrow)
        | (go_simp; go_at_call 213; refine (HR0.out _ E (apSt R s.take 0).2 LW.out.drew.ps).mono ?_; rintro x w4 ⟨ao4, ac4, bo4, bc4, rfl, ho, hN⟩; have L4 := Lib.hid (LW.out.drew.call ho); have Brb4 := Lib.hid (show Bk w4 w.heap.size #[.int .i64 0, .string ⟨#[]⟩, .int .i64 0, .int .i64 0, .slice none 0 0, .slice none 0 0] 25 from Bk.gr BW.out.drew ho.gr (by omega)); have zrb4 : w.heap.size < w4.heap.size := Brb4.out.lt; have Bnb4 := Lib.hid (show Bk w4 nb #[.int .i64 (K : Int), .string ⟨#[]⟩, .int .i64 0, .int .i64 (s.pl : Int), .slice none 0 0, .slice ao 0 ac] 25 from Bk.gr NW.out.drew ho.gr (by omega)); have znb4 : nb < w4.heap.size := Bnb4.out.lt; have K4 := Lib.hid (Ka.gr KW.out.drew1 ho.gr (by omega)); have Nx4 := Lib.hid (show Hn w4 wr.heap.size ((R (apSt R s.take 0).2).1) (.slice ao4 ((R (apSt R s.take 0).2).1).names.length ac4, .slice bo4 ((R (apSt R s.take 0).2).1).kids.length bc4) from hN); obtain ⟨cc0, cc1, cc2, cc3, cc4, cc5⟩ := Bnb4.out.c6; obtain ⟨d0, d1, d2, d3, d4, d5⟩ := Bnb4.out.f6; have hzz : wr.heap.size ≤ w4.heap.size := ho.gr.size; have p1 : (w.heap.size + 1) ≤ wr.heap.size := (by omega); have p2 : nb < wr.heap.size := (by omega); have p3 : (w.heap.size + 1) ≤ w4.heap.size := (by omega); have p5 := Lib.hid (show ∀ k, (.slice ao 0 ac : Value).ownBlock = some k → k < wr.heap.size from fun k hk => (KW.out.1.lt k hk).2); clear ho hN hzz))
      all_goals
        go_wp2
        go_roundg 0
        case rel => exact ⟨1, _, some ⟨gg4, 0, none⟩, cp4, rfl, rfl, Lib.hid (L4a.out.set (by omega) 5 _), Lib.hid (Brb4a.out.other (b' := nb) (by omega) 5 _), Lib.hid (Bnb4a.out.set 5 _), Lib.hid (Ka.set K4a.out 5 _)⟩
        case measure => omega
    · obtain rfl : gk = 0 := by omega
      obtain ⟨grb0, grb1, grb2, grb3, grb4, grb5⟩ := BW.out.c6
      obtain ⟨frb0, frb1, frb2, frb3, frb4, frb5⟩ := BW.out.f6
      obtain ⟨gnb0, gnb1, gnb2, gnb3, gnb4, gnb5⟩ := NW.out.c6
      obtain ⟨fnb0, fnb1, fnb2, fnb3, fnb4, fnb5⟩ := NW.out.f6
      go_wp2
      refine bodyPost_ret (v := .agg #[.int .i64 (K : Int), .string ⟨#[]⟩, .int .i64 0, .int .i64 (s.pl : Int), .slice none 0 0, .slice ao 1 ac]) (by simp [results, Tryz.results206, go_sem, grb0, grb1, grb2, grb3, grb4, grb5]) rfl ?_
      exact ⟨_, _, _, _, rfl, ((((((LW.out.set (by omega) 0 _).set (by omega) 1 _).set (by omega) 2 _).set (by omega) 3 _).set (by omega) 4 _).set (by omega) 5 _).out, (Ka.has (Ka.other (b := w.heap.size) (Ka.other (b := w.heap.size) (Ka.other (b := w.heap.size) (Ka.other (b := w.heap.size) (Ka.other (b := w.heap.size) (Ka.other (b := w.heap.size) KW.out (by omega) 0 _) (by omega) 1 _) (by omega) 2 _) (by omega) 3 _) (by omega) 4 _) (by omega) 5 _) _ _ _ _).mono (by omega)⟩

set_option maxHeartbeats 2000000 in
theorem app_key2 {R : Part} {d : Nat} {j : Bool} (hR : NC 213 R d j) (K : Nat) : ∀ w E s, PS w E s d j → keyed s.word = (K, 2) → K ≠ 0 → Calls Tryz.prog 206 #[pp E] w (NOut w E (.node K [] [] (apSt R s.take 2).1 0 s.pl, (apSt R s.take 2).2) d j) := by
  intro w E s h hkd hk0
  have HR0 := Lib.hid hR
  have HK := fun W => keyed_any W s.word
  simp only [hkd] at HK
  have hx : ((K : Int) != 0) = true := i_nf (b := 0) hk0
  have hkk := Lib.hid (show s.k ≠ 0 from fun e => by have e2 : s.word = [] := if_neg (by omega); rw [e2] at hkd; exact hk0 (congrArg Prod.fst hkd).symm)
  clear hkd hk0 hR
  have L0 := Lib.hid (Lc.start h)
  have er0 := h.lt.1
  clear h
  go_enter Tryz.func206, Tryz.ntmps206
  go_wp2_with fail
  refine (word_any _ E s d j (L0.out.alloc _).ps).mono ?_
  rintro x w1 ⟨rfl, hb⟩
  have ho := Out.of_below (L0.out.alloc _).ps hb
  have L1 := Lib.hid ((L0.out.alloc _).call ho)
  have Brb1 := Lib.hid (show Bk w1 w.heap.size #[.int .i64 0, .string ⟨#[]⟩, .int .i64 0, .int .i64 0, .slice none 0 0, .slice none 0 0] 25 from Bk.gr (heap_at _ _ _ (by simp [])) ho.gr (by omega))
  have zrb1 : w.heap.size < w1.heap.size := Brb1.out.lt
  clear ho hb L0
  go_wp2_with fail
  refine (HK w1).mono ?_
  rintro x wz ⟨rfl, rfl⟩
  go_wp2_with fail
  refine (begin_any _ E s d j L1.out.ps K).mono ?_
  rintro x w2 ⟨rfl, hb⟩
  have ho := Out.of_below L1.out.ps hb
  have L2 := Lib.hid (L1.out.call ho)
  have Brb2 := Lib.hid (show Bk w2 w.heap.size #[.int .i64 0, .string ⟨#[]⟩, .int .i64 0, .int .i64 0, .slice none 0 0, .slice none 0 0] 25 from Bk.gr Brb1.out ho.gr (by omega))
  have zrb2 : w.heap.size < w2.heap.size := Brb2.out.lt
  clear ho hb L1 Brb1
  go_wp2_with fail
  refine (take_any _ E s d j (L2.out.alloc _).ps hkk.out).mono ?_
  rintro x w3 ⟨rfl, ho⟩
  have L3 := Lib.hid ((L2.out.alloc _).call ho)
  have Brb3 := Lib.hid (show Bk w3 w.heap.size #[.int .i64 0, .string ⟨#[]⟩, .int .i64 0, .int .i64 0, .slice none 0 0, .slice none 0 0] 25 from Bk.gr (Brb2.out.alloc _) ho.gr (by omega))
  have Bnb3 := Lib.hid (show Bk w3 w2.heap.size #[.int .i64 (K : Int), .string ⟨#[]⟩, .int .i64 0, .int .i64 (s.pl : Int), .slice none 0 0, .slice none 0 0] 25 from Bk.gr (heap_at _ _ _ (by simp [])) ho.gr (by omega))
  have zrb3 : w.heap.size < w3.heap.size := Brb3.out.lt
  have znb3 : w2.heap.size < w3.heap.size := Bnb3.out.lt
  clear ho L2 Brb2
  go_wp2
  generalize hnb : w2.heap.size = nb at *
  have HNB := Lib.hid hnb
  clear hnb
  go_loopg [21] 2 (fun g v0 wx => ∃ (m : Nat) (qs : List (Value × Value)) (ao : Option Addr) (ac : Nat), g + m = 2 ∧ v0 = .int .i64 (m : Int) ∧ Hid (Lc w E (apSt R s.take m).2 d j wx) ∧ Hid (Bk wx w.heap.size #[.int .i64 0, .string ⟨#[]⟩, .int .i64 0, .int .i64 0, .slice none 0 0, .slice none 0 0] 25) ∧ Hid (Bk wx nb #[.int .i64 (K : Int), .string ⟨#[]⟩, .int .i64 0, .int .i64 (s.pl : Int), .slice none 0 0, .slice ao m ac] 25) ∧ Hid (Ka wx (w.heap.size + 1) nb (.slice ao m ac) (apSt R s.take m).1 qs))
  case atStart => exact ⟨0, [], none, 0, rfl, rfl, L3, Brb3, Bnb3, Ka.nil _ _ _⟩
  case round =>
    obtain ⟨m, qs, ao, ac, hgm, rfl, LW, BW, NW, KW⟩ := hrel
    clear L3 Brb3 Bnb3
    have z1 := BW.out.lt
    have z2 := NW.out.lt
    have hm4 : m = 0 ∨ m = 1 ∨ m = 2 := by omega
    rcases hm4 with rfl | rfl | rfl
    · obtain rfl : gk = 2 := by omega
      obtain ⟨gnb0, gnb1, gnb2, gnb3, gnb4, gnb5⟩ := NW.out.c6
      obtain ⟨fnb0, fnb1, fnb2, fnb3, fnb4, fnb5⟩ := NW.out.f6
      go_wp2
      go_region_law (first
        | (refine step_kid w4 (.tmp 24) (.tmp 27) (w.heap.size + 1) nb 0 wr.heap.size (.slice ao 0 ac) (apSt R s.take 0).1 qs ((R (apSt R s.take 0).2).1) (.slice ao4 ((R (apSt R s.take 0).2).1).names.length ac4, .slice bo4 ((R (apSt R s.take 0).2).1).kids.length bc4) _ (by rfl) (by rfl) (by rfl) (by rfl) K4.out Nx4.out (apSt_len R s.take 0) (by decide) p1 p5.out p2 p3 znb4 rfl ?_; intro gg4 cp4 w4a hka hgrow; have mg4 : w4.heap.size ≤ w4a.heap.size := Nat.le_trans (by simp) hgrow.size; have L4a := Lib.hid (Lc.grown (L4.out.alloc _) hgrow (fun k hk => by have := (K4.out.1.lt k hk).1; omega)); have K4a := Lib.hid hka; have Brb4a := Lib.hid (show Bk w4a w.heap.size #[.int .i64 0, .string ⟨#[]⟩, .int .i64 0, .int .i64 0, .slice none 0 0, .slice none 0 0] 25 from Bk.grown (Bk.alloc Brb4.out _) hgrow (fun e => by have := (K4.out.1.lt _ e).1; omega)); have zrb4a := Brb4a.out.lt; have Bnb4a := Lib.hid (show Bk w4a nb #[.int .i64 (K : Int), .string ⟨#[]⟩, .int .i64 0, .int .i64 (s.pl : Int), .slice none 0 0, .slice ao 0 ac] 25 from Bk.grown (Bk.alloc Bnb4.out _) hgrow (Ka.alloc K4.out (.cells #[] 0)).2.1); have znb4a := Bnb4a.out.lt; obtain ⟨e0, e1, e2, e3, e4, e5⟩ := Bnb4a.out.c6; obtain ⟨h0, h1, h2, h3, h4, h5⟩ := Bnb4a.out.f6; clear hka hgrow)
        | (go_simp; go_at_call 213; refine (HR0.out _ E (apSt R s.take 0).2 LW.out.drew.ps).mono ?_; rintro x w4 ⟨ao4, ac4, bo4, bc4, rfl, ho, hN⟩; have L4 := Lib.hid (LW.out.drew.call ho); have Brb4 := Lib.hid (show Bk w4 w.heap.size #[.int .i64 0, .string ⟨#[]⟩, .int .i64 0, .int .i64 0, .slice none 0 0, .slice none 0 0] 25 from Bk.gr BW.out.drew ho.gr (by omega)); have zrb4 : w.heap.size < w4.heap.size := Brb4.out.lt; have Bnb4 := Lib.hid (show Bk w4 nb #[.int .i64 (K : Int), .string ⟨#[]⟩, .int .i64 0, .int .i64 (s.pl : Int), .slice none 0 0, .slice ao 0 ac] 25 from Bk.gr NW.out.drew ho.gr (by omega)); have znb4 : nb < w4.heap.size := Bnb4.out.lt; have K4 := Lib.hid (Ka.gr KW.out.drew1 ho.gr (by omega)); have Nx4 := Lib.hid (show Hn w4 wr.heap.size ((R (apSt R s.take 0).2).1) (.slice ao4 ((R (apSt R s.take 0).2).1).names.length ac4, .slice bo4 ((R (apSt R s.take 0).2).1).kids.length bc4) from hN); obtain ⟨cc0, cc1, cc2, cc3, cc4, cc5⟩ := Bnb4.out.c6; obtain ⟨d0, d1, d2, d3, d4, d5⟩ := Bnb4.out.f6; have hzz : wr.heap.size ≤ w4.heap.size := ho.gr.size; have p1 : (w.heap.size + 1) ≤ wr.heap.size := (by omega); have p2 : nb < wr.heap.size := (by omega); have p3 : (w.heap.size + 1) ≤ w4.heap.size := (by omega); have p5 := Lib.hid (show ∀ k, (.slice ao 0 ac : Value).ownBlock = some k → k < wr.heap.size from fun k hk => (KW.out.1.lt k hk).2); clear ho hN hzz))
      all_goals
        go_wp2
        go_roundg 1
        case rel => exact ⟨1, _, some ⟨gg4, 0, none⟩, cp4, rfl, rfl, Lib.hid (L4a.out.set (by omega) 5 _), Lib.hid (Brb4a.out.other (b' := nb) (by omega) 5 _), Lib.hid (Bnb4a.out.set 5 _), Lib.hid (Ka.set K4a.out 5 _)⟩
        case measure => omega
    · obtain rfl : gk = 1 := by omega
      obtain ⟨gnb0, gnb1, gnb2, gnb3, gnb4, gnb5⟩ := NW.out.c6
      obtain ⟨fnb0, fnb1, fnb2, fnb3, fnb4, fnb5⟩ := NW.out.f6
      go_wp2
      go_region_law (first
        | (refine step_kid w4 (.tmp 24) (.tmp 27) (w.heap.size + 1) nb 1 wr.heap.size (.slice ao 1 ac) (apSt R s.take 1).1 qs ((R (apSt R s.take 1).2).1) (.slice ao4 ((R (apSt R s.take 1).2).1).names.length ac4, .slice bo4 ((R (apSt R s.take 1).2).1).kids.length bc4) _ (by rfl) (by rfl) (by rfl) (by rfl) K4.out Nx4.out (apSt_len R s.take 1) (by decide) p1 p5.out p2 p3 znb4 rfl ?_; intro gg4 cp4 w4a hka hgrow; have mg4 : w4.heap.size ≤ w4a.heap.size := Nat.le_trans (by simp) hgrow.size; have L4a := Lib.hid (Lc.grown (L4.out.alloc _) hgrow (fun k hk => by have := (K4.out.1.lt k hk).1; omega)); have K4a := Lib.hid hka; have Brb4a := Lib.hid (show Bk w4a w.heap.size #[.int .i64 0, .string ⟨#[]⟩, .int .i64 0, .int .i64 0, .slice none 0 0, .slice none 0 0] 25 from Bk.grown (Bk.alloc Brb4.out _) hgrow (fun e => by have := (K4.out.1.lt _ e).1; omega)); have zrb4a := Brb4a.out.lt; have Bnb4a := Lib.hid (show Bk w4a nb #[.int .i64 (K : Int), .string ⟨#[]⟩, .int .i64 0, .int .i64 (s.pl : Int), .slice none 0 0, .slice ao 1 ac] 25 from Bk.grown (Bk.alloc Bnb4.out _) hgrow (Ka.alloc K4.out (.cells #[] 0)).2.1); have znb4a := Bnb4a.out.lt; obtain ⟨e0, e1, e2, e3, e4, e5⟩ := Bnb4a.out.c6; obtain ⟨h0, h1, h2, h3, h4, h5⟩ := Bnb4a.out.f6; clear hka hgrow)
        | (go_simp; go_at_call 213; refine (HR0.out _ E (apSt R s.take 1).2 LW.out.drew.ps).mono ?_; rintro x w4 ⟨ao4, ac4, bo4, bc4, rfl, ho, hN⟩; have L4 := Lib.hid (LW.out.drew.call ho); have Brb4 := Lib.hid (show Bk w4 w.heap.size #[.int .i64 0, .string ⟨#[]⟩, .int .i64 0, .int .i64 0, .slice none 0 0, .slice none 0 0] 25 from Bk.gr BW.out.drew ho.gr (by omega)); have zrb4 : w.heap.size < w4.heap.size := Brb4.out.lt; have Bnb4 := Lib.hid (show Bk w4 nb #[.int .i64 (K : Int), .string ⟨#[]⟩, .int .i64 0, .int .i64 (s.pl : Int), .slice none 0 0, .slice ao 1 ac] 25 from Bk.gr NW.out.drew ho.gr (by omega)); have znb4 : nb < w4.heap.size := Bnb4.out.lt; have K4 := Lib.hid (Ka.gr KW.out.drew1 ho.gr (by omega)); have Nx4 := Lib.hid (show Hn w4 wr.heap.size ((R (apSt R s.take 1).2).1) (.slice ao4 ((R (apSt R s.take 1).2).1).names.length ac4, .slice bo4 ((R (apSt R s.take 1).2).1).kids.length bc4) from hN); obtain ⟨cc0, cc1, cc2, cc3, cc4, cc5⟩ := Bnb4.out.c6; obtain ⟨d0, d1, d2, d3, d4, d5⟩ := Bnb4.out.f6; have hzz : wr.heap.size ≤ w4.heap.size := ho.gr.size; have p1 : (w.heap.size + 1) ≤ wr.heap.size := (by omega); have p2 : nb < wr.heap.size := (by omega); have p3 : (w.heap.size + 1) ≤ w4.heap.size := (by omega); have p5 := Lib.hid (show ∀ k, (.slice ao 1 ac : Value).ownBlock = some k → k < wr.heap.size from fun k hk => (KW.out.1.lt k hk).2); clear ho hN hzz))
      all_goals
        go_wp2
        go_roundg 0
        case rel => exact ⟨2, _, some ⟨gg4, 0, none⟩, cp4, rfl, rfl, Lib.hid (L4a.out.set (by omega) 5 _), Lib.hid (Brb4a.out.other (b' := nb) (by omega) 5 _), Lib.hid (Bnb4a.out.set 5 _), Lib.hid (Ka.set K4a.out 5 _)⟩
        case measure => omega
    · obtain rfl : gk = 0 := by omega
      obtain ⟨grb0, grb1, grb2, grb3, grb4, grb5⟩ := BW.out.c6
      obtain ⟨frb0, frb1, frb2, frb3, frb4, frb5⟩ := BW.out.f6
      obtain ⟨gnb0, gnb1, gnb2, gnb3, gnb4, gnb5⟩ := NW.out.c6
      obtain ⟨fnb0, fnb1, fnb2, fnb3, fnb4, fnb5⟩ := NW.out.f6
      go_wp2
      refine bodyPost_ret (v := .agg #[.int .i64 (K : Int), .string ⟨#[]⟩, .int .i64 0, .int .i64 (s.pl : Int), .slice none 0 0, .slice ao 2 ac]) (by simp [results, Tryz.results206, go_sem, grb0, grb1, grb2, grb3, grb4, grb5]) rfl ?_
      exact ⟨_, _, _, _, rfl, ((((((LW.out.set (by omega) 0 _).set (by omega) 1 _).set (by omega) 2 _).set (by omega) 3 _).set (by omega) 4 _).set (by omega) 5 _).out, (Ka.has (Ka.other (b := w.heap.size) (Ka.other (b := w.heap.size) (Ka.other (b := w.heap.size) (Ka.other (b := w.heap.size) (Ka.other (b := w.heap.size) (Ka.other (b := w.heap.size) KW.out (by omega) 0 _) (by omega) 1 _) (by omega) 2 _) (by omega) 3 _) (by omega) 4 _) (by omega) 5 _) _ _ _ _).mono (by omega)⟩

set_option maxHeartbeats 1000000 in
theorem app_con {L : Lev} {d : Nat} {j : Bool} (hR : NC 213 (atomP L) d j) : ∀ w E s, PS w E s d j → (keyed s.word).1 = 0 → s.k = 4 → Calls Tryz.prog 206 #[pp E] w (NOut w E (conP atAtom (atomP L) s) d j) := by
  intro w E s h hkd hk4
  have HR0 := Lib.hid hR
  have hf0 := tf0
  have HK := fun W => keyed_any W s.word
  have x0 : (((keyed s.word).1 : Int) != 0) = false := i_nt (b := 0) hkd
  have x4 : (((hd s.ts).k : Int) == 4) = true := i_eq (b := 4) hk4
  have hk0 := Lib.hid (show s.k ≠ 0 by omega)
  clear hkd hk4 hR
  have L0 := Lib.hid (Lc.start h)
  have er0 := h.lt.1
  clear h
  go_enter Tryz.func206, Tryz.ntmps206
  go_wp2_with fail
  refine (word_any _ E s d j (L0.out.alloc _).ps).mono ?_
  rintro x w1 ⟨rfl, hb⟩
  have ho := Out.of_below (L0.out.alloc _).ps hb
  have L1 := Lib.hid ((L0.out.alloc _).call ho)
  have Brb1 := Lib.hid (show Bk w1 w.heap.size #[.int .i64 0, .string ⟨#[]⟩, .int .i64 0, .int .i64 0, .slice none 0 0, .slice none 0 0] 25 from Bk.gr (heap_at _ _ _ (by simp [])) ho.gr (by omega))
  have zrb1 : w.heap.size < w1.heap.size := Brb1.out.lt
  clear ho hb L0
  go_wp2_with fail
  refine (HK w1).mono ?_
  rintro x wz ⟨rfl, rfl⟩
  go_wp2_with fail
  refine (token_any _ E s d j L1.out.ps).mono ?_
  rintro x w2 ⟨rfl, hb⟩
  have ho := Out.of_below L1.out.ps hb
  have L2 := Lib.hid (L1.out.call ho)
  have Brb2 := Lib.hid (show Bk w2 w.heap.size #[.int .i64 0, .string ⟨#[]⟩, .int .i64 0, .int .i64 0, .slice none 0 0, .slice none 0 0] 25 from Bk.gr Brb1.out ho.gr (by omega))
  have zrb2 : w.heap.size < w2.heap.size := Brb2.out.lt
  clear ho hb L1 Brb1
  go_wp2_with fail
  refine (con_atoms (fun W E s hW => atAtom_any W E s d j hW) HR0.out _ E s L2.out.ps hk0.out).mono ?_
  rintro x w3 ⟨ao3, ac3, bo3, bc3, rfl, ho, hN⟩
  have L3 := Lib.hid (L2.out.call ho)
  have Brb3 := Lib.hid (show Bk w3 w.heap.size #[.int .i64 0, .string ⟨#[]⟩, .int .i64 0, .int .i64 0, .slice none 0 0, .slice none 0 0] 25 from Bk.gr Brb2.out ho.gr (by omega))
  have zrb3 : w.heap.size < w3.heap.size := Brb3.out.lt
  have Nx3 := Lib.hid (show Hn w3 w2.heap.size ((conP atAtom (atomP L) s).1) (.slice ao3 ((conP atAtom (atomP L) s).1).names.length ac3, .slice bo3 ((conP atAtom (atomP L) s).1).kids.length bc3) from hN.mono (by simp []))
  clear ho hN L2 Brb2
  obtain ⟨grb0, grb1, grb2, grb3, grb4, grb5⟩ := Brb3.out.c6
  obtain ⟨frb0, frb1, frb2, frb3, frb4, frb5⟩ := Brb3.out.f6
  go_wp2
  refine bodyPost_ret (v := .agg #[.int .i64 ((conP atAtom (atomP L) s).1.kind : Int), .string ⟨(conP atAtom (atomP L) s).1.text.toArray⟩, .int .i64 ((conP atAtom (atomP L) s).1.num : Int), .int .i64 ((conP atAtom (atomP L) s).1.pl : Int), .slice ao3 (conP atAtom (atomP L) s).1.names.length ac3, .slice bo3 (conP atAtom (atomP L) s).1.kids.length bc3]) (by simp [results, Tryz.results206, go_sem, grb0, grb1, grb2, grb3, grb4, grb5]) rfl ?_
  exact ⟨_, _, _, _, rfl, ((((((L3.out.set (by omega) 0 _).set (by omega) 1 _).set (by omega) 2 _).set (by omega) 3 _).set (by omega) 4 _).set (by omega) 5 _).out, (Hn.put6 Nx3.out (by omega) _ _ _ _ _ _).mono (by omega)⟩

set_option maxHeartbeats 2000000 in
theorem app_call {L : Lev} {d : Nat} {j : Bool} (hR : NC 213 (atomP L) d j) (hShr : ∀ s, atAtom s = true → (atomP L s).2.ts.length + 1 ≤ s.ts.length) : ∀ w E s, PS w E s d j → (keyed s.word).1 = 0 → s.k ≠ 4 → Calls Tryz.prog 206 #[pp E] w (NOut w E (callLoop L (atomP L s).2.ts.length (atomP L s).1 (atomP L s).2) d j) := by
  intro w E s h hkd hk4
  have HR0 := Lib.hid hR
  have HS0 := Lib.hid hShr
  have hf0 := tf0
  have HK := fun W => keyed_any W s.word
  have x0 : (((keyed s.word).1 : Int) != 0) = false := i_nt (b := 0) hkd
  have x4 : (((hd s.ts).k : Int) == 4) = false := i_ne (b := 4) hk4
  clear hkd hk4 hR hShr
  obtain ⟨R0, hR0⟩ : ∃ R0, Hid (callLoop L (atomP L s).2.ts.length (atomP L s).1 (atomP L s).2 = R0) := ⟨_, rfl⟩
  rw [hR0.out]
  have L0 := Lib.hid (Lc.start h)
  have er0 := h.lt.1
  clear h
  go_enter Tryz.func206, Tryz.ntmps206
  go_wp2_with fail
  refine (word_any _ E s d j (L0.out.alloc _).ps).mono ?_
  rintro x w1 ⟨rfl, hb⟩
  have ho := Out.of_below (L0.out.alloc _).ps hb
  have L1 := Lib.hid ((L0.out.alloc _).call ho)
  have Brb1 := Lib.hid (show Bk w1 w.heap.size #[.int .i64 0, .string ⟨#[]⟩, .int .i64 0, .int .i64 0, .slice none 0 0, .slice none 0 0] 25 from Bk.gr (heap_at _ _ _ (by simp [])) ho.gr (by omega))
  have zrb1 : w.heap.size < w1.heap.size := Brb1.out.lt
  clear ho hb L0
  go_wp2_with fail
  refine (HK w1).mono ?_
  rintro x wz ⟨rfl, rfl⟩
  go_wp2_with fail
  refine (token_any _ E s d j L1.out.ps).mono ?_
  rintro x w2 ⟨rfl, hb⟩
  have ho := Out.of_below L1.out.ps hb
  have L2 := Lib.hid (L1.out.call ho)
  have Brb2 := Lib.hid (show Bk w2 w.heap.size #[.int .i64 0, .string ⟨#[]⟩, .int .i64 0, .int .i64 0, .slice none 0 0, .slice none 0 0] 25 from Bk.gr Brb1.out ho.gr (by omega))
  have zrb2 : w.heap.size < w2.heap.size := Brb2.out.lt
  clear ho hb L1 Brb1
  go_wp2_with fail
  refine (HR0.out _ E s L2.out.ps).mono ?_
  rintro x w3 ⟨ao3, ac3, bo3, bc3, rfl, ho, hN⟩
  have L3 := Lib.hid (L2.out.call ho)
  have Brb3 := Lib.hid (show Bk w3 w.heap.size #[.int .i64 0, .string ⟨#[]⟩, .int .i64 0, .int .i64 0, .slice none 0 0, .slice none 0 0] 25 from Bk.gr Brb2.out ho.gr (by omega))
  have zrb3 : w.heap.size < w3.heap.size := Brb3.out.lt
  have Nx3 := Lib.hid (show Hn w3 w2.heap.size ((atomP L s).1) (.slice ao3 ((atomP L s).1).names.length ac3, .slice bo3 ((atomP L s).1).kids.length bc3) from hN.mono (by simp []))
  clear ho hN L2 Brb2
  go_wp2
  have LS := Lib.hid (show Lc w E (atomP L s).2 d j (w3.alloc (.cells #[.int .i64 ((atomP L s).1.kind : Int), .string ⟨(atomP L s).1.text.toArray⟩, .int .i64 ((atomP L s).1.num : Int), .int .i64 ((atomP L s).1.pl : Int), .slice ao3 (atomP L s).1.names.length ac3, .slice bo3 (atomP L s).1.kids.length bc3] 25)) from (L3.out.alloc _))
  have BS := Lib.hid (show Bk (w3.alloc (.cells #[.int .i64 ((atomP L s).1.kind : Int), .string ⟨(atomP L s).1.text.toArray⟩, .int .i64 ((atomP L s).1.num : Int), .int .i64 ((atomP L s).1.pl : Int), .slice ao3 (atomP L s).1.names.length ac3, .slice bo3 (atomP L s).1.kids.length bc3] 25)) w.heap.size #[.int .i64 0, .string ⟨#[]⟩, .int .i64 0, .int .i64 0, .slice none 0 0, .slice none 0 0] 25 from (Brb3.out.alloc _))
  have NS := Lib.hid (Bk.new w3 #[.int .i64 ((atomP L s).1.kind : Int), .string ⟨(atomP L s).1.text.toArray⟩, .int .i64 ((atomP L s).1.num : Int), .int .i64 ((atomP L s).1.pl : Int), .slice ao3 (atomP L s).1.names.length ac3, .slice bo3 (atomP L s).1.kids.length bc3] 25)
  have XS := Lib.hid (show HasN (w3.alloc (.cells #[.int .i64 ((atomP L s).1.kind : Int), .string ⟨(atomP L s).1.text.toArray⟩, .int .i64 ((atomP L s).1.num : Int), .int .i64 ((atomP L s).1.pl : Int), .slice ao3 (atomP L s).1.names.length ac3, .slice bo3 (atomP L s).1.kids.length bc3] 25)) (fun b => w.heap.size + 1 ≤ b ∧ b ≠ w3.heap.size) (atomP L s).1 (.slice ao3 (atomP L s).1.names.length ac3, .slice bo3 (atomP L s).1.kids.length bc3) from (Nx3.out.weak (fun b hb hlt => (have hb : _ ≤ b := hb; ⟨by omega, by omega⟩))).alloc _)
  generalize w3.alloc _ = wq at LS BS NS XS ⊢
  generalize hnb : w3.heap.size = nb at *
  have HNB := Lib.hid hnb
  clear hnb Brb3 L3 Nx3
  go_loopg [40] ((atomP L s).2.ts.length) (fun g v0 wx => ∃ (n : Tree) (ao : Option Addr) (ac : Nat) (bo : Option Addr) (bc : Nat) (st : St), Hid (callLoop L g n st = R0) ∧ st.ts.length ≤ g ∧ Hid (Lc w E st d j wx) ∧ Hid (Bk wx w.heap.size #[.int .i64 0, .string ⟨#[]⟩, .int .i64 0, .int .i64 0, .slice none 0 0, .slice none 0 0] 25) ∧ Hid (Bk wx nb #[.int .i64 (n.kind : Int), .string ⟨n.text.toArray⟩, .int .i64 (n.num : Int), .int .i64 (n.pl : Int), .slice ao n.names.length ac, .slice bo n.kids.length bc] 25) ∧ Hid (HasN wx (fun b => w.heap.size + 1 ≤ b ∧ b ≠ nb) n (.slice ao n.names.length ac, .slice bo n.kids.length bc)))
  case atStart => exact ⟨(atomP L s).1, ao3, ac3, bo3, bc3, (atomP L s).2, hR0, Nat.le_refl _, LS, BS, NS, XS⟩
  case round =>
    obtain ⟨n, ao, ac, bo, bc, st, HT, hlen, LW, BW, NW, XW⟩ := hrel
    clear LS BS NS XS hR0
    have z1 := BW.out.lt
    have z2 := NW.out.lt
    have hpos := LW.out.ps.ok.pos
    have hc := atAtom_any wr E st d j LW.out.ps
    cases hm : atAtom st with
    | false =>
      have HE := Lib.hid ((callLoop_no (k := gk) (L := L) (n := n) hm).symm.trans HT.out)
      rw [hm] at hc
      clear hm HT
      go_wp2_with fail
      refine (hc).mono ?_
      rintro x w4 ⟨rfl, hb⟩
      have ho := Out.of_below LW.out.ps hb
      have L4 := Lib.hid (LW.out.call ho)
      have Brb4 := Lib.hid (show Bk w4 w.heap.size #[.int .i64 0, .string ⟨#[]⟩, .int .i64 0, .int .i64 0, .slice none 0 0, .slice none 0 0] 25 from Bk.gr BW.out ho.gr (by omega))
      have Bnb4 := Lib.hid (show Bk w4 nb #[.int .i64 (n.kind : Int), .string ⟨n.text.toArray⟩, .int .i64 (n.num : Int), .int .i64 (n.pl : Int), .slice ao n.names.length ac, .slice bo n.kids.length bc] 25 from Bk.gr NW.out ho.gr (by omega))
      have zrb4 : w.heap.size < w4.heap.size := Brb4.out.lt
      have znb4 : nb < w4.heap.size := Bnb4.out.lt
      have XB := Lib.hid (HasN.grS XW.out ho.gr (fun h => absurd h.1 (by omega)))
      clear ho hb LW BW NW
      obtain ⟨grb0, grb1, grb2, grb3, grb4, grb5⟩ := Brb4.out.c6
      obtain ⟨frb0, frb1, frb2, frb3, frb4, frb5⟩ := Brb4.out.f6
      obtain ⟨gnb0, gnb1, gnb2, gnb3, gnb4, gnb5⟩ := Bnb4.out.c6
      obtain ⟨fnb0, fnb1, fnb2, fnb3, fnb4, fnb5⟩ := Bnb4.out.f6
      go_wp2
      refine bodyPost_ret (v := .agg #[.int .i64 (n.kind : Int), .string ⟨n.text.toArray⟩, .int .i64 (n.num : Int), .int .i64 (n.pl : Int), .slice ao n.names.length ac, .slice bo n.kids.length bc]) (by simp [results, Tryz.results206, go_sem, grb0, grb1, grb2, grb3, grb4, grb5]) rfl ?_
      rw [← HE.out]
      exact ⟨ao, ac, bo, bc, rfl, ((((((L4.out.set (by omega) 0 _).set (by omega) 1 _).set (by omega) 2 _).set (by omega) 3 _).set (by omega) 4 _).set (by omega) 5 _).out, (HasN.put6S XB.out (fun h => absurd h.1 (by omega)) _ _ _ _ _ _).weak (fun b hb _ => (have := hb.1; show w.heap.size ≤ b by omega))⟩
    | true =>
      obtain ⟨m, rfl⟩ : ∃ m, gk = m + 1 := ⟨gk - 1, by omega⟩
      have HE := Lib.hid ((callLoop_step (k := m) (L := L) (n := n) hm).symm.trans HT.out)
      rw [hm] at hc
      have hsh := HS0.out st hm
      clear hm HT
      go_wp2_with fail
      refine (hc).mono ?_
      rintro x w4 ⟨rfl, hb⟩
      have ho := Out.of_below LW.out.ps hb
      have L4 := Lib.hid (LW.out.call ho)
      have Brb4 := Lib.hid (show Bk w4 w.heap.size #[.int .i64 0, .string ⟨#[]⟩, .int .i64 0, .int .i64 0, .slice none 0 0, .slice none 0 0] 25 from Bk.gr BW.out ho.gr (by omega))
      have Bnb4 := Lib.hid (show Bk w4 nb #[.int .i64 (n.kind : Int), .string ⟨n.text.toArray⟩, .int .i64 (n.num : Int), .int .i64 (n.pl : Int), .slice ao n.names.length ac, .slice bo n.kids.length bc] 25 from Bk.gr NW.out ho.gr (by omega))
      have zrb4 : w.heap.size < w4.heap.size := Brb4.out.lt
      have znb4 : nb < w4.heap.size := Bnb4.out.lt
      have XB := Lib.hid (HasN.grS XW.out ho.gr (fun h => absurd h.1 (by omega)))
      clear ho hb LW BW NW
      obtain ⟨gnb0, gnb1, gnb2, gnb3, gnb4, gnb5⟩ := Bnb4.out.c6
      obtain ⟨fnb0, fnb1, fnb2, fnb3, fnb4, fnb5⟩ := Bnb4.out.f6
      go_wp2
      go_region_with (first
        | (go_at_call 213; refine (HR0.out _ E st L4.out.drew.ps).mono ?_; rintro z v3 ⟨ao3, ac3, bo3, bc3, rfl, ho, hN⟩; have L3 := Lib.hid (L4.out.drew.call ho); have R3 := Lib.hid (show Bk v3 w.heap.size #[.int .i64 0, .string ⟨#[]⟩, .int .i64 0, .int .i64 0, .slice none 0 0, .slice none 0 0] 25 from Bk.gr Brb4.out.drew ho.gr (by omega)); have N3 := Lib.hid (show Bk v3 nb #[.int .i64 (n.kind : Int), .string ⟨n.text.toArray⟩, .int .i64 (n.num : Int), .int .i64 (n.pl : Int), .slice ao n.names.length ac, .slice bo n.kids.length bc] 25 from Bk.gr Bnb4.out.drew ho.gr (by omega)); have X3 := Lib.hid (HasN.grS XB.out.drew1 ho.gr (fun h => absurd h.1 (by omega))); have Y3 := Lib.hid (show HasN v3 (fun b => w.heap.size + 1 ≤ b ∧ b ≠ nb) (atomP L st).1 (.slice ao3 (atomP L st).1.names.length ac3, .slice bo3 (atomP L st).1.kids.length bc3) from hN.weak (fun b hb hlt => (have hb : w4.heap.size ≤ b := hb; ⟨by omega, by omega⟩))); have zr3 := R3.out.lt; have zn3 := N3.out.lt; have q3 := Lib.hid (show ∀ b, v3.heap.size ≤ b → (w.heap.size + 1 ≤ b ∧ b ≠ nb) from fun b hb => ⟨by omega, by omega⟩); obtain ⟨u0, u1, u2, u3, u4, u5⟩ := N3.out.c6; clear ho hN)
        | (go_at_call 162; refine (pair_any v3 7 [] n (atomP L st).1 _ _ _ _ _ X3.out Y3.out q3.out).mono ?_; rintro z v4 ⟨ao4, ac4, bo4, bc4, rfl, hb, hN⟩; have L4 := Lib.hid (L3.out.below hb); have R4 := Lib.hid (show Bk v4 w.heap.size #[.int .i64 0, .string ⟨#[]⟩, .int .i64 0, .int .i64 0, .slice none 0 0, .slice none 0 0] 25 from (hb.block _ R3.out.lt).trans R3.out); have N4 := Lib.hid (show Bk v4 nb #[.int .i64 (n.kind : Int), .string ⟨n.text.toArray⟩, .int .i64 (n.num : Int), .int .i64 (n.pl : Int), .slice ao n.names.length ac, .slice bo n.kids.length bc] 25 from (hb.block _ N3.out.lt).trans N3.out); have X4 := Lib.hid hN; have zr4 := R4.out.lt; have zn4 := N4.out.lt; obtain ⟨t0, t1, t2, t3, t4, t5⟩ := N4.out.c6; obtain ⟨m0, m1, m2, m3, m4, m5⟩ := N4.out.f6; clear hb hN))
      all_goals
        go_wp2
        go_roundg m
        case rel => exact ⟨(Tree.node 7 [] [] [n, (atomP L st).1] 0 n.pl), ao4, ac4, bo4, bc4, (atomP L st).2, HE, by omega, Lib.hid ((((((L4.out.set (by omega) 0 _).set (by omega) 1 _).set (by omega) 2 _).set (by omega) 3 _).set (by omega) 4 _).set (by omega) 5 _), Lib.hid ((((((R4.out.other (b' := nb) (by omega) 0 _).other (b' := nb) (by omega) 1 _).other (b' := nb) (by omega) 2 _).other (b' := nb) (by omega) 3 _).other (b' := nb) (by omega) 4 _).other (b' := nb) (by omega) 5 _), Lib.hid ((((((N4.out.set 0 _).set 1 _).set 2 _).set 3 _).set 4 _).set 5 _), Lib.hid (HasN.put6S X4.out (fun h => h.2 rfl) _ _ _ _ _ _)⟩
        case measure => omega

theorem keyed_num (u : By) : (keyed u).1 = 0 ∨ ((keyed u).1 ≠ 0 ∧ ((keyed u).2 = 1 ∨ (keyed u).2 = 2)) := by
  unfold keyed
  cases hc : calls.find? (fun c => decide (c.1 = u)) with
  | none => exact .inl rfl
  | some c =>
    right
    have hm := List.mem_of_find?_eq_some hc
    simp only [calls, List.mem_cons, List.not_mem_nil, or_false] at hm
    rcases hm with rfl | rfl | rfl | rfl | rfl | rfl | rfl | rfl <;> decide
theorem app_any {L : Lev} {d : Nat} {j : Bool} (hR : NC 213 (atomP L) d j) (hShr : ∀ s, atAtom s = true → (atomP L s).2.ts.length + 1 ≤ s.ts.length) : NC 206 (appP L) d j := by
  intro w E s h
  unfold appP
  rcases keyed_num s.word with h0 | ⟨h0, h2⟩
  · rw [if_neg (by simpa using h0)]
    by_cases h4 : s.k = 4
    · rw [if_pos h4]; exact app_con hR w E s h h0 h4
    · rw [if_neg h4]; exact app_call hR hShr w E s h h0 h4
  · rw [if_pos h0]
    rcases h2 with h2 | h2
    · rw [if_neg (by rw [h2]; decide)]
      exact app_key1 hR (keyed s.word).1 w E s h (by rw [← h2]) h0
    · rw [if_pos h2]
      exact app_key2 hR (keyed s.word).1 w E s h (by rw [← h2]) h0
end Go.Proofs.YtlcapkgbbgpdmaaGreatDoor.PY

/- Types' parts; lists; a declared constructor. -/
namespace Go.Proofs.YtlcapkgbbgpdmaaGreatDoor.PZ
open Go.RowKit Go.Proofs.YtlcapkgbbgpdmaaGreatDoor.P Go.Proofs.YtlcapkgbbgpdmaaGreatDoor.A Go.Proofs.YtlcapkgbbgpdmaaGreatDoor.TK Go.Proofs.YtlcapkgbbgpdmaaGreatDoor.TO Go.Proofs.YtlcapkgbbgpdmaaGreatDoor.GR Go.Proofs.YtlcapkgbbgpdmaaGreatDoor.MP Go.Proofs.YtlcapkgbbgpdmaaGreatDoor.YR Go.Proofs.YtlcapkgbbgpdmaaGreatDoor.PN Go.Proofs.YtlcapkgbbgpdmaaGreatDoor.PS Go.Proofs.YtlcapkgbbgpdmaaGreatDoor.PA Go.Proofs.YtlcapkgbbgpdmaaGreatDoor.PB Go.Proofs.YtlcapkgbbgpdmaaGreatDoor.PC Go.Proofs.YtlcapkgbbgpdmaaGreatDoor.PD Go.Proofs.YtlcapkgbbgpdmaaGreatDoor.PE Go.Proofs.YtlcapkgbbgpdmaaGreatDoor.PF Go.Proofs.YtlcapkgbbgpdmaaGreatDoor.PG Go.Proofs.YtlcapkgbbgpdmaaGreatDoor.PH Go.Proofs.YtlcapkgbbgpdmaaGreatDoor.PI Go.Proofs.YtlcapkgbbgpdmaaGreatDoor.PJ Go.Proofs.YtlcapkgbbgpdmaaGreatDoor.PK Go.Proofs.YtlcapkgbbgpdmaaGreatDoor.PL Go.Proofs.YtlcapkgbbgpdmaaGreatDoor.PM Go.Proofs.YtlcapkgbbgpdmaaGreatDoor.PO Go.Proofs.YtlcapkgbbgpdmaaGreatDoor.PP Go.Proofs.YtlcapkgbbgpdmaaGreatDoor.PR Go.Proofs.YtlcapkgbbgpdmaaGreatDoor.PT Go.Proofs.YtlcapkgbbgpdmaaGreatDoor.PU Go.Proofs.YtlcapkgbbgpdmaaGreatDoor.PV Go.Proofs.YtlcapkgbbgpdmaaGreatDoor.PW Go.Proofs.YtlcapkgbbgpdmaaGreatDoor.PX Go.Proofs.YtlcapkgbbgpdmaaGreatDoor.PY
set_option linter.unusedVariables false
set_option maxRecDepth 100000
attribute [local go_sem ↓] Go.wp_at_zero Go.wp_at_succ

theorem tyLoop_no {T : Part} {k : Nat} {n : Tree} {s : St} (h : tyStops s = false) : tyLoop T k n s = (n, s) := by
  cases k with
  | zero => rfl
  | succ k => show (if tyStops s = true then _ else _) = _; rw [if_neg (by rw [h]; decide)]
theorem tyLoop_step {T : Part} {k : Nat} {n : Tree} {s : St} (h : tyStops s = true) : tyLoop T (k + 1) n s = tyLoop T k (n.more (tyatom T s).1) (tyatom T s).2 := by
  show (if tyStops s = true then _ else _) = _; rw [if_pos h]

set_option maxHeartbeats 4000000 in
theorem tyapp_any {T : Part} {d : Nat} {j : Bool} (hT : DC 187 T d j) (hShr : ∀ s, tyStops s = true → (tyatom T s).2.ts.length + 1 ≤ s.ts.length) : NC 187 (tyappP T) d j := by
  intro w E s h
  have HT0 := Lib.hid (tyatom_any hT)
  have HS0 := Lib.hid hShr
  have hf0 := tf0
  clear hT hShr
  obtain ⟨R0, hR0⟩ : ∃ R0, Hid (tyLoop T (text 3 s).2.ts.length (.node 27 (text 3 s).1 [] [] 0 s.pl) (text 3 s).2 = R0) := ⟨_, rfl⟩
  have e0 : tyappP T s = R0 := hR0.out
  rw [e0]
  clear e0
  have L0 := Lib.hid (Lc.start h)
  have er0 := h.lt.1
  clear h
  go_enter Tryz.func187, Tryz.ntmps187
  go_wp2_with fail
  refine (begin_any _ E s d j (L0.out.alloc _).ps 27).mono ?_
  rintro x w1 ⟨rfl, hb⟩
  have ho := Out.of_below (L0.out.alloc _).ps hb
  have L1 := Lib.hid ((L0.out.alloc _).call ho)
  have Brb1 := Lib.hid (show Bk w1 w.heap.size #[.int .i64 0, .string ⟨#[]⟩, .int .i64 0, .int .i64 0, .slice none 0 0, .slice none 0 0] 25 from Bk.gr (heap_at _ _ _ (by simp [])) ho.gr (by omega))
  have zrb1 : w.heap.size < w1.heap.size := Brb1.out.lt
  clear ho hb L0
  go_wp2_with fail
  refine (name_any _ E s d j (L1.out.alloc _).ps).mono ?_
  rintro x w2 ⟨rfl, ho⟩
  have L2 := Lib.hid ((L1.out.alloc _).call ho)
  have Brb2 := Lib.hid (show Bk w2 w.heap.size #[.int .i64 0, .string ⟨#[]⟩, .int .i64 0, .int .i64 0, .slice none 0 0, .slice none 0 0] 25 from Bk.gr (Brb1.out.alloc _) ho.gr (by omega))
  have Bnb2 := Lib.hid (show Bk w2 w1.heap.size #[.int .i64 27, .string ⟨#[]⟩, .int .i64 0, .int .i64 (s.pl : Int), .slice none 0 0, .slice none 0 0] 25 from Bk.gr (heap_at _ _ _ (by simp [])) ho.gr (by omega))
  have zrb2 : w.heap.size < w2.heap.size := Brb2.out.lt
  have znb2 : w1.heap.size < w2.heap.size := Bnb2.out.lt
  clear ho L1 Brb1
  obtain ⟨gnb0, gnb1, gnb2, gnb3, gnb4, gnb5⟩ := Bnb2.out.c6
  obtain ⟨fnb0, fnb1, fnb2, fnb3, fnb4, fnb5⟩ := Bnb2.out.f6
  go_wp2
  have LS := Lib.hid (show Lc w E (text 3 s).2 d j (w2.setCell ⟨w1.heap.size, 1, none⟩ (.string ⟨(text 3 s).1.toArray⟩)) from (L2.out.set (by omega) 1 _))
  have BS := Lib.hid (show Bk (w2.setCell ⟨w1.heap.size, 1, none⟩ (.string ⟨(text 3 s).1.toArray⟩)) w.heap.size #[.int .i64 0, .string ⟨#[]⟩, .int .i64 0, .int .i64 0, .slice none 0 0, .slice none 0 0] 25 from (Brb2.out.other (b' := w1.heap.size) (by omega) 1 _))
  have NS := Lib.hid (show Bk (w2.setCell ⟨w1.heap.size, 1, none⟩ (.string ⟨(text 3 s).1.toArray⟩)) w1.heap.size #[.int .i64 27, .string ⟨(text 3 s).1.toArray⟩, .int .i64 0, .int .i64 (s.pl : Int), .slice none 0 0, .slice none 0 0] 25 from (Bnb2.out.set 1 _))
  generalize w2.setCell _ _ = wq at LS BS NS ⊢
  generalize hnb : w1.heap.size = nb at *
  have HNB := Lib.hid hnb
  clear hnb gnb0 gnb1 gnb2 gnb3 gnb4 gnb5 fnb0 fnb1 fnb2 fnb3 fnb4 fnb5
  obtain ⟨off, cap, _, hl1, ⟨_, hl2⟩, _⟩ := LS.out.ps.cells
  have hl4 : (text 3 s).2.ts.length ≤ 4000 := by omega
  clear hl1 hl2
  go_loopg [9] ((text 3 s).2.ts.length) (fun g v0 wx => ∃ (kids : List Tree) (qs : List (Value × Value)) (ao : Option Addr) (ac : Nat) (st : St), Hid (tyLoop T g (.node 27 (text 3 s).1 [] kids 0 s.pl) st = R0) ∧ st.ts.length ≤ g ∧ kids.length + g ≤ 4000 ∧ Hid (Lc w E st d j wx) ∧ Hid (Bk wx w.heap.size #[.int .i64 0, .string ⟨#[]⟩, .int .i64 0, .int .i64 0, .slice none 0 0, .slice none 0 0] 25) ∧ Hid (Bk wx nb #[.int .i64 27, .string ⟨(text 3 s).1.toArray⟩, .int .i64 0, .int .i64 (s.pl : Int), .slice none 0 0, .slice ao kids.length ac] 25) ∧ Hid (Ka wx (w.heap.size + 1) nb (.slice ao kids.length ac) kids qs))
  case atStart => exact ⟨[], [], none, 0, (text 3 s).2, hR0, Nat.le_refl _, by simpa using hl4, LS, BS, NS, Ka.nil _ _ _⟩
  case round =>
    obtain ⟨kids, qs, ao, ac, st, HT, hlen, hkg, LW, BW, NW, KW⟩ := hrel
    clear LS BS NS hR0
    have z1 := BW.out.lt
    have z2 := NW.out.lt
    have hpos := LW.out.ps.ok.pos
    by_cases h3 : st.k = 3
    · have x3 : (((hd st.ts).k : Int) == 3) = true := i_eq (b := 3) h3
      have hst : tyStops st = true := by unfold tyStops; rw [h3]; rfl
      clear h3
      obtain ⟨m, rfl⟩ : ∃ m, gk = m + 1 := ⟨gk - 1, by omega⟩
      have HS := Lib.hid ((tyLoop_step (k := m) (T := T) (n := (.node 27 (text 3 s).1 [] kids 0 s.pl)) hst).symm.trans HT.out)
      have hsh := HS0.out st hst
      clear HT hst
      go_wp2_with fail
      refine (token_any _ E st d j LW.out.ps).mono ?_
      rintro x w3 ⟨rfl, hb⟩
      have ho := Out.of_below LW.out.ps hb
      have L3 := Lib.hid (LW.out.call ho)
      have Brb3 := Lib.hid (show Bk w3 w.heap.size #[.int .i64 0, .string ⟨#[]⟩, .int .i64 0, .int .i64 0, .slice none 0 0, .slice none 0 0] 25 from Bk.gr BW.out ho.gr (by omega))
      have Bnb3 := Lib.hid (show Bk w3 nb #[.int .i64 27, .string ⟨(text 3 s).1.toArray⟩, .int .i64 0, .int .i64 (s.pl : Int), .slice none 0 0, .slice ao kids.length ac] 25 from Bk.gr NW.out ho.gr (by omega))
      have Kr3 := Lib.hid (Ka.gr KW.out ho.gr (by omega))
      have zrb3 : w.heap.size < w3.heap.size := Brb3.out.lt
      have znb3 : nb < w3.heap.size := Bnb3.out.lt
      clear ho hb LW BW NW KW
      obtain ⟨gnb0, gnb1, gnb2, gnb3, gnb4, gnb5⟩ := Bnb3.out.c6
      obtain ⟨fnb0, fnb1, fnb2, fnb3, fnb4, fnb5⟩ := Bnb3.out.f6
      go_wp2
      have hk5 : kids.length ≤ 5000 := by omega
      go_region_law (first
        | (refine step_kid w4 (.tmp 19) (.tmp 22) (w.heap.size + 1) nb kids.length w3.heap.size (.slice ao kids.length ac) kids qs ((tyatom T st).1) (.slice ao4 ((tyatom T st).1).names.length ac4, .slice bo4 ((tyatom T st).1).kids.length bc4) _ (by rfl) (by rfl) (by rfl) (by rfl) K4.out Nx4.out rfl hk5 p1 p5.out p2 p3 znb4 rfl ?_; intro gg4 cp4 w4a hka hgrow; have mg4 : w4.heap.size ≤ w4a.heap.size := Nat.le_trans (by simp) hgrow.size; have L4a := Lib.hid (Lc.grown (L4.out.alloc _) hgrow (fun k hk => by have := (K4.out.1.lt k hk).1; omega)); have K4a := Lib.hid hka; have Brb4a := Lib.hid (show Bk w4a w.heap.size #[.int .i64 0, .string ⟨#[]⟩, .int .i64 0, .int .i64 0, .slice none 0 0, .slice none 0 0] 25 from Bk.grown (Bk.alloc Brb4.out _) hgrow (fun e => by have := (K4.out.1.lt _ e).1; omega)); have zrb4a := Brb4a.out.lt; have Bnb4a := Lib.hid (show Bk w4a nb #[.int .i64 27, .string ⟨(text 3 s).1.toArray⟩, .int .i64 0, .int .i64 (s.pl : Int), .slice none 0 0, .slice ao kids.length ac] 25 from Bk.grown (Bk.alloc Bnb4.out _) hgrow (Ka.alloc K4.out (.cells #[] 0)).2.1); have znb4a := Bnb4a.out.lt; obtain ⟨e0, e1, e2, e3, e4, e5⟩ := Bnb4a.out.c6; obtain ⟨h0, h1, h2, h3, h4, h5⟩ := Bnb4a.out.f6; clear hka hgrow)
        | (go_simp; go_at_call 197; refine (HT0.out _ E st L3.out.drew.ps).mono ?_; rintro x w4 ⟨ao4, ac4, bo4, bc4, rfl, ho, hN⟩; have L4 := Lib.hid (L3.out.drew.call ho); have Brb4 := Lib.hid (show Bk w4 w.heap.size #[.int .i64 0, .string ⟨#[]⟩, .int .i64 0, .int .i64 0, .slice none 0 0, .slice none 0 0] 25 from Bk.gr Brb3.out.drew ho.gr (by omega)); have zrb4 : w.heap.size < w4.heap.size := Brb4.out.lt; have Bnb4 := Lib.hid (show Bk w4 nb #[.int .i64 27, .string ⟨(text 3 s).1.toArray⟩, .int .i64 0, .int .i64 (s.pl : Int), .slice none 0 0, .slice ao kids.length ac] 25 from Bk.gr Bnb3.out.drew ho.gr (by omega)); have znb4 : nb < w4.heap.size := Bnb4.out.lt; have K4 := Lib.hid (Ka.gr Kr3.out.drew1 ho.gr (by omega)); have Nx4 := Lib.hid (show Hn w4 w3.heap.size ((tyatom T st).1) (.slice ao4 ((tyatom T st).1).names.length ac4, .slice bo4 ((tyatom T st).1).kids.length bc4) from hN); obtain ⟨cc0, cc1, cc2, cc3, cc4, cc5⟩ := Bnb4.out.c6; obtain ⟨d0, d1, d2, d3, d4, d5⟩ := Bnb4.out.f6; have hzz : w3.heap.size ≤ w4.heap.size := ho.gr.size; have p1 : (w.heap.size + 1) ≤ w3.heap.size := (by omega); have p2 : nb < w3.heap.size := (by omega); have p3 : (w.heap.size + 1) ≤ w4.heap.size := (by omega); have p5 := Lib.hid (show ∀ k, (.slice ao kids.length ac : Value).ownBlock = some k → k < w3.heap.size from fun k hk => (Kr3.out.1.lt k hk).2); clear ho hN hzz))
      all_goals
        go_wp2
        go_roundg m
        case rel => exact ⟨kids ++ [(tyatom T st).1], _, some ⟨gg4, 0, none⟩, cp4, (tyatom T st).2, HS, by omega, by simp; omega, Lib.hid (L4a.out.set (by omega) 5 _), Lib.hid (Brb4a.out.other (b' := nb) (by omega) 5 _), by show Bk _ _ _ _; simpa using (Bnb4a.out.set 5 _), by show Ka _ _ _ _ _ _; simpa using Ka.set K4a.out 5 _⟩
        case measure => omega
    · have x3 : (((hd st.ts).k : Int) == 3) = false := i_ne (b := 3) h3
      cases hi : st.is [40] with
      | false =>
        have hst : tyStops st = false := by unfold tyStops; rw [hi]; simp [h3]
        have HE := Lib.hid ((tyLoop_no (k := gk) (T := T) (n := (.node 27 (text 3 s).1 [] kids 0 s.pl)) hst).symm.trans HT.out)
        have hi0 := Lib.hid hi
        clear HT hst hi h3
        go_wp2_with fail
        refine (token_any _ E st d j LW.out.ps).mono ?_
        rintro x w3 ⟨rfl, hb⟩
        have ho := Out.of_below LW.out.ps hb
        have L3 := Lib.hid (LW.out.call ho)
        have Brb3 := Lib.hid (show Bk w3 w.heap.size #[.int .i64 0, .string ⟨#[]⟩, .int .i64 0, .int .i64 0, .slice none 0 0, .slice none 0 0] 25 from Bk.gr BW.out ho.gr (by omega))
        have Bnb3 := Lib.hid (show Bk w3 nb #[.int .i64 27, .string ⟨(text 3 s).1.toArray⟩, .int .i64 0, .int .i64 (s.pl : Int), .slice none 0 0, .slice ao kids.length ac] 25 from Bk.gr NW.out ho.gr (by omega))
        have Kr3 := Lib.hid (Ka.gr KW.out ho.gr (by omega))
        have zrb3 : w.heap.size < w3.heap.size := Brb3.out.lt
        have znb3 : nb < w3.heap.size := Bnb3.out.lt
        clear ho hb LW BW NW KW
        go_wp2_with fail
        have hc := is_any (w3.alloc (.cells #[.string ⟨#[40]⟩] 9)) E st d j (L3.out.alloc _).ps w3.heap.size [[40]] (strs_new w3 [[40]]) (by simp) (by decide) (by decide) 1 rfl
        rw [any_one, hi0.out] at hc
        refine (hc).mono ?_
        rintro x w4 ⟨rfl, hb⟩
        have ho := Out.of_below (L3.out.alloc _).ps hb
        have L4 := Lib.hid ((L3.out.alloc _).call ho)
        have Brb4 := Lib.hid (show Bk w4 w.heap.size #[.int .i64 0, .string ⟨#[]⟩, .int .i64 0, .int .i64 0, .slice none 0 0, .slice none 0 0] 25 from Bk.gr (Brb3.out.alloc _) ho.gr (by omega))
        have Bnb4 := Lib.hid (show Bk w4 nb #[.int .i64 27, .string ⟨(text 3 s).1.toArray⟩, .int .i64 0, .int .i64 (s.pl : Int), .slice none 0 0, .slice ao kids.length ac] 25 from Bk.gr (Bnb3.out.alloc _) ho.gr (by omega))
        have Kr4 := Lib.hid (Ka.gr (Ka.alloc Kr3.out _) ho.gr (by omega))
        have zrb4 : w.heap.size < w4.heap.size := Brb4.out.lt
        have znb4 : nb < w4.heap.size := Bnb4.out.lt
        clear ho hb L3 Brb3 Bnb3 Kr3
        obtain ⟨grb0, grb1, grb2, grb3, grb4, grb5⟩ := Brb4.out.c6
        obtain ⟨frb0, frb1, frb2, frb3, frb4, frb5⟩ := Brb4.out.f6
        obtain ⟨gnb0, gnb1, gnb2, gnb3, gnb4, gnb5⟩ := Bnb4.out.c6
        obtain ⟨fnb0, fnb1, fnb2, fnb3, fnb4, fnb5⟩ := Bnb4.out.f6
        go_wp2
        refine bodyPost_ret (v := .agg #[.int .i64 27, .string ⟨(text 3 s).1.toArray⟩, .int .i64 0, .int .i64 (s.pl : Int), .slice none 0 0, .slice ao kids.length ac]) (by simp [results, Tryz.results187, go_sem, grb0, grb1, grb2, grb3, grb4, grb5]) rfl ?_
        rw [← HE.out]
        exact ⟨none, 0, ao, ac, rfl, ((((((L4.out.set (by omega) 0 _).set (by omega) 1 _).set (by omega) 2 _).set (by omega) 3 _).set (by omega) 4 _).set (by omega) 5 _).out, (Ka.has (Ka.other (b := w.heap.size) (Ka.other (b := w.heap.size) (Ka.other (b := w.heap.size) (Ka.other (b := w.heap.size) (Ka.other (b := w.heap.size) (Ka.other (b := w.heap.size) Kr4.out (by omega) 0 _) (by omega) 1 _) (by omega) 2 _) (by omega) 3 _) (by omega) 4 _) (by omega) 5 _) _ _ _ _).mono (by omega)⟩
      | true =>
        have hst : tyStops st = true := by unfold tyStops; rw [hi]; simp
        have hi0 := Lib.hid hi
        clear hi h3
        obtain ⟨m, rfl⟩ : ∃ m, gk = m + 1 := ⟨gk - 1, by omega⟩
        have HS := Lib.hid ((tyLoop_step (k := m) (T := T) (n := (.node 27 (text 3 s).1 [] kids 0 s.pl)) hst).symm.trans HT.out)
        have hsh := HS0.out st hst
        clear HT hst
        go_wp2_with fail
        refine (token_any _ E st d j LW.out.ps).mono ?_
        rintro x w3 ⟨rfl, hb⟩
        have ho := Out.of_below LW.out.ps hb
        have L3 := Lib.hid (LW.out.call ho)
        have Brb3 := Lib.hid (show Bk w3 w.heap.size #[.int .i64 0, .string ⟨#[]⟩, .int .i64 0, .int .i64 0, .slice none 0 0, .slice none 0 0] 25 from Bk.gr BW.out ho.gr (by omega))
        have Bnb3 := Lib.hid (show Bk w3 nb #[.int .i64 27, .string ⟨(text 3 s).1.toArray⟩, .int .i64 0, .int .i64 (s.pl : Int), .slice none 0 0, .slice ao kids.length ac] 25 from Bk.gr NW.out ho.gr (by omega))
        have Kr3 := Lib.hid (Ka.gr KW.out ho.gr (by omega))
        have zrb3 : w.heap.size < w3.heap.size := Brb3.out.lt
        have znb3 : nb < w3.heap.size := Bnb3.out.lt
        clear ho hb LW BW NW KW
        go_wp2_with fail
        have hc := is_any (w3.alloc (.cells #[.string ⟨#[40]⟩] 9)) E st d j (L3.out.alloc _).ps w3.heap.size [[40]] (strs_new w3 [[40]]) (by simp) (by decide) (by decide) 1 rfl
        rw [any_one, hi0.out] at hc
        refine (hc).mono ?_
        rintro x w4 ⟨rfl, hb⟩
        have ho := Out.of_below (L3.out.alloc _).ps hb
        have L4 := Lib.hid ((L3.out.alloc _).call ho)
        have Brb4 := Lib.hid (show Bk w4 w.heap.size #[.int .i64 0, .string ⟨#[]⟩, .int .i64 0, .int .i64 0, .slice none 0 0, .slice none 0 0] 25 from Bk.gr (Brb3.out.alloc _) ho.gr (by omega))
        have Bnb4 := Lib.hid (show Bk w4 nb #[.int .i64 27, .string ⟨(text 3 s).1.toArray⟩, .int .i64 0, .int .i64 (s.pl : Int), .slice none 0 0, .slice ao kids.length ac] 25 from Bk.gr (Bnb3.out.alloc _) ho.gr (by omega))
        have Kr4 := Lib.hid (Ka.gr (Ka.alloc Kr3.out _) ho.gr (by omega))
        have zrb4 : w.heap.size < w4.heap.size := Brb4.out.lt
        have znb4 : nb < w4.heap.size := Bnb4.out.lt
        clear ho hb L3 Brb3 Bnb3 Kr3
        obtain ⟨gnb0, gnb1, gnb2, gnb3, gnb4, gnb5⟩ := Bnb4.out.c6
        obtain ⟨fnb0, fnb1, fnb2, fnb3, fnb4, fnb5⟩ := Bnb4.out.f6
        go_wp2
        have hk5 : kids.length ≤ 5000 := by omega
        go_region_law (first
          | (refine step_kid w5 (.tmp 19) (.tmp 22) (w.heap.size + 1) nb kids.length w4.heap.size (.slice ao kids.length ac) kids qs ((tyatom T st).1) (.slice ao5 ((tyatom T st).1).names.length ac5, .slice bo5 ((tyatom T st).1).kids.length bc5) _ (by rfl) (by rfl) (by rfl) (by rfl) K5.out Nx5.out rfl hk5 p1 p5.out p2 p3 znb5 rfl ?_; intro gg5 cp5 w5a hka hgrow; have mg5 : w5.heap.size ≤ w5a.heap.size := Nat.le_trans (by simp) hgrow.size; have L5a := Lib.hid (Lc.grown (L5.out.alloc _) hgrow (fun k hk => by have := (K5.out.1.lt k hk).1; omega)); have K5a := Lib.hid hka; have Brb5a := Lib.hid (show Bk w5a w.heap.size #[.int .i64 0, .string ⟨#[]⟩, .int .i64 0, .int .i64 0, .slice none 0 0, .slice none 0 0] 25 from Bk.grown (Bk.alloc Brb5.out _) hgrow (fun e => by have := (K5.out.1.lt _ e).1; omega)); have zrb5a := Brb5a.out.lt; have Bnb5a := Lib.hid (show Bk w5a nb #[.int .i64 27, .string ⟨(text 3 s).1.toArray⟩, .int .i64 0, .int .i64 (s.pl : Int), .slice none 0 0, .slice ao kids.length ac] 25 from Bk.grown (Bk.alloc Bnb5.out _) hgrow (Ka.alloc K5.out (.cells #[] 0)).2.1); have znb5a := Bnb5a.out.lt; obtain ⟨e0, e1, e2, e3, e4, e5⟩ := Bnb5a.out.c6; obtain ⟨h0, h1, h2, h3, h4, h5⟩ := Bnb5a.out.f6; clear hka hgrow)
          | (go_simp; go_at_call 197; refine (HT0.out _ E st L4.out.drew.ps).mono ?_; rintro x w5 ⟨ao5, ac5, bo5, bc5, rfl, ho, hN⟩; have L5 := Lib.hid (L4.out.drew.call ho); have Brb5 := Lib.hid (show Bk w5 w.heap.size #[.int .i64 0, .string ⟨#[]⟩, .int .i64 0, .int .i64 0, .slice none 0 0, .slice none 0 0] 25 from Bk.gr Brb4.out.drew ho.gr (by omega)); have zrb5 : w.heap.size < w5.heap.size := Brb5.out.lt; have Bnb5 := Lib.hid (show Bk w5 nb #[.int .i64 27, .string ⟨(text 3 s).1.toArray⟩, .int .i64 0, .int .i64 (s.pl : Int), .slice none 0 0, .slice ao kids.length ac] 25 from Bk.gr Bnb4.out.drew ho.gr (by omega)); have znb5 : nb < w5.heap.size := Bnb5.out.lt; have K5 := Lib.hid (Ka.gr Kr4.out.drew1 ho.gr (by omega)); have Nx5 := Lib.hid (show Hn w5 w4.heap.size ((tyatom T st).1) (.slice ao5 ((tyatom T st).1).names.length ac5, .slice bo5 ((tyatom T st).1).kids.length bc5) from hN); obtain ⟨cc0, cc1, cc2, cc3, cc4, cc5⟩ := Bnb5.out.c6; obtain ⟨d0, d1, d2, d3, d4, d5⟩ := Bnb5.out.f6; have hzz : w4.heap.size ≤ w5.heap.size := ho.gr.size; have p1 : (w.heap.size + 1) ≤ w4.heap.size := (by omega); have p2 : nb < w4.heap.size := (by omega); have p3 : (w.heap.size + 1) ≤ w5.heap.size := (by omega); have p5 := Lib.hid (show ∀ k, (.slice ao kids.length ac : Value).ownBlock = some k → k < w4.heap.size from fun k hk => (Kr4.out.1.lt k hk).2); clear ho hN hzz))
        all_goals
          go_wp2
          go_roundg m
          case rel => exact ⟨kids ++ [(tyatom T st).1], _, some ⟨gg5, 0, none⟩, cp5, (tyatom T st).2, HS, by omega, by simp; omega, Lib.hid (L5a.out.set (by omega) 5 _), Lib.hid (Brb5a.out.other (b' := nb) (by omega) 5 _), by show Bk _ _ _ _; simpa using (Bnb5a.out.set 5 _), by show Ka _ _ _ _ _ _; simpa using Ka.set K5a.out 5 _⟩
          case measure => omega

/-- A list's answer: a row that the call owns. -/
def LOut (w : World) (E : En) (r : List Tree × St) (d : Nat) (j : Bool) (x : Ending) (w' : World) : Prop :=
  ∃ ao ac qs, x = .returned (.slice ao r.1.length ac) ∧ Out w E r.2 d j w' ∧ Ka w' w.heap.size E.r (.slice ao r.1.length ac) r.1 qs
theorem list_full {word : By} {most k : Nat} {R : Part} {l : List Tree} {s : St} (h : l.length = most) : listLoop word most R (k + 1) l s = ([], s.fail 16) := by
  unfold listLoop; rw [if_pos h]
theorem list_more {word : By} {most k : Nat} {R : Part} {l : List Tree} {s : St} (h : l.length ≠ most) (hi : (R s).2.is word = true) : listLoop word most R (k + 1) l s = listLoop word most R k (l ++ [(R s).1]) (accept word (R s).2).2 := by
  conv => lhs; unfold listLoop
  rw [if_neg h, if_pos hi]; unfold accept; rw [if_pos hi]
theorem list_end {word : By} {most k : Nat} {R : Part} {l : List Tree} {s : St} (h : l.length ≠ most) (hi : (R s).2.is word = false) : listLoop word most R (k + 1) l s = (l ++ [(R s).1], (accept word (R s).2).2) := by
  conv => lhs; unfold listLoop
  rw [if_neg h, if_neg (by rw [hi]; decide)]; unfold accept; rw [if_neg (by rw [hi]; decide)]

set_option maxHeartbeats 2000000 in
theorem list_tyapps {R : Part} {d : Nat} {j : Bool} (hR : NC 165 R d j) (w : World) (E : En) (s : St) (h : PS w E s d j) :
    Calls Tryz.prog 137 #[pp E, .string ⟨([44] : By).toArray⟩, .int .i64 4, .func (.func 165) #[] #[]] w (LOut w E (list [44] 4 R s) d j) := by
  have HR0 := Lib.hid hR
  obtain ⟨R0, hR0⟩ : ∃ R0, Hid (listLoop [44] 4 R 5 [] s = R0) := ⟨_, rfl⟩
  have e0 : list [44] 4 R s = R0 := hR0.out
  rw [e0]
  clear e0 hR
  have L0 := Lib.hid (Lc.start h)
  have er0 := h.lt.1
  clear h
  go_enter Tryz.func137, Tryz.ntmps137
  go_wp2_with fail
  go_loopg [9] 5 (fun g v0 wx => ∃ (l : List Tree) (qs : List (Value × Value)) (ao : Option Addr) (ac : Nat) (st : St), v0 = .slice ao l.length ac ∧ g + l.length = 5 ∧ l.length ≤ 4 ∧ Hid (listLoop [44] 4 R g l st = R0) ∧ Hid (Lc w E st d j wx) ∧ Hid (Ka wx w.heap.size E.r (.slice ao l.length ac) l qs))
  case atStart => exact ⟨[], [], none, 0, s, rfl, rfl, by simp, hR0, L0, Ka.nil _ _ _⟩
  case round =>
    obtain ⟨l, qs, ao, ac, st, rfl, hgl, hl20, HT, LW, KW⟩ := hrel
    clear L0 hR0
    have lw := LW.out.gr.size
    obtain ⟨m, rfl⟩ : ∃ m, gk = m + 1 := ⟨gk - 1, by omega⟩
    by_cases hm : l.length = 4
    · have HE := Lib.hid ((list_full (word := [44]) (k := m) (R := R) (s := st) hm).symm.trans HT.out)
      have hx : ((l.length : Int) == 4) = true := i_eq (b := 4) hm
      clear hm HT
      go_wp2_with fail
      refine (fail_any _ E st d j LW.out.ps 16).mono ?_
      rintro x w1 ⟨rfl, ho⟩
      have L1 := Lib.hid (LW.out.call ho)
      clear ho LW
      go_wp2
      go_ret
      rw [← HE.out]
      exact ⟨none, 0, [], rfl, L1.out.out, Ka.nil _ _ _⟩
    · have hx : ((l.length : Int) == 4) = false := i_ne (b := 4) hm
      have hm0 := Lib.hid hm
      have hm1 : l.length + 1 ≤ 4 := by omega
      clear hm
      go_wp2_with fail
      refine (HR0.out _ E st LW.out.ps).mono ?_
      rintro x v1 ⟨ao1, ac1, bo1, bc1, rfl, ho, hN⟩
      have L1 := Lib.hid (LW.out.call ho)
      have K1 := Lib.hid (Ka.gr KW.out ho.gr (by omega))
      have N1 := Lib.hid hN
      have mm1 : wr.heap.size ≤ v1.heap.size := ho.gr.size
      have p5 := Lib.hid (show ∀ k, (.slice ao l.length ac : Value).ownBlock = some k → k < wr.heap.size from fun k hk => (KW.out.1.lt k hk).2)
      have hl5 : l.length ≤ 5000 := by omega
      have p2 : E.r < wr.heap.size := by omega
      have p3 : w.heap.size ≤ v1.heap.size := by omega
      have p4 : E.r < v1.heap.size := by omega
      clear ho hN
      go_wp2_with (first | (at_builtin; refine wpList_kid v1 (.tmp 16) (.tmp 20) w.heap.size E.r l.length wr.heap.size (.slice ao l.length ac) l qs (R st).1 (.slice ao1 (R st).1.names.length ac1, .slice bo1 (R st).1.kids.length bc1) _ rfl rfl rfl rfl K1.out N1.out rfl hl5 lw p5.out p2 p3 p4 rfl ?_; intro gg cp v2 hka hgrow; have L2 := Lib.hid (Lc.grown (L1.out.alloc _) hgrow (fun k hk => (K1.out.1.lt k hk).1)); have K2 := Lib.hid hka; have mm2 : v1.heap.size ≤ v2.heap.size := Nat.le_trans (by simp) hgrow.size; clear hka hgrow))
      have HA := accept_any v2 E (R st).2 d j L2.out.ps [44] (by decide)
      cases hi : (R st).2.is [44] with
      | true =>
        have HE := Lib.hid ((list_more (k := m) hm0.out hi).symm.trans HT.out)
        rw [hi] at HA
        clear hi HT
        refine HA.mono ?_
        rintro x v3 ⟨rfl, ho⟩
        have L3 := Lib.hid (L2.out.call ho)
        have K3 := Lib.hid (Ka.gr K2.out ho.gr (by omega))
        clear ho HA
        go_wp2
        go_roundg m
        case rel => exact ⟨l ++ [(R st).1], _, some ⟨gg, 0, none⟩, cp, (accept [44] (R st).2).2, by simp, by simp; omega, by simp; omega, HE, L3, by show Ka _ _ _ _ _ _; simpa using K3.out⟩
        case measure => omega
      | false =>
        have HE := Lib.hid ((list_end (k := m) hm0.out hi).symm.trans HT.out)
        rw [hi] at HA
        clear hi HT
        refine HA.mono ?_
        rintro x v3 ⟨rfl, ho⟩
        have L3 := Lib.hid (L2.out.call ho)
        have K3 := Lib.hid (Ka.gr K2.out ho.gr (by omega))
        clear ho HA
        go_wp2
        go_ret
        rw [← HE.out]
        exact ⟨some ⟨gg, 0, none⟩, cp, _, by simp, L3.out.out, by simpa using K3.out⟩

set_option maxHeartbeats 2000000 in
theorem list_defs {R : Part} {d : Nat} {j : Bool} (hR : NC 138 R d j) (w : World) (E : En) (s : St) (h : PS w E s d j) :
    Calls Tryz.prog 137 #[pp E, .string ⟨([124] : By).toArray⟩, .int .i64 20, .func (.func 138) #[] #[]] w (LOut w E (list [124] 20 R s) d j) := by
  have HR0 := Lib.hid hR
  obtain ⟨R0, hR0⟩ : ∃ R0, Hid (listLoop [124] 20 R 21 [] s = R0) := ⟨_, rfl⟩
  have e0 : list [124] 20 R s = R0 := hR0.out
  rw [e0]
  clear e0 hR
  have L0 := Lib.hid (Lc.start h)
  have er0 := h.lt.1
  clear h
  go_enter Tryz.func137, Tryz.ntmps137
  go_wp2_with fail
  go_loopg [9] 21 (fun g v0 wx => ∃ (l : List Tree) (qs : List (Value × Value)) (ao : Option Addr) (ac : Nat) (st : St), v0 = .slice ao l.length ac ∧ g + l.length = 21 ∧ l.length ≤ 20 ∧ Hid (listLoop [124] 20 R g l st = R0) ∧ Hid (Lc w E st d j wx) ∧ Hid (Ka wx w.heap.size E.r (.slice ao l.length ac) l qs))
  case atStart => exact ⟨[], [], none, 0, s, rfl, rfl, by simp, hR0, L0, Ka.nil _ _ _⟩
  case round =>
    obtain ⟨l, qs, ao, ac, st, rfl, hgl, hl20, HT, LW, KW⟩ := hrel
    clear L0 hR0
    have lw := LW.out.gr.size
    obtain ⟨m, rfl⟩ : ∃ m, gk = m + 1 := ⟨gk - 1, by omega⟩
    by_cases hm : l.length = 20
    · have HE := Lib.hid ((list_full (word := [124]) (k := m) (R := R) (s := st) hm).symm.trans HT.out)
      have hx : ((l.length : Int) == 20) = true := i_eq (b := 20) hm
      clear hm HT
      go_wp2_with fail
      refine (fail_any _ E st d j LW.out.ps 16).mono ?_
      rintro x w1 ⟨rfl, ho⟩
      have L1 := Lib.hid (LW.out.call ho)
      clear ho LW
      go_wp2
      go_ret
      rw [← HE.out]
      exact ⟨none, 0, [], rfl, L1.out.out, Ka.nil _ _ _⟩
    · have hx : ((l.length : Int) == 20) = false := i_ne (b := 20) hm
      have hm0 := Lib.hid hm
      have hm1 : l.length + 1 ≤ 20 := by omega
      clear hm
      go_wp2_with fail
      refine (HR0.out _ E st LW.out.ps).mono ?_
      rintro x v1 ⟨ao1, ac1, bo1, bc1, rfl, ho, hN⟩
      have L1 := Lib.hid (LW.out.call ho)
      have K1 := Lib.hid (Ka.gr KW.out ho.gr (by omega))
      have N1 := Lib.hid hN
      have mm1 : wr.heap.size ≤ v1.heap.size := ho.gr.size
      have p5 := Lib.hid (show ∀ k, (.slice ao l.length ac : Value).ownBlock = some k → k < wr.heap.size from fun k hk => (KW.out.1.lt k hk).2)
      have hl5 : l.length ≤ 5000 := by omega
      have p2 : E.r < wr.heap.size := by omega
      have p3 : w.heap.size ≤ v1.heap.size := by omega
      have p4 : E.r < v1.heap.size := by omega
      clear ho hN
      go_wp2_with (first | (at_builtin; refine wpList_kid v1 (.tmp 16) (.tmp 20) w.heap.size E.r l.length wr.heap.size (.slice ao l.length ac) l qs (R st).1 (.slice ao1 (R st).1.names.length ac1, .slice bo1 (R st).1.kids.length bc1) _ rfl rfl rfl rfl K1.out N1.out rfl hl5 lw p5.out p2 p3 p4 rfl ?_; intro gg cp v2 hka hgrow; have L2 := Lib.hid (Lc.grown (L1.out.alloc _) hgrow (fun k hk => (K1.out.1.lt k hk).1)); have K2 := Lib.hid hka; have mm2 : v1.heap.size ≤ v2.heap.size := Nat.le_trans (by simp) hgrow.size; clear hka hgrow))
      have HA := accept_any v2 E (R st).2 d j L2.out.ps [124] (by decide)
      cases hi : (R st).2.is [124] with
      | true =>
        have HE := Lib.hid ((list_more (k := m) hm0.out hi).symm.trans HT.out)
        rw [hi] at HA
        clear hi HT
        refine HA.mono ?_
        rintro x v3 ⟨rfl, ho⟩
        have L3 := Lib.hid (L2.out.call ho)
        have K3 := Lib.hid (Ka.gr K2.out ho.gr (by omega))
        clear ho HA
        go_wp2
        go_roundg m
        case rel => exact ⟨l ++ [(R st).1], _, some ⟨gg, 0, none⟩, cp, (accept [124] (R st).2).2, by simp, by simp; omega, by simp; omega, HE, L3, by show Ka _ _ _ _ _ _; simpa using K3.out⟩
        case measure => omega
      | false =>
        have HE := Lib.hid ((list_end (k := m) hm0.out hi).symm.trans HT.out)
        rw [hi] at HA
        clear hi HT
        refine HA.mono ?_
        rintro x v3 ⟨rfl, ho⟩
        have L3 := Lib.hid (L2.out.call ho)
        have K3 := Lib.hid (Ka.gr K2.out ho.gr (by omega))
        clear ho HA
        go_wp2
        go_ret
        rw [← HE.out]
        exact ⟨some ⟨gg, 0, none⟩, cp, _, by simp, L3.out.out, by simpa using K3.out⟩

set_option maxHeartbeats 1000000 in
theorem def_of {R : Part} {d : Nat} {j : Bool} (hR : NC 165 R d j) : ∀ w E s, PS w E s d j → (text 4 s).2.is wOf = true → Calls Tryz.prog 138 #[pp E] w (NOut w E (defP R s) d j) := by
  intro w E s h his
  have HR0 := Lib.hid hR
  have HA := fun W hW => accept_any W E (text 4 s).2 d j hW wOf (by decide)
  rw [his] at HA
  have ha : (accept wOf (text 4 s).2).2 = (text 4 s).2.take := by unfold accept; rw [his]; rfl
  rw [ha] at HA
  have hr : defP R s = (.node 26 (text 4 s).1 [] (list [44] 4 R (text 4 s).2.take).1 0 s.pl, (list [44] 4 R (text 4 s).2.take).2) := by unfold defP; rw [if_pos his]
  rw [hr]
  clear his ha hr hR
  have L0 := Lib.hid (Lc.start h)
  have er0 := h.lt.1
  clear h
  go_enter Tryz.func138, Tryz.ntmps138
  go_wp2_with fail
  refine (begin_any _ E s d j (L0.out.alloc _).ps 26).mono ?_
  rintro x w1 ⟨rfl, hb⟩
  have ho := Out.of_below (L0.out.alloc _).ps hb
  have L1 := Lib.hid ((L0.out.alloc _).call ho)
  have Brb1 := Lib.hid (show Bk w1 w.heap.size #[.int .i64 0, .string ⟨#[]⟩, .int .i64 0, .int .i64 0, .slice none 0 0, .slice none 0 0] 25 from Bk.gr (heap_at _ _ _ (by simp [])) ho.gr (by omega))
  have zrb1 : w.heap.size < w1.heap.size := Brb1.out.lt
  clear ho hb L0
  go_wp2_with fail
  refine (text_any _ E s d j (L1.out.alloc _).ps 4 (by decide)).mono ?_
  rintro x w2 ⟨rfl, ho⟩
  have L2 := Lib.hid ((L1.out.alloc _).call ho)
  have Brb2 := Lib.hid (show Bk w2 w.heap.size #[.int .i64 0, .string ⟨#[]⟩, .int .i64 0, .int .i64 0, .slice none 0 0, .slice none 0 0] 25 from Bk.gr (Brb1.out.alloc _) ho.gr (by omega))
  have Bnb2 := Lib.hid (show Bk w2 w1.heap.size #[.int .i64 26, .string ⟨#[]⟩, .int .i64 0, .int .i64 (s.pl : Int), .slice none 0 0, .slice none 0 0] 25 from Bk.gr (heap_at _ _ _ (by simp [])) ho.gr (by omega))
  have zrb2 : w.heap.size < w2.heap.size := Brb2.out.lt
  have znb2 : w1.heap.size < w2.heap.size := Bnb2.out.lt
  clear ho L1 Brb1
  obtain ⟨gnb0, gnb1, gnb2, gnb3, gnb4, gnb5⟩ := Bnb2.out.c6
  obtain ⟨fnb0, fnb1, fnb2, fnb3, fnb4, fnb5⟩ := Bnb2.out.f6
  go_wp2_with fail
  refine (HA _ (L2.out.set (by omega) 1 _).ps).mono ?_
  rintro x w3 ⟨rfl, ho⟩
  have L3 := Lib.hid ((L2.out.set (by omega) 1 _).call ho)
  have Brb3 := Lib.hid (show Bk w3 w.heap.size #[.int .i64 0, .string ⟨#[]⟩, .int .i64 0, .int .i64 0, .slice none 0 0, .slice none 0 0] 25 from Bk.gr (Brb2.out.other (b' := w1.heap.size) (by omega) 1 _) ho.gr (by omega))
  have Bnb3 := Lib.hid (show Bk w3 w1.heap.size #[.int .i64 26, .string ⟨(text 4 s).1.toArray⟩, .int .i64 0, .int .i64 (s.pl : Int), .slice none 0 0, .slice none 0 0] 25 from Bk.gr (Bnb2.out.set 1 _) ho.gr (by omega))
  have zrb3 : w.heap.size < w3.heap.size := Brb3.out.lt
  have znb3 : w1.heap.size < w3.heap.size := Bnb3.out.lt
  clear ho L2 Brb2 Bnb2 gnb0 gnb1 gnb2 gnb3 gnb4 gnb5 fnb0 fnb1 fnb2 fnb3 fnb4 fnb5
  obtain ⟨gnb0, gnb1, gnb2, gnb3, gnb4, gnb5⟩ := Bnb3.out.c6
  obtain ⟨fnb0, fnb1, fnb2, fnb3, fnb4, fnb5⟩ := Bnb3.out.f6
  obtain ⟨grb0, grb1, grb2, grb3, grb4, grb5⟩ := Brb3.out.c6
  obtain ⟨frb0, frb1, frb2, frb3, frb4, frb5⟩ := Brb3.out.f6
  go_wp2_with fail
  refine (list_tyapps HR0.out _ E (text 4 s).2.take L3.out.ps).mono ?_
  rintro x w4 ⟨lo, lc, lq, rfl, ho, hka⟩
  have L4 := Lib.hid (L3.out.call ho)
  have Brb4 := Lib.hid (show Bk w4 w.heap.size #[.int .i64 0, .string ⟨#[]⟩, .int .i64 0, .int .i64 0, .slice none 0 0, .slice none 0 0] 25 from Bk.gr Brb3.out ho.gr (by omega))
  have zrb4 := Brb4.out.lt
  have Bnb4 := Lib.hid (show Bk w4 w1.heap.size #[.int .i64 26, .string ⟨(text 4 s).1.toArray⟩, .int .i64 0, .int .i64 (s.pl : Int), .slice none 0 0, .slice none 0 0] 25 from Bk.gr Bnb3.out ho.gr (by omega))
  have znb4 := Bnb4.out.lt
  have K4 := Lib.hid hka
  clear ho hka gnb0 gnb1 gnb2 gnb3 gnb4 gnb5 fnb0 fnb1 fnb2 fnb3 fnb4 fnb5 grb0 grb1 grb2 grb3 grb4 grb5 frb0 frb1 frb2 frb3 frb4 frb5
  obtain ⟨grb0, grb1, grb2, grb3, grb4, grb5⟩ := Brb4.out.c6
  obtain ⟨frb0, frb1, frb2, frb3, frb4, frb5⟩ := Brb4.out.f6
  obtain ⟨gnb0, gnb1, gnb2, gnb3, gnb4, gnb5⟩ := Bnb4.out.c6
  obtain ⟨fnb0, fnb1, fnb2, fnb3, fnb4, fnb5⟩ := Bnb4.out.f6
  go_wp2
  refine bodyPost_ret (v := .agg #[.int .i64 26, .string ⟨(text 4 s).1.toArray⟩, .int .i64 0, .int .i64 (s.pl : Int), .slice none 0 0, .slice lo (list [44] 4 R (text 4 s).2.take).1.length lc]) (by simp [results, Tryz.results138, go_sem, grb0, grb1, grb2, grb3, grb4, grb5]) rfl ?_
  exact ⟨_, _, _, _, rfl, (((((((L4.out.set (by omega) 5 _).set (by omega) 0 _).set (by omega) 1 _).set (by omega) 2 _).set (by omega) 3 _).set (by omega) 4 _).set (by omega) 5 _).out, (Hn.put6 (Hn.set (b := w1.heap.size) (Ka.has K4.out 26 (text 4 s).1 0 s.pl) (by omega) 5 _) (by omega) _ _ _ _ _ _).mono (by omega)⟩

set_option maxHeartbeats 1000000 in
theorem def_alone {R : Part} {d : Nat} {j : Bool} (hR : NC 165 R d j) : ∀ w E s, PS w E s d j → (text 4 s).2.is wOf = false → Calls Tryz.prog 138 #[pp E] w (NOut w E (defP R s) d j) := by
  intro w E s h his
  have HR0 := Lib.hid hR
  have HA := fun W hW => accept_any W E (text 4 s).2 d j hW wOf (by decide)
  rw [his] at HA
  have ha : (accept wOf (text 4 s).2).2 = (text 4 s).2 := by unfold accept; rw [his]; rfl
  rw [ha] at HA
  have hr : defP R s = (.node 26 (text 4 s).1 [] [] 0 s.pl, (text 4 s).2) := by unfold defP; rw [if_neg (by rw [his]; decide)]
  rw [hr]
  clear his ha hr hR
  have L0 := Lib.hid (Lc.start h)
  have er0 := h.lt.1
  clear h
  go_enter Tryz.func138, Tryz.ntmps138
  go_wp2_with fail
  refine (begin_any _ E s d j (L0.out.alloc _).ps 26).mono ?_
  rintro x w1 ⟨rfl, hb⟩
  have ho := Out.of_below (L0.out.alloc _).ps hb
  have L1 := Lib.hid ((L0.out.alloc _).call ho)
  have Brb1 := Lib.hid (show Bk w1 w.heap.size #[.int .i64 0, .string ⟨#[]⟩, .int .i64 0, .int .i64 0, .slice none 0 0, .slice none 0 0] 25 from Bk.gr (heap_at _ _ _ (by simp [])) ho.gr (by omega))
  have zrb1 : w.heap.size < w1.heap.size := Brb1.out.lt
  clear ho hb L0
  go_wp2_with fail
  refine (text_any _ E s d j (L1.out.alloc _).ps 4 (by decide)).mono ?_
  rintro x w2 ⟨rfl, ho⟩
  have L2 := Lib.hid ((L1.out.alloc _).call ho)
  have Brb2 := Lib.hid (show Bk w2 w.heap.size #[.int .i64 0, .string ⟨#[]⟩, .int .i64 0, .int .i64 0, .slice none 0 0, .slice none 0 0] 25 from Bk.gr (Brb1.out.alloc _) ho.gr (by omega))
  have Bnb2 := Lib.hid (show Bk w2 w1.heap.size #[.int .i64 26, .string ⟨#[]⟩, .int .i64 0, .int .i64 (s.pl : Int), .slice none 0 0, .slice none 0 0] 25 from Bk.gr (heap_at _ _ _ (by simp [])) ho.gr (by omega))
  have zrb2 : w.heap.size < w2.heap.size := Brb2.out.lt
  have znb2 : w1.heap.size < w2.heap.size := Bnb2.out.lt
  clear ho L1 Brb1
  obtain ⟨gnb0, gnb1, gnb2, gnb3, gnb4, gnb5⟩ := Bnb2.out.c6
  obtain ⟨fnb0, fnb1, fnb2, fnb3, fnb4, fnb5⟩ := Bnb2.out.f6
  go_wp2_with fail
  refine (HA _ (L2.out.set (by omega) 1 _).ps).mono ?_
  rintro x w3 ⟨rfl, ho⟩
  have L3 := Lib.hid ((L2.out.set (by omega) 1 _).call ho)
  have Brb3 := Lib.hid (show Bk w3 w.heap.size #[.int .i64 0, .string ⟨#[]⟩, .int .i64 0, .int .i64 0, .slice none 0 0, .slice none 0 0] 25 from Bk.gr (Brb2.out.other (b' := w1.heap.size) (by omega) 1 _) ho.gr (by omega))
  have Bnb3 := Lib.hid (show Bk w3 w1.heap.size #[.int .i64 26, .string ⟨(text 4 s).1.toArray⟩, .int .i64 0, .int .i64 (s.pl : Int), .slice none 0 0, .slice none 0 0] 25 from Bk.gr (Bnb2.out.set 1 _) ho.gr (by omega))
  have zrb3 : w.heap.size < w3.heap.size := Brb3.out.lt
  have znb3 : w1.heap.size < w3.heap.size := Bnb3.out.lt
  clear ho L2 Brb2 Bnb2 gnb0 gnb1 gnb2 gnb3 gnb4 gnb5 fnb0 fnb1 fnb2 fnb3 fnb4 fnb5
  obtain ⟨gnb0, gnb1, gnb2, gnb3, gnb4, gnb5⟩ := Bnb3.out.c6
  obtain ⟨fnb0, fnb1, fnb2, fnb3, fnb4, fnb5⟩ := Bnb3.out.f6
  obtain ⟨grb0, grb1, grb2, grb3, grb4, grb5⟩ := Brb3.out.c6
  obtain ⟨frb0, frb1, frb2, frb3, frb4, frb5⟩ := Brb3.out.f6
  go_wp2
  refine bodyPost_ret (v := .agg #[.int .i64 26, .string ⟨(text 4 s).1.toArray⟩, .int .i64 0, .int .i64 (s.pl : Int), .slice none 0 0, .slice none 0 0]) (by simp [results, Tryz.results138, go_sem, grb0, grb1, grb2, grb3, grb4, grb5]) rfl ?_
  exact ⟨_, _, _, _, rfl, ((((((L3.out.set (by omega) 0 _).set (by omega) 1 _).set (by omega) 2 _).set (by omega) 3 _).set (by omega) 4 _).set (by omega) 5 _).out, hasN_leaf _ _ _ _ _ _⟩

theorem def_any {R : Part} {d : Nat} {j : Bool} (hR : NC 165 R d j) : NC 138 (defP R) d j := by
  intro w E s h
  cases his : (text 4 s).2.is wOf with
  | true => exact def_of hR w E s h his
  | false => exact def_alone hR w E s h his
end Go.Proofs.YtlcapkgbbgpdmaaGreatDoor.PZ
