/- the parser, walked: declarations, the whole; the document's examples: several texts in one. -/
import Derived.Test.YtlcapkgbbgpdmaaGreatDoorZE
import Derived.Test.YtlcapkgbbgpdmaaGreatDoorMS
import Derived.Test.YtlcapkgbbgpdmaaGreatDoorPD
import Derived.Test.YtlcapkgbbgpdmaaGreatDoorZA
import Derived.Test.YtlcapkgbbgpdmaaGreatDoorZB

/- Declarations. -/
namespace Go.Proofs.YtlcapkgbbgpdmaaGreatDoor.QA
open Go.RowKit Go.Proofs.YtlcapkgbbgpdmaaGreatDoor.P Go.Proofs.YtlcapkgbbgpdmaaGreatDoor.A Go.Proofs.YtlcapkgbbgpdmaaGreatDoor.TK Go.Proofs.YtlcapkgbbgpdmaaGreatDoor.TO Go.Proofs.YtlcapkgbbgpdmaaGreatDoor.GR Go.Proofs.YtlcapkgbbgpdmaaGreatDoor.MP Go.Proofs.YtlcapkgbbgpdmaaGreatDoor.YR Go.Proofs.YtlcapkgbbgpdmaaGreatDoor.PN Go.Proofs.YtlcapkgbbgpdmaaGreatDoor.PS Go.Proofs.YtlcapkgbbgpdmaaGreatDoor.PA Go.Proofs.YtlcapkgbbgpdmaaGreatDoor.PB Go.Proofs.YtlcapkgbbgpdmaaGreatDoor.PC Go.Proofs.YtlcapkgbbgpdmaaGreatDoor.PD Go.Proofs.YtlcapkgbbgpdmaaGreatDoor.PE Go.Proofs.YtlcapkgbbgpdmaaGreatDoor.PF Go.Proofs.YtlcapkgbbgpdmaaGreatDoor.PG Go.Proofs.YtlcapkgbbgpdmaaGreatDoor.PH Go.Proofs.YtlcapkgbbgpdmaaGreatDoor.PI Go.Proofs.YtlcapkgbbgpdmaaGreatDoor.PJ Go.Proofs.YtlcapkgbbgpdmaaGreatDoor.PK Go.Proofs.YtlcapkgbbgpdmaaGreatDoor.PL Go.Proofs.YtlcapkgbbgpdmaaGreatDoor.PM Go.Proofs.YtlcapkgbbgpdmaaGreatDoor.PO Go.Proofs.YtlcapkgbbgpdmaaGreatDoor.PP Go.Proofs.YtlcapkgbbgpdmaaGreatDoor.PR Go.Proofs.YtlcapkgbbgpdmaaGreatDoor.PT Go.Proofs.YtlcapkgbbgpdmaaGreatDoor.PU Go.Proofs.YtlcapkgbbgpdmaaGreatDoor.PV Go.Proofs.YtlcapkgbbgpdmaaGreatDoor.PW Go.Proofs.YtlcapkgbbgpdmaaGreatDoor.PX Go.Proofs.YtlcapkgbbgpdmaaGreatDoor.PY Go.Proofs.YtlcapkgbbgpdmaaGreatDoor.PZ
set_option linter.unusedVariables false
set_option maxRecDepth 100000
attribute [local go_sem ↓] Go.wp_at_zero Go.wp_at_succ

def typeOut (s : St) (n : By) (r : Option (List By) × St) : Tree × St :=
  match r with
  | (none, r) => (zero, r)
  | (some l, r) => (.node 25 n l (list [124] 20 (defP (levT 40)) (expect [61] r)).1 0 s.pl, (list [124] 20 (defP (levT 40)) (expect [61] r)).2)
theorem typeDecl_eq (s : St) : typeDeclP s = typeOut s (text 3 (expect wType s)).1 (namesLoop 5 [] (text 3 (expect wType s)).2) := rfl
theorem names_no {k : Nat} {l : List By} {s : St} (h : s.k ≠ 3) : namesLoop k l s = (some l, s) := by
  cases k with
  | zero => rfl
  | succ k => unfold namesLoop; rw [if_neg h]
theorem names_full {k : Nat} {l : List By} {s : St} (h : s.k = 3) (hl : l.length = 4) : namesLoop (k + 1) l s = (none, s.fail 16) := by
  unfold namesLoop; rw [if_pos h, if_pos hl]
theorem names_more {k : Nat} {l : List By} {s : St} (h : s.k = 3) (hl : l.length ≠ 4) : namesLoop (k + 1) l s = namesLoop k (l ++ [(text 3 s).1]) (text 3 s).2 := by
  conv => lhs; unfold namesLoop
  rw [if_pos h, if_neg hl]
theorem Na.rw2 {w : World} {base nb : Nat} {v : Value} {ns : List By} (h : Na w base nb v ns) : Rw w (fun b => base ≤ b ∧ b ≠ nb) v ns.length (ns.map sv) := by
  have hne := h.2
  obtain ⟨ao, cap, hv, hc, hh⟩ := Na.rw h
  refine ⟨ao, cap, hv, hc, ?_⟩
  rcases hh with hh | ⟨b, off, ha, hS, hlt, hblk, hcell⟩
  · exact .inl hh
  · refine .inr ⟨b, off, ha, ⟨hS, fun e => hne ?_⟩, hlt, hblk, hcell⟩
    rw [hv, ha, e]; rfl
/-- A node that has both rows. -/
theorem has_both {w : World} {base base2 nb nb2 : Nat} {v v' : Value} {ns : List By} {kids : List Tree} {qs : List (Value × Value)} (hn : Na w base nb v' ns) (h : Ka w base2 nb2 v kids qs) (hb : base ≤ base2) (hnb : nb < base2) (k : Nat) (s : By) (n p : Nat) : Ha w base nb (.node k s ns kids n p) (v', v) :=
  ⟨Na.rw2 hn, qs, (Rw.own h.1).keep (Nat.le_refl _) (fun b hb' _ => ⟨⟨Nat.le_trans hb hb', fun e => by subst e; exact absurd hb' (by omega)⟩, rfl⟩), HasNs.keep (Nat.le_refl _) (fun b hb' _ => ⟨⟨Nat.le_trans hb hb'.1, fun e => by subst e; exact absurd hb'.1 (by omega)⟩, rfl⟩) _ _ h.2.2⟩

set_option maxHeartbeats 4000000 in
theorem typeDecl_any {d : Nat} {j : Bool} (hD : NC 138 (defP (levT 40)) d j) : NC 109 typeDeclP d j := by
  intro w E s h
  have HD0 := Lib.hid hD
  have hf0 := tf0
  clear hD
  obtain ⟨R0, hR0⟩ : ∃ R0, Hid (namesLoop 5 [] (text 3 (expect wType s)).2 = R0) := ⟨_, rfl⟩
  have e0 := typeDecl_eq s
  rw [hR0.out] at e0
  rw [e0]
  clear e0
  have L0 := Lib.hid (Lc.start h)
  have er0 := h.lt.1
  clear h
  go_enter Tryz.func109, Tryz.ntmps109
  go_wp2_with fail
  refine (begin_any _ E s d j (L0.out.alloc _).ps 25).mono ?_
  rintro x w1 ⟨rfl, hb⟩
  have ho := Out.of_below (L0.out.alloc _).ps hb
  have L1 := Lib.hid ((L0.out.alloc _).call ho)
  have Brb1 := Lib.hid (show Bk w1 w.heap.size #[.int .i64 0, .string ⟨#[]⟩, .int .i64 0, .int .i64 0, .slice none 0 0, .slice none 0 0] 25 from Bk.gr (heap_at _ _ _ (by simp [])) ho.gr (by omega))
  have zrb1 : w.heap.size < w1.heap.size := Brb1.out.lt
  clear ho hb L0
  go_wp2_with fail
  refine (expect_any _ E s d j (L1.out.alloc _).ps wType (by decide)).mono ?_
  rintro x w2 ⟨rfl, ho⟩
  have L2 := Lib.hid ((L1.out.alloc _).call ho)
  have Brb2 := Lib.hid (show Bk w2 w.heap.size #[.int .i64 0, .string ⟨#[]⟩, .int .i64 0, .int .i64 0, .slice none 0 0, .slice none 0 0] 25 from Bk.gr (Brb1.out.alloc _) ho.gr (by omega))
  have Bnb2 := Lib.hid (show Bk w2 w1.heap.size #[.int .i64 25, .string ⟨#[]⟩, .int .i64 0, .int .i64 (s.pl : Int), .slice none 0 0, .slice none 0 0] 25 from Bk.gr (heap_at _ _ _ (by simp [])) ho.gr (by omega))
  have zrb2 : w.heap.size < w2.heap.size := Brb2.out.lt
  have znb2 : w1.heap.size < w2.heap.size := Bnb2.out.lt
  clear ho L1 Brb1
  go_wp2_with fail
  refine (name_any _ E (expect wType s) d j L2.out.ps).mono ?_
  rintro x w3 ⟨rfl, ho⟩
  have L3 := Lib.hid (L2.out.call ho)
  have Brb3 := Lib.hid (show Bk w3 w.heap.size #[.int .i64 0, .string ⟨#[]⟩, .int .i64 0, .int .i64 0, .slice none 0 0, .slice none 0 0] 25 from Bk.gr Brb2.out ho.gr (by omega))
  have Bnb3 := Lib.hid (show Bk w3 w1.heap.size #[.int .i64 25, .string ⟨#[]⟩, .int .i64 0, .int .i64 (s.pl : Int), .slice none 0 0, .slice none 0 0] 25 from Bk.gr Bnb2.out ho.gr (by omega))
  have zrb3 : w.heap.size < w3.heap.size := Brb3.out.lt
  have znb3 : w1.heap.size < w3.heap.size := Bnb3.out.lt
  clear ho L2 Brb2 Bnb2
  obtain ⟨gnb0, gnb1, gnb2, gnb3, gnb4, gnb5⟩ := Bnb3.out.c6
  obtain ⟨fnb0, fnb1, fnb2, fnb3, fnb4, fnb5⟩ := Bnb3.out.f6
  go_wp2
  have LS := Lib.hid (show Lc w E (text 3 (expect wType s)).2 d j (w3.setCell ⟨w1.heap.size, 1, none⟩ (.string ⟨(text 3 (expect wType s)).1.toArray⟩)) from (L3.out.set (by omega) 1 _))
  have BS := Lib.hid (show Bk (w3.setCell ⟨w1.heap.size, 1, none⟩ (.string ⟨(text 3 (expect wType s)).1.toArray⟩)) w.heap.size #[.int .i64 0, .string ⟨#[]⟩, .int .i64 0, .int .i64 0, .slice none 0 0, .slice none 0 0] 25 from (Brb3.out.other (b' := w1.heap.size) (by omega) 1 _))
  have NS := Lib.hid (show Bk (w3.setCell ⟨w1.heap.size, 1, none⟩ (.string ⟨(text 3 (expect wType s)).1.toArray⟩)) w1.heap.size #[.int .i64 25, .string ⟨(text 3 (expect wType s)).1.toArray⟩, .int .i64 0, .int .i64 (s.pl : Int), .slice none 0 0, .slice none 0 0] 25 from (Bnb3.out.set 1 _))
  generalize w3.setCell _ _ = wq at LS BS NS ⊢
  generalize hnb : w1.heap.size = nb at *
  have HNB := Lib.hid hnb
  clear hnb gnb0 gnb1 gnb2 gnb3 gnb4 gnb5 fnb0 fnb1 fnb2 fnb3 fnb4 fnb5
  go_loopg [11] 5 (fun g v0 wx => ∃ (ns : List By) (ao : Option Addr) (ac : Nat) (st : St), g + ns.length = 5 ∧ ns.length ≤ 4 ∧ Hid (namesLoop g ns st = R0) ∧ Hid (Lc w E st d j wx) ∧ Hid (Bk wx w.heap.size #[.int .i64 0, .string ⟨#[]⟩, .int .i64 0, .int .i64 0, .slice none 0 0, .slice none 0 0] 25) ∧ Hid (Bk wx nb #[.int .i64 25, .string ⟨(text 3 (expect wType s)).1.toArray⟩, .int .i64 0, .int .i64 (s.pl : Int), .slice ao ns.length ac, .slice none 0 0] 25) ∧ Hid (Na wx (w.heap.size + 1) nb (.slice ao ns.length ac) ns))
  case atStart => exact ⟨[], none, 0, (text 3 (expect wType s)).2, rfl, by simp, hR0, LS, BS, NS, Na.nil _ _ _⟩
  case round =>
    obtain ⟨ns, ao, ac, st, hgl, hl4, HT, LW, BW, NW, KW⟩ := hrel
    clear LS BS NS hR0
    have z1 := BW.out.lt
    have z2 := NW.out.lt
    have hn5 : ns.length ≤ 5000 := by omega
    by_cases h3 : st.k = 3
    · have x3 : (((hd st.ts).k : Int) == 3) = true := i_eq (b := 3) h3
      obtain ⟨m, rfl⟩ : ∃ m, gk = m + 1 := ⟨gk - 1, by omega⟩
      by_cases hm : ns.length = 4
      · have HE := Lib.hid ((names_full (k := m) h3 hm).symm.trans HT.out)
        have hx : ((ns.length : Int) == 4) = true := i_eq (b := 4) hm
        clear hm HT h3
        go_wp2_with fail
        refine (token_any _ E st d j LW.out.ps).mono ?_
        rintro x w4 ⟨rfl, hb⟩
        have ho := Out.of_below LW.out.ps hb
        have L4 := Lib.hid (LW.out.call ho)
        have Brb4 := Lib.hid (show Bk w4 w.heap.size #[.int .i64 0, .string ⟨#[]⟩, .int .i64 0, .int .i64 0, .slice none 0 0, .slice none 0 0] 25 from Bk.gr BW.out ho.gr (by omega))
        have Bnb4 := Lib.hid (show Bk w4 nb #[.int .i64 25, .string ⟨(text 3 (expect wType s)).1.toArray⟩, .int .i64 0, .int .i64 (s.pl : Int), .slice ao ns.length ac, .slice none 0 0] 25 from Bk.gr NW.out ho.gr (by omega))
        have zrb4 : w.heap.size < w4.heap.size := Brb4.out.lt
        have znb4 : nb < w4.heap.size := Bnb4.out.lt
        have KN4 := Lib.hid (Na.gr KW.out ho.gr (by omega))
        clear ho hb LW BW NW KW
        obtain ⟨gnb0, gnb1, gnb2, gnb3, gnb4, gnb5⟩ := Bnb4.out.c6
        obtain ⟨fnb0, fnb1, fnb2, fnb3, fnb4, fnb5⟩ := Bnb4.out.f6
        go_wp2_with fail
        refine (fail_any _ E st d j L4.out.ps 16).mono ?_
        rintro x w5 ⟨rfl, ho⟩
        have L5 := Lib.hid (L4.out.call ho)
        have Brb5 := Lib.hid (show Bk w5 w.heap.size #[.int .i64 0, .string ⟨#[]⟩, .int .i64 0, .int .i64 0, .slice none 0 0, .slice none 0 0] 25 from Bk.gr Brb4.out ho.gr (by omega))
        have Bnb5 := Lib.hid (show Bk w5 nb #[.int .i64 25, .string ⟨(text 3 (expect wType s)).1.toArray⟩, .int .i64 0, .int .i64 (s.pl : Int), .slice ao ns.length ac, .slice none 0 0] 25 from Bk.gr Bnb4.out ho.gr (by omega))
        have zrb5 : w.heap.size < w5.heap.size := Brb5.out.lt
        have znb5 : nb < w5.heap.size := Bnb5.out.lt
        have KN5 := Lib.hid (Na.gr KN4.out ho.gr (by omega))
        clear ho L4 Brb4 Bnb4 gnb0 gnb1 gnb2 gnb3 gnb4 gnb5 fnb0 fnb1 fnb2 fnb3 fnb4 fnb5 KN4
        obtain ⟨grb0, grb1, grb2, grb3, grb4, grb5⟩ := Brb5.out.c6
        obtain ⟨frb0, frb1, frb2, frb3, frb4, frb5⟩ := Brb5.out.f6
        obtain ⟨gnb0, gnb1, gnb2, gnb3, gnb4, gnb5⟩ := Bnb5.out.c6
        obtain ⟨fnb0, fnb1, fnb2, fnb3, fnb4, fnb5⟩ := Bnb5.out.f6
        go_wp2
        refine bodyPost_ret (v := .agg #[.int .i64 0, .string ⟨#[]⟩, .int .i64 0, .int .i64 0, .slice none 0 0, .slice none 0 0]) (by simp [results, Tryz.results109, go_sem, grb0, grb1, grb2, grb3, grb4, grb5]) rfl ?_
        rw [← HE.out]
        exact ⟨none, 0, none, 0, rfl, ((((((L5.out.set (by omega) 0 _).set (by omega) 1 _).set (by omega) 2 _).set (by omega) 3 _).set (by omega) 4 _).set (by omega) 5 _).out, hasN_leaf _ _ _ _ _ _⟩
      · have HS := Lib.hid ((names_more (k := m) h3 hm).symm.trans HT.out)
        have hx : ((ns.length : Int) == 4) = false := i_ne (b := 4) hm
        have hm1 : ns.length + 1 ≤ 4 := by omega
        clear hm HT h3
        go_wp2_with fail
        refine (token_any _ E st d j LW.out.ps).mono ?_
        rintro x w4 ⟨rfl, hb⟩
        have ho := Out.of_below LW.out.ps hb
        have L4 := Lib.hid (LW.out.call ho)
        have Brb4 := Lib.hid (show Bk w4 w.heap.size #[.int .i64 0, .string ⟨#[]⟩, .int .i64 0, .int .i64 0, .slice none 0 0, .slice none 0 0] 25 from Bk.gr BW.out ho.gr (by omega))
        have Bnb4 := Lib.hid (show Bk w4 nb #[.int .i64 25, .string ⟨(text 3 (expect wType s)).1.toArray⟩, .int .i64 0, .int .i64 (s.pl : Int), .slice ao ns.length ac, .slice none 0 0] 25 from Bk.gr NW.out ho.gr (by omega))
        have zrb4 : w.heap.size < w4.heap.size := Brb4.out.lt
        have znb4 : nb < w4.heap.size := Bnb4.out.lt
        have KN4 := Lib.hid (Na.gr KW.out ho.gr (by omega))
        clear ho hb LW BW NW KW
        obtain ⟨gnb0, gnb1, gnb2, gnb3, gnb4, gnb5⟩ := Bnb4.out.c6
        obtain ⟨fnb0, fnb1, fnb2, fnb3, fnb4, fnb5⟩ := Bnb4.out.f6
        go_wp2
        go_region_law (first
          | (refine step_name w5 (.tmp 22) (.tmp 25) (w.heap.size + 1) nb ns.length (.slice ao ns.length ac) ns (text 3 st).1 (by rfl) (by rfl) (by rfl) (by rfl) K5.out rfl hn5 p1 znb5 ?_; intro gg cp w5a hka hgrow; have mg : w5.heap.size ≤ w5a.heap.size := Nat.le_trans (by simp) hgrow.size; have L5a := Lib.hid (Lc.grown (L5.out.alloc _) hgrow (fun k hk => by have := (K5.out.1.lt k hk).1; omega)); have K5a := Lib.hid hka; have Brb5a := Lib.hid (show Bk w5a w.heap.size #[.int .i64 0, .string ⟨#[]⟩, .int .i64 0, .int .i64 0, .slice none 0 0, .slice none 0 0] 25 from Bk.grown (Bk.alloc Brb5.out _) hgrow (fun e => by have := (K5.out.1.lt _ e).1; omega)); have zrb5a := Brb5a.out.lt; have Bnb5a := Lib.hid (show Bk w5a nb #[.int .i64 25, .string ⟨(text 3 (expect wType s)).1.toArray⟩, .int .i64 0, .int .i64 (s.pl : Int), .slice ao ns.length ac, .slice none 0 0] 25 from Bk.grown (Bk.alloc Bnb5.out _) hgrow K5.out.2); have znb5a := Bnb5a.out.lt; obtain ⟨e0, e1, e2, e3, e4, e5⟩ := Bnb5a.out.c6; obtain ⟨h0, h1, h2, h3, h4, h5⟩ := Bnb5a.out.f6; clear hka hgrow)
          | (go_simp; go_at_call 98; refine (name_any _ E st d j L4.out.drew.ps).mono ?_; rintro x w5 ⟨rfl, ho⟩; have L5 := Lib.hid (L4.out.drew.call ho); have Brb5 := Lib.hid (show Bk w5 w.heap.size #[.int .i64 0, .string ⟨#[]⟩, .int .i64 0, .int .i64 0, .slice none 0 0, .slice none 0 0] 25 from Bk.gr Brb4.out.drew ho.gr (by omega)); have zrb5 : w.heap.size < w5.heap.size := Brb5.out.lt; have Bnb5 := Lib.hid (show Bk w5 nb #[.int .i64 25, .string ⟨(text 3 (expect wType s)).1.toArray⟩, .int .i64 0, .int .i64 (s.pl : Int), .slice ao ns.length ac, .slice none 0 0] 25 from Bk.gr Bnb4.out.drew ho.gr (by omega)); have znb5 : nb < w5.heap.size := Bnb5.out.lt; have K5 := Lib.hid (Na.gr KN4.out.drew1 ho.gr (by omega)); obtain ⟨cc0, cc1, cc2, cc3, cc4, cc5⟩ := Bnb5.out.c6; obtain ⟨d0, d1, d2, d3, d4, d5⟩ := Bnb5.out.f6; have hzz : w4.heap.size ≤ w5.heap.size := ho.gr.size; have p1 : w.heap.size + 1 ≤ w5.heap.size := (by omega); clear ho hzz))
        all_goals
          go_wp2
          go_roundg m
          case rel => exact ⟨ns ++ [(text 3 st).1], some ⟨gg, 0, none⟩, cp, (text 3 st).2, by simp; omega, by simp; omega, HS, Lib.hid (L5a.out.set (by omega) 4 _), Lib.hid (Brb5a.out.other (b' := nb) (by omega) 4 _), by show Bk _ _ _ _; simpa using (Bnb5a.out.set 4 _), by show Na _ _ _ _ _; simpa using Na.set K5a.out 4 _⟩
          case measure => omega
    · have x3 : (((hd st.ts).k : Int) == 3) = false := i_ne (b := 3) h3
      have HE := Lib.hid ((names_no h3).symm.trans HT.out)
      clear h3 HT
      go_wp2_with fail
      refine (token_any _ E st d j LW.out.ps).mono ?_
      rintro x w4 ⟨rfl, hb⟩
      have ho := Out.of_below LW.out.ps hb
      have L4 := Lib.hid (LW.out.call ho)
      have Brb4 := Lib.hid (show Bk w4 w.heap.size #[.int .i64 0, .string ⟨#[]⟩, .int .i64 0, .int .i64 0, .slice none 0 0, .slice none 0 0] 25 from Bk.gr BW.out ho.gr (by omega))
      have Bnb4 := Lib.hid (show Bk w4 nb #[.int .i64 25, .string ⟨(text 3 (expect wType s)).1.toArray⟩, .int .i64 0, .int .i64 (s.pl : Int), .slice ao ns.length ac, .slice none 0 0] 25 from Bk.gr NW.out ho.gr (by omega))
      have zrb4 : w.heap.size < w4.heap.size := Brb4.out.lt
      have znb4 : nb < w4.heap.size := Bnb4.out.lt
      have KN4 := Lib.hid (Na.gr KW.out ho.gr (by omega))
      clear ho hb LW BW NW KW
      obtain ⟨gnb0, gnb1, gnb2, gnb3, gnb4, gnb5⟩ := Bnb4.out.c6
      obtain ⟨fnb0, fnb1, fnb2, fnb3, fnb4, fnb5⟩ := Bnb4.out.f6
      go_wp2_with fail
      refine (expect_any _ E st d j L4.out.ps [61] (by decide)).mono ?_
      rintro x w5 ⟨rfl, ho⟩
      have L5 := Lib.hid (L4.out.call ho)
      have Brb5 := Lib.hid (show Bk w5 w.heap.size #[.int .i64 0, .string ⟨#[]⟩, .int .i64 0, .int .i64 0, .slice none 0 0, .slice none 0 0] 25 from Bk.gr Brb4.out ho.gr (by omega))
      have Bnb5 := Lib.hid (show Bk w5 nb #[.int .i64 25, .string ⟨(text 3 (expect wType s)).1.toArray⟩, .int .i64 0, .int .i64 (s.pl : Int), .slice ao ns.length ac, .slice none 0 0] 25 from Bk.gr Bnb4.out ho.gr (by omega))
      have zrb5 : w.heap.size < w5.heap.size := Brb5.out.lt
      have znb5 : nb < w5.heap.size := Bnb5.out.lt
      have KN5 := Lib.hid (Na.gr KN4.out ho.gr (by omega))
      clear ho L4 Brb4 Bnb4 gnb0 gnb1 gnb2 gnb3 gnb4 gnb5 fnb0 fnb1 fnb2 fnb3 fnb4 fnb5 KN4
      obtain ⟨gnb0, gnb1, gnb2, gnb3, gnb4, gnb5⟩ := Bnb5.out.c6
      obtain ⟨fnb0, fnb1, fnb2, fnb3, fnb4, fnb5⟩ := Bnb5.out.f6
      go_wp2_with fail
      refine (list_defs HD0.out _ E (expect [61] st) L5.out.ps).mono ?_
      rintro x w6 ⟨lo, lcp, lq, rfl, ho, hka⟩
      have L6 := Lib.hid (L5.out.call ho)
      have Brb6 := Lib.hid (show Bk w6 w.heap.size #[.int .i64 0, .string ⟨#[]⟩, .int .i64 0, .int .i64 0, .slice none 0 0, .slice none 0 0] 25 from Bk.gr Brb5.out ho.gr (by omega))
      have zrb6 := Brb6.out.lt
      have Bnb6 := Lib.hid (show Bk w6 nb #[.int .i64 25, .string ⟨(text 3 (expect wType s)).1.toArray⟩, .int .i64 0, .int .i64 (s.pl : Int), .slice ao ns.length ac, .slice none 0 0] 25 from Bk.gr Bnb5.out ho.gr (by omega))
      have znb6 := Bnb6.out.lt
      have KN6 := Lib.hid (Na.gr KN5.out ho.gr (by omega))
      have K6 := Lib.hid hka
      have hq1 : w.heap.size + 1 ≤ w5.heap.size := by omega
      have hq2 : nb < w5.heap.size := by omega
      clear ho hka gnb0 gnb1 gnb2 gnb3 gnb4 gnb5 fnb0 fnb1 fnb2 fnb3 fnb4 fnb5
      obtain ⟨grb0, grb1, grb2, grb3, grb4, grb5⟩ := Brb6.out.c6
      obtain ⟨frb0, frb1, frb2, frb3, frb4, frb5⟩ := Brb6.out.f6
      obtain ⟨gnb0, gnb1, gnb2, gnb3, gnb4, gnb5⟩ := Bnb6.out.c6
      obtain ⟨fnb0, fnb1, fnb2, fnb3, fnb4, fnb5⟩ := Bnb6.out.f6
      go_wp2
      refine bodyPost_ret (v := .agg #[.int .i64 25, .string ⟨(text 3 (expect wType s)).1.toArray⟩, .int .i64 0, .int .i64 (s.pl : Int), .slice ao ns.length ac, .slice lo (list [124] 20 (defP (levT 40)) (expect [61] st)).1.length lcp]) (by simp [results, Tryz.results109, go_sem, grb0, grb1, grb2, grb3, grb4, grb5]) rfl ?_
      rw [← HE.out]
      exact ⟨ao, ac, lo, lcp, rfl, (((((((L6.out.set (by omega) 5 _).set (by omega) 0 _).set (by omega) 1 _).set (by omega) 2 _).set (by omega) 3 _).set (by omega) 4 _).set (by omega) 5 _).out, (Hn.put6 (show Hn _ (w.heap.size + 1) _ _ from (Ha.set (has_both KN6.out K6.out hq1 hq2 25 (text 3 (expect wType s)).1 0 s.pl) 5 _).weak (fun b hb _ => hb.1)) (by omega) _ _ _ _ _ _).mono (by omega)⟩

end Go.Proofs.YtlcapkgbbgpdmaaGreatDoor.QA

/- Declarations, of either kind. -/
namespace Go.Proofs.YtlcapkgbbgpdmaaGreatDoor.QB
open Go.RowKit Go.Proofs.YtlcapkgbbgpdmaaGreatDoor.P Go.Proofs.YtlcapkgbbgpdmaaGreatDoor.A Go.Proofs.YtlcapkgbbgpdmaaGreatDoor.TK Go.Proofs.YtlcapkgbbgpdmaaGreatDoor.TO Go.Proofs.YtlcapkgbbgpdmaaGreatDoor.GR Go.Proofs.YtlcapkgbbgpdmaaGreatDoor.MP Go.Proofs.YtlcapkgbbgpdmaaGreatDoor.YR Go.Proofs.YtlcapkgbbgpdmaaGreatDoor.PN Go.Proofs.YtlcapkgbbgpdmaaGreatDoor.PS Go.Proofs.YtlcapkgbbgpdmaaGreatDoor.PA Go.Proofs.YtlcapkgbbgpdmaaGreatDoor.PB Go.Proofs.YtlcapkgbbgpdmaaGreatDoor.PC Go.Proofs.YtlcapkgbbgpdmaaGreatDoor.PD Go.Proofs.YtlcapkgbbgpdmaaGreatDoor.PE Go.Proofs.YtlcapkgbbgpdmaaGreatDoor.PF Go.Proofs.YtlcapkgbbgpdmaaGreatDoor.PG Go.Proofs.YtlcapkgbbgpdmaaGreatDoor.PH Go.Proofs.YtlcapkgbbgpdmaaGreatDoor.PI Go.Proofs.YtlcapkgbbgpdmaaGreatDoor.PJ Go.Proofs.YtlcapkgbbgpdmaaGreatDoor.PK Go.Proofs.YtlcapkgbbgpdmaaGreatDoor.PL Go.Proofs.YtlcapkgbbgpdmaaGreatDoor.PM Go.Proofs.YtlcapkgbbgpdmaaGreatDoor.PO Go.Proofs.YtlcapkgbbgpdmaaGreatDoor.PP Go.Proofs.YtlcapkgbbgpdmaaGreatDoor.PR Go.Proofs.YtlcapkgbbgpdmaaGreatDoor.PT Go.Proofs.YtlcapkgbbgpdmaaGreatDoor.PU Go.Proofs.YtlcapkgbbgpdmaaGreatDoor.PV Go.Proofs.YtlcapkgbbgpdmaaGreatDoor.PW Go.Proofs.YtlcapkgbbgpdmaaGreatDoor.PX Go.Proofs.YtlcapkgbbgpdmaaGreatDoor.PY Go.Proofs.YtlcapkgbbgpdmaaGreatDoor.PZ Go.Proofs.YtlcapkgbbgpdmaaGreatDoor.QA
set_option linter.unusedVariables false
set_option maxRecDepth 100000
attribute [local go_sem ↓] Go.wp_at_zero Go.wp_at_succ

set_option maxHeartbeats 1000000 in
theorem valDecl_any {L : Lev} {d : Nat} (hL : LevOK L d) (j : Bool) : NC 108 (fun s => bindP L j 28 29 s) d j := by
  intro w E s h
  have HB := fun W hW => (bind_any hL j 28 29 W E s hW).mono (fun _ _ h => h.nout)
  have L0 := Lib.hid (Lc.start h)
  have er0 := h.lt.1
  clear h
  go_enter Tryz.func108, Tryz.ntmps108
  go_wp2_with fail
  refine (HB _ (L0.out.alloc _).ps).mono ?_
  rintro x w1 ⟨ao1, ac1, bo1, bc1, rfl, ho, hN⟩
  have L1 := Lib.hid ((L0.out.alloc _).call ho)
  have Brb1 := Lib.hid (show Bk w1 w.heap.size #[.int .i64 0, .string ⟨#[]⟩, .int .i64 0, .int .i64 0, .slice none 0 0, .slice none 0 0] 25 from Bk.gr (heap_at _ _ _ (by simp [])) ho.gr (by omega))
  have zrb1 : w.heap.size < w1.heap.size := Brb1.out.lt
  have Nx1 := Lib.hid (show Hn w1 (w.heap.size + 1) ((bindP L j 28 29 s).1) (.slice ao1 ((bindP L j 28 29 s).1).names.length ac1, .slice bo1 ((bindP L j 28 29 s).1).kids.length bc1) from hN.mono (by simp []))
  clear ho hN L0
  obtain ⟨grb0, grb1, grb2, grb3, grb4, grb5⟩ := Brb1.out.c6
  obtain ⟨frb0, frb1, frb2, frb3, frb4, frb5⟩ := Brb1.out.f6
  go_wp2
  refine bodyPost_ret (v := .agg #[.int .i64 ((bindP L j 28 29 s).1.kind : Int), .string ⟨(bindP L j 28 29 s).1.text.toArray⟩, .int .i64 ((bindP L j 28 29 s).1.num : Int), .int .i64 ((bindP L j 28 29 s).1.pl : Int), .slice ao1 (bindP L j 28 29 s).1.names.length ac1, .slice bo1 (bindP L j 28 29 s).1.kids.length bc1]) (by simp [results, Tryz.results108, go_sem, grb0, grb1, grb2, grb3, grb4, grb5]) rfl ?_
  exact ⟨_, _, _, _, rfl, ((((((L1.out.set (by omega) 0 _).set (by omega) 1 _).set (by omega) 2 _).set (by omega) 3 _).set (by omega) 4 _).set (by omega) 5 _).out, ((((((Nx1.out.set (b := w.heap.size) (by omega) 0 _).set (b := w.heap.size) (by omega) 1 _).set (b := w.heap.size) (by omega) 2 _).set (b := w.heap.size) (by omega) 3 _).set (b := w.heap.size) (by omega) 4 _).set (b := w.heap.size) (by omega) 5 _).mono (by omega)⟩

set_option maxHeartbeats 1000000 in
theorem decl_typeDecl {R : Part} {d : Nat} {j : Bool} (hR : NC 109 R d j) : ∀ w E s, PS w E s d j → s.is wType = true → Calls Tryz.prog 73 #[pp E] w (NOut w E ((R s).1, expect [59] (R s).2) d j) := by
  intro w E s h hi
  have HR0 := Lib.hid hR
  have hi0 := Lib.hid (show anyOf [[116, 121, 112, 101]] s = true from (any_one s _).trans hi)
  clear hR hi
  have L0 := Lib.hid (Lc.start h)
  have er0 := h.lt.1
  clear h
  have hsz : (w.alloc (.cells #[.int .i64 0, .string ⟨#[]⟩, .int .i64 0, .int .i64 0, .slice none 0 0, .slice none 0 0] 25)).heap.size = w.heap.size + 1 := by simp
  have hst := strs_new (w.alloc (.cells #[.int .i64 0, .string ⟨#[]⟩, .int .i64 0, .int .i64 0, .slice none 0 0, .slice none 0 0] 25)) [[116, 121, 112, 101]]
  rw [hsz] at hst
  have hc := is_any _ E s d j ((L0.out.alloc (.cells #[.int .i64 0, .string ⟨#[]⟩, .int .i64 0, .int .i64 0, .slice none 0 0, .slice none 0 0] 25)).alloc (.cells #[.string ⟨#[116, 121, 112, 101]⟩] 9)).ps (w.heap.size + 1) [[116, 121, 112, 101]] hst (by simp) (by decide) (by decide) 1 rfl
  rw [hi0.out] at hc
  clear hsz hst
  go_enter Tryz.func73, Tryz.ntmps73
  go_wp2_with fail
  refine (hc).mono ?_
  rintro x w1 ⟨rfl, hb⟩
  have ho := Out.of_below ((L0.out.alloc _).alloc _).ps hb
  have L1 := Lib.hid (((L0.out.alloc _).alloc _).call ho)
  have Brb1 := Lib.hid (show Bk w1 w.heap.size #[.int .i64 0, .string ⟨#[]⟩, .int .i64 0, .int .i64 0, .slice none 0 0, .slice none 0 0] 25 from Bk.gr (Bk.alloc (heap_at _ _ _ (by simp [])) _) ho.gr (by omega))
  have zrb1 : w.heap.size < w1.heap.size := Brb1.out.lt
  clear ho hb L0
  go_wp2_with fail
  refine (HR0.out _ E s L1.out.ps).mono ?_
  rintro x w2 ⟨ao2, ac2, bo2, bc2, rfl, ho, hN⟩
  have L2 := Lib.hid (L1.out.call ho)
  have Brb2 := Lib.hid (show Bk w2 w.heap.size #[.int .i64 0, .string ⟨#[]⟩, .int .i64 0, .int .i64 0, .slice none 0 0, .slice none 0 0] 25 from Bk.gr Brb1.out ho.gr (by omega))
  have zrb2 : w.heap.size < w2.heap.size := Brb2.out.lt
  have Nx2 := Lib.hid (show Hn w2 w1.heap.size ((R s).1) (.slice ao2 ((R s).1).names.length ac2, .slice bo2 ((R s).1).kids.length bc2) from hN.mono (by simp []))
  clear ho hN L1 Brb1
  go_wp2_with fail
  refine (expect_any _ E (R s).2 d j (L2.out.alloc _).ps [59] (by decide)).mono ?_
  rintro x w3 ⟨rfl, ho⟩
  have L3 := Lib.hid ((L2.out.alloc _).call ho)
  have Brb3 := Lib.hid (show Bk w3 w.heap.size #[.int .i64 0, .string ⟨#[]⟩, .int .i64 0, .int .i64 0, .slice none 0 0, .slice none 0 0] 25 from Bk.gr (Brb2.out.alloc _) ho.gr (by omega))
  have Bnb3 := Lib.hid (show Bk w3 w2.heap.size #[.int .i64 ((R s).1.kind : Int), .string ⟨(R s).1.text.toArray⟩, .int .i64 ((R s).1.num : Int), .int .i64 ((R s).1.pl : Int), .slice ao2 (R s).1.names.length ac2, .slice bo2 (R s).1.kids.length bc2] 25 from Bk.gr (heap_at _ _ _ (by simp [])) ho.gr (by omega))
  have Nx3 := Lib.hid (show Hn w3 w1.heap.size ((R s).1) (.slice ao2 ((R s).1).names.length ac2, .slice bo2 ((R s).1).kids.length bc2) from Hn.gr (Nx2.out.alloc _) ho.gr (by omega))
  have zrb3 : w.heap.size < w3.heap.size := Brb3.out.lt
  have znb3 : w2.heap.size < w3.heap.size := Bnb3.out.lt
  clear ho L2 Brb2 Nx2
  obtain ⟨grb0, grb1, grb2, grb3, grb4, grb5⟩ := Brb3.out.c6
  obtain ⟨frb0, frb1, frb2, frb3, frb4, frb5⟩ := Brb3.out.f6
  obtain ⟨gnb0, gnb1, gnb2, gnb3, gnb4, gnb5⟩ := Bnb3.out.c6
  obtain ⟨fnb0, fnb1, fnb2, fnb3, fnb4, fnb5⟩ := Bnb3.out.f6
  go_wp2
  refine bodyPost_ret (v := .agg #[.int .i64 ((R s).1.kind : Int), .string ⟨(R s).1.text.toArray⟩, .int .i64 ((R s).1.num : Int), .int .i64 ((R s).1.pl : Int), .slice ao2 (R s).1.names.length ac2, .slice bo2 (R s).1.kids.length bc2]) (by simp [results, Tryz.results73, go_sem, grb0, grb1, grb2, grb3, grb4, grb5]) rfl ?_
  exact ⟨_, _, _, _, rfl, ((((((L3.out.set (by omega) 0 _).set (by omega) 1 _).set (by omega) 2 _).set (by omega) 3 _).set (by omega) 4 _).set (by omega) 5 _).out, ((((((Nx3.out.set (b := w.heap.size) (by omega) 0 _).set (b := w.heap.size) (by omega) 1 _).set (b := w.heap.size) (by omega) 2 _).set (b := w.heap.size) (by omega) 3 _).set (b := w.heap.size) (by omega) 4 _).set (b := w.heap.size) (by omega) 5 _).mono (by omega)⟩

set_option maxHeartbeats 1000000 in
theorem decl_valDecl {R : Part} {d : Nat} {j : Bool} (hR : NC 108 R d j) : ∀ w E s, PS w E s d j → s.is wType = false → Calls Tryz.prog 73 #[pp E] w (NOut w E ((R s).1, expect [59] (R s).2) d j) := by
  intro w E s h hi
  have HR0 := Lib.hid hR
  have hi0 := Lib.hid (show anyOf [[116, 121, 112, 101]] s = false from (any_one s _).trans hi)
  clear hR hi
  have L0 := Lib.hid (Lc.start h)
  have er0 := h.lt.1
  clear h
  have hsz : (w.alloc (.cells #[.int .i64 0, .string ⟨#[]⟩, .int .i64 0, .int .i64 0, .slice none 0 0, .slice none 0 0] 25)).heap.size = w.heap.size + 1 := by simp
  have hst := strs_new (w.alloc (.cells #[.int .i64 0, .string ⟨#[]⟩, .int .i64 0, .int .i64 0, .slice none 0 0, .slice none 0 0] 25)) [[116, 121, 112, 101]]
  rw [hsz] at hst
  have hc := is_any _ E s d j ((L0.out.alloc (.cells #[.int .i64 0, .string ⟨#[]⟩, .int .i64 0, .int .i64 0, .slice none 0 0, .slice none 0 0] 25)).alloc (.cells #[.string ⟨#[116, 121, 112, 101]⟩] 9)).ps (w.heap.size + 1) [[116, 121, 112, 101]] hst (by simp) (by decide) (by decide) 1 rfl
  rw [hi0.out] at hc
  clear hsz hst
  go_enter Tryz.func73, Tryz.ntmps73
  go_wp2_with fail
  refine (hc).mono ?_
  rintro x w1 ⟨rfl, hb⟩
  have ho := Out.of_below ((L0.out.alloc _).alloc _).ps hb
  have L1 := Lib.hid (((L0.out.alloc _).alloc _).call ho)
  have Brb1 := Lib.hid (show Bk w1 w.heap.size #[.int .i64 0, .string ⟨#[]⟩, .int .i64 0, .int .i64 0, .slice none 0 0, .slice none 0 0] 25 from Bk.gr (Bk.alloc (heap_at _ _ _ (by simp [])) _) ho.gr (by omega))
  have zrb1 : w.heap.size < w1.heap.size := Brb1.out.lt
  clear ho hb L0
  go_wp2_with fail
  refine (HR0.out _ E s L1.out.ps).mono ?_
  rintro x w2 ⟨ao2, ac2, bo2, bc2, rfl, ho, hN⟩
  have L2 := Lib.hid (L1.out.call ho)
  have Brb2 := Lib.hid (show Bk w2 w.heap.size #[.int .i64 0, .string ⟨#[]⟩, .int .i64 0, .int .i64 0, .slice none 0 0, .slice none 0 0] 25 from Bk.gr Brb1.out ho.gr (by omega))
  have zrb2 : w.heap.size < w2.heap.size := Brb2.out.lt
  have Nx2 := Lib.hid (show Hn w2 w1.heap.size ((R s).1) (.slice ao2 ((R s).1).names.length ac2, .slice bo2 ((R s).1).kids.length bc2) from hN.mono (by simp []))
  clear ho hN L1 Brb1
  go_wp2_with fail
  refine (expect_any _ E (R s).2 d j (L2.out.alloc _).ps [59] (by decide)).mono ?_
  rintro x w3 ⟨rfl, ho⟩
  have L3 := Lib.hid ((L2.out.alloc _).call ho)
  have Brb3 := Lib.hid (show Bk w3 w.heap.size #[.int .i64 0, .string ⟨#[]⟩, .int .i64 0, .int .i64 0, .slice none 0 0, .slice none 0 0] 25 from Bk.gr (Brb2.out.alloc _) ho.gr (by omega))
  have Bnb3 := Lib.hid (show Bk w3 w2.heap.size #[.int .i64 ((R s).1.kind : Int), .string ⟨(R s).1.text.toArray⟩, .int .i64 ((R s).1.num : Int), .int .i64 ((R s).1.pl : Int), .slice ao2 (R s).1.names.length ac2, .slice bo2 (R s).1.kids.length bc2] 25 from Bk.gr (heap_at _ _ _ (by simp [])) ho.gr (by omega))
  have Nx3 := Lib.hid (show Hn w3 w1.heap.size ((R s).1) (.slice ao2 ((R s).1).names.length ac2, .slice bo2 ((R s).1).kids.length bc2) from Hn.gr (Nx2.out.alloc _) ho.gr (by omega))
  have zrb3 : w.heap.size < w3.heap.size := Brb3.out.lt
  have znb3 : w2.heap.size < w3.heap.size := Bnb3.out.lt
  clear ho L2 Brb2 Nx2
  obtain ⟨grb0, grb1, grb2, grb3, grb4, grb5⟩ := Brb3.out.c6
  obtain ⟨frb0, frb1, frb2, frb3, frb4, frb5⟩ := Brb3.out.f6
  obtain ⟨gnb0, gnb1, gnb2, gnb3, gnb4, gnb5⟩ := Bnb3.out.c6
  obtain ⟨fnb0, fnb1, fnb2, fnb3, fnb4, fnb5⟩ := Bnb3.out.f6
  go_wp2
  refine bodyPost_ret (v := .agg #[.int .i64 ((R s).1.kind : Int), .string ⟨(R s).1.text.toArray⟩, .int .i64 ((R s).1.num : Int), .int .i64 ((R s).1.pl : Int), .slice ao2 (R s).1.names.length ac2, .slice bo2 (R s).1.kids.length bc2]) (by simp [results, Tryz.results73, go_sem, grb0, grb1, grb2, grb3, grb4, grb5]) rfl ?_
  exact ⟨_, _, _, _, rfl, ((((((L3.out.set (by omega) 0 _).set (by omega) 1 _).set (by omega) 2 _).set (by omega) 3 _).set (by omega) 4 _).set (by omega) 5 _).out, ((((((Nx3.out.set (b := w.heap.size) (by omega) 0 _).set (b := w.heap.size) (by omega) 1 _).set (b := w.heap.size) (by omega) 2 _).set (b := w.heap.size) (by omega) 3 _).set (b := w.heap.size) (by omega) 4 _).set (b := w.heap.size) (by omega) 5 _).mono (by omega)⟩

theorem decl_any {d : Nat} (hL : LevOK (lev 40) d) (hT : NC 109 typeDeclP d false) : NC 73 declP d false := by
  intro w E s h
  cases hi : s.is wType with
  | true =>
    have e : declP s = ((typeDeclP s).1, expect [59] (typeDeclP s).2) := by unfold declP; rw [hi]; rfl
    rw [e]; exact decl_typeDecl hT w E s h hi
  | false =>
    have e : declP s = ((bindP (lev 40) false 28 29 s).1, expect [59] (bindP (lev 40) false 28 29 s).2) := by unfold declP; rw [hi]; rfl
    rw [e]; exact decl_valDecl (valDecl_any hL false) w E s h hi
end Go.Proofs.YtlcapkgbbgpdmaaGreatDoor.QB

/- A program. -/
namespace Go.Proofs.YtlcapkgbbgpdmaaGreatDoor.QC
open Go.RowKit Go.Proofs.YtlcapkgbbgpdmaaGreatDoor.P Go.Proofs.YtlcapkgbbgpdmaaGreatDoor.A Go.Proofs.YtlcapkgbbgpdmaaGreatDoor.TK Go.Proofs.YtlcapkgbbgpdmaaGreatDoor.TO Go.Proofs.YtlcapkgbbgpdmaaGreatDoor.GR Go.Proofs.YtlcapkgbbgpdmaaGreatDoor.MP Go.Proofs.YtlcapkgbbgpdmaaGreatDoor.YR Go.Proofs.YtlcapkgbbgpdmaaGreatDoor.PN Go.Proofs.YtlcapkgbbgpdmaaGreatDoor.PS Go.Proofs.YtlcapkgbbgpdmaaGreatDoor.PA Go.Proofs.YtlcapkgbbgpdmaaGreatDoor.PB Go.Proofs.YtlcapkgbbgpdmaaGreatDoor.PC Go.Proofs.YtlcapkgbbgpdmaaGreatDoor.PD Go.Proofs.YtlcapkgbbgpdmaaGreatDoor.PE Go.Proofs.YtlcapkgbbgpdmaaGreatDoor.PF Go.Proofs.YtlcapkgbbgpdmaaGreatDoor.PG Go.Proofs.YtlcapkgbbgpdmaaGreatDoor.PH Go.Proofs.YtlcapkgbbgpdmaaGreatDoor.PI Go.Proofs.YtlcapkgbbgpdmaaGreatDoor.PJ Go.Proofs.YtlcapkgbbgpdmaaGreatDoor.PK Go.Proofs.YtlcapkgbbgpdmaaGreatDoor.PL Go.Proofs.YtlcapkgbbgpdmaaGreatDoor.PM Go.Proofs.YtlcapkgbbgpdmaaGreatDoor.PO Go.Proofs.YtlcapkgbbgpdmaaGreatDoor.PP Go.Proofs.YtlcapkgbbgpdmaaGreatDoor.PR Go.Proofs.YtlcapkgbbgpdmaaGreatDoor.PT Go.Proofs.YtlcapkgbbgpdmaaGreatDoor.PU Go.Proofs.YtlcapkgbbgpdmaaGreatDoor.PV Go.Proofs.YtlcapkgbbgpdmaaGreatDoor.PW Go.Proofs.YtlcapkgbbgpdmaaGreatDoor.PX Go.Proofs.YtlcapkgbbgpdmaaGreatDoor.PY Go.Proofs.YtlcapkgbbgpdmaaGreatDoor.PZ Go.Proofs.YtlcapkgbbgpdmaaGreatDoor.QA Go.Proofs.YtlcapkgbbgpdmaaGreatDoor.QB
set_option linter.unusedVariables false
set_option maxRecDepth 100000
attribute [local go_sem ↓] Go.wp_at_zero Go.wp_at_succ

def progEnd (pl : Nat) (r : Option (List Tree) × St) : Tree × St :=
  match r with
  | (none, r) => (zero, r)
  | (some l, r) => if ((lev 40).x true (expect wDo r)).2.k ≠ 0 then (zero, ((lev 40).x true (expect wDo r)).2.fail 14) else (.node 30 [] [] (l ++ [((lev 40).x true (expect wDo r)).1]) 0 pl, ((lev 40).x true (expect wDo r)).2)
theorem prog_eq (s : St) : progP s = progEnd s.pl (declsLoop 61 [] s) := rfl
theorem decls_no {k : Nat} {l : List Tree} {s : St} (h : anyOf [[116, 121, 112, 101], [108, 101, 116]] s = false) : declsLoop k l s = (some l, s) := by
  cases k with
  | zero => rfl
  | succ k => unfold declsLoop; rw [if_neg (by intro e; have e : anyOf [[116, 121, 112, 101], [108, 101, 116]] s = true := e; rw [h] at e; exact absurd e (by decide))]
theorem decls_full {k : Nat} {l : List Tree} {s : St} (h : anyOf [[116, 121, 112, 101], [108, 101, 116]] s = true) (hl : l.length = 60) : declsLoop (k + 1) l s = (none, s.fail 16) := by
  have h : anyOf [wType, wLet] s = true := h
  unfold declsLoop; rw [if_pos h, if_pos hl]
theorem decls_more {k : Nat} {l : List Tree} {s : St} (h : anyOf [[116, 121, 112, 101], [108, 101, 116]] s = true) (hl : l.length ≠ 60) : declsLoop (k + 1) l s = declsLoop k (l ++ [(declP s).1]) (declP s).2 := by
  have h : anyOf [wType, wLet] s = true := h
  conv => lhs; unfold declsLoop
  rw [if_pos h, if_neg hl]

def GOut (w : World) (E : En) (r : Tree × St) (d : Nat) (x : Ending) (w' : World) : Prop := ∃ j, NOut w E r d j x w'
set_option maxHeartbeats 4000000 in
theorem program_any {d : Nat} (hD : NC 73 declP d false) (hX : NC 75 ((lev 40).x true) d true) : ∀ w E s, PS w E s d false → Calls Tryz.prog 43 #[pp E] w (GOut w E (progP s) d) := by
  intro w E s h
  have HD0 := Lib.hid hD
  have HX0 := Lib.hid hX
  have hf0 := tf0
  clear hD hX
  obtain ⟨R0, hR0⟩ : ∃ R0, Hid (declsLoop 61 [] s = R0) := ⟨_, rfl⟩
  have e0 := prog_eq s
  rw [hR0.out] at e0
  rw [e0]
  clear e0
  have L0 := Lib.hid (Lc.start h)
  have er0 := h.lt.1
  clear h
  go_enter Tryz.func43, Tryz.ntmps43
  go_wp2_with fail
  refine (begin_any _ E s d false (L0.out.alloc _).ps 30).mono ?_
  rintro x w1 ⟨rfl, hb⟩
  have ho := Out.of_below (L0.out.alloc _).ps hb
  have L1 := Lib.hid ((L0.out.alloc _).call ho)
  have Brb1 := Lib.hid (show Bk w1 w.heap.size #[.int .i64 0, .string ⟨#[]⟩, .int .i64 0, .int .i64 0, .slice none 0 0, .slice none 0 0] 25 from Bk.gr (heap_at _ _ _ (by simp [])) ho.gr (by omega))
  have zrb1 : w.heap.size < w1.heap.size := Brb1.out.lt
  clear ho hb L0
  have LS := Lib.hid (show Lc w E s d false (w1.alloc (.cells #[.int .i64 30, .string ⟨#[]⟩, .int .i64 0, .int .i64 (s.pl : Int), .slice none 0 0, .slice none 0 0] 25)) from (L1.out.alloc _))
  have BS := Lib.hid (show Bk (w1.alloc (.cells #[.int .i64 30, .string ⟨#[]⟩, .int .i64 0, .int .i64 (s.pl : Int), .slice none 0 0, .slice none 0 0] 25)) w.heap.size #[.int .i64 0, .string ⟨#[]⟩, .int .i64 0, .int .i64 0, .slice none 0 0, .slice none 0 0] 25 from (Brb1.out.alloc _))
  have NS := Lib.hid (Bk.new w1 #[.int .i64 30, .string ⟨#[]⟩, .int .i64 0, .int .i64 (s.pl : Int), .slice none 0 0, .slice none 0 0] 25)
  go_wp2
  generalize w1.alloc _ = wq at LS BS NS ⊢
  generalize hnb : w1.heap.size = nb at *
  have HNB := Lib.hid hnb
  clear hnb
  go_loopg [6] 61 (fun g v0 wx => ∃ (kids : List Tree) (qs : List (Value × Value)) (ao : Option Addr) (ac : Nat) (st : St), g + kids.length = 61 ∧ kids.length ≤ 60 ∧ Hid (declsLoop g kids st = R0) ∧ Hid (Lc w E st d false wx) ∧ Hid (Bk wx w.heap.size #[.int .i64 0, .string ⟨#[]⟩, .int .i64 0, .int .i64 0, .slice none 0 0, .slice none 0 0] 25) ∧ Hid (Bk wx nb #[.int .i64 30, .string ⟨#[]⟩, .int .i64 0, .int .i64 (s.pl : Int), .slice none 0 0, .slice ao kids.length ac] 25) ∧ Hid (Ka wx (w.heap.size + 1) nb (.slice ao kids.length ac) kids qs))
  case atStart => exact ⟨[], [], none, 0, s, rfl, by simp, hR0, LS, BS, NS, Ka.nil _ _ _⟩
  case round =>
    obtain ⟨kids, qs, ao, ac, st, hgl, hl60, HT, LW, BW, NW, KW⟩ := hrel
    clear LS BS NS hR0
    have z1 := BW.out.lt
    have z2 := NW.out.lt
    have hk5 : kids.length ≤ 5000 := by omega
    cases hi : anyOf [[116, 121, 112, 101], [108, 101, 116]] st with
    | true =>
      obtain ⟨m, rfl⟩ : ∃ m, gk = m + 1 := ⟨gk - 1, by omega⟩
      by_cases hm : kids.length = 60
      · have HE := Lib.hid ((decls_full (k := m) hi hm).symm.trans HT.out)
        have hx : ((kids.length : Int) == 60) = true := i_eq (b := 60) hm
        have hi0 := Lib.hid hi
        clear hm HT hi
        have hc := is_any (wr.alloc (.cells #[.string ⟨#[116, 121, 112, 101]⟩, .string ⟨#[108, 101, 116]⟩] 9)) E st d false (LW.out.alloc _).ps wr.heap.size [[116, 121, 112, 101], [108, 101, 116]] (strs_new wr [[116, 121, 112, 101], [108, 101, 116]]) (by simp) (by decide) (by decide) 2 rfl
        rw [hi0.out] at hc
        go_wp2_with fail
        refine (hc).mono ?_
        rintro x w2 ⟨rfl, hb⟩
        have ho := Out.of_below (LW.out.alloc _).ps hb
        have L2 := Lib.hid ((LW.out.alloc _).call ho)
        have Brb2 := Lib.hid (show Bk w2 w.heap.size #[.int .i64 0, .string ⟨#[]⟩, .int .i64 0, .int .i64 0, .slice none 0 0, .slice none 0 0] 25 from Bk.gr (BW.out.alloc _) ho.gr (by omega))
        have Bnb2 := Lib.hid (show Bk w2 nb #[.int .i64 30, .string ⟨#[]⟩, .int .i64 0, .int .i64 (s.pl : Int), .slice none 0 0, .slice ao kids.length ac] 25 from Bk.gr (NW.out.alloc _) ho.gr (by omega))
        have Kr2 := Lib.hid (Ka.gr (Ka.alloc KW.out _) ho.gr (by omega))
        have zrb2 : w.heap.size < w2.heap.size := Brb2.out.lt
        have znb2 : nb < w2.heap.size := Bnb2.out.lt
        clear ho hb LW BW NW KW
        obtain ⟨gnb0, gnb1, gnb2, gnb3, gnb4, gnb5⟩ := Bnb2.out.c6
        obtain ⟨fnb0, fnb1, fnb2, fnb3, fnb4, fnb5⟩ := Bnb2.out.f6
        go_wp2_with fail
        refine (fail_any _ E st d false L2.out.ps 16).mono ?_
        rintro x w3 ⟨rfl, ho⟩
        have L3 := Lib.hid (L2.out.call ho)
        have Brb3 := Lib.hid (show Bk w3 w.heap.size #[.int .i64 0, .string ⟨#[]⟩, .int .i64 0, .int .i64 0, .slice none 0 0, .slice none 0 0] 25 from Bk.gr Brb2.out ho.gr (by omega))
        have Bnb3 := Lib.hid (show Bk w3 nb #[.int .i64 30, .string ⟨#[]⟩, .int .i64 0, .int .i64 (s.pl : Int), .slice none 0 0, .slice ao kids.length ac] 25 from Bk.gr Bnb2.out ho.gr (by omega))
        have Kr3 := Lib.hid (Ka.gr Kr2.out ho.gr (by omega))
        have zrb3 : w.heap.size < w3.heap.size := Brb3.out.lt
        have znb3 : nb < w3.heap.size := Bnb3.out.lt
        clear ho L2 Brb2 Bnb2 Kr2 gnb0 gnb1 gnb2 gnb3 gnb4 gnb5 fnb0 fnb1 fnb2 fnb3 fnb4 fnb5
        obtain ⟨grb0, grb1, grb2, grb3, grb4, grb5⟩ := Brb3.out.c6
        obtain ⟨frb0, frb1, frb2, frb3, frb4, frb5⟩ := Brb3.out.f6
        obtain ⟨gnb0, gnb1, gnb2, gnb3, gnb4, gnb5⟩ := Bnb3.out.c6
        obtain ⟨fnb0, fnb1, fnb2, fnb3, fnb4, fnb5⟩ := Bnb3.out.f6
        go_wp2
        refine bodyPost_ret (v := .agg #[.int .i64 0, .string ⟨#[]⟩, .int .i64 0, .int .i64 0, .slice none 0 0, .slice none 0 0]) (by simp [results, Tryz.results43, go_sem, grb0, grb1, grb2, grb3, grb4, grb5]) rfl ?_
        rw [← HE.out]
        exact ⟨false, none, 0, none, 0, rfl, ((((((L3.out.set (by omega) 0 _).set (by omega) 1 _).set (by omega) 2 _).set (by omega) 3 _).set (by omega) 4 _).set (by omega) 5 _).out, hasN_leaf _ _ _ _ _ _⟩
      · have HS := Lib.hid ((decls_more (k := m) hi hm).symm.trans HT.out)
        have hx : ((kids.length : Int) == 60) = false := i_ne (b := 60) hm
        have hm1 : kids.length + 1 ≤ 60 := by omega
        have hi0 := Lib.hid hi
        clear hm HT hi
        have hc := is_any (wr.alloc (.cells #[.string ⟨#[116, 121, 112, 101]⟩, .string ⟨#[108, 101, 116]⟩] 9)) E st d false (LW.out.alloc _).ps wr.heap.size [[116, 121, 112, 101], [108, 101, 116]] (strs_new wr [[116, 121, 112, 101], [108, 101, 116]]) (by simp) (by decide) (by decide) 2 rfl
        rw [hi0.out] at hc
        go_wp2_with fail
        refine (hc).mono ?_
        rintro x w2 ⟨rfl, hb⟩
        have ho := Out.of_below (LW.out.alloc _).ps hb
        have L2 := Lib.hid ((LW.out.alloc _).call ho)
        have Brb2 := Lib.hid (show Bk w2 w.heap.size #[.int .i64 0, .string ⟨#[]⟩, .int .i64 0, .int .i64 0, .slice none 0 0, .slice none 0 0] 25 from Bk.gr (BW.out.alloc _) ho.gr (by omega))
        have Bnb2 := Lib.hid (show Bk w2 nb #[.int .i64 30, .string ⟨#[]⟩, .int .i64 0, .int .i64 (s.pl : Int), .slice none 0 0, .slice ao kids.length ac] 25 from Bk.gr (NW.out.alloc _) ho.gr (by omega))
        have Kr2 := Lib.hid (Ka.gr (Ka.alloc KW.out _) ho.gr (by omega))
        have zrb2 : w.heap.size < w2.heap.size := Brb2.out.lt
        have znb2 : nb < w2.heap.size := Bnb2.out.lt
        clear ho hb LW BW NW KW
        obtain ⟨gnb0, gnb1, gnb2, gnb3, gnb4, gnb5⟩ := Bnb2.out.c6
        obtain ⟨fnb0, fnb1, fnb2, fnb3, fnb4, fnb5⟩ := Bnb2.out.f6
        go_wp2
        go_region_law (first
          | (refine step_kid w3 (.tmp 16) (.tmp 19) (w.heap.size + 1) nb kids.length w2.heap.size (.slice ao kids.length ac) kids qs ((declP st).1) (.slice ao3 ((declP st).1).names.length ac3, .slice bo3 ((declP st).1).kids.length bc3) _ (by rfl) (by rfl) (by rfl) (by rfl) K3.out Nx3.out rfl hk5 p1 p5.out p2 p3 znb3 rfl ?_; intro gg3 cp3 w3a hka hgrow; have mg3 : w3.heap.size ≤ w3a.heap.size := Nat.le_trans (by simp) hgrow.size; have L3a := Lib.hid (Lc.grown (L3.out.alloc _) hgrow (fun k hk => by have := (K3.out.1.lt k hk).1; omega)); have K3a := Lib.hid hka; have Brb3a := Lib.hid (show Bk w3a w.heap.size #[.int .i64 0, .string ⟨#[]⟩, .int .i64 0, .int .i64 0, .slice none 0 0, .slice none 0 0] 25 from Bk.grown (Bk.alloc Brb3.out _) hgrow (fun e => by have := (K3.out.1.lt _ e).1; omega)); have zrb3a := Brb3a.out.lt; have Bnb3a := Lib.hid (show Bk w3a nb #[.int .i64 30, .string ⟨#[]⟩, .int .i64 0, .int .i64 (s.pl : Int), .slice none 0 0, .slice ao kids.length ac] 25 from Bk.grown (Bk.alloc Bnb3.out _) hgrow (Ka.alloc K3.out (.cells #[] 0)).2.1); have znb3a := Bnb3a.out.lt; obtain ⟨e0, e1, e2, e3, e4, e5⟩ := Bnb3a.out.c6; obtain ⟨h0, h1, h2, h3, h4, h5⟩ := Bnb3a.out.f6; clear hka hgrow)
          | (go_simp; go_at_call 73; refine (HD0.out _ E st L2.out.drew.ps).mono ?_; rintro x w3 ⟨ao3, ac3, bo3, bc3, rfl, ho, hN⟩; have L3 := Lib.hid (L2.out.drew.call ho); have Brb3 := Lib.hid (show Bk w3 w.heap.size #[.int .i64 0, .string ⟨#[]⟩, .int .i64 0, .int .i64 0, .slice none 0 0, .slice none 0 0] 25 from Bk.gr Brb2.out.drew ho.gr (by omega)); have zrb3 : w.heap.size < w3.heap.size := Brb3.out.lt; have Bnb3 := Lib.hid (show Bk w3 nb #[.int .i64 30, .string ⟨#[]⟩, .int .i64 0, .int .i64 (s.pl : Int), .slice none 0 0, .slice ao kids.length ac] 25 from Bk.gr Bnb2.out.drew ho.gr (by omega)); have znb3 : nb < w3.heap.size := Bnb3.out.lt; have K3 := Lib.hid (Ka.gr Kr2.out.drew1 ho.gr (by omega)); have Nx3 := Lib.hid (show Hn w3 w2.heap.size ((declP st).1) (.slice ao3 ((declP st).1).names.length ac3, .slice bo3 ((declP st).1).kids.length bc3) from hN); obtain ⟨cc0, cc1, cc2, cc3, cc4, cc5⟩ := Bnb3.out.c6; obtain ⟨d0, d1, d2, d3, d4, d5⟩ := Bnb3.out.f6; have hzz : w2.heap.size ≤ w3.heap.size := ho.gr.size; have p1 : (w.heap.size + 1) ≤ w2.heap.size := (by omega); have p2 : nb < w2.heap.size := (by omega); have p3 : (w.heap.size + 1) ≤ w3.heap.size := (by omega); have p5 := Lib.hid (show ∀ k, (.slice ao kids.length ac : Value).ownBlock = some k → k < w2.heap.size from fun k hk => (Kr2.out.1.lt k hk).2); clear ho hN hzz))
        all_goals
          go_wp2
          go_roundg m
          case rel => exact ⟨kids ++ [(declP st).1], _, some ⟨gg3, 0, none⟩, cp3, (declP st).2, by simp; omega, by simp; omega, HS, Lib.hid (L3a.out.set (by omega) 5 _), Lib.hid (Brb3a.out.other (b' := nb) (by omega) 5 _), by show Bk _ _ _ _; simpa using (Bnb3a.out.set 5 _), by show Ka _ _ _ _ _ _; simpa using Ka.set K3a.out 5 _⟩
          case measure => omega
    | false =>
      have HE := Lib.hid ((decls_no (k := gk) (l := kids) hi).symm.trans HT.out)
      have hi0 := Lib.hid hi
      clear hi HT
      have hc := is_any (wr.alloc (.cells #[.string ⟨#[116, 121, 112, 101]⟩, .string ⟨#[108, 101, 116]⟩] 9)) E st d false (LW.out.alloc _).ps wr.heap.size [[116, 121, 112, 101], [108, 101, 116]] (strs_new wr [[116, 121, 112, 101], [108, 101, 116]]) (by simp) (by decide) (by decide) 2 rfl
      rw [hi0.out] at hc
      go_wp2_with fail
      refine (hc).mono ?_
      rintro x w2 ⟨rfl, hb⟩
      have ho := Out.of_below (LW.out.alloc _).ps hb
      have L2 := Lib.hid ((LW.out.alloc _).call ho)
      have Brb2 := Lib.hid (show Bk w2 w.heap.size #[.int .i64 0, .string ⟨#[]⟩, .int .i64 0, .int .i64 0, .slice none 0 0, .slice none 0 0] 25 from Bk.gr (BW.out.alloc _) ho.gr (by omega))
      have Bnb2 := Lib.hid (show Bk w2 nb #[.int .i64 30, .string ⟨#[]⟩, .int .i64 0, .int .i64 (s.pl : Int), .slice none 0 0, .slice ao kids.length ac] 25 from Bk.gr (NW.out.alloc _) ho.gr (by omega))
      have Kr2 := Lib.hid (Ka.gr (Ka.alloc KW.out _) ho.gr (by omega))
      have zrb2 : w.heap.size < w2.heap.size := Brb2.out.lt
      have znb2 : nb < w2.heap.size := Bnb2.out.lt
      clear ho hb LW BW NW KW
      obtain ⟨gnb0, gnb1, gnb2, gnb3, gnb4, gnb5⟩ := Bnb2.out.c6
      obtain ⟨fnb0, fnb1, fnb2, fnb3, fnb4, fnb5⟩ := Bnb2.out.f6
      go_wp2_with fail
      refine (expect_any _ E st d false L2.out.ps wDo (by decide)).mono ?_
      rintro x w3 ⟨rfl, ho⟩
      have L3 := Lib.hid (L2.out.call ho)
      have Brb3 := Lib.hid (show Bk w3 w.heap.size #[.int .i64 0, .string ⟨#[]⟩, .int .i64 0, .int .i64 0, .slice none 0 0, .slice none 0 0] 25 from Bk.gr Brb2.out ho.gr (by omega))
      have Bnb3 := Lib.hid (show Bk w3 nb #[.int .i64 30, .string ⟨#[]⟩, .int .i64 0, .int .i64 (s.pl : Int), .slice none 0 0, .slice ao kids.length ac] 25 from Bk.gr Bnb2.out ho.gr (by omega))
      have Kr3 := Lib.hid (Ka.gr Kr2.out ho.gr (by omega))
      have zrb3 : w.heap.size < w3.heap.size := Brb3.out.lt
      have znb3 : nb < w3.heap.size := Bnb3.out.lt
      clear ho L2 Brb2 Bnb2 Kr2 gnb0 gnb1 gnb2 gnb3 gnb4 gnb5 fnb0 fnb1 fnb2 fnb3 fnb4 fnb5
      obtain ⟨off, cap, hb, _⟩ := L3.out.ps.cells
      have c4 := pc4 hb
      have f4 := hb.free 4
      have HB := Lib.hid hb
      clear hb
      go_wp2
      have LT := Lib.hid (show Lc w E (expect wDo st) d true (w3.setCell ⟨E.r, 4, none⟩ (.bool true)) from Lc.turn L3.out HB.out 4 (.bool true) (by simp [pcells]) (by simp) (Nat.le_refl _) L3.out.ps.ok L3.out.ps.deep)
      have Trb := Lib.hid (show Bk (w3.setCell ⟨E.r, 4, none⟩ (.bool true)) w.heap.size #[.int .i64 0, .string ⟨#[]⟩, .int .i64 0, .int .i64 0, .slice none 0 0, .slice none 0 0] 25 from Bk.other (b' := E.r) Brb3.out (by omega) 4 _)
      have Tnb := Lib.hid (show Bk (w3.setCell ⟨E.r, 4, none⟩ (.bool true)) nb #[.int .i64 30, .string ⟨#[]⟩, .int .i64 0, .int .i64 (s.pl : Int), .slice none 0 0, .slice ao kids.length ac] 25 from Bk.other (b' := E.r) Bnb3.out (by omega) 4 _)
      have KT := Lib.hid (show Ka (w3.setCell ⟨E.r, 4, none⟩ (.bool true)) (w.heap.size + 1) nb (.slice ao kids.length ac) kids qs from Ka.other (b := E.r) Kr3.out (by omega) 4 _)
      generalize w3.setCell _ _ = wt at LT Trb Tnb KT ⊢
      have zt1 := Trb.out.lt
      have zt2 := Tnb.out.lt
      clear c4 f4 HB L3 Brb3 Bnb3 Kr3
      obtain ⟨gnb0, gnb1, gnb2, gnb3, gnb4, gnb5⟩ := Tnb.out.c6
      obtain ⟨fnb0, fnb1, fnb2, fnb3, fnb4, fnb5⟩ := Tnb.out.f6
      go_region_law (first
        | (refine step_kid w4 (.tmp 28) (.tmp 31) (w.heap.size + 1) nb kids.length wt.heap.size (.slice ao kids.length ac) kids qs (((lev 40).x true (expect wDo st)).1) (.slice ao4 (((lev 40).x true (expect wDo st)).1).names.length ac4, .slice bo4 (((lev 40).x true (expect wDo st)).1).kids.length bc4) _ (by rfl) (by rfl) (by rfl) (by rfl) K4.out Nx4.out rfl hk5 p1 p5.out p2 p3 znb4 rfl ?_; intro gg4 cp4 w4a hka hgrow; have mg4 : w4.heap.size ≤ w4a.heap.size := Nat.le_trans (by simp) hgrow.size; have L4a := Lib.hid (Lc.grown (L4.out.alloc _) hgrow (fun k hk => by have := (K4.out.1.lt k hk).1; omega)); have K4a := Lib.hid hka; have Brb4a := Lib.hid (show Bk w4a w.heap.size #[.int .i64 0, .string ⟨#[]⟩, .int .i64 0, .int .i64 0, .slice none 0 0, .slice none 0 0] 25 from Bk.grown (Bk.alloc Brb4.out _) hgrow (fun e => by have := (K4.out.1.lt _ e).1; omega)); have zrb4a := Brb4a.out.lt; have Bnb4a := Lib.hid (show Bk w4a nb #[.int .i64 30, .string ⟨#[]⟩, .int .i64 0, .int .i64 (s.pl : Int), .slice none 0 0, .slice ao kids.length ac] 25 from Bk.grown (Bk.alloc Bnb4.out _) hgrow (Ka.alloc K4.out (.cells #[] 0)).2.1); have znb4a := Bnb4a.out.lt; obtain ⟨e0, e1, e2, e3, e4, e5⟩ := Bnb4a.out.c6; obtain ⟨h0, h1, h2, h3, h4, h5⟩ := Bnb4a.out.f6; clear hka hgrow)
        | (go_simp; go_at_call 75; refine (HX0.out _ E (expect wDo st) LT.out.drew.ps).mono ?_; rintro x w4 ⟨ao4, ac4, bo4, bc4, rfl, ho, hN⟩; have L4 := Lib.hid (LT.out.drew.call ho); have Brb4 := Lib.hid (show Bk w4 w.heap.size #[.int .i64 0, .string ⟨#[]⟩, .int .i64 0, .int .i64 0, .slice none 0 0, .slice none 0 0] 25 from Bk.gr Trb.out.drew ho.gr (by omega)); have zrb4 : w.heap.size < w4.heap.size := Brb4.out.lt; have Bnb4 := Lib.hid (show Bk w4 nb #[.int .i64 30, .string ⟨#[]⟩, .int .i64 0, .int .i64 (s.pl : Int), .slice none 0 0, .slice ao kids.length ac] 25 from Bk.gr Tnb.out.drew ho.gr (by omega)); have znb4 : nb < w4.heap.size := Bnb4.out.lt; have K4 := Lib.hid (Ka.gr KT.out.drew1 ho.gr (by omega)); have Nx4 := Lib.hid (show Hn w4 wt.heap.size (((lev 40).x true (expect wDo st)).1) (.slice ao4 (((lev 40).x true (expect wDo st)).1).names.length ac4, .slice bo4 (((lev 40).x true (expect wDo st)).1).kids.length bc4) from hN); obtain ⟨cc0, cc1, cc2, cc3, cc4, cc5⟩ := Bnb4.out.c6; obtain ⟨d0, d1, d2, d3, d4, d5⟩ := Bnb4.out.f6; have hzz : wt.heap.size ≤ w4.heap.size := ho.gr.size; have p1 : (w.heap.size + 1) ≤ wt.heap.size := (by omega); have p2 : nb < wt.heap.size := (by omega); have p3 : (w.heap.size + 1) ≤ w4.heap.size := (by omega); have p5 := Lib.hid (show ∀ k, (.slice ao kids.length ac : Value).ownBlock = some k → k < wt.heap.size from fun k hk => (KT.out.1.lt k hk).2); clear ho hN hzz))
      all_goals
        by_cases h0 : ((lev 40).x true (expect wDo st)).2.k = 0
        · have x0 : (((hd ((lev 40).x true (expect wDo st)).2.ts).k : Int) != 0) = false := i_nt (b := 0) h0
          have HE2 := Lib.hid (show progEnd s.pl (some kids, st) = (.node 30 [] [] (kids ++ [((lev 40).x true (expect wDo st)).1]) 0 s.pl, ((lev 40).x true (expect wDo st)).2) from if_neg (fun e => e h0))
          clear h0
          go_wp2_with fail
          refine (token_any _ E ((lev 40).x true (expect wDo st)).2 d true (L4a.out.set (by omega) 5 _).ps).mono ?_
          rintro x w5 ⟨rfl, hb⟩
          have ho := Out.of_below (L4a.out.set (by omega) 5 _).ps hb
          have L5 := Lib.hid ((L4a.out.set (by omega) 5 _).call ho)
          have Brb5 := Lib.hid (show Bk w5 w.heap.size #[.int .i64 0, .string ⟨#[]⟩, .int .i64 0, .int .i64 0, .slice none 0 0, .slice none 0 0] 25 from Bk.gr (Brb4a.out.other (b' := nb) (by omega) 5 _) ho.gr (by omega))
          have Bnb5 := Lib.hid (show Bk w5 nb #[.int .i64 30, .string ⟨#[]⟩, .int .i64 0, .int .i64 (s.pl : Int), .slice none 0 0, .slice (some ⟨gg4, 0, none⟩) (kids.length + 1) cp4] 25 from Bk.gr (Bnb4a.out.set 5 _) ho.gr (by omega))
          have Kr5 := Lib.hid (Ka.gr (Ka.set K4a.out 5 _) ho.gr (by omega))
          have zrb5 : w.heap.size < w5.heap.size := Brb5.out.lt
          have znb5 : nb < w5.heap.size := Bnb5.out.lt
          clear ho hb L4a Brb4a Bnb4a K4a
          obtain ⟨grb0, grb1, grb2, grb3, grb4, grb5⟩ := Brb5.out.c6
          obtain ⟨frb0, frb1, frb2, frb3, frb4, frb5⟩ := Brb5.out.f6
          obtain ⟨gnb0, gnb1, gnb2, gnb3, gnb4, gnb5⟩ := Bnb5.out.c6
          obtain ⟨fnb0, fnb1, fnb2, fnb3, fnb4, fnb5⟩ := Bnb5.out.f6
          go_wp2
          refine bodyPost_ret (v := .agg #[.int .i64 30, .string ⟨#[]⟩, .int .i64 0, .int .i64 (s.pl : Int), .slice none 0 0, .slice (some ⟨gg4, 0, none⟩) (kids.length + 1) cp4]) (by simp [results, Tryz.results43, go_sem, grb0, grb1, grb2, grb3, grb4, grb5]) rfl ?_
          rw [← HE.out, HE2.out]
          refine ⟨true, none, 0, some ⟨gg4, 0, none⟩, cp4, ?_, ((((((L5.out.set (by omega) 0 _).set (by omega) 1 _).set (by omega) 2 _).set (by omega) 3 _).set (by omega) 4 _).set (by omega) 5 _).out, ?_⟩
          · show (Ending.returned (.agg #[.int .i64 30, .string ⟨#[]⟩, .int .i64 0, .int .i64 (s.pl : Int), .slice none 0 0, .slice (some ⟨gg4, 0, none⟩) (kids.length + 1) cp4]) : Ending) = .returned (.agg #[.int .i64 30, .string ⟨#[]⟩, .int .i64 0, .int .i64 (s.pl : Int), .slice none 0 0, .slice (some ⟨gg4, 0, none⟩) (kids ++ [((lev 40).x true (expect wDo st)).1]).length cp4])
            rw [List.length_append]; rfl
          · show Hn _ w.heap.size (.node 30 [] [] (kids ++ [((lev 40).x true (expect wDo st)).1]) 0 s.pl) (.slice none 0 0, .slice (some ⟨gg4, 0, none⟩) (kids ++ [((lev 40).x true (expect wDo st)).1]).length cp4)
            rw [List.length_append]; exact (Ka.has (Ka.other (b := w.heap.size) (Ka.other (b := w.heap.size) (Ka.other (b := w.heap.size) (Ka.other (b := w.heap.size) (Ka.other (b := w.heap.size) (Ka.other (b := w.heap.size) Kr5.out (by omega) 0 _) (by omega) 1 _) (by omega) 2 _) (by omega) 3 _) (by omega) 4 _) (by omega) 5 _) 30 [] 0 s.pl).mono (by omega)
        · have x0 : (((hd ((lev 40).x true (expect wDo st)).2.ts).k : Int) != 0) = true := i_nf (b := 0) h0
          have HE2 := Lib.hid (show progEnd s.pl (some kids, st) = (zero, ((lev 40).x true (expect wDo st)).2.fail 14) from if_pos h0)
          clear h0
          go_wp2_with fail
          refine (token_any _ E ((lev 40).x true (expect wDo st)).2 d true (L4a.out.set (by omega) 5 _).ps).mono ?_
          rintro x w5 ⟨rfl, hb⟩
          have ho := Out.of_below (L4a.out.set (by omega) 5 _).ps hb
          have L5 := Lib.hid ((L4a.out.set (by omega) 5 _).call ho)
          have Brb5 := Lib.hid (show Bk w5 w.heap.size #[.int .i64 0, .string ⟨#[]⟩, .int .i64 0, .int .i64 0, .slice none 0 0, .slice none 0 0] 25 from Bk.gr (Brb4a.out.other (b' := nb) (by omega) 5 _) ho.gr (by omega))
          have Bnb5 := Lib.hid (show Bk w5 nb #[.int .i64 30, .string ⟨#[]⟩, .int .i64 0, .int .i64 (s.pl : Int), .slice none 0 0, .slice (some ⟨gg4, 0, none⟩) (kids.length + 1) cp4] 25 from Bk.gr (Bnb4a.out.set 5 _) ho.gr (by omega))
          have Kr5 := Lib.hid (Ka.gr (Ka.set K4a.out 5 _) ho.gr (by omega))
          have zrb5 : w.heap.size < w5.heap.size := Brb5.out.lt
          have znb5 : nb < w5.heap.size := Bnb5.out.lt
          clear ho hb L4a Brb4a Bnb4a K4a
          obtain ⟨grb0, grb1, grb2, grb3, grb4, grb5⟩ := Brb5.out.c6
          obtain ⟨frb0, frb1, frb2, frb3, frb4, frb5⟩ := Brb5.out.f6
          obtain ⟨gnb0, gnb1, gnb2, gnb3, gnb4, gnb5⟩ := Bnb5.out.c6
          obtain ⟨fnb0, fnb1, fnb2, fnb3, fnb4, fnb5⟩ := Bnb5.out.f6
          go_wp2_with fail
          refine (fail_any _ E ((lev 40).x true (expect wDo st)).2 d true L5.out.ps 14).mono ?_
          rintro x w6 ⟨rfl, ho⟩
          have L6 := Lib.hid (L5.out.call ho)
          have Brb6 := Lib.hid (show Bk w6 w.heap.size #[.int .i64 0, .string ⟨#[]⟩, .int .i64 0, .int .i64 0, .slice none 0 0, .slice none 0 0] 25 from Bk.gr Brb5.out ho.gr (by omega))
          have Bnb6 := Lib.hid (show Bk w6 nb #[.int .i64 30, .string ⟨#[]⟩, .int .i64 0, .int .i64 (s.pl : Int), .slice none 0 0, .slice (some ⟨gg4, 0, none⟩) (kids.length + 1) cp4] 25 from Bk.gr Bnb5.out ho.gr (by omega))
          have Kr6 := Lib.hid (Ka.gr Kr5.out ho.gr (by omega))
          have zrb6 : w.heap.size < w6.heap.size := Brb6.out.lt
          have znb6 : nb < w6.heap.size := Bnb6.out.lt
          clear ho L5 Brb5 Bnb5 Kr5 grb0 grb1 grb2 grb3 grb4 grb5 frb0 frb1 frb2 frb3 frb4 frb5 gnb0 gnb1 gnb2 gnb3 gnb4 gnb5 fnb0 fnb1 fnb2 fnb3 fnb4 fnb5
          obtain ⟨grb0, grb1, grb2, grb3, grb4, grb5⟩ := Brb6.out.c6
          obtain ⟨frb0, frb1, frb2, frb3, frb4, frb5⟩ := Brb6.out.f6
          go_wp2
          refine bodyPost_ret (v := .agg #[.int .i64 0, .string ⟨#[]⟩, .int .i64 0, .int .i64 0, .slice none 0 0, .slice none 0 0]) (by simp [results, Tryz.results43, go_sem, grb0, grb1, grb2, grb3, grb4, grb5]) rfl ?_
          rw [← HE.out, HE2.out]
          exact ⟨true, none, 0, none, 0, rfl, ((((((L6.out.set (by omega) 0 _).set (by omega) 1 _).set (by omega) 2 _).set (by omega) 3 _).set (by omega) 4 _).set (by omega) 5 _).out, hasN_leaf _ _ _ _ _ _⟩

end Go.Proofs.YtlcapkgbbgpdmaaGreatDoor.QC

/- All levels: the program's parser is the mirror. -/
namespace Go.Proofs.YtlcapkgbbgpdmaaGreatDoor.QD
open Go.RowKit Go.Proofs.YtlcapkgbbgpdmaaGreatDoor.P Go.Proofs.YtlcapkgbbgpdmaaGreatDoor.A Go.Proofs.YtlcapkgbbgpdmaaGreatDoor.TK Go.Proofs.YtlcapkgbbgpdmaaGreatDoor.TO Go.Proofs.YtlcapkgbbgpdmaaGreatDoor.GR Go.Proofs.YtlcapkgbbgpdmaaGreatDoor.MP Go.Proofs.YtlcapkgbbgpdmaaGreatDoor.MS Go.Proofs.YtlcapkgbbgpdmaaGreatDoor.YR Go.Proofs.YtlcapkgbbgpdmaaGreatDoor.PN Go.Proofs.YtlcapkgbbgpdmaaGreatDoor.PS Go.Proofs.YtlcapkgbbgpdmaaGreatDoor.PA Go.Proofs.YtlcapkgbbgpdmaaGreatDoor.PB Go.Proofs.YtlcapkgbbgpdmaaGreatDoor.PD Go.Proofs.YtlcapkgbbgpdmaaGreatDoor.PG Go.Proofs.YtlcapkgbbgpdmaaGreatDoor.PH Go.Proofs.YtlcapkgbbgpdmaaGreatDoor.PP Go.Proofs.YtlcapkgbbgpdmaaGreatDoor.PR Go.Proofs.YtlcapkgbbgpdmaaGreatDoor.PT Go.Proofs.YtlcapkgbbgpdmaaGreatDoor.PX Go.Proofs.YtlcapkgbbgpdmaaGreatDoor.PY Go.Proofs.YtlcapkgbbgpdmaaGreatDoor.PZ Go.Proofs.YtlcapkgbbgpdmaaGreatDoor.QA Go.Proofs.YtlcapkgbbgpdmaaGreatDoor.QB Go.Proofs.YtlcapkgbbgpdmaaGreatDoor.QC
set_option linter.unusedVariables false
set_option maxRecDepth 100000

theorem ty_ok : ∀ g d, d + g = 40 → ∀ j, DC 187 (levT g) d j
  | 0, d, h, j => by
    obtain rfl : d = 40 := by omega
    exact deeper_none _ j (.inr (.inr (.inr rfl)))
  | g + 1, d, h, j => deeper_full _ _ d j (.inr (.inr (.inr rfl))) (tyapp_any (ty_ok g (d + 1) (by omega) j) (tyatom_lt (levT_le g))) (by omega)
theorem atoms_ok {L : Lev} {d : Nat} (hL : LevOK L d) (hS : LSh L) (j : Bool) : NC 131 (seqP L j) d j :=
  seq_any hL j (cmp_any (sum_any (prod_any (app_any (atom_any hL j) (atom_lt hS)) (app_le hS)) (prod_le hS)))
theorem lev_ok : ∀ g d, d + g = 40 → LevOK (lev g) d
  | 0, d, h => by
    obtain rfl : d = 40 := by omega
    exact ⟨fun j => deeper_none _ j (.inl rfl), fun j => deeper_none _ j (.inr (.inl rfl)), fun j => deeper_none _ j (.inr (.inr (.inl rfl)))⟩
  | g + 1, d, h =>
    have hL := lev_ok g (d + 1) (by omega)
    ⟨fun j => deeper_full _ _ d j (.inl rfl) (anyExp_any hL j (atoms_ok hL (lev_le g) j)) (by omega),
     fun j => deeper_full _ _ d j (.inr (.inl rfl)) (fun_any hL j) (by omega),
     fun j => deeper_full _ _ d j (.inr (.inr (.inl rfl))) (pat_any hL j) (by omega)⟩
theorem prog_of {L : Lev} {T : Part} (hl : lev 40 = L) (ht : levT 40 = T) (hL : LevOK L 0) (hT : DC 187 T 0 false) : ∀ w E s, PS w E s 0 false → Calls Tryz.prog 43 #[pp E] w (GOut w E (progP s) 0) := by
  subst hl; subst ht
  have h1 : NC 165 (levT 40) 0 false := outer_any hT
  have h2 := def_any h1
  have h3 := typeDecl_any h2
  have h4 : NC 73 declP 0 false := decl_any hL h3
  have h5 : NC 75 ((lev 40).x true) 0 true := exp_any (hL.x true)
  exact program_any h4 h5
theorem prog_ok : ∀ w E s, PS w E s 0 false → Calls Tryz.prog 43 #[pp E] w (GOut w E (progP s) 0) :=
  prog_of rfl rfl (lev_ok 40 0 (by decide)) (ty_ok 40 0 (by decide) false)
end Go.Proofs.YtlcapkgbbgpdmaaGreatDoor.QD

/- The program's parse.Program. -/
namespace Go.Proofs.YtlcapkgbbgpdmaaGreatDoor.QE
open Go.RowKit Go.Proofs.YtlcapkgbbgpdmaaGreatDoor.P Go.Proofs.YtlcapkgbbgpdmaaGreatDoor.A Go.Proofs.YtlcapkgbbgpdmaaGreatDoor.TK Go.Proofs.YtlcapkgbbgpdmaaGreatDoor.TO Go.Proofs.YtlcapkgbbgpdmaaGreatDoor.TL Go.Proofs.YtlcapkgbbgpdmaaGreatDoor.GR Go.Proofs.YtlcapkgbbgpdmaaGreatDoor.MP  Go.Proofs.YtlcapkgbbgpdmaaGreatDoor.YR Go.Proofs.YtlcapkgbbgpdmaaGreatDoor.YT Go.Proofs.YtlcapkgbbgpdmaaGreatDoor.PN Go.Proofs.YtlcapkgbbgpdmaaGreatDoor.PS Go.Proofs.YtlcapkgbbgpdmaaGreatDoor.PA Go.Proofs.YtlcapkgbbgpdmaaGreatDoor.PB Go.Proofs.YtlcapkgbbgpdmaaGreatDoor.PC Go.Proofs.YtlcapkgbbgpdmaaGreatDoor.PD
set_option linter.unusedVariables false
set_option maxRecDepth 100000

/-- What a source is parsed to: a node, a place, an error. -/
def parsed (l : List UInt8) : Tree × Nat × Nat :=
  if (toks l).2.2 = 0 then
    (if (progP ⟨(toks l).1, 0, 0⟩).2.e = 0 then ((progP ⟨(toks l).1, 0, 0⟩).1, 0, 0) else (zero, (progP ⟨(toks l).1, 0, 0⟩).2.p, (progP ⟨(toks l).1, 0, 0⟩).2.e))
  else (zero, (toks l).2.1, (toks l).2.2)
def ROut (w : World) (r : Tree × Nat × Nat) (x : Ending) (w' : World) : Prop :=
  ∃ ao ac bo bc, x = .returned (.tuple #[.agg #[.int .i64 (r.1.kind : Int), .string ⟨r.1.text.toArray⟩, .int .i64 (r.1.num : Int), .int .i64 (r.1.pl : Int), .slice ao r.1.names.length ac, .slice bo r.1.kids.length bc], .int .i64 (r.2.1 : Int), .int .i64 (r.2.2 : Int)]) ∧ Below w.heap.size w w' ∧ Hn w' w.heap.size r.1 (.slice ao r.1.names.length ac, .slice bo r.1.kids.length bc)
theorem ends_of : ∀ {ts : List Tok}, 0 < ts.length → (∀ (j : Nat) (hj : j < ts.length), (ts[j].k = 0 ↔ j + 1 = ts.length)) → PS.Ends ts
  | [], h, _ => absurd h (by decide)
  | [t], _, h => (h 0 (by simp)).2 rfl
  | t :: u :: r, _, h => ⟨fun e => by have := (h 0 (by simp)).1 e; simp at this, ends_of (ts := u :: r) (by simp) (fun j hj => by
      have := h (j + 1) (by simpa using hj)
      simp at this ⊢
      exact this)⟩
theorem i_nt {a b : Nat} (h : a = b) : ((a : Int) != (b : Int)) = false := by rw [bne, i_eq h]; rfl
theorem i_nf {a b : Nat} (h : a ≠ b) : ((a : Int) != (b : Int)) = true := by rw [bne, i_ne h]; rfl
theorem below_drew {w0 w : World} {B : Nat} (h : Below B w0 w) : Below B w0 w.drew := h.trans (b := w) ⟨rfl, rfl, rfl, Nat.le_refl _, fun _ _ => rfl⟩
theorem set_below {w0 w : World} {b : Nat} {B : Nat} (h : Below B w0 w) (hb : B ≤ b) (i : Nat) (v : Value) : Below B w0 (w.setCell ⟨b, i, none⟩ v) := h.setCell hb v

theorem program_bad (s : ByteArray) (w : World) (hs : s.size ≤ 2000) (hd : Dig w) (he : (toks s.data.toList).2.2 ≠ 0) : Calls Tryz.prog 21 #[.string s] w (ROut w (zero, (toks s.data.toList).2.1, (toks s.data.toList).2.2)) := by
  obtain ⟨L, hL⟩ : ∃ L, toks s.data.toList = L := ⟨_, rfl⟩
  have HT := fun W hW => tokens_short s W hs hW
  rw [hL] at HT he ⊢
  have hd1 := Lib.hid (show Dig (w.alloc (.cells #[.int .i64 0, .string ⟨#[]⟩, .int .i64 0, .int .i64 0, .slice none 0 0, .slice none 0 0] 25)) from hd.below ((Below.refl _ _).alloc (Nat.le_refl _) _))
  have hB0 := Lib.hid ((Below.refl w.heap.size w).alloc (Nat.le_refl _) (.cells #[.int .i64 0, .string ⟨#[]⟩, .int .i64 0, .int .i64 0, .slice none 0 0, .slice none 0 0] 25))
  have hx : ((L.2.2 : Int) != 0) = true := i_nf (b := 0) he
  clear hd hL he hs
  go_enter Tryz.func21, Tryz.ntmps21
  go_wp2_with fail
  refine (HT _ hd1.out).mono ?_
  rintro x w1 ⟨v, rfl, hT, hb⟩
  have B1 := Lib.hid (show Bk w1 w.heap.size #[.int .i64 0, .string ⟨#[]⟩, .int .i64 0, .int .i64 0, .slice none 0 0, .slice none 0 0] 25 from (hb.block _ (by simp)).trans (heap_at _ _ _ rfl))
  have hB1 := Lib.hid (bnext hB0.out hb)
  have z1 := B1.out.lt
  obtain ⟨g0, g1, g2, g3, g4, g5⟩ := B1.out.c6
  obtain ⟨f0, f1, f2, f3, f4, f5⟩ := B1.out.f6
  clear hT hb hd1 hB0
  go_wp2
  refine bodyPost_ret (v := .tuple #[.agg #[.int .i64 0, .string ⟨#[]⟩, .int .i64 0, .int .i64 0, .slice none 0 0, .slice none 0 0], .int .i64 (L.2.1 : Int), .int .i64 (L.2.2 : Int)]) (by simp [results, Tryz.results21, go_sem, g0, g1, g2, g3, g4, g5]) rfl ?_
  exact ⟨none, 0, none, 0, rfl, (set_below (set_below (set_below (set_below (set_below (set_below hB1.out (Nat.le_refl _) 0 _) (Nat.le_refl _) 1 _) (Nat.le_refl _) 2 _) (Nat.le_refl _) 3 _) (Nat.le_refl _) 4 _) (Nat.le_refl _) 5 _), hasN_leaf _ _ _ _ _ _⟩
theorem gr_below {r B : Nat} {w0 w w' : World} (h : Below B w0 w) (hg : Gr r w w') (hr : B ≤ r) (hB : B ≤ w.heap.size) : Below B w0 w' :=
  h.trans ⟨hg.os, hg.tape, hg.output, hg.size, fun k hk => hg.block k (by omega) (fun e => by have := Option.some.inj e; omega)⟩
def Whole : Prop := ∀ w E s, PS w E s 0 false → Calls Tryz.prog 43 #[pp E] w fun x w' => ∃ j, NOut w E (progP s) 0 j x w'
set_option maxHeartbeats 400000 in
theorem program_good (HG : Whole) (s : ByteArray) (w : World) (hs : s.size ≤ 2000) (hd : Dig w) (he : (toks s.data.toList).2.2 = 0) : Calls Tryz.prog 21 #[.string s] w (ROut w (parsed s.data.toList)) := by
  obtain ⟨ts, ht, hlen, hrun⟩ := toks_ok he
  have hEnds : PS.Ends ts := ends_of (toks_good hrun).1 (fun j hj => ((toks_good hrun).2 j hj).1)
  have hcount : ts.length ≤ 4000 := by have := toks_len hrun; omega
  have HT := fun W hW => tokens_short s W hs hW
  have hpp : parsed s.data.toList = if (progP ⟨ts, 0, 0⟩).2.e = 0 then ((progP ⟨ts, 0, 0⟩).1, 0, 0) else (zero, (progP ⟨ts, 0, 0⟩).2.p, (progP ⟨ts, 0, 0⟩).2.e) := by
    unfold parsed; rw [ht]; rfl
  rw [hpp]
  rw [ht] at HT
  have HP := fun W E hW => HG W E ⟨ts, 0, 0⟩ hW
  generalize progP ⟨ts, 0, 0⟩ = P at HP ⊢
  obtain ⟨R, hR⟩ : ∃ R, (if P.2.e = 0 then (P.1, 0, 0) else (zero, P.2.p, P.2.e)) = R := ⟨_, rfl⟩
  rw [hR]
  have HR := Lib.hid hR
  clear hR
  have hd1 := Lib.hid (show Dig (w.alloc (.cells #[.int .i64 0, .string ⟨#[]⟩, .int .i64 0, .int .i64 0, .slice none 0 0, .slice none 0 0] 25)) from hd.below ((Below.refl _ _).alloc (Nat.le_refl _) _))
  have hB0 := Lib.hid ((Below.refl w.heap.size w).alloc (Nat.le_refl _) (.cells #[.int .i64 0, .string ⟨#[]⟩, .int .i64 0, .int .i64 0, .slice none 0 0, .slice none 0 0] 25))
  clear hd he hs ht hrun hlen hpp
  have hE0 := Lib.hid hEnds
  have hc0 := Lib.hid hcount
  clear hEnds hcount
  go_enter Tryz.func21, Tryz.ntmps21
  go_wp2_with fail
  refine (HT _ hd1.out).mono ?_
  rintro x w1 ⟨v, rfl, hT, hb⟩
  have B1 := Lib.hid (show Bk w1 w.heap.size #[.int .i64 0, .string ⟨#[]⟩, .int .i64 0, .int .i64 0, .slice none 0 0, .slice none 0 0] 25 from (hb.block _ (by simp)).trans (heap_at _ _ _ rfl))
  have hB1 := Lib.hid (bnext hB0.out hb)
  have z1 := B1.out.lt
  obtain ⟨ao, cap, rfl, ⟨hc1, hc2⟩, hrow⟩ := hT
  rcases hrow with hnil | ⟨b, off, rfl, hbl, hcell⟩
  · exact absurd hE0.out (by rw [show ts = [] from hnil]; exact fun h => h)
  have hcell0 := Lib.hid hcell
  have hc10 := Lib.hid hc1
  have hc20 := Lib.hid hc2
  clear hb hd1 hB0 hcell hc1 hc2
  go_wp2_with fail
  refine (exps_any _).mono ?_
  rintro x w2 ⟨rfl, hm1, hb2⟩
  have M1 := Lib.hid hm1
  have H2 := Lib.hid hb2
  have z2 : w1.heap.size < w2.heap.size := (Array.getElem?_eq_some_iff.1 hm1).1
  clear hm1 hb2
  go_wp2_with fail
  refine (atoms_any _).mono ?_
  rintro x w3 ⟨rfl, hm2, hb3⟩
  have M2 := Lib.hid hm2
  have H3 := Lib.hid hb3
  have z3 : w2.heap.size < w3.heap.size := (Array.getElem?_eq_some_iff.1 hm2).1
  clear hm2 hb3
  obtain ⟨E, hE⟩ : ∃ E : En, E = ⟨w3.heap.size, b, w1.heap.size, w2.heap.size⟩ := ⟨_, rfl⟩
  have PS0 := Lib.hid (show PS (w3.alloc (.cells #[.slice (some ⟨b, off, none⟩) ts.length cap, .map (some w1.heap.size), .map (some w2.heap.size), .int .i64 0, .bool false, .int .i64 0, .int .i64 0] 75)) E ⟨ts, 0, 0⟩ 0 false from by
    subst hE
    refine ⟨⟨off, cap, heap_at _ _ _ rfl, hc10.out, ⟨hc20.out, hc0.out⟩, fun i hi k hk => ?_⟩, hE0.out, ⟨?_, ?_, ?_, ?_⟩, ?_, ?_, ?_, Nat.zero_le _⟩
    · refine Eq.trans ?_ (hcell0.out i hi k hk)
      refine Eq.trans (World.cell?_of_block (w := w3) (a := ⟨b, _, none⟩) (Below.heap_alloc _ _ _ (by show b < w3.heap.size; omega))) ?_
      refine Eq.trans (World.cell?_of_block (w := w2) (a := ⟨b, _, none⟩) (H3.out.block b (by omega))) ?_
      exact World.cell?_of_block (w := w1) (a := ⟨b, _, none⟩) (H2.out.block b hbl)
    · simp
    · simp; omega
    · simp; omega
    · simp; omega
    · show b ≠ w3.heap.size; omega
    · exact (Below.heap_alloc _ _ _ (by show w1.heap.size < w3.heap.size; omega)).trans ((H3.out.block _ z2).trans M1.out)
    · exact (Below.heap_alloc _ _ _ (by show w2.heap.size < w3.heap.size; omega)).trans M2.out)
  have hB3 := Lib.hid (bnext (bnext hB1.out H2.out) H3.out)
  have B3 := Lib.hid (show Bk w3 w.heap.size #[.int .i64 0, .string ⟨#[]⟩, .int .i64 0, .int .i64 0, .slice none 0 0, .slice none 0 0] 25 from (H3.out.block _ (by omega)).trans ((H2.out.block _ z1).trans B1.out))
  have hEr := Lib.hid (show w3.heap.size = E.r from by rw [hE])
  have hpp := Lib.hid (show pp E = .pointer (some ⟨w3.heap.size, 0, none⟩) from by rw [hE])
  clear hE B1 hB1 H2 H3 M1 M2 hcell0 hc10 hc20 hE0 hc0
  go_wp2_with fail
  have hcall := HP _ E PS0.out
  rw [hpp.out] at hcall
  have hEr1 := hEr.out
  refine hcall.mono ?_
  rintro x w4 ⟨j, no, nc, ko, kc, rfl, ho, hN⟩
  have B4 := Lib.hid (show Bk w4 w.heap.size #[.int .i64 0, .string ⟨#[]⟩, .int .i64 0, .int .i64 0, .slice none 0 0, .slice none 0 0] 25 from Bk.gr (B3.out.alloc _) ho.gr (by omega))
  have hB4 := Lib.hid (gr_below (hB3.out.alloc (by omega) _) ho.gr (by omega) (by simp; omega))
  have N4 := Lib.hid (show Hn w4 (w3.heap.size + 1) P.1 (.slice no P.1.names.length nc, .slice ko P.1.kids.length kc) from hN.mono (by simp))
  have z4 := B4.out.lt
  obtain ⟨off', cap', hbk, _⟩ := ho.ps.cells
  have z5 : E.r < w4.heap.size := hbk.lt
  have c5 := pc5 hbk
  have c6 := pc6 hbk
  rw [← hEr1] at c5 c6 z5
  obtain ⟨g0, g1, g2, g3, g4, g5⟩ := B4.out.c6
  obtain ⟨f0, f1, f2, f3, f4, f5⟩ := B4.out.f6
  have hne : w.heap.size < w3.heap.size := by omega
  clear hEr1 hcall HP ho hN hbk PS0 B3 hB3
  by_cases h0 : P.2.e = 0
  · have hx : ((P.2.e : Int) != 0) = false := i_nt (b := 0) h0
    have HQ := Lib.hid ((if_pos h0).symm.trans HR.out)
    clear h0
    go_wp2
    refine bodyPost_ret (v := .tuple #[.agg #[.int .i64 (P.1.kind : Int), .string ⟨P.1.text.toArray⟩, .int .i64 (P.1.num : Int), .int .i64 (P.1.pl : Int), .slice no P.1.names.length nc, .slice ko P.1.kids.length kc], .int .i64 0, .int .i64 0]) (by simp [results, Tryz.results21, go_sem, g0, g1, g2, g3, g4, g5, z4]) rfl ?_
    rw [← HQ.out]
    refine ⟨_, _, _, _, rfl, ?_, ?_⟩
    · exact Below.alloc (set_below (set_below (set_below (set_below (set_below (set_below hB4.out (Nat.le_refl _) 0 _) (Nat.le_refl _) 1 _) (Nat.le_refl _) 2 _) (Nat.le_refl _) 3 _) (Nat.le_refl _) 4 _) (Nat.le_refl _) 5 _) (by simp only [set_size]; omega) _
    · exact ((Hn.put6 N4.out (by omega) _ _ _ _ _ _).alloc _).mono (by omega)
  · have hx : ((P.2.e : Int) != 0) = true := i_nf (b := 0) h0
    have HQ := Lib.hid ((if_neg h0).symm.trans HR.out)
    clear h0
    go_wp2
    go_region
    all_goals go_wp2
    all_goals refine bodyPost_ret (v := .tuple #[.agg #[.int .i64 0, .string ⟨#[]⟩, .int .i64 0, .int .i64 0, .slice none 0 0, .slice none 0 0], .int .i64 (P.2.p : Int), .int .i64 (P.2.e : Int)]) (by simp [results, Tryz.results21, go_sem, g0, g1, g2, g3, g4, g5, z4]) rfl ?_
    all_goals rw [← HQ.out]
    all_goals refine ⟨none, 0, none, 0, rfl, ?_, hasN_leaf _ _ _ _ _ _⟩
    all_goals exact below_drew (Below.alloc (set_below (set_below (set_below (set_below (set_below (set_below hB4.out (Nat.le_refl _) 0 _) (Nat.le_refl _) 1 _) (Nat.le_refl _) 2 _) (Nat.le_refl _) 3 _) (Nat.le_refl _) 4 _) (Nat.le_refl _) 5 _) (by simp only [set_size]; omega) _)
theorem program_with (HG : Whole) (s : ByteArray) (w : World) (hs : s.size ≤ 2000) (hd : Dig w) : Calls Tryz.prog 21 #[.string s] w (ROut w (parsed s.data.toList)) := by
  by_cases he : (toks s.data.toList).2.2 = 0
  · exact program_good HG s w hs hd he
  · have e : parsed s.data.toList = (zero, (toks s.data.toList).2.1, (toks s.data.toList).2.2) := by unfold parsed; rw [if_neg he]
    rw [e]; exact program_bad s w hs hd he
end Go.Proofs.YtlcapkgbbgpdmaaGreatDoor.QE

/- The program's parse.Program is the mirror's. -/
namespace Go.Proofs.YtlcapkgbbgpdmaaGreatDoor.QF
open Go.RowKit Go.Proofs.YtlcapkgbbgpdmaaGreatDoor.P Go.Proofs.YtlcapkgbbgpdmaaGreatDoor.A Go.Proofs.YtlcapkgbbgpdmaaGreatDoor.TK Go.Proofs.YtlcapkgbbgpdmaaGreatDoor.GR Go.Proofs.YtlcapkgbbgpdmaaGreatDoor.MP Go.Proofs.YtlcapkgbbgpdmaaGreatDoor.YT Go.Proofs.YtlcapkgbbgpdmaaGreatDoor.PN Go.Proofs.YtlcapkgbbgpdmaaGreatDoor.PD Go.Proofs.YtlcapkgbbgpdmaaGreatDoor.PS Go.Proofs.YtlcapkgbbgpdmaaGreatDoor.QC Go.Proofs.YtlcapkgbbgpdmaaGreatDoor.QD Go.Proofs.YtlcapkgbbgpdmaaGreatDoor.QE
theorem program_ok (s : ByteArray) (w : World) (hs : s.size ≤ 2000) (hd : Dig w) : Calls Tryz.prog 21 #[.string s] w (ROut w (parsed s.data.toList)) :=
  program_with (fun w E s h => prog_ok w E s h) s w hs hd
theorem program_long (s : ByteArray) (w : World) (hs : 2000 < s.size) (hm : s.size ≤ maxLen) : Calls Tryz.prog 21 #[.string s] w (ROut w (zero, 0, 12)) := by
  have HT := fun W => tokens_long s W hs hm
  have hB0 := Lib.hid ((Below.refl w.heap.size w).alloc (Nat.le_refl _) (.cells #[.int .i64 0, .string ⟨#[]⟩, .int .i64 0, .int .i64 0, .slice none 0 0, .slice none 0 0] 25))
  clear hs hm
  go_enter Tryz.func21, Tryz.ntmps21
  go_wp2_with fail
  refine (HT _).mono ?_
  rintro x w1 ⟨rfl, rfl⟩
  go_wp2
  refine bodyPost_ret (v := .tuple #[.agg #[.int .i64 0, .string ⟨#[]⟩, .int .i64 0, .int .i64 0, .slice none 0 0, .slice none 0 0], .int .i64 0, .int .i64 12]) (by simp [results, Tryz.results21, go_sem]) rfl ?_
  exact ⟨none, 0, none, 0, rfl, hB0.out, hasN_leaf _ _ _ _ _ _⟩
/-- A source of any length. -/
theorem program_all (s : ByteArray) (w : World) (hm : s.size ≤ maxLen) (hd : Dig w) : Calls Tryz.prog 21 #[.string s] w (ROut w (parsed s.data.toList)) := by
  by_cases hs : s.size ≤ 2000
  · exact program_ok s w hs hd
  · have e : toks s.data.toList = ([], 0, 12) := by
      unfold toks; rw [if_neg (by show ¬ s.data.toList.length ≤ 2000; rw [Array.length_toList]; exact hs)]
    have e2 : parsed s.data.toList = (zero, 0, 12) := by unfold parsed; rw [e]; rfl
    rw [e2]; exact program_long s w (by omega) hm
end Go.Proofs.YtlcapkgbbgpdmaaGreatDoor.QF

/- parse.Program of any source answers what the grammar says. -/
namespace Go.Proofs.YtlcapkgbbgpdmaaGreatDoor.QG
open Go.RowKit Go.Proofs.YtlcapkgbbgpdmaaGreatDoor.P Go.Proofs.YtlcapkgbbgpdmaaGreatDoor.A Go.Proofs.YtlcapkgbbgpdmaaGreatDoor.QE
set_option linter.unusedVariables false
set_option maxRecDepth 100000

theorem parsed_eq (l : List UInt8) : parsed l = MB.gparsed l := (MB.gparsed_eq l).symm
theorem program_is (s : ByteArray) (w : World) (hm : s.size ≤ maxLen) (hd : Dig w) : Calls Tryz.prog 21 #[.string s] w (ROut w (MB.gparsed s.data.toList)) := by
  rw [← parsed_eq]; exact QF.program_all s w hm hd
end Go.Proofs.YtlcapkgbbgpdmaaGreatDoor.QG

/- The document's examples, plainly. Nothing of the program is in sight. -/
namespace Go.Proofs.YtlcapkgbbgpdmaaGreatDoor.DV
open Go.Proofs.YtlcapkgbbgpdmaaGreatDoor.TK Go.Proofs.YtlcapkgbbgpdmaaGreatDoor.GR Go.Proofs.YtlcapkgbbgpdmaaGreatDoor.MB
set_option linter.unusedVariables false
set_option maxRecDepth 100000

def lit (n p : Nat) : Tree := .node 1 [] [] [] n p
def nam (c : UInt8) (p : Nat) : Tree := .node 4 [c] [] [] 0 p
def ex1 : Tree := .node 30 [] [] [.node 13 [43] [] [lit 1 3, .node 13 [42] [] [lit 2 7, lit 3 11] 0 7] 0 3] 0 0
def ex2 : Tree := .node 30 [] [] [.node 7 [] [] [.node 7 [] [] [nam 102 3, nam 120 5] 0 3, nam 121 7] 0 3] 0 0
theorem g1 : gparsed [100, 111, 32, 49, 32, 43, 32, 50, 32, 42, 32, 51] = (ex1, 0, 0) := by rfl
theorem g2 : gparsed [100, 111, 32, 102, 32, 120, 32, 121] = (ex2, 0, 0) := by rfl
theorem g3 : gparsed [100, 111, 32, 40] = (MP.zero, 4, 14) := by rfl
end Go.Proofs.YtlcapkgbbgpdmaaGreatDoor.DV

/- A node's kids in memory; the document's examples of law05. -/
namespace Go.Proofs.YtlcapkgbbgpdmaaGreatDoor.QH
open Go.RowKit Go.Proofs.YtlcapkgbbgpdmaaGreatDoor.P Go.Proofs.YtlcapkgbbgpdmaaGreatDoor.A Go.Proofs.YtlcapkgbbgpdmaaGreatDoor.GR Go.Proofs.YtlcapkgbbgpdmaaGreatDoor.PN Go.Proofs.YtlcapkgbbgpdmaaGreatDoor.PS Go.Proofs.YtlcapkgbbgpdmaaGreatDoor.QE Go.Proofs.YtlcapkgbbgpdmaaGreatDoor.DV
set_option linter.unusedVariables false
set_option maxRecDepth 100000

theorem nrow_at : ∀ (ks : List Tree) (qs : List (Value × Value)) (i c : Nat) (hi : i < ks.length) (hq : i < qs.length), c < 6 → (nrow ks qs)[6 * i + c]? = (ncells ks[i] qs[i])[c]?
  | t :: ts, q :: qs, 0, c, hi, hq, hc => by
    show (ncells t q ++ nrow ts qs)[6 * 0 + c]? = _
    rw [List.getElem?_append_left (by simp [ncells]; omega)]
    simp
  | t :: ts, q :: qs, i + 1, c, hi, hq, hc => by
    show (ncells t q ++ nrow ts qs)[6 * (i + 1) + c]? = _
    rw [List.getElem?_append_right (by simp [ncells]; omega), show 6 * (i + 1) + c - (ncells t q).length = 6 * i + c by simp [ncells]; omega, nrow_at ts qs i c (by simpa using hi) (by simpa using hq) hc]
    rfl
  | [], _, _, _, hi, _, _ => absurd hi (by simp)
  | _ :: _, [], _, _, _, hq, _ => absurd hq (by simp)
theorem hasNs_at {w : World} {S : Nat → Prop} : ∀ {ks : List Tree} {qs : List (Value × Value)}, HasNs w S ks qs → ∀ (i : Nat) (hi : i < ks.length) (hq : i < qs.length), HasN w S ks[i] qs[i]
  | t :: ts, q :: qs, h, 0, _, _ => h.1
  | t :: ts, q :: qs, h, i + 1, hi, hq => hasNs_at h.2 i (by simpa using hi) (by simpa using hq)
  | [], _, _, _, hi, _ => absurd hi (by simp)
  | _ :: _, [], _, _, _, hq => absurd hq (by simp)
/-- A node's kids: their row, and each of them. -/
theorem kids_row {w : World} {S : Nat → Prop} {t : Tree} {q : Value × Value} (h : HasN w S t q) (h0 : 0 < t.kids.length) : ∃ b off cap, ∃ f : Nat → Value × Value,
    q.2 = .slice (some ⟨b, off, none⟩) t.kids.length cap ∧ t.kids.length ≤ cap ∧ S b ∧ b < w.heap.size ∧ ∀ (i : Nat) (hi : i < t.kids.length), HasN w S t.kids[i] (f i) ∧ ∀ (c : Nat) (u : Value), c < 6 → (ncells t.kids[i] (f i))[c]? = some u → w.cell? ⟨b, off + (6 * i + c), none⟩ = some u := by
  cases t with
  | node k tx nms kids nu p =>
    obtain ⟨h1, qs, ⟨ao, cap, hv, hc, h2⟩, h3⟩ := h
    have hlen := h3.len
    rcases h2 with h2 | ⟨b, off, rfl, hS, hlt, _, hcell⟩
    · exact absurd h0 (by show ¬ 0 < kids.length; omega)
    · refine ⟨b, off, cap, fun i => (qs[i]?).getD (.slice none 0 0, .slice none 0 0), hv, hc, hS, hlt, fun i hi => ?_⟩
      have hi : i < kids.length := hi
      have hq : i < qs.length := by omega
      have e : (qs[i]?).getD (.slice none 0 0, .slice none 0 0) = qs[i] := by simp [hq]
      show HasN w S kids[i] ((qs[i]?).getD (.slice none 0 0, .slice none 0 0)) ∧ ∀ (c : Nat) (u : Value), c < 6 → (ncells kids[i] ((qs[i]?).getD (.slice none 0 0, .slice none 0 0)))[c]? = some u → w.cell? ⟨b, off + (6 * i + c), none⟩ = some u
      rw [e]
      refine ⟨hasNs_at h3 i hi hq, fun c u hc6 hu => ?_⟩
      refine hcell (6 * i + c) u ?_
      rw [nrow_at kids qs i c hi hq hc6]
      show (ncells kids[i] qs[i])[c]? = some u
      exact hu
/-- What stands at a node that is one of a row. -/
theorem cell_of {w : World} {b off i : Nat} {t : Tree} {q : Value × Value} (h : ∀ (c : Nat) (u : Value), c < 6 → (ncells t q)[c]? = some u → w.cell? ⟨b, off + (6 * i + c), none⟩ = some u) :
    w.cell? ⟨b, off + 6 * i, none⟩ = some (.int .i64 (t.kind : Int)) ∧ w.cell? ⟨b, off + (6 * i + 1), none⟩ = some (.string ⟨t.text.toArray⟩) ∧ w.cell? ⟨b, off + (6 * i + 2), none⟩ = some (.int .i64 (t.num : Int)) ∧ w.cell? ⟨b, off + (6 * i + 3), none⟩ = some (.int .i64 (t.pl : Int)) ∧ w.cell? ⟨b, off + (6 * i + 4), none⟩ = some q.1 ∧ w.cell? ⟨b, off + (6 * i + 5), none⟩ = some q.2 :=
  ⟨h 0 _ (by decide) rfl, h 1 _ (by decide) rfl, h 2 _ (by decide) rfl, h 3 _ (by decide) rfl, h 4 _ (by decide) rfl, h 5 _ (by decide) rfl⟩

/-- The node of a program of one exp that has two kids. -/
theorem out_two {w : World} {x : Ending} {w' : World} {k pn : Nat} {tx : By} {y z : Tree} {p : Nat} (h : ROut w (.node 30 [] [] [.node k tx [] [y, z] 0 pn] 0 p, 0, 0) x w') :
    ∃ a1 c1 b o c b2 o2 c2 b3 o3, x = .returned (.tuple #[.agg #[.int .i64 30, .string ⟨#[]⟩, .int .i64 0, .int .i64 (p : Int), .slice a1 0 c1, .slice (some ⟨b, o, none⟩) 1 c], .int .i64 0, .int .i64 0]) ∧ Below w.heap.size w w' ∧ w.heap.size ≤ b ∧ w.heap.size ≤ b2 ∧ b < w'.heap.size ∧ b2 < w'.heap.size ∧ 1 ≤ c ∧ 2 ≤ c2 ∧
      w'.cell? ⟨b, o, none⟩ = some (.int .i64 (k : Int)) ∧ w'.cell? ⟨b, o + 1, none⟩ = some (.string ⟨tx.toArray⟩) ∧ w'.cell? ⟨b, o + 2, none⟩ = some (.int .i64 0) ∧ w'.cell? ⟨b, o + 3, none⟩ = some (.int .i64 (pn : Int)) ∧ w'.cell? ⟨b, o + 4, none⟩ = some (.slice b3 0 o3) ∧ w'.cell? ⟨b, o + 5, none⟩ = some (.slice (some ⟨b2, o2, none⟩) 2 c2) ∧
      w'.cell? ⟨b2, o2, none⟩ = some (.int .i64 (y.kind : Int)) ∧ w'.cell? ⟨b2, o2 + 1, none⟩ = some (.string ⟨y.text.toArray⟩) ∧ w'.cell? ⟨b2, o2 + 6, none⟩ = some (.int .i64 (z.kind : Int)) ∧ w'.cell? ⟨b2, o2 + 7, none⟩ = some (.string ⟨z.text.toArray⟩) := by
  obtain ⟨ao, ac, bo, bc, rfl, hb, hn⟩ := h
  obtain ⟨b, o, c, f, e, hcap, hS, hlt, hk⟩ := kids_row hn (by show 0 < 1; decide)
  have e : Value.slice bo 1 bc = .slice (some ⟨b, o, none⟩) 1 c := e
  injection e with e1 _ e2
  subst e1; subst e2
  obtain ⟨hn0, hc0⟩ := hk 0 (by show 0 < 1; decide)
  have hc0 := cell_of hc0
  obtain ⟨b2, o2, c2, f2, e, hcap2, hS2, hlt2, hk2⟩ := kids_row hn0 (by show 0 < 2; decide)
  obtain ⟨hy, hcy⟩ := hk2 0 (by show 0 < 2; decide)
  obtain ⟨hz, hcz⟩ := hk2 1 (by show 1 < 2; decide)
  have hcy := cell_of hcy
  have hcz := cell_of hcz
  have hn0 : HasN w' _ (.node k tx [] [y, z] 0 pn) (f 0) := hn0
  obtain ⟨⟨b3, o3, e3, _, _⟩, _⟩ := hn0
  have h5 : w'.cell? ⟨b, o + 5, none⟩ = some (f 0).2 := hc0.2.2.2.2.2
  have h4 : w'.cell? ⟨b, o + 4, none⟩ = some (f 0).1 := hc0.2.2.2.2.1
  rw [e] at h5
  rw [e3] at h4
  exact ⟨ao, ac, b, o, bc, b2, o2, c2, b3, o3, rfl, hb, hS, hS2, hlt, hlt2, hcap, hcap2, hc0.1, hc0.2.1, hc0.2.2.1, hc0.2.2.2.1, h4, h5, hcy.1, hcy.2.1, hcz.1, hcz.2.1⟩
theorem out_err {w : World} {x : Ending} {w' : World} {p e : Nat} (h : ROut w (MP.zero, p, e) x w') :
    ∃ a1 c1 b o, x = .returned (.tuple #[.agg #[.int .i64 0, .string ⟨#[]⟩, .int .i64 0, .int .i64 0, .slice a1 0 c1, .slice b 0 o], .int .i64 (p : Int), .int .i64 (e : Int)]) ∧ Below w.heap.size w w' := by
  obtain ⟨ao, ac, bo, bc, rfl, hb, hn⟩ := h
  exact ⟨ao, ac, bo, bc, rfl, hb⟩
theorem s1 : MB.gparsed (⟨#[100, 111, 32, 49, 32, 43, 32, 50, 32, 42, 32, 51]⟩ : ByteArray).data.toList = (ex1, 0, 0) := g1
theorem s2 : MB.gparsed (⟨#[100, 111, 32, 102, 32, 120, 32, 121]⟩ : ByteArray).data.toList = (ex2, 0, 0) := g2
theorem s3 : MB.gparsed (⟨#[100, 111, 32, 40]⟩ : ByteArray).data.toList = (MP.zero, 4, 14) := g3

theorem _root_.Go.Proofs.YtlcapkgbbgpdmaaGreatDoor.PS.Bk.below {B : Nat} {w w' : World} {b : Nat} {c : Array Value} {t : TypeId} (h : Bk w b c t) (hb : Below B w w') (hlt : b < B) : Bk w' b c t := (hb.block b hlt).trans h

theorem lives_any (w : World) (hd : Dig w) : Calls Tryz.prog 19 #[] w fun e w' => e = .returned (.bool true) ∧ Below w.heap.size w w' := by
  have T1 := fun W (hW : Dig W) => QG.program_is ⟨#[100, 111, 32, 49, 32, 43, 32, 50, 32, 42, 32, 51]⟩ W (by decide) hW
  have T2 := fun W (hW : Dig W) => QG.program_is ⟨#[100, 111, 32, 102, 32, 120, 32, 121]⟩ W (by decide) hW
  have T3 := fun W (hW : Dig W) => QG.program_is ⟨#[100, 111, 32, 40]⟩ W (by decide) hW
  rw [s1] at T1
  rw [s2] at T2
  rw [s3] at T3
  have HD := Lib.hid hd
  clear hd
  go_enter Tryz.func19, Tryz.ntmps19
  go_wp2_with fail
  refine (T1 _ HD.out).mono ?_
  intro x w1 h1
  obtain ⟨a1, c1, b, o, c, b2, o2, c2, b3, o3, rfl, B1, -, -, l1, l2, k1, k2, -, C1, -, -, -, C5, -, -, -, C7⟩ := out_two h1
  have HB1 := Lib.hid B1
  have HN1 := Lib.hid (B1.alloc B1.size (.cells #[.int .i64 30, .string ⟨#[]⟩, .int .i64 0, .int .i64 0, .slice a1 0 c1, .slice (some ⟨b, o, none⟩) 1 c] 25))
  have HD1 := Lib.hid (HD.out.below HN1.out)
  have K1 := Lib.hid (Bk.new w1 #[.int .i64 30, .string ⟨#[]⟩, .int .i64 0, .int .i64 0, .slice a1 0 c1, .slice (some ⟨b, o, none⟩) 1 c] 25)
  have C1 := Lib.hid C1
  have C5 := Lib.hid C5
  have C7 := Lib.hid C7
  clear h1 T1 B1
  go_wp2_with fail
  refine (T2 _ HD1.out).mono ?_
  intro x w2 h2
  obtain ⟨a1', c1', d, p, c', d2, p2, c2', b3', o3', rfl, B2, -, -, m1, m2, k3, k4, -, -, -, -, -, E5, E6, -, -, -⟩ := out_two h2
  have HB2 := Lib.hid B2
  have HN2 := Lib.hid (B2.alloc B2.size (.cells #[.int .i64 30, .string ⟨#[]⟩, .int .i64 0, .int .i64 0, .slice a1' 0 c1', .slice (some ⟨d, p, none⟩) 1 c'] 25))
  have HD2 := Lib.hid (HD1.out.below HN2.out)
  have K2 := Lib.hid (Bk.new w2 #[.int .i64 30, .string ⟨#[]⟩, .int .i64 0, .int .i64 0, .slice a1' 0 c1', .slice (some ⟨d, p, none⟩) 1 c'] 25)
  have E5 := Lib.hid E5
  have E6 := Lib.hid E6
  clear h2 T2 B2
  go_wp2_with fail
  refine (T3 _ HD2.out).mono ?_
  intro x w3 h3
  obtain ⟨a5, c5, b5, o5, rfl, B3⟩ := out_err h3
  have HB3 := Lib.hid B3
  clear h3 T3 B3
  have z1 : (w1.alloc (.cells #[.int .i64 30, .string ⟨#[]⟩, .int .i64 0, .int .i64 0, .slice a1 0 c1, .slice (some ⟨b, o, none⟩) 1 c] 25)).heap.size = w1.heap.size + 1 := by simp
  have z2 : (w2.alloc (.cells #[.int .i64 30, .string ⟨#[]⟩, .int .i64 0, .int .i64 0, .slice a1' 0 c1', .slice (some ⟨d, p, none⟩) 1 c'] 25)).heap.size = w2.heap.size + 1 := by simp
  have y1 := HB2.out.size
  have y2 := HB3.out.size
  rw [z1] at y1
  rw [z2] at y2
  have X12 := Lib.hid (HN2.out)
  have K13 := ((Bk.below K1.out HN2.out (by omega)).below HB3.out (by omega)).cell 5 _ rfl
  have K23 := (K2.out.below HB3.out (by omega)).cell 5 _ rfl
  have up1 : ∀ {q : Addr} {v : Value}, q.block < w1.heap.size → w1.cell? q = some v → w3.cell? q = some v := fun {q v} hq hv =>
    (HB3.out.cell (p := q) (by omega)).trans ((HN2.out.cell (p := q) (by omega)).trans ((World.cell?_alloc_lt _ _ _ hq).trans hv))
  have up2 : ∀ {q : Addr} {v : Value}, q.block < w2.heap.size → w2.cell? q = some v → w3.cell? q = some v := fun {q v} hq hv =>
    (HB3.out.cell (p := q) (by omega)).trans ((World.cell?_alloc_lt _ _ _ hq).trans hv)
  have f1 := up1 (by exact l1) C1.out
  have f2 := up1 (by exact l1) C5.out
  have f3 := up1 (by exact l2) C7.out
  have f4 := up2 (by exact m1) E5.out
  have f5 := up2 (by exact m2) E6.out
  have g1 : w1.heap.size < w3.heap.size := by omega
  have g2 : w2.heap.size < w3.heap.size := by omega
  have g3 : b < w3.heap.size := by omega
  have g4 : b2 < w3.heap.size := by omega
  have g5 : d < w3.heap.size := by omega
  have g6 : d2 < w3.heap.size := by omega
  have HF := Lib.hid (((HN1.out.trans (HN2.out.mono HN1.out.size)).trans (HB3.out.mono (Nat.le_trans HN1.out.size HN2.out.size))))
  clear up1 up2 z1 z2 y1 y2 HB1 HB2 HB3 HN1 HN2 HD HD1 HD2 K1 K2 X12 C1 C5 C7 E5 E6 l1 l2 m1 m2
  go_wp2
  go_ret
  exact ⟨rfl, HF.out.alloc HF.out.size _⟩
end Go.Proofs.YtlcapkgbbgpdmaaGreatDoor.QH
