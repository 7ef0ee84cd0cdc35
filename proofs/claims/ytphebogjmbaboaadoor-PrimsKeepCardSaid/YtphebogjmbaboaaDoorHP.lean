/- The document's Close, Open, Case. -/
import Derived.Test.YtphebogjmbaboaaDoorHO
namespace Go.Proofs.YtphebogjmbaboaaDoor.HP
open Go.RowKit Go.Proofs.YtphebogjmbaboaaDoor.RG Go.Proofs.YtphebogjmbaboaaDoor.RB Go.Proofs.YtphebogjmbaboaaDoor.HA Go.Proofs.YtphebogjmbaboaaDoor.HB Go.Proofs.YtphebogjmbaboaaDoor.HG Go.Proofs.YtphebogjmbaboaaDoor.HH Go.Proofs.YtphebogjmbaboaaDoor.HK Go.Proofs.YtphebogjmbaboaaDoor.HM Go.Proofs.YtphebogjmbaboaaDoor.HN Go.Proofs.YtphebogjmbaboaaDoor.HO Go.Proofs.YtphebogjmbaboaaDoor.A
set_option linter.unusedVariables false
set_option maxRecDepth 100000
set_option maxRecDepth 100000

theorem rhalf_c (w : World) (z : Int) (h0 : -9223372036854775808 ≤ z) (h1 : z ≤ 9223372036854775807) :
    Calls Tryd.prog 50 #[.int .i64 z] w fun e w' => e = .returned (.int .i64 (z / 2)) ∧ w = w' := by
  by_cases hn : z < 0
  · have hq : (z + 1).tdiv 2 = -((-(z + 1)) / 2) := by rw [← Int.tdiv_eq_ediv_of_nonneg (by omega), Int.neg_tdiv, Int.neg_neg]
    go_enter Tryd.func50, Tryd.ntmps50
    go_wp2_with fail
    go_ret
    refine ⟨?_, rfl⟩
    show Ending.returned (Value.int .i64 (-(-(z + 1) / 2 + 1))) = Ending.returned (Value.int .i64 (z / 2))
    rw [show -(-(z + 1) / 2 + 1) = z / 2 from by omega]
  · go_enter Tryd.func50, Tryd.ntmps50
    go_wp2_with fail
    go_ret
    exact ⟨rfl, rfl⟩
/-- What Case tells. -/
def caseR (h : Hp) (z : Int) : Int × Int := if z % 2 ≠ 0 then (z / 2, 0) else if tagOf h z < 0 ∨ tagOf h z > 199 then (0, 4) else (tagOf h z, 0)
theorem rcase_c (w : World) (r B N : Nat) (h : Hp) (H : HDoc w r B N h) (z : Int) (h0 : -9223372036854775808 ≤ z) (h1 : z ≤ 9223372036854775807) :
    Calls Tryd.prog 25 #[.pointer (some ⟨r, 0, none⟩), .int .i64 z] w fun e w' => e = .returned (.tuple #[.int .i64 (caseR h z).1, .int .i64 (caseR h z).2]) ∧ Below w.heap.size w w' := by
  have HTG := Lib.hid (rtag_c w r B N h H z)
  have hc : caseR h z = if z % 2 ≠ 0 then (z / 2, 0) else if tagOf h z < 0 ∨ tagOf h z > 199 then (0, 4) else (tagOf h z, 0) := rfl
  obtain ⟨F, hF⟩ : ∃ F, fieldsOf h z = F := ⟨_, rfl⟩
  obtain ⟨T, hT⟩ : ∃ T, tagOf h z = T := ⟨_, rfl⟩
  rw [hF, hT] at HTG
  rw [hT] at hc
  rw [hc]
  have HHF := Lib.hid (rhalf_c w z h0 h1)
  by_cases hz : z % 2 ≠ 0
  · rw [if_pos hz]
    have e1 : (Int.tmod z 2 != 0) = true := by rw [bne_iff_ne]; intro e; exact hz ((Go.Proofs.YtphebogjmbaboaaDoor.M.tmod2 z).1 e)
    clear hc hT hF H HTG
    go_enter Tryd.func25, Tryd.ntmps25
    go_wp2_with fail
    refine HHF.out.mono ?_
    rintro e w1 ⟨rfl, rfl⟩
    go_wp2_with fail
    go_ret2
    exact ⟨rfl, Below.refl _ _⟩
  · rw [if_neg hz]
    have e1 : (Int.tmod z 2 != 0) = false := by rw [bne_eq_false_iff_eq]; exact (Go.Proofs.YtphebogjmbaboaaDoor.M.tmod2 z).2 (by omega)
    by_cases ht : T < 0 ∨ T > 199
    · rw [if_pos ht]
      have h2 : T < 0 ∨ (¬ T < 0 ∧ T > 199) := by omega
      clear hc hT hF H HHF ht
      rcases h2 with h2 | ⟨h2, h3⟩
      all_goals
        go_enter Tryd.func25, Tryd.ntmps25
        go_wp2_with fail
        refine HTG.out.mono ?_
        rintro e w1 ⟨v, rfl, hr, hb⟩
        have HB1 := Lib.hid hb
        clear hr hb
        go_wp2_with fail
        go_ret2
        exact ⟨rfl, HB1.out⟩
    · rw [if_neg ht]
      have h2 : ¬ T < 0 := by omega
      have h3 : ¬ T > 199 := by omega
      clear hc hT hF H HHF ht
      go_enter Tryd.func25, Tryd.ntmps25
      go_wp2_with fail
      refine HTG.out.mono ?_
      rintro e w1 ⟨v, rfl, hr, hb⟩
      have HB1 := Lib.hid hb
      clear hr hb
      go_wp2_with fail
      go_ret2
      exact ⟨rfl, HB1.out⟩
/-- What Close makes. -/
def closeR (N : Nat) (h : Hp) (fn : Int) (l : List Int) : Hp × Int × Int := if fn < 0 ∨ fn > 2147483647 then (h, 0, 1) else make 2 N h 200 ((2 * fn + 1) :: l)
theorem rclose_c (w : World) (r B N : Nat) (h : Hp) (H : HDoc w r B N h) (fn : Int) (v : Value) (l : List Int) (hv : RowI w v l) (hl : l.length ≤ 1000000) (hzb : ∀ z, z ∈ l → z ≤ 9223372036854775807) :
    Calls Tryd.prog 38 #[.pointer (some ⟨r, 0, none⟩), .int .i64 fn, v] w fun e w' => e = .returned (.tuple #[.int .i64 (closeR N h fn l).2.1, .int .i64 (closeR N h fn l).2.2]) ∧ HDoc w' r B N (closeR N h fn l).1 ∧ OnD r B w w' := by
  have hc : closeR N h fn l = if fn < 0 ∨ fn > 2147483647 then (h, 0, 1) else make 2 N h 200 ((2 * fn + 1) :: l) := rfl
  rw [hc]
  by_cases hf : fn < 0 ∨ fn > 2147483647
  · rw [if_pos hf]
    have h2 : fn < 0 ∨ (¬ fn < 0 ∧ fn > 2147483647) := by omega
    have HH := Lib.hid H
    obtain ⟨ao, cap, rfl, _⟩ := hv.val
    clear hc H hf hv hzb
    rcases h2 with h2 | ⟨h2, h3⟩
    all_goals
      go_enter Tryd.func38, Tryd.ntmps38
      go_wp2_with fail
      go_ret2
      exact ⟨rfl, HH.out, OnD.refl _ _ _⟩
  · rw [if_neg hf]
    have h2 : ¬ fn < 0 := by omega
    have h3 : ¬ fn > 2147483647 := by omega
    have HGE := Lib.hid H.ge
    have HMK := Lib.hid (fun (w1 : World) x (hb : Below w.heap.size w w1) (hx : RowI w1 x ((2 * fn + 1) :: l)) => rmake_c w1 r B N h (H.keep hb) 200 x _ hx (fun z hz => by rcases List.mem_cons.1 hz with rfl | hz; omega; exact hzb z hz))
    obtain ⟨⟨M1, M2, M3⟩, hM⟩ : ∃ x, make 2 N h 200 ((2 * fn + 1) :: l) = x := ⟨_, rfl⟩
    rw [hM] at HMK ⊢
    have HO1 := Lib.hid (show OwnR TI (w.alloc (.cells #[.int .i64 (2 * fn + 1)] 3)) w.heap.size (fun _ => False) (.slice (some ⟨w.heap.size, 0, none⟩) 1 1) [2 * fn + 1] from ⟨[[]], World.ownsRow_lit _ #[.int .i64 (2 * fn + 1)] 1 (Nat.le_refl _) (by decide) rfl, rfl, trivial⟩)
    have HR1 := Lib.hid (show RowR TI (w.alloc (.cells #[.int .i64 (2 * fn + 1)] 3)) (fun b => False ∧ (Value.slice (some ⟨w.heap.size, 0, none⟩) 1 1).ownBlock ≠ some b) v l from (hv.keep (balloc _ _)).weak (fun _ h _ => h.elim))
    obtain ⟨ao, cap, rfl, _⟩ := hv.val
    obtain ⟨n, hn⟩ : ∃ n, Hid (l.length = n) := ⟨_, Lib.hid rfl⟩
    rw [hn.out] at HR1 hl ⊢
    have HLN := Lib.hid (show [2 * fn + 1].length + l.length ≤ 100000000000 from by rw [hn.out]; simp; omega)
    have HBS := Lib.hid (show w.heap.size ≤ (w.alloc (.cells #[.int .i64 (2 * fn + 1)] 3)).heap.size from by simp)
    clear hc H hf hv hzb hM
    go_enter Tryd.func38, Tryd.ntmps38
    go_wp2_with (at_builtin; go_loud (refine wpList_row TI (w.alloc (.cells #[.int .i64 (2 * fn + 1)] 3)) rfl (.tmp 19) (.tmp 20) rfl w.heap.size (fun _ => False) (.slice (some ⟨w.heap.size, 0, none⟩) 1 1) (.slice ao n cap) [2 * fn + 1] l rfl rfl HO1.out HR1.out HLN.out HBS.out ?_); intro ao6 n6 cap6 w6 hO6 hn6 hg6 ha6; clear hn6; have HO6 := Lib.hid hO6.row; have HB6 := Lib.hid (show Below w.heap.size w w6 from (balloc _ _).trans (bgrown hg6 (fun b hb => by cases hb; exact Nat.le_refl _) HBS.out)); clear hO6 hg6 ha6)
    refine (HMK.out _ _ HB6.out HO6.out).mono ?_
    rintro e w7 ⟨rfl, hd, ho⟩
    have HD7 := Lib.hid hd
    have HO7 := Lib.hid (OnD.trans (OnD.of HB6.out HGE.out) ho)
    clear hd ho
    go_wp2_with fail
    go_ret2
    exact ⟨rfl, HD7.out, HO7.out⟩
end Go.Proofs.YtphebogjmbaboaaDoor.HP
