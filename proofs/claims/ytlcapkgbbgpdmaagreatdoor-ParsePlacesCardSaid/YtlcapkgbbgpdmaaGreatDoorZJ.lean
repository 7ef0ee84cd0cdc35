/- ParsePlaces: whatever the input, the law answers true, and writes nothing that was there; the listed variables are tied to the program's text, one of them by a pinned table. No condition. -/
import Derived.Test.YtlcapkgbbgpdmaaGreatDoorA
import Derived.Test.YtlcapkgbbgpdmaaGreatDoorRows
import Derived.ProofKit
import Derived.LaidMore
import Derived.OpenShut
import Derived.Stop.Joined
import Derived.Lib.LaidTab
import Derived.Lay
import Derived.Test.YtlcapkgbbgpdmaaGreatDoorZH
import Derived.Test.YtlcapkgbbgpdmaaGreatDoorCards
import Derived.Test.YtlcapkgbbgpdmaaGreatDoorTie
import Derived.Below
import Derived.SevenTiedAt

/- What all frames share: the three listed variables lie as the program's text lays them; one of them is read, the digits' table. -/
namespace Go.Proofs.YtlcapkgbbgpdmaaGreatDoor.T
open Go.ChangeShapes Go.WideShapes Go.ChangeAt Go.RowKit Go.Maps Go.Proofs.YtlcapkgbbgpdmaaGreatDoor.P Go.Proofs.YtlcapkgbbgpdmaaGreatDoor.A

theorem own : ownKnob Tryz.prog.godebug = none := by kernel_rfl
theorem gDigits : Tryz.prog.globalNamed "selvage/strs.digits" = some 1 := by kernel_rfl
theorem tDigits : (Tryz.prog.globals[1]?).map (·.type) = some 159 := by kernel_rfl
theorem cellsB : Tryz.prog.cellsOf 5 = 1 := by kernel_rfl
theorem cellsA : Tryz.prog.cellsOf 159 = 16 := by kernel_rfl
theorem lenA : Tryz.prog.underlying 159 = some (.array 16 5) := by kernel_rfl
def laid3 : List (String × DataW Unit) := [("unicode/utf8.acceptRanges", Rows.laid_unicode_utf8_acceptRanges), ("selvage/strs.digits", Rows.laid_selvage_strs_digits), ("unicode/utf8.first", Rows.laid_unicode_utf8_first)]
theorem laidShape (os : Os) : World.Shaped Tryz.prog (World.laidAll Tryz.prog os laid3) := World.shaped_of_ZipB (by kernel_rfl) (by kernel_rfl)
theorem of_laid {W : World} (h : laidMetH Tryz.prog laid3 W) : Dig W := by
  rw [MakeChecks.laidMetH_plain _ _ _ (by kernel_rfl)] at h
  obtain ⟨ps, ⟨_, _, _, _, _, _, _, _, _, _, ⟨g', t', cs, fuel, p, q, hg', ht', hvar, hd, _, _⟩, _⟩, _⟩ := h
  obtain rfl := Option.some.inj (gDigits.symm.trans hg')
  obtain rfl := Option.some.inj (tDigits.symm.trans ht')
  have hT : Lib.TabIs Tryz.prog W "selvage/strs.digits" .u8 dg := by
    unfold Lib.TabIs
    rw [hvar, ← Lib.cells_of_tab (zs := dg) lenA Tryz.underlying5 cellsB cellsA hd]
  have hc := fun i hi => hT.cell gDigits i hi
  exact ⟨World.block_lt_of_cell? W ⟨1, 0, none⟩ (hc 0 (by decide)), fun i hi => hc i (by simpa [dg] using hi)⟩

theorem laidOut : laidOutB Tryz.prog = true := by kernel_rfl
theorem wf_le {z : Int} (h : (Lit.int .i64 z).wf = true) : -9223372036854775808 ≤ z ∧ z ≤ 9223372036854775807 := by
  simp [Lit.wf, IntKind.min, IntKind.max, IntKind.signed, IntKind.bits] at h
  omega
end Go.Proofs.YtlcapkgbbgpdmaaGreatDoor.T

/- ParsePlaces: the walk. -/
namespace Go.Proofs.YtlcapkgbbgpdmaaGreatDoor.parsePlaces
open Go.RowKit Go.Maps
open Go.Proofs.YtlcapkgbbgpdmaaGreatDoor.P Go.Proofs.YtlcapkgbbgpdmaaGreatDoor.A Go.Proofs.YtlcapkgbbgpdmaaGreatDoor.PS Go.Proofs.YtlcapkgbbgpdmaaGreatDoor.PN Go.Proofs.YtlcapkgbbgpdmaaGreatDoor.QE Go.Proofs.YtlcapkgbbgpdmaaGreatDoor.QH Go.Proofs.YtlcapkgbbgpdmaaGreatDoor.QI Go.Proofs.YtlcapkgbbgpdmaaGreatDoor.QJ Go.Proofs.YtlcapkgbbgpdmaaGreatDoor.QK Go.Proofs.YtlcapkgbbgpdmaaGreatDoor.GR Go.Proofs.YtlcapkgbbgpdmaaGreatDoor.TK Go.Proofs.YtlcapkgbbgpdmaaGreatDoor.TL Go.Proofs.YtlcapkgbbgpdmaaGreatDoor.TO Go.Proofs.YtlcapkgbbgpdmaaGreatDoor.YT Go.Proofs.YtlcapkgbbgpdmaaGreatDoor.YF Go.Proofs.YtlcapkgbbgpdmaaGreatDoor.RZ Go.Proofs.YtlcapkgbbgpdmaaGreatDoor.RP
set_option linter.unusedVariables false
set_option maxRecDepth 100000

theorem bad_zero (l : List UInt8) (h : (MB.gparsed l).2.2 ≠ 0) : (MB.gparsed l).1 = MP.zero := by
  unfold MB.gparsed at h ⊢
  by_cases ht : (toks l).2.2 = 0
  · rw [if_pos ht] at h ⊢
    cases hp : prog (toks l).1 with
    | ok a => rw [hp] at h; exact absurd rfl h
    | error d => rfl
  · rw [if_neg ht]
theorem good_placed (l : List UInt8) (h : (MB.gparsed l).2.2 = 0) : ∃ ts, toks l = (ts, 0, 0) ∧ run (l.length + 1) l 0 = .ok ts ∧ plc (ts.map (·.p)) (MB.gparsed l).1 = true := by
  have ht : (toks l).2.2 = 0 := by
    by_cases ht : (toks l).2.2 = 0
    · exact ht
    · unfold MB.gparsed at h; rw [if_neg ht] at h; exact h
  obtain ⟨ts, h1, h2, h3⟩ := TL.toks_ok ht
  refine ⟨ts, h1, h3, ?_⟩
  unfold MB.gparsed at h ⊢
  rw [if_pos ht, h1] at h ⊢
  obtain ⟨t, r, hp⟩ := LD.told_ok (MB.ed_run h3) h
  show plc _ (MB.told (prog ts)).1 = true
  rw [hp]
  exact RP.placed_all h3 hp

set_option maxRecDepth 100000 in
set_option maxHeartbeats 4000000 in
theorem walk (w : World) (a0 : ByteArray) (w0 : a0.size ≤ maxLen) (hd : Dig w) :
    Calls Tryz.prog 7 #[.string a0] w fun e w' => e = .returned (.bool true) ∧ Below w.heap.size w w' := by
  have HD := Lib.hid hd
  clear hd
  go_enter Tryz.func7, Tryz.ntmps7
  go_wp2_with fail
  refine (few_any a0 _).mono ?_
  rintro e w1 ⟨⟨s, hs, rfl⟩, rfl⟩
  have PA := fun W (hW : Dig W) => QG.program_is s W (by unfold maxLen; omega) hW
  have za := gparsed_size s.data.toList
  by_cases he : (MB.gparsed s.data.toList).2.2 = 0
  · obtain ⟨ts, hts, hrun, hpl⟩ := good_placed _ he
    obtain ⟨hpos, _⟩ := TL.toks_good hrun
    have hmost := TL.toks_len hrun
    have hlen : s.data.toList.length = s.size := by simp
    rw [hlen] at hmost
    obtain ⟨RA, hRA⟩ : ∃ R, MB.gparsed s.data.toList = R := ⟨_, rfl⟩
    rw [hRA] at PA za hpl he
    obtain ⟨tA, pA, eA⟩ := RA
    simp only at za hpl he
    subst he
    have T1 := fun W => rtokens_short s W (by omega)
    rw [hts] at T1
    obtain ⟨n, hn⟩ : ∃ n, ts.length = n := ⟨_, rfl⟩
    have HPL := Lib.hid hpl
    have HNn := Lib.hid hn
    have ZA := Lib.hid za
    have HPs : Hid (∀ p ∈ ts.map (·.p), ∃ j, j < n ∧ tat ts j = p) := fun p hp => by
      obtain ⟨x, hx, rfl⟩ := List.mem_map.1 hp
      obtain ⟨j, hj, rfl⟩ := List.getElem_of_mem hx
      exact ⟨j, by omega, tat_lt hj⟩
    clear hts hrun hlen hpl hRA za
    go_wp2_with fail
    refine (PA _ HD.out).mono ?_
    intro x w3 h3
    obtain ⟨ao, an, ac, bo, bn, bc, rfl, B3, N3⟩ := out_any h3
    have HB3 := Lib.hid B3
    have HW3 := Lib.hid (B3.alloc B3.size (.cells #[.int .i64 (tA.kind : Int), .string ⟨tA.text.toArray⟩, .int .i64 (tA.num : Int), .int .i64 (tA.pl : Int), .slice ao an ac, .slice bo bn bc] 25))
    have KA := Lib.hid (Bk.new w3 #[.int .i64 (tA.kind : Int), .string ⟨tA.text.toArray⟩, .int .i64 (tA.num : Int), .int .i64 (tA.pl : Int), .slice ao an ac, .slice bo bn bc] 25)
    have N3a := Lib.hid (HasN_below N3 ((Below.refl w3.heap.size w3).alloc (Nat.le_refl _) (.cells #[.int .i64 (tA.kind : Int), .string ⟨tA.text.toArray⟩, .int .i64 (tA.num : Int), .int .i64 (tA.pl : Int), .slice ao an ac, .slice bo bn bc] 25)))
    clear h3 B3 N3 PA
    go_wp2_with fail
    refine (T1 _).mono ?_
    intro x w4 h4
    obtain ⟨b, o, c, rfl, lb, C, B4⟩ := tok_post h4 (by intro e; simp only at e; rw [e] at hpos; simp at hpos)
    have HT : Toks w4 b o n (tat ts) := ⟨lb, by rw [← HNn.out]; omega, fun j hj => by rw [tat_lt (by rw [HNn.out]; exact hj)]; exact C j (by simp only; rw [HNn.out]; exact hj)⟩
    have KA4 := KA.out.below B4 KA.out.lt
    obtain ⟨g0, g1, g2, g3, g4, g5⟩ := KA4.c6
    have gl := KA4.lt
    have HW4 := Lib.hid (HW3.out.trans (B4.mono HW3.out.size))
    have HD4 := Lib.hid (HD.out.below HW4.out)
    have RS := placed (ts.map (·.p)) b o n c (tat ts) HPs.out 5001 (by decide) tA (.slice ao an ac, .slice bo bn bc) (fun _ => True) w4 (by have := ZA.out; omega) HPL.out (HasN_below N3a.out B4) HT
    unfold nval at RS
    have RS := Lib.hid RS
    simp only [hn]
    clear h4 B4 N3a KA KA4 HW3 HT C T1 hn hmost hpos
    go_wp2_with (first
      | (go_at_call 22; refine RS.out.mono ?_; rintro e w5 ⟨rfl, hb5⟩; have HB5 := Lib.hid (HW4.out.trans (hb5.mono HW4.out.size)); have HD5 := Lib.hid (HD.out.below HB5.out); clear hb5)
      | (go_at_call 19; refine (QH.lives_any _ HD5.out).mono ?_; rintro e w6 ⟨rfl, hb6⟩; have HB6 := Lib.hid hb6; clear hb6))
    go_ret
    exact ⟨rfl, HB5.out.trans (HB6.out.mono HB5.out.size)⟩
  · have hz := bad_zero _ he
    obtain ⟨RA, hRA⟩ : ∃ R, MB.gparsed s.data.toList = R := ⟨_, rfl⟩
    rw [hRA] at PA he hz
    obtain ⟨tA, pA, eA⟩ := RA
    simp only at he hz
    subst hz
    have hx : ((eA : Int) != 0) = true := QE.i_nf (b := 0) he
    clear he hRA za
    go_wp2_with fail
    refine (PA _ HD.out).mono ?_
    intro x w3 h3
    obtain ⟨a1, c1, b1, o1, rfl, B3⟩ := out_err h3
    have HB3 := Lib.hid B3
    have HW3 := Lib.hid (B3.alloc B3.size (.cells #[.int .i64 0, .string ⟨#[]⟩, .int .i64 0, .int .i64 0, .slice a1 0 c1, .slice b1 0 o1] 25))
    have HD3 := Lib.hid (HD.out.below HW3.out)
    clear h3 B3 PA
    go_wp2_with (first | (go_at_call 19; refine (QH.lives_any _ HD3.out).mono ?_; rintro e w6 ⟨rfl, hb6⟩; have HB6 := Lib.hid hb6; clear hb6))
    go_ret
    exact ⟨rfl, bnext HW3.out HB6.out⟩

end Go.Proofs.YtlcapkgbbgpdmaaGreatDoor.parsePlaces

/- ParsePlaces: whatever the input, the law answers true, and writes nothing that was there; the listed variables are tied to the program's text, one of them by a pinned table. No condition. -/
namespace Go.Proofs.YtlcapkgbbgpdmaaGreatDoor.parsePlaces
open Go.ChangeShapes Go.WideShapes Go.ChangeAt Go.RowKit Go.Maps
open Go.ChangeMaps (open_string shut_string)
open Go.Proofs.YtlcapkgbbgpdmaaGreatDoor.P Go.Proofs.YtlcapkgbbgpdmaaGreatDoor.A Go.Proofs.YtlcapkgbbgpdmaaGreatDoor.T
set_option linter.unusedVariables false
set_option maxRecDepth 100000

set_option maxRecDepth 100000 in
theorem lifted (os : Os) (started : os.Started) (H : Type) (enc : TypeId × Value → H) :
    ReturnsInHanded {} Tryz.checked os 7 .any (fun w args => (Rows.parsePlacesSpec.pre enc Tryz.prog Tryz.f7 [] false w args ∧ laidMetH Tryz.prog laid3 w) ∧ sizedMet enc Tryz.prog Tryz.f7 (OpenSpec.ofChange Rows.parsePlacesSpec) false w args)
      (Rows.parsePlacesSpec.post enc Tryz.prog Tryz.f7 false true false false) := by
  refine returnsInHanded_of_change_and (C := Tryz.checked) (X := fun w _ => laidMetH Tryz.prog laid3 w) (fun _ _ _ hh h => h.of_heap hh) own started (by kernel_rfl) Tryz.func7
    (ChangeSpec.witness_shaped (enc := enc) (C := Tryz.checked) (os := os) (X := fun w _ => laidMetH Tryz.prog laid3 w) false (World.laidAll Tryz.prog os laid3) #[.string ByteArray.empty] 8 (World.laidAll_os _ _ _) (laidShape os) (by kernel_rfl) (by kernel_rfl) (by kernel_rfl)
      (by rw [MakeChecks.laidMetH_plain _ _ _ (by kernel_rfl)]; exact laidMet_laidAll _ (by kernel_rfl) (by kernel_rfl))) ?_
  intro W base args ds gs before hval0 hW _ _ hL _
  have hval : ∀ (j : Nat) t v, Tryz.f7.params[j]? = some t → args[j]? = some v → Value.okWide Tryz.prog W .any base t v := hval0
  have hW' := hW
  obtain ⟨p, q, hA0, hV, rfl, hfz, hnd⟩ := hW
  have hA : DataW.TrodAll enc Tryz.prog W 0 (fun _ => true) true Tryz.f7.params.toList args.toList ds p := hA0
  rw [Tryz.params7] at hA hval
  obtain ⟨v0, vs0, d0, ds0, p0, q0, hargs, rfl, rfl, h0, r0⟩ := trodAll_cons hA
  obtain ⟨rfl, rfl, rfl⟩ := trodAll_nil r0
  obtain rfl : args = #[v0] := by cases args; simp_all
  obtain ⟨rfl, rfl⟩ := trodVars_none hV
  obtain ⟨a0, rfl, rfl, rfl, w0⟩ := open_string Tryz.underlying9 (hval 0 9 v0 rfl rfl) h0
  have hdig := of_laid hL
  clear hA0 hval0 hL
  refine (walk W a0 w0 hdig).mono fun e W' ⟨he, bel⟩ => ?_
  subst he
  exact ⟨_, rfl, _, _, _, [], _, [], hW', trodAll_mk1 (shut_bool Tryz.underlying4 _), (trodAll_cons_mk (shut_string Tryz.underlying9 w0) trodAll_mk0), rfl, bel.frame _, fun h => by cases h⟩

theorem over : Rows.parsePlacesRow.holds Tryz.pinned (OpenSpec.ofChange Rows.parsePlacesSpec) :=
  OpenClaim.holds_of_wide 7 Tryz.f7 rfl rfl rfl rfl rfl rfl rfl ⟨rfl, rfl, rfl, rfl, rfl⟩ rfl rfl rfl rfl rfl (by kernel_rfl) Tryz.func7 (by kernel_rfl)
    (of_decide_eq_true (by kernel_rfl)) (by unfold Func.isWrapper; first | (rw [if_pos (by decide +kernel)]; kernel_rfl) | (rw [if_neg (by decide +kernel)]; exact ⟨rfl, rfl⟩))
    (fun os started H enc _ => lifted os started H enc)

theorem proved : Rows.ParsePlacesCardSaid :=
  Claim7.holds_tied_plain_at .later [] [.data, .data, .pinned] true _ false
    over (fun _ h => by cases h) (by kernel_rfl) (fun _ h => by cases h) parsePlaces_row_tie rfl ⟨rfl, rfl⟩ (by kernel_rfl) rfl
    (fun f fn hf hfn => by
      obtain rfl : f = 7 := Option.some.inj ((show Tryz.prog.funcNamed "selvage/selvagelaw05.ParsePlaces" = some 7 by kernel_rfl).symm.trans hf) |>.symm
      obtain rfl : fn = Tryz.f7 := (Option.some.inj (Tryz.func7.symm.trans hfn)).symm
      exact ⟨by kernel_rfl, fun j t ht => by
        rw [Tryz.params7] at ht
        have hm : t ∈ [9] := by simpa using Array.mem_of_getElem? ht
        have hall : ([9].all fun u => !Tryz.prog.wantsStandIn u) = true := by kernel_rfl
        exact (show Tryz.prog.wantsStandIn t = false by simpa using List.all_eq_true.1 hall t hm)⟩)
    (by kernel_rfl)
end Go.Proofs.YtlcapkgbbgpdmaaGreatDoor.parsePlaces
