/- ParseBlanks: whatever the input, the law answers true, and writes nothing that was there; the listed variables are tied to the program's text, one of them by a pinned table. No condition. -/
import Derived.Test.YtlcapkgbbgpdmaaGreatDoorA
import Derived.Test.YtlcapkgbbgpdmaaGreatDoorRows
import Derived.ProofKit
import Derived.LaidMore
import Derived.OpenShut
import Derived.Stop.Joined
import Derived.Lib.LaidTab
import Derived.Lay
import Derived.Test.YtlcapkgbbgpdmaaGreatDoorZH
import Derived.Test.YtlcapkgbbgpdmaaGreatDoorCards
import Derived.Test.YtlcapkgbbgpdmaaGreatDoorTie
import Derived.Below
import Derived.SevenTiedAt

/- What all frames share: the three listed variables lie as the program's text lays them; one of them is read, the digits' table. -/
namespace Go.Proofs.YtlcapkgbbgpdmaaGreatDoor.T
open Go.ChangeShapes Go.WideShapes Go.ChangeAt Go.RowKit Go.Maps Go.Proofs.YtlcapkgbbgpdmaaGreatDoor.P Go.Proofs.YtlcapkgbbgpdmaaGreatDoor.A

theorem own : ownKnob Tryz.prog.godebug = none := by kernel_rfl
theorem gDigits : Tryz.prog.globalNamed "selvage/strs.digits" = some 1 := by kernel_rfl
theorem tDigits : (Tryz.prog.globals[1]?).map (·.type) = some 159 := by kernel_rfl
theorem cellsB : Tryz.prog.cellsOf 5 = 1 := by kernel_rfl
theorem cellsA : Tryz.prog.cellsOf 159 = 16 := by kernel_rfl
theorem lenA : Tryz.prog.underlying 159 = some (.array 16 5) := by kernel_rfl
def laid3 : List (String × DataW Unit) := [("unicode/utf8.acceptRanges", Rows.laid_unicode_utf8_acceptRanges), ("selvage/strs.digits", Rows.laid_selvage_strs_digits), ("unicode/utf8.first", Rows.laid_unicode_utf8_first)]
theorem laidShape (os : Os) : World.Shaped Tryz.prog (World.laidAll Tryz.prog os laid3) := World.shaped_of_ZipB (by kernel_rfl) (by kernel_rfl)
theorem of_laid {W : World} (h : laidMetH Tryz.prog laid3 W) : Dig W := by
  rw [MakeChecks.laidMetH_plain _ _ _ (by kernel_rfl)] at h
  obtain ⟨ps, ⟨_, _, _, _, _, _, _, _, _, _, ⟨g', t', cs, fuel, p, q, hg', ht', hvar, hd, _, _⟩, _⟩, _⟩ := h
  obtain rfl := Option.some.inj (gDigits.symm.trans hg')
  obtain rfl := Option.some.inj (tDigits.symm.trans ht')
  have hT : Lib.TabIs Tryz.prog W "selvage/strs.digits" .u8 dg := by
    unfold Lib.TabIs
    rw [hvar, ← Lib.cells_of_tab (zs := dg) lenA Tryz.underlying5 cellsB cellsA hd]
  have hc := fun i hi => hT.cell gDigits i hi
  exact ⟨World.block_lt_of_cell? W ⟨1, 0, none⟩ (hc 0 (by decide)), fun i hi => hc i (by simpa [dg] using hi)⟩

theorem laidOut : laidOutB Tryz.prog = true := by kernel_rfl
theorem wf_le {z : Int} (h : (Lit.int .i64 z).wf = true) : -9223372036854775808 ≤ z ∧ z ≤ 9223372036854775807 := by
  simp [Lit.wf, IntKind.min, IntKind.max, IntKind.signed, IntKind.bits] at h
  omega
end Go.Proofs.YtlcapkgbbgpdmaaGreatDoor.T

/- ParseBlanks: the walk. -/
namespace Go.Proofs.YtlcapkgbbgpdmaaGreatDoor.parseBlanks
open Go.RowKit Go.Maps
open Go.Proofs.YtlcapkgbbgpdmaaGreatDoor.P Go.Proofs.YtlcapkgbbgpdmaaGreatDoor.A Go.Proofs.YtlcapkgbbgpdmaaGreatDoor.PS Go.Proofs.YtlcapkgbbgpdmaaGreatDoor.PN Go.Proofs.YtlcapkgbbgpdmaaGreatDoor.QE Go.Proofs.YtlcapkgbbgpdmaaGreatDoor.QH Go.Proofs.YtlcapkgbbgpdmaaGreatDoor.QI Go.Proofs.YtlcapkgbbgpdmaaGreatDoor.QJ Go.Proofs.YtlcapkgbbgpdmaaGreatDoor.GR Go.Proofs.YtlcapkgbbgpdmaaGreatDoor.TK Go.Proofs.YtlcapkgbbgpdmaaGreatDoor.TL Go.Proofs.YtlcapkgbbgpdmaaGreatDoor.TO Go.Proofs.YtlcapkgbbgpdmaaGreatDoor.YT Go.Proofs.YtlcapkgbbgpdmaaGreatDoor.YF Go.Proofs.YtlcapkgbbgpdmaaGreatDoor.RZ Go.Proofs.YtlcapkgbbgpdmaaGreatDoor.GL
set_option linter.unusedVariables false
set_option maxRecDepth 100000

set_option maxRecDepth 100000 in
set_option maxHeartbeats 4000000 in
theorem walk (w : World) (a0 : ByteArray) (w0 : a0.size ≤ maxLen) (hd : Dig w) :
    Calls Tryz.prog 4 #[.string a0] w fun e w' => e = .returned (.bool true) ∧ Below w.heap.size w w' := by
  have HD := Lib.hid hd
  clear hd
  go_enter Tryz.func4, Tryz.ntmps4
  go_wp2_with fail
  refine (few_any a0 _).mono ?_
  rintro e w1 ⟨⟨s, hs, rfl⟩, rfl⟩
  have T1 := rtokens_short s w (by omega)
  by_cases he : (toks s.data.toList).2.2 = 0
  · obtain ⟨ts, hts, hl, hrun⟩ := toks_ok he
    obtain ⟨hpos, hgood⟩ := toks_good hrun
    have hmost := toks_len hrun
    have hlen : s.data.toList.length = s.size := by simp
    have hal := LC.gparsed_lines hrun (by rw [hlen]; exact hs)
    have hpl := toks_le hrun
    rw [← pre_all] at hal
    rw [hlen] at hgood hmost hpl
    rw [hts] at T1
    obtain ⟨n, hn⟩ : ∃ n, ts.length = n := ⟨_, rfl⟩
    have HQ : Hid (∀ j, j < n → tat ts j ≤ pe s.size ts j ∧ pe s.size ts j ≤ s.size) := fun j hj => by
      have hj' : j < ts.length := by omega
      unfold pe
      rw [tat_lt hj']
      by_cases h1 : j + 1 < ts.length
      · rw [if_pos h1, tat_lt h1]
        exact ⟨Nat.le_of_lt ((hgood j hj').2.2 h1), hpl _ (List.getElem_mem _)⟩
      · rw [if_neg h1]
        exact ⟨hpl _ (List.getElem_mem _), Nat.le_refl _⟩
    have HE : Hid (∀ j, pe s.size ts j = if j + 1 < n then tat ts (j + 1) else s.size) := fun j => by unfold pe; rw [hn]
    have HA := Lib.hid hal
    clear he hts hrun hl hgood hal hpl
    go_wp2_with fail
    refine T1.mono ?_
    intro x w2 h2
    obtain ⟨b, o, c, rfl, lb, C, B⟩ := tok_post h2 (by intro e; simp only at e; rw [e] at hpos; simp at hpos)
    have HB := Lib.hid B
    have HD2 := Lib.hid (HD.out.below B)
    have HP : Hid (∀ j, j < n → w2.cell? ⟨b, o + j * 4 + 3, none⟩ = some (.int .i64 (tat ts j : Int))) := fun j hj => by
      rw [tat_lt (by omega)]; exact C j (by simp only; omega)
    have HLn := Lib.hid hlen
    have HNn := Lib.hid hn
    rw [hn] at hmost hpos
    simp only [hn]
    clear B h2 T1 C hn hlen
    go_wp2
    go_loopg [6, 7] n (fun g t i wr => ∃ (j : Nat) (T : ByteArray), j + g = n ∧ t = .string T ∧ i = .int .i64 (j : Int) ∧ T.size ≤ j * 401 ∧ Hid (T.data.toList = pre s.data.toList ts j) ∧ Hid (Below w2.heap.size w2 wr))
    case atStart => exact ⟨0, ⟨#[]⟩, Nat.zero_add _, rfl, rfl, Nat.zero_le _, rfl, Below.refl _ _⟩
    case round =>
      obtain ⟨j, T, hj, rfl, rfl, hsz, HT, HX⟩ := hrel
      by_cases hlt : j < n
      · obtain ⟨g0, rfl⟩ : ∃ g0, gk = g0 + 1 := ⟨gk - 1, by omega⟩
        have c0 := (HX.out.cell (p := ⟨b, o + j * 4 + 3, none⟩) lb).trans (HP.out j hlt)
        have hq := HQ.out j hlt
        have hE := HE.out j
        have hadd := fun e he => add_line s T ts j e HT.out he
        rw [HLn.out] at hadd
        obtain ⟨p, hp⟩ : ∃ p, tat ts j = p := ⟨_, rfl⟩
        rw [hp] at c0 hq hadd
        have i0 : (0 : Int) ≤ (j : Int) := by omega
        have i1 : (j : Int) < (n : Int) := by omega
        by_cases h1 : j + 1 < n
        · rw [if_pos h1] at hE
          have c1 := (HX.out.cell (p := ⟨b, o + (j + 1) * 4 + 3, none⟩) lb).trans (HP.out (j + 1) h1)
          obtain ⟨q, hq2⟩ : ∃ q, tat ts (j + 1) = q := ⟨_, rfl⟩
          rw [hq2] at c1 hE
          rw [hE] at hq hadd
          have HN := Lib.hid (hadd q rfl)
          obtain ⟨k1, k2⟩ := hq
          have hsz2 : (T ++ s.extract p q ++ (⟨#[10]⟩ : ByteArray)).size ≤ (j + 1) * 401 := by
            rw [ByteArray.size_append, ByteArray.size_append, ByteArray.size_extract]
            show T.size + (min q s.size - p) + 1 ≤ _
            omega
          have i2 : (0 : Int) ≤ (j : Int) + 1 := by omega
          have i3 : (j : Int) + 1 < (n : Int) := by omega
          clear hadd hE hq2 hp
          go_wp2
          go_roundg g0
          case rel => exact ⟨j + 1, _, by omega, rfl, by go_num, hsz2, HN, HX⟩
          case measure => omega
        · rw [if_neg h1] at hE
          rw [hE] at hq hadd
          have HN := Lib.hid (hadd s.size rfl)
          obtain ⟨k1, k2⟩ := hq
          have hsz2 : (T ++ s.extract p s.size ++ (⟨#[10]⟩ : ByteArray)).size ≤ (j + 1) * 401 := by
            rw [ByteArray.size_append, ByteArray.size_append, ByteArray.size_extract]
            show T.size + (min s.size s.size - p) + 1 ≤ _
            omega
          clear hadd hE hp
          go_wp2
          go_roundg g0
          case rel => exact ⟨j + 1, _, by omega, rfl, by go_num, hsz2, HN, HX⟩
          case measure => omega
      · obtain rfl : j = n := by omega
        obtain ⟨hll, hAl⟩ := HA.out
        have hTs : T.size ≤ 801 := by
          have : T.data.toList.length = T.size := by simp
          rw [← this, HT.out, ← HNn.out]; exact hll
        have hTl : T.data.toList = pre s.data.toList ts ts.length := by rw [HNn.out]; exact HT.out
        rw [← hTl] at hAl
        have za := gparsed_size s.data.toList
        have PA := fun W (hW : Dig W) => QG.program_is s W (by unfold maxLen; omega) hW
        have PB := fun W (hW : Dig W) => QG.program_is T W (by unfold maxLen; omega) hW
        obtain ⟨RA, hRA⟩ : ∃ R, MB.gparsed s.data.toList = R := ⟨_, rfl⟩
        obtain ⟨RB, hRB⟩ : ∃ R, MB.gparsed T.data.toList = R := ⟨_, rfl⟩
        rw [hRA] at PA hAl za
        rw [hRB] at PB hAl
        obtain ⟨tA, pA, eA⟩ := RA
        obtain ⟨tB, pB, eB⟩ := RB
        obtain ⟨hsm, hee⟩ := hAl
        simp only at hee
        subst hee
        have HSm := Lib.hid hsm
        have ZA := Lib.hid za
        have PB := Lib.hid PB
        have HDr := Lib.hid (HD2.out.below HX.out)
        have HXw := Lib.hid (HB.out.trans (HX.out.mono HB.out.size))
        clear HA hll hTl hsm za hRA hRB HT hsz HX HP HQ HE HNn HLn hmost
        go_wp2_with fail
        refine (PA _ HDr.out).mono ?_
        intro x w3 h3
        obtain ⟨ao, an, ac, bo, bn, bc, rfl, B3, N3⟩ := out_any h3
        have B3 := Lib.hid B3
        have N3 := Lib.hid N3
        clear h3 PA
        have HW3 := Lib.hid (HXw.out.trans (B3.out.mono HXw.out.size))
        have HW3a := Lib.hid (HW3.out.alloc HW3.out.size (.cells #[.int .i64 (tA.kind : Int), .string ⟨tA.text.toArray⟩, .int .i64 (tA.num : Int), .int .i64 (tA.pl : Int), .slice ao an ac, .slice bo bn bc] 25))
        have HD3 := Lib.hid (HD.out.below HW3a.out)
        have KA := Lib.hid (Bk.new w3 #[.int .i64 (tA.kind : Int), .string ⟨tA.text.toArray⟩, .int .i64 (tA.num : Int), .int .i64 (tA.pl : Int), .slice ao an ac, .slice bo bn bc] 25)
        have N3a := Lib.hid (HasN_below N3.out ((Below.refl w3.heap.size w3).alloc (Nat.le_refl _) (.cells #[.int .i64 (tA.kind : Int), .string ⟨tA.text.toArray⟩, .int .i64 (tA.num : Int), .int .i64 (tA.pl : Int), .slice ao an ac, .slice bo bn bc] 25)))
        go_wp2_with fail
        refine (PB.out _ HD3.out).mono ?_
        intro x w4 h4
        obtain ⟨ao', an', ac', bo', bn', bc', rfl, B4, N4⟩ := out_any h4
        have KA4 := KA.out.below B4 KA.out.lt
        obtain ⟨g0, g1, g2, g3, g4, g5⟩ := KA4.c6
        have gl := KA4.lt
        have HW4 := Lib.hid (HW3a.out.trans (B4.mono HW3a.out.size))
        have HW4a := Lib.hid (HW4.out.alloc HW4.out.size (.cells #[.int .i64 (tB.kind : Int), .string ⟨tB.text.toArray⟩, .int .i64 (tB.num : Int), .int .i64 (tB.pl : Int), .slice ao' an' ac', .slice bo' bn' bc'] 25))
        have HD4 := Lib.hid (HD.out.below HW4a.out)
        have RS := rsame 5001 (by decide) tA tB (.slice ao an ac, .slice bo bn bc) (.slice ao' an' ac', .slice bo' bn' bc') (fun _ => True) (w4.alloc (.cells #[.int .i64 (tB.kind : Int), .string ⟨tB.text.toArray⟩, .int .i64 (tB.num : Int), .int .i64 (tB.pl : Int), .slice ao' an' ac', .slice bo' bn' bc'] 25)) (by have := ZA.out; omega) HSm.out
          (HasN_below (HasN_below N3a.out B4) ((Below.refl w4.heap.size w4).alloc (Nat.le_refl _) _)) (HasN_below N4 ((Below.refl w4.heap.size w4).alloc (Nat.le_refl _) _))
        unfold nval at RS
        have RS := Lib.hid RS
        clear h4 B4 N4 N3 N3a KA KA4 HW3 HW3a HD3 PB B3
        go_wp2_with (first
          | (go_at_call 18; refine RS.out.mono ?_; rintro e w5 ⟨rfl, hb5⟩; have HB5 := Lib.hid (HW4a.out.trans (hb5.mono HW4a.out.size)); have HD5 := Lib.hid (HD.out.below HB5.out); clear hb5)
          | (go_at_call 19; refine (QH.lives_any _ HD5.out).mono ?_; rintro e w6 ⟨rfl, hb6⟩; have HB6 := Lib.hid hb6; clear hb6))
        go_ret
        exact ⟨rfl, HB5.out.trans (HB6.out.mono HB5.out.size)⟩
  · obtain ⟨L, hL⟩ : ∃ L, toks s.data.toList = L := ⟨_, rfl⟩
    have hb := TL.toks_bad he
    rw [hL] at T1 he hb
    obtain ⟨l0, p, e⟩ := L
    simp only at hb he
    subst hb
    have hx : ((e : Int) != 0) = true := QE.i_nf (b := 0) he
    clear hL he
    go_wp2_with fail
    refine T1.mono ?_
    intro x w2 h2
    obtain ⟨ao, c, rfl, B⟩ := tok_err h2
    have HB := Lib.hid B
    have HD2 := Lib.hid (HD.out.below B)
    clear B h2 T1
    go_wp2_with (first | (go_at_call 19; refine (QH.lives_any _ HD2.out).mono ?_; rintro e w6 ⟨rfl, hb6⟩; have HB6 := Lib.hid hb6; clear hb6))
    go_ret
    exact ⟨rfl, bnext HB.out HB6.out⟩

end Go.Proofs.YtlcapkgbbgpdmaaGreatDoor.parseBlanks

/- ParseBlanks: whatever the input, the law answers true, and writes nothing that was there; the listed variables are tied to the program's text, one of them by a pinned table. No condition. -/
namespace Go.Proofs.YtlcapkgbbgpdmaaGreatDoor.parseBlanks
open Go.ChangeShapes Go.WideShapes Go.ChangeAt Go.RowKit Go.Maps
open Go.ChangeMaps (open_string shut_string)
open Go.Proofs.YtlcapkgbbgpdmaaGreatDoor.P Go.Proofs.YtlcapkgbbgpdmaaGreatDoor.A Go.Proofs.YtlcapkgbbgpdmaaGreatDoor.T
set_option linter.unusedVariables false
set_option maxRecDepth 100000

set_option maxRecDepth 100000 in
theorem lifted (os : Os) (started : os.Started) (H : Type) (enc : TypeId × Value → H) :
    ReturnsInHanded {} Tryz.checked os 4 .any (fun w args => (Rows.parseBlanksSpec.pre enc Tryz.prog Tryz.f4 [] false w args ∧ laidMetH Tryz.prog laid3 w) ∧ sizedMet enc Tryz.prog Tryz.f4 (OpenSpec.ofChange Rows.parseBlanksSpec) false w args)
      (Rows.parseBlanksSpec.post enc Tryz.prog Tryz.f4 false true false false) := by
  refine returnsInHanded_of_change_and (C := Tryz.checked) (X := fun w _ => laidMetH Tryz.prog laid3 w) (fun _ _ _ hh h => h.of_heap hh) own started (by kernel_rfl) Tryz.func4
    (ChangeSpec.witness_shaped (enc := enc) (C := Tryz.checked) (os := os) (X := fun w _ => laidMetH Tryz.prog laid3 w) false (World.laidAll Tryz.prog os laid3) #[.string ByteArray.empty] 8 (World.laidAll_os _ _ _) (laidShape os) (by kernel_rfl) (by kernel_rfl) (by kernel_rfl)
      (by rw [MakeChecks.laidMetH_plain _ _ _ (by kernel_rfl)]; exact laidMet_laidAll _ (by kernel_rfl) (by kernel_rfl))) ?_
  intro W base args ds gs before hval0 hW _ _ hL _
  have hval : ∀ (j : Nat) t v, Tryz.f4.params[j]? = some t → args[j]? = some v → Value.okWide Tryz.prog W .any base t v := hval0
  have hW' := hW
  obtain ⟨p, q, hA0, hV, rfl, hfz, hnd⟩ := hW
  have hA : DataW.TrodAll enc Tryz.prog W 0 (fun _ => true) true Tryz.f4.params.toList args.toList ds p := hA0
  rw [Tryz.params4] at hA hval
  obtain ⟨v0, vs0, d0, ds0, p0, q0, hargs, rfl, rfl, h0, r0⟩ := trodAll_cons hA
  obtain ⟨rfl, rfl, rfl⟩ := trodAll_nil r0
  obtain rfl : args = #[v0] := by cases args; simp_all
  obtain ⟨rfl, rfl⟩ := trodVars_none hV
  obtain ⟨a0, rfl, rfl, rfl, w0⟩ := open_string Tryz.underlying9 (hval 0 9 v0 rfl rfl) h0
  have hdig := of_laid hL
  clear hA0 hval0 hL
  refine (walk W a0 w0 hdig).mono fun e W' ⟨he, bel⟩ => ?_
  subst he
  exact ⟨_, rfl, _, _, _, [], _, [], hW', trodAll_mk1 (shut_bool Tryz.underlying4 _), (trodAll_cons_mk (shut_string Tryz.underlying9 w0) trodAll_mk0), rfl, bel.frame _, fun h => by cases h⟩

theorem over : Rows.parseBlanksRow.holds Tryz.pinned (OpenSpec.ofChange Rows.parseBlanksSpec) :=
  OpenClaim.holds_of_wide 4 Tryz.f4 rfl rfl rfl rfl rfl rfl rfl ⟨rfl, rfl, rfl, rfl, rfl⟩ rfl rfl rfl rfl rfl (by kernel_rfl) Tryz.func4 (by kernel_rfl)
    (of_decide_eq_true (by kernel_rfl)) (by unfold Func.isWrapper; first | (rw [if_pos (by decide +kernel)]; kernel_rfl) | (rw [if_neg (by decide +kernel)]; exact ⟨rfl, rfl⟩))
    (fun os started H enc _ => lifted os started H enc)

theorem proved : Rows.ParseBlanksCardSaid :=
  Claim7.holds_tied_plain_at .later [] [.data, .data, .pinned] true _ false
    over (fun _ h => by cases h) (by kernel_rfl) (fun _ h => by cases h) parseBlanks_row_tie rfl ⟨rfl, rfl⟩ (by kernel_rfl) rfl
    (fun f fn hf hfn => by
      obtain rfl : f = 4 := Option.some.inj ((show Tryz.prog.funcNamed "selvage/selvagelaw05.ParseBlanks" = some 4 by kernel_rfl).symm.trans hf) |>.symm
      obtain rfl : fn = Tryz.f4 := (Option.some.inj (Tryz.func4.symm.trans hfn)).symm
      exact ⟨by kernel_rfl, fun j t ht => by
        rw [Tryz.params4] at ht
        have hm : t ∈ [9] := by simpa using Array.mem_of_getElem? ht
        have hall : ([9].all fun u => !Tryz.prog.wantsStandIn u) = true := by kernel_rfl
        exact (show Tryz.prog.wantsStandIn t = false by simpa using List.all_eq_true.1 hall t hm)⟩)
    (by kernel_rfl)
end Go.Proofs.YtlcapkgbbgpdmaaGreatDoor.parseBlanks
