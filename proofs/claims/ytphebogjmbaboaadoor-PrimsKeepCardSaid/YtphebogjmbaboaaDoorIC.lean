/- The law's examples hold. -/
import Derived.Test.YtphebogjmbaboaaDoorIG
import Derived.Test.YtphebogjmbaboaaDoorIB
namespace Go.Proofs.YtphebogjmbaboaaDoor.IC
open Go.RowKit Go.Proofs.YtphebogjmbaboaaDoor.RG Go.Proofs.YtphebogjmbaboaaDoor.RB Go.Proofs.YtphebogjmbaboaaDoor.HA Go.Proofs.YtphebogjmbaboaaDoor.HB Go.Proofs.YtphebogjmbaboaaDoor.HD Go.Proofs.YtphebogjmbaboaaDoor.HE Go.Proofs.YtphebogjmbaboaaDoor.HO Go.Proofs.YtphebogjmbaboaaDoor.HP Go.Proofs.YtphebogjmbaboaaDoor.HQ Go.Proofs.YtphebogjmbaboaaDoor.HR Go.Proofs.YtphebogjmbaboaaDoor.HT Go.Proofs.YtphebogjmbaboaaDoor.HV Go.Proofs.YtphebogjmbaboaaDoor.HZ Go.Proofs.YtphebogjmbaboaaDoor.IA Go.Proofs.YtphebogjmbaboaaDoor.IB
set_option linter.unusedVariables false
set_option maxRecDepth 100000
set_option maxRecDepth 100000

/-- What the program's Close makes. -/
def Closes : Prop := ∀ (w : World) (p x m o N : Nat) (h : Hp) (H : HP w p x m o N h) (fn : Int) (v : Value) (l : List Int) (hv : RowI w v l) (hx : ∀ b, v.ownBlock = some b → b ≠ x) (hl : l.length ≤ 1000000),
  Calls Tryd.prog 29 #[.pointer (some ⟨p, 0, none⟩), .int .i64 fn, v] w fun e w' => e = .returned (.tuple #[.int .i64 (closeR N h fn l).2.1, .int .i64 (closeR N h fn l).2.2]) ∧ HP w' p x m o N (closeR N h fn l).1 ∧ On3 p x m w w'
theorem row_lit (w : World) (l : List Int) (h0 : 0 < l.length) (b : Nat) (h : Bk w b (xints l) 3) : RowI w (.slice (some ⟨b, 0, none⟩) l.length l.length) l := by
  have := rown_row (L := l) h 0 l.length l.length (by omega) (Nat.le_refl _)
  rwa [List.drop_zero, List.take_length] at this
def h1 : Hp := [(201, [2, 25185])]
def h2 : Hp := [(201, [2, 25185]), (200, [5, 7])]
theorem t1 : textR 64 [] [97, 98] = (h1, 2, 0) := by decide +kernel
theorem t2 : fieldsOf h1 2 = [2, 25185] := by decide +kernel
theorem t3 : sumR 0 3 5 = (7, 0) := by decide +kernel
theorem t4 : closeR 64 h1 2 [7] = (h2, 8, 0) := by decide +kernel
theorem t5 : openR h2 8 = (2, [7], 0) := by decide +kernel
theorem lives_c (HC : Closes) : Lives := by
  intro w hsg
  have HSG := Lib.hid hsg
  clear hsg
  have HNW := Lib.hid (new_c 64 w (by decide) (by decide))
  have HTX := Lib.hid (fun w1 p x m o (H : HP w1 p x m o 64 []) => ptext_c w1 p x m o 64 [] H ⟨#[97, 98]⟩)
  rw [show (ByteArray.mk #[97, 98]).data.toList = [97, 98] from rfl, t1] at HTX
  have HFL := Lib.hid (fun w1 p x m o (H : HP w1 p x m o 64 h1) => fields_c w1 p x m o 64 h1 H 2)
  rw [t2] at HFL
  have HSM := Lib.hid (fun w1 v v' a b => same_c w1 v v' [2, 25185] [2, 25185] a b (by decide))
  have HS := Lib.hid (fun w1 hg => psum_c 0 3 5 w1 (by decide) (by decide) (by decide) (by decide) hg)
  rw [t3] at HS
  have HCL := Lib.hid (fun w1 p x m o (H : HP w1 p x m o 64 h1) v hv hx => HC w1 p x m o 64 h1 H 2 v [7] hv hx (by decide))
  rw [t4] at HCL
  have HO := Lib.hid (fun w1 p x m o (H : HP w1 p x m o 64 h2) => popen_c w1 p x m o 64 h2 H 8)
  rw [t5] at HO
  have d1 : decide (([2, 25185] : List Int) = [2, 25185]) = true := rfl
  rw [d1] at HSM
  have HRL := Lib.hid row_lit
  clear d1 HC
  go_enter Tryd.func18, Tryd.ntmps18
  go_wp2_with fail
  refine HNW.out.mono ?_
  rintro e w1 ⟨p, x, m, o, rfl, hp, ⟨g1, g2, g3, g4⟩, hb⟩
  have HP1 := Lib.hid hp
  have HB1 := Lib.hid hb
  have HG := Lib.hid (And.intro g1 (And.intro g2 (And.intro g3 g4)))
  clear hp hb g1 g2 g3 g4
  go_wp2_with fail
  refine (HTX.out _ _ _ _ _ HP1.out).mono ?_
  rintro e w2 ⟨rfl, hp, ho⟩
  have HP2 := Lib.hid hp
  have HB2 := Lib.hid (HB1.out.trans (ho.below HB1.out.size HG.out.1 HG.out.2.1 HG.out.2.2.1))
  clear hp ho
  go_wp2_with fail
  refine (HFL.out _ _ _ _ _ HP2.out).mono ?_
  rintro e w3 ⟨v, rfl, hv, _, hb⟩
  have HB3 := Lib.hid (bnext HB2.out hb)
  have HP3 := Lib.hid (HP2.out.keep hb)
  obtain ⟨va, vc, rfl, _⟩ := hv.val
  have HV := Lib.hid (show RowI (w3.alloc (.cells #[.int .i64 2, .int .i64 25185] 3)) _ [2, 25185] from hv.keep (balloc _ _))
  have HV2 := Lib.hid (show RowI (w3.alloc (.cells #[.int .i64 2, .int .i64 25185] 3)) (.slice (some ⟨w3.heap.size, 0, none⟩) 2 2) [2, 25185] from HRL.out _ [2, 25185] (by decide) _ (Bk.new w3 _ _))
  have HB4 := Lib.hid (bnext HB3.out (balloc w3 (.cells #[.int .i64 2, .int .i64 25185] 3)))
  have HP4 := Lib.hid (HP3.out.keep (balloc w3 (.cells #[.int .i64 2, .int .i64 25185] 3)))
  clear hv hb
  go_wp2_with fail
  refine (HSM.out _ _ _ HV.out HV2.out).mono ?_
  rintro e w5 ⟨rfl, hb⟩
  have HB5 := Lib.hid (bnext HB4.out hb)
  have HP5 := Lib.hid (HP4.out.keep hb)
  clear hb
  go_wp2_with fail
  refine (HS.out _ (HSG.out.below HB5.out)).mono ?_
  rintro e w6 ⟨rfl, hb⟩
  have HB6 := Lib.hid (bnext HB5.out hb)
  have HP6 := Lib.hid (HP5.out.keep hb)
  have HV6 := Lib.hid (show RowI (w6.alloc (.cells #[.int .i64 7] 3)) (.slice (some ⟨w6.heap.size, 0, none⟩) 1 1) [7] from HRL.out _ [7] (by decide) _ (Bk.new w6 _ _))
  have HB7 := Lib.hid (bnext HB6.out (balloc w6 (.cells #[.int .i64 7] 3)))
  have HP7 := Lib.hid (HP6.out.keep (balloc w6 (.cells #[.int .i64 7] 3)))
  have HXL := Lib.hid HP6.out.lt
  clear hb
  go_wp2_with fail
  refine (HCL.out _ _ _ _ _ HP7.out _ HV6.out (fun b hb => by cases hb; exact Nat.ne_of_gt HXL.out.2.1)).mono ?_
  rintro e w8 ⟨rfl, hp, ho⟩
  have HP8 := Lib.hid hp
  have HB8 := Lib.hid (HB7.out.trans (ho.below HB7.out.size HG.out.1 HG.out.2.1 HG.out.2.2.1))
  clear hp ho
  go_wp2_with fail
  refine (HO.out _ _ _ _ _ HP8.out).mono ?_
  rintro e w9 ⟨v, rfl, hv, hb⟩
  have HB9 := Lib.hid (bnext HB8.out hb)
  obtain ⟨b, off, cap, rfl, hc, hlt, hcells⟩ := hv.open_ (by simp)
  obtain ⟨q, hL, _⟩ := hcells 0 7 rfl
  have x0 : w9.cell? ⟨b, off, none⟩ = some (.int .i64 7) := by simpa [TI, Ty.flat] using hL 0 _ rfl
  have HX0 := Lib.hid x0
  clear hv hb hcells hL
  go_wp2_with fail
  go_ret
  exact ⟨rfl, HB9.out⟩
end Go.Proofs.YtphebogjmbaboaaDoor.IC
