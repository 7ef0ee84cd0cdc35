/- The program's texts: Text, Str. -/
import Derived.Test.YtphebogjmbaboaaDoorHU
import Derived.Test.YtphebogjmbaboaaDoorZB
namespace Go.Proofs.YtphebogjmbaboaaDoor.HV
open Go.RowKit Go.Proofs.YtphebogjmbaboaaDoor.RG Go.Proofs.YtphebogjmbaboaaDoor.RB Go.Proofs.YtphebogjmbaboaaDoor.HA Go.Proofs.YtphebogjmbaboaaDoor.HB Go.Proofs.YtphebogjmbaboaaDoor.HD Go.Proofs.YtphebogjmbaboaaDoor.HE Go.Proofs.YtphebogjmbaboaaDoor.HF Go.Proofs.YtphebogjmbaboaaDoor.HN Go.Proofs.YtphebogjmbaboaaDoor.HO Go.Proofs.YtphebogjmbaboaaDoor.O
set_option linter.unusedVariables false
set_option maxRecDepth 100000
set_option maxRecDepth 100000

theorem ptext_c (w : World) (p x m o N : Nat) (h : Hp) (H : HP w p x m o N h) (s : ByteArray) :
    Calls Tryd.prog 28 #[.pointer (some ⟨p, 0, none⟩), .string s] w fun e w' => e = .returned (.tuple #[.int .i64 (textR N h s.data.toList).2.1, .int .i64 (textR N h s.data.toList).2.2]) ∧ HP w' p x m o N (textR N h s.data.toList).1 ∧ On3 p x m w w' := by
  have hls : s.data.toList.length = s.size := by rw [Array.length_toList]; rfl
  by_cases hs : s.size ≤ 60
  · have HPK := Lib.hid (Go.Proofs.YtphebogjmbaboaaDoor.K.pack_short s w hs)
    have hx : textR N h s.data.toList = make 2 N h 201 (packL s.data.toList) := by unfold textR; rw [if_pos (by omega)]
    rw [hx]
    have hlt := H.lt
    have hpl : (packL s.data.toList).length ≤ 1000000 := by unfold packL; rw [pk_len]; omega
    have HMK := Lib.hid (fun (w1 : World) v (hb : Below w.heap.size w w1) (hv : Go.Proofs.YtphebogjmbaboaaDoor.A.HasI w1 v (packL s.data.toList)) (hv2 : ∀ b, v.ownBlock = some b → w.heap.size ≤ b) => make_c w1 p x m o N h (H.keep hb) 201 v _ (has_row hv) (fun b hb => by have := hv2 b hb; omega) hpl)
    obtain ⟨⟨M1, M2, M3⟩, hM⟩ : ∃ x, make 2 N h 201 (packL s.data.toList) = x := ⟨_, rfl⟩
    obtain ⟨L, hL⟩ : ∃ x, packL s.data.toList = x := ⟨_, rfl⟩
    rw [hL] at HPK
    rw [hM, hL] at HMK
    rw [hM]
    clear hx H hM hL hls hlt hpl
    go_enter Tryd.func28, Tryd.ntmps28
    go_wp2_with fail
    refine HPK.out.mono ?_
    rintro e w1 ⟨⟨mm, hmm, rfl, hv⟩, hb⟩
    have HB1 := Lib.hid hb
    have HV1 := Lib.hid (Go.Proofs.YtphebogjmbaboaaDoor.A.own_has hv)
    clear hb hv hmm
    go_wp2_with fail
    refine (HMK.out _ _ HB1.out HV1.out (fun b hb => by cases hb; exact Nat.le_refl _)).mono ?_
    rintro e w2 ⟨rfl, hd, ho⟩
    have HD2 := Lib.hid hd
    have HO2 := Lib.hid (On3.trans (On3.of HB1.out) ho)
    clear hd ho
    go_wp2_with fail
    go_ret2
    exact ⟨rfl, HD2.out, HO2.out⟩
  · have HPK := Lib.hid (Go.Proofs.YtphebogjmbaboaaDoor.K.pack_long s w (by omega))
    have hx : textR N h s.data.toList = (h, 0, 12) := by unfold textR; rw [if_neg (by omega)]
    rw [hx]
    have HH := Lib.hid H
    clear hx H hls
    go_enter Tryd.func28, Tryd.ntmps28
    go_wp2_with fail
    refine HPK.out.mono ?_
    rintro e w1 ⟨rfl, rfl⟩
    go_wp2_with fail
    go_ret2
    exact ⟨rfl, HH.out, On3.refl _ _ _ _⟩
end Go.Proofs.YtphebogjmbaboaaDoor.HV
