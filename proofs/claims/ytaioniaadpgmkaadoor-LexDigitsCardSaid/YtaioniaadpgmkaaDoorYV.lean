/- The document's examples: true, whenever the digits' table is as it was laid. -/
import Derived.Test.YtaioniaadpgmkaaDoorYT
import Derived.Test.YtaioniaadpgmkaaDoorD
import Derived.Outline
namespace Go.Proofs.YtaioniaadpgmkaaDoor.YV
open Go.RowKit Go.Proofs.YtaioniaadpgmkaaDoor.P Go.Proofs.YtaioniaadpgmkaaDoor.A Go.Proofs.YtaioniaadpgmkaaDoor.TK Go.Proofs.YtaioniaadpgmkaaDoor.TO Go.Proofs.YtaioniaadpgmkaaDoor.YT
set_option linter.unusedVariables false

theorem sub_post {w : World} {L : List Tok × Nat × Nat} {x : Ending} {w' : World} (h : TokPost w L x w') (hne : L.1 ≠ []) :
    ∃ b off cap, x = .returned (.tuple #[.slice (some ⟨b, off, none⟩) L.1.length cap, .int .i64 (L.2.1 : Int), .int .i64 (L.2.2 : Int)]) ∧ b < w'.heap.size ∧ Hid (∀ j (h : j < L.1.length) i, i < 4 → w'.cell? ⟨b, off + (4 * j + i), none⟩ = (tcell L.1[j])[i]?) ∧ Below w.heap.size w w' := by
  obtain ⟨v, rfl, ⟨ao, cap, rfl, hc, h⟩, hb⟩ := h
  rcases h with h | ⟨b, off, rfl, hlt, hcell⟩
  · exact absurd h hne
  · exact ⟨b, off, cap, rfl, hlt, hcell, hb⟩
/-- Nothing but an error. -/
theorem sub_err {w : World} {p e : Nat} {x : Ending} {w' : World} (h : TokPost w ([], p, e) x w') :
    ∃ ao cap, x = .returned (.tuple #[.slice ao 0 cap, .int .i64 (p : Int), .int .i64 (e : Int)]) ∧ Below w.heap.size w w' := by
  obtain ⟨v, rfl, ⟨ao, cap, rfl, hc, h⟩, hb⟩ := h
  exact ⟨ao, cap, rfl, hb⟩

def ex1 : List Tok := [⟨3, [120, 49], 0, 0⟩, ⟨5, [45, 62], 0, 2⟩, ⟨2, [97], 0, 4⟩, ⟨0, [], 0, 7⟩]
def ex2 : List Tok := [⟨4, [65], 0, 0⟩, ⟨3, [98], 0, 2⟩, ⟨0, [], 0, 3⟩]
theorem toks1 : toks (⟨#[120, 49, 45, 62, 34, 97, 34]⟩ : ByteArray).data.toList = (ex1, 0, 0) := by rfl
theorem toks2 : toks (⟨#[65, 32, 98]⟩ : ByteArray).data.toList = (ex2, 0, 0) := by rfl
theorem toks3 : toks (⟨#[36]⟩ : ByteArray).data.toList = ([], 0, 10) := by rfl

theorem lives_any (w : World) (hd : Dig w) :
    Calls Tryd.prog 14 #[] w fun e w' => e = .returned (.bool true) ∧ Below w.heap.size w w' := by
  have T1 := fun W (hW : Dig W) => tokens_short ⟨#[120, 49, 45, 62, 34, 97, 34]⟩ W (by decide) hW
  have T2 := fun W (hW : Dig W) => tokens_short ⟨#[65, 32, 98]⟩ W (by decide) hW
  have T3 := fun W (hW : Dig W) => tokens_short ⟨#[36]⟩ W (by decide) hW
  rw [toks1] at T1
  rw [toks2] at T2
  rw [toks3] at T3
  have HD := Lib.hid hd
  clear hd
  go_enter Tryd.func14, Tryd.ntmps14
  go_wp2_with fail
  refine (T1 _ HD.out).mono ?_
  intro x w1 h1
  obtain ⟨b1, o1, c1, rfl, l1, C1, B1⟩ := sub_post h1 (by simp [ex1])
  have HB1 := Lib.hid B1
  have HD1 := Lib.hid (HD.out.below B1)
  clear h1 B1 T1
  go_wp2_with fail
  refine (T2 _ HD1.out).mono ?_
  intro x w2 h2
  obtain ⟨b2, o2, c2, rfl, l2, C2, B2⟩ := sub_post h2 (by simp [ex2])
  have HB2 := Lib.hid B2
  have HD2 := Lib.hid (HD1.out.below B2)
  clear h2 B2 T2
  go_wp2_with fail
  refine (T3 _ HD2.out).mono ?_
  intro x w3 h3
  obtain ⟨ao, c3, rfl, B3⟩ := sub_err h3
  have HB3 := Lib.hid B3
  clear h3 B3 T3
  have HB23 := Lib.hid (HB2.out.trans (HB3.out.mono HB2.out.size))
  have f1 : w3.cell? ⟨b1, o1 + 7, none⟩ = some (.int .i64 2) := (HB23.out.cell (p := ⟨b1, o1 + 7, none⟩) l1).trans (C1.out 1 (by decide) 3 (by decide))
  have f2 : w3.cell? ⟨b1, o1 + 9, none⟩ = some (.string ⟨#[97]⟩) := (HB23.out.cell (p := ⟨b1, o1 + 9, none⟩) l1).trans (C1.out 2 (by decide) 1 (by decide))
  have f3 : w3.cell? ⟨b1, o1 + 15, none⟩ = some (.int .i64 7) := (HB23.out.cell (p := ⟨b1, o1 + 15, none⟩) l1).trans (C1.out 3 (by decide) 3 (by decide))
  have f4 : w3.cell? ⟨b2, o2, none⟩ = some (.int .i64 4) := (HB3.out.cell (p := ⟨b2, o2, none⟩) l2).trans (C2.out 0 (by decide) 0 (by decide))
  go_wp2
  go_ret
  exact ⟨rfl, (HB1.out.trans (HB2.out.mono HB1.out.size)).trans (HB3.out.mono (Nat.le_trans HB1.out.size HB2.out.size))⟩
end Go.Proofs.YtaioniaadpgmkaaDoor.YV
