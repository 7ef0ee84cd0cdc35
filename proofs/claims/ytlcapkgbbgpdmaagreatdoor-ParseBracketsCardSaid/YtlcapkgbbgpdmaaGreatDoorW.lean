/- The letters behind a backslash: the map, and the map turned round, in whatever order it is gone through. -/
import Derived.Test.YtlcapkgbbgpdmaaGreatDoorA
namespace Go.Proofs.YtlcapkgbbgpdmaaGreatDoor.W
open Go.RowKit Go.Maps Go.Proofs.YtlcapkgbbgpdmaaGreatDoor.P Go.Proofs.YtlcapkgbbgpdmaaGreatDoor.A
set_option linter.unusedVariables false
set_option maxRecDepth 100000

theorem keyB {b : Int} (h : (Lit.int .u8 b).wf = true) : keyOf Tryz.prog 5 (.int .u8 b) = some (kb b) := keyOf_int_mk Tryz.underlying5 h

theorem written_any (w : World) :
    Calls Tryz.prog 181 #[] w fun e w' => e = .returned (.map (some w.heap.size)) ∧ Map w' w.heap.size D3 ∧ Below w.heap.size w w' := by
  have hmm := @run_makeMap Tryz.prog
  go_enter Tryz.func181, Tryz.ntmps181
  go_wp2_with (first
    | (refine wpList_insert_own _ rfl (.tmp 1) (.const (.int .u8 34)) (.const (.int .u8 34)) 143 rfl 5 5 lawB Tryz.underlying143 (plainElem Tryz.prog 5) w.heap.size 0 D0 rfl (World.ownsMap_made w Tryz.prog 5 (plainElem Tryz.prog 5)) (by decide) (.int .u8 34) (.int .u8 34) (kb 34) rfl rfl (keyB (b := 34) (by decide)) (.lit (kb 34)) [] (plainElem_int Tryz.underlying5 (by decide)) ?_; intro w1 h1 g1)
    | (refine wpList_insert_own _ rfl (.tmp 1) (.const (.int .u8 92)) (.const (.int .u8 92)) 143 rfl 5 5 lawB Tryz.underlying143 (plainElem Tryz.prog 5) w.heap.size _ _ rfl h1 (by decide) (.int .u8 92) (.int .u8 92) (kb 92) rfl rfl (keyB (b := 92) (by decide)) (.lit (kb 92)) [] (plainElem_int Tryz.underlying5 (by decide)) ?_; intro w2 h2 g2)
    | (refine wpList_insert_own _ rfl (.tmp 1) (.const (.int .u8 10)) (.const (.int .u8 110)) 143 rfl 5 5 lawB Tryz.underlying143 (plainElem Tryz.prog 5) w.heap.size _ _ rfl h2 (by decide) (.int .u8 10) (.int .u8 110) (kb 10) rfl rfl (keyB (b := 10) (by decide)) (.lit (kb 110)) [] (plainElem_int Tryz.underlying5 (by decide)) ?_; intro w3 h3 g3))
  go_ret
  exact ⟨rfl, h3, ((((Below.refl _ _).alloc (Nat.le_refl _) _).grown g1 (by simp) (fun j hj => by cases hj; exact Nat.le_refl _)).grown g2 (by have := g1.size; simp at this; omega) (fun j hj => by cases hj; exact Nat.le_refl _)).grown g3 (by have := g1.size; have := g2.size; simp at *; omega) (fun j hj => by cases hj; exact Nat.le_refl _)⟩

theorem left_sub {left left' : Lit → Bool} {x : Int} (h : ∀ kl, left kl = true → Maps.has D3 kl = true) (e : left' = fun z => left z && !z.sameKey (kb x)) : ∀ kl, left' kl = true → Maps.has D3 kl = true := by
  subst e
  intro kl hk
  simp only [Bool.and_eq_true] at hk
  exact h kl hk.1

theorem meant_any (w : World) :
    Calls Tryz.prog 154 #[] w fun e w' => e = .returned (.map (some w.heap.size)) ∧ (∃ D, IsMeant D ∧ Map w' w.heap.size D) ∧ w.heap.size < w'.heap.size ∧ Below w.heap.size w w' := by
  have hmm := @run_makeMap Tryz.prog
  have e1 : (w.alloc (.map #[] 0)).heap.size = w.heap.size + 1 := by simp
  go_enter Tryz.func154, Tryz.ntmps154
  go_wp2_with (first
    | (go_at_call 181; refine (written_any _).mono ?_; rintro e w1 ⟨rfl, hown, hb1⟩; rw [e1] at hown)
    | (at_range; go_loud (refine wpList_range_own _ rfl _ 143 rfl 5 5 lawB Tryz.underlying143 _ _ 3 D3 rfl hown ?_); intro w0 hrg0 hg0 hs0))
  go_frame
  have hsz := hb1.size
  go_loopw [2] (fun _ wr => ∃ (left : Lit → Bool) (cnt : Nat) (Dout : DataW Unit), wr.ranges Tryz.prog 5 (plainElem Tryz.prog 5) (w.heap.size + 1) w1.heap.size 3 D3 left cnt ∧ cnt ≤ 3 ∧
      wr.ownsMap Tryz.prog 5 (plainElem Tryz.prog 5) w.heap.size (3 - cnt) Dout ∧ Turned Dout left ∧ (∀ kl, left kl = true → Maps.has D3 kl = true) ∧ Below w.heap.size w wr)
    (fun _ wr => wr.rangeLeft (w.heap.size + 1) w1.heap.size)
  case atStart =>
    exact ⟨_, _, D0, hrg0, Nat.le_refl _, ((map_below (World.ownsMap_made _ _ _ _) hb1 (Nat.le_refl _)).kept hg0 (by simp)).mono (Nat.zero_le _), turned_start, fun _ h => h,
      (((Below.refl _ _).alloc (Nat.le_refl _) _).trans (hb1.mono (by simp))).grown hg0 (by simp at hsz; omega) (fun j hj => by cases hj)⟩
  case round =>
    obtain ⟨left, cnt, Dout, hrg, hcs, hout, hT, hle, hnx⟩ := hrel
    go_wp2_with (first
      | (at_next; refine wpList_next_ranges_ii _ rfl _ rfl 5 5 .u8 .u8 lawB Tryz.underlying5 Tryz.underlying5 (w.heap.size + 1) w1.heap.size 3 _ _ _ rfl hrg ?_ ?_)
      | go_in)
    · intro hc0 hl0
      go_wp2
      go_ret
      subst hc0
      exact ⟨rfl, ⟨Dout, turned_end hT hl0, hout⟩, hout.lt, hnx⟩
    · intro x c w2 cnt1 hwx hwc hlx hat hrg1 hlt hg1 hs1 hen
      have hout1 := hout.kept hg1 (by simp; simp at hsz; omega)
      go_wp2_with (first
        | (at_mapUpdate; refine wpList_mapUpdate_own _ rfl _ _ _ 143 rfl 5 5 lawB Tryz.underlying143 _ w.heap.size _ _ rfl hout1 (by unfold maxLen; omega) _ _ _ rfl rfl (keyB hwc) _ [] (plainElem_int Tryz.underlying5 hwx) ?_; intro w3 hout2 hg2; go_frame)
        | go_in)
      have hrg2 := hrg1.kept hg2 (fun e => by have := Option.some.inj e; omega) (fun e => by have := Option.some.inj e; simp at hsz; omega)
      go_roundw
      case rel =>
        exact ⟨_, cnt1, _, hrg2, by omega, hout2.mono (by omega), turned_step hT hout.isMap hlx hle hat, left_sub hle rfl,
          (hnx.grown hg1 hnx.size (fun j hj => by cases hj; simp at hsz; omega)).grown hg2 (by have := hnx.size; omega) (fun j hj => by cases hj; exact Nat.le_refl _)⟩
      case measure => rw [hrg2.left_eq, hrg.left_eq]; exact hlt
end Go.Proofs.YtlcapkgbbgpdmaaGreatDoor.W
