/- StrsUnpacks: the walk. -/
import Derived.Test.YtenhncepoclolaaDoorL
import Derived.Test.YtenhncepoclolaaDoorD
import Derived.Test.YtenhncepoclolaaDoorK
import Derived.Test.YtenhncepoclolaaDoorM2
import Derived.Test.YtenhncepoclolaaDoorRN
namespace Go.Proofs.YtenhncepoclolaaDoor.strsUnpacks
open Go.RowKit Go.Maps
open Go.Proofs.YtenhncepoclolaaDoor.P Go.Proofs.YtenhncepoclolaaDoor.A Go.Proofs.YtenhncepoclolaaDoor.L Go.Proofs.YtenhncepoclolaaDoor.D Go.Proofs.YtenhncepoclolaaDoor.K Go.Proofs.YtenhncepoclolaaDoor.O Go.Proofs.YtenhncepoclolaaDoor.N Go.Proofs.YtenhncepoclolaaDoor.M2 Go.Proofs.YtenhncepoclolaaDoor.UN Go.Proofs.YtenhncepoclolaaDoor.UA Go.Proofs.YtenhncepoclolaaDoor.RN Go.Proofs.YtenhncepoclolaaDoor.I
set_option linter.unusedVariables false

theorem self_same (l : List Int) : decide (l = l) = true := by simp
theorem size_of_list (l : List UInt8) : (⟨l.toArray⟩ : ByteArray).size = l.length := by
  show l.toArray.size = _; simp
theorem list_of_list (l : List UInt8) : (⟨l.toArray⟩ : ByteArray).data.toList = l := by simp
theorem up_err {zs : List Int} : (up zs).2 = 0 ∨ up zs = ([], 1) := by
  have ul_err : ∀ (n : Nat) (r : List Int) (acc : List UInt8), (ul n r acc).2 = 0 ∨ ul n r acc = ([], 1) := by
    intro n r
    induction r with
    | nil => intro acc; exact .inl rfl
    | cons z r ih =>
      intro acc
      by_cases h : hi z (min (n - acc.length) 7) = 0
      · have : ul n (z :: r) acc = ul n r (acc ++ byts z (min (n - acc.length) 7)) := by show (if _ then _ else _) = _; rw [if_pos h]
        rw [this]; exact ih _
      · right; show (if _ then _ else _) = _; rw [if_neg h]
  match zs with
  | [] => exact .inr rfl
  | z :: r =>
    by_cases h : 0 ≤ z ∧ z ≤ 60 ∧ r.length = (z.toNat + 6) / 7
    · have : up (z :: r) = ul z.toNat r [] := by show (if _ then _ else _) = _; rw [if_pos h]
      rw [this]; exact ul_err _ _ _
    · right; show (if _ then _ else _) = _; rw [if_neg h]
theorem few_has (w : World) (v : Value) (zs : List Int) (h : HasI w v zs) (ao : Option Addr) (cap : Nat) (hv : v = .slice ao zs.length cap) (h15 : 15 < zs.length) : HasI w (.slice ao 15 cap) (zs.take 15) := by
  obtain ⟨ao', cap', hv', hc, h⟩ := h
  rw [hv] at hv'
  injection hv' with e1 _ e3
  subst e1; subst e3
  have hl : (zs.take 15).length = 15 := by simp; omega
  refine ⟨ao, cap, by rw [hl], by omega, ?_⟩
  rcases h with h | ⟨b, off, ha, hb, hcell⟩
  · subst h; simp at h15
  · exact .inr ⟨b, off, ha, hb, fun j hj => by rw [hcell j (by omega)]; simp⟩

theorem core (v : Value) (zs : List Int) (w : World) (h : HasI w v zs) (hwf : ∀ z ∈ zs, z ≤ 9223372036854775807) :
    ∃ (s : ByteArray) (er : Nat), Hid (er = 0 ∨ er = 1) ∧ Hid (er = 0 → packL s.data.toList = zs ∧ s.size ≤ 60) ∧
      (∀ w', HasI w' v zs → Calls Tryd.prog 17 #[v] w' fun e w'' => e = .returned (.tuple #[.string s, .int .i64 (er : Int)]) ∧ Below w'.heap.size w' w'') ∧
      (∀ w', HasI w' v zs → Calls Tryd.prog 18 #[v] w' fun e w'' => e = .returned (.tuple #[.string s, .int .i64 (er : Int)]) ∧ Below w'.heap.size w' w'') := by
  refine ⟨⟨(up zs).1.toArray⟩, (up zs).2, ?_, ?_, fun w' h' => unpack_any v zs w' h', fun w' h' => rn_any v zs w' h' hwf⟩
  · rcases up_err (zs := zs) with h | h
    · exact .inl h
    · right; rw [h]
  · intro h0
    rw [list_of_list, size_of_list]
    exact up_pack (s := (up zs).1) (by rw [← h0])

set_option maxHeartbeats 800000 in
theorem walk (w : World) (v0 : Value) (zs0 : List Int) (h0 : HasI w v0 zs0) (hw0 : ∀ z ∈ zs0, z ≤ 9223372036854775807) (hd : Dig w) :
    Calls Tryd.prog 4 #[v0] w fun e w' => e = .returned (.bool true) ∧ Below w.heap.size w w' := by
  obtain ⟨ao, cap, rfl, hcap, hr⟩ := h0
  by_cases h15 : zs0.length ≤ 15
  · obtain ⟨zs, hzs⟩ : ∃ zs, zs = zs0 := ⟨_, rfl⟩
    have hI : HasI w (.slice ao zs0.length cap) zs := by rw [hzs]; exact ⟨ao, cap, rfl, hcap, hr⟩
    have hW : ∀ z ∈ zs, z ≤ 9223372036854775807 := by rw [hzs]; exact hw0
    have hl : zs.length ≤ 1000 := by rw [hzs]; omega
    clear hr hw0 hzs
    generalize zs0.length = n at *
    go_enter Tryd.func4, Tryd.ntmps4
    obtain ⟨s, er, HE, HP, e1, e2⟩ := core _ zs w hI hW
    go_wp2_with fail
    refine (e1 _ hI).mono ?_
    rintro e w1 ⟨rfl, hb1⟩
    have hI1 := hI.below hb1 (Nat.le_refl _)
    go_wp2_with fail
    refine (e2 _ hI1).mono ?_
    rintro e w2 ⟨rfl, hb2⟩
    have hI2 := hI1.below hb2 (Nat.le_refl _)
    have hb12 := bnext hb1 hb2
    clear e1 e2 hb1 hb2 hI hI1
    rcases HE.out with h0 | h1
    · obtain ⟨hp1, hs60⟩ := HP.out h0
      subst h0
      go_wp2_with fail
      refine (pack_short s _ hs60).mono ?_
      rintro e w3 ⟨⟨m, hm, rfl, hown⟩, hb3⟩
      clear hm
      have hI3 := hI2.below hb3 (Nat.le_refl _)
      have hk := own_has hown
      rw [hp1] at hk
      clear hown
      go_wp2_with fail
      refine (same_any _ _ _ _ _ hk hI3 hl).mono ?_
      rw [self_same zs]
      rintro e w4 ⟨rfl, hb4⟩
      have hb34 := bnext (bnext hb12 hb3) hb4
      go_wp2_with (first
        | (go_at_call 16; refine (lives_any _ (hd.below hb34)).mono ?_; rintro e w5 ⟨rfl, hb5⟩))
      go_ret
      exact ⟨rfl, bnext hb34 hb5⟩
    · subst h1
      go_wp2_with (first
        | (go_at_call 16; refine (lives_any _ (hd.below hb12)).mono ?_; rintro e w5 ⟨rfl, hb5⟩))
      go_ret
      exact ⟨rfl, bnext hb12 hb5⟩
  · rcases hr with hr | ⟨b, off, rfl, hb, hcell⟩
    · subst hr; simp at h15
    · obtain ⟨zs, hzs⟩ : ∃ zs, zs = zs0.take 15 := ⟨_, rfl⟩
      have hI : HasI w (.slice (some ⟨b, off, none⟩) 15 cap) zs := by
        rw [hzs]; exact few_has w _ zs0 ⟨_, cap, rfl, hcap, .inr ⟨b, off, rfl, hb, hcell⟩⟩ _ cap rfl (by omega)
      have hW : ∀ z ∈ zs, z ≤ 9223372036854775807 := by rw [hzs]; exact fun z hz => hw0 z (List.mem_of_mem_take hz)
      have hl : zs.length ≤ 1000 := by rw [hzs]; simp; omega
      clear hcell hw0 hzs
      generalize zs0.length = n at *
      go_enter Tryd.func4, Tryd.ntmps4
      obtain ⟨s, er, HE, HP, e1, e2⟩ := core _ zs w hI hW
      go_wp2_with fail
      refine (e1 _ hI).mono ?_
      rintro e w1 ⟨rfl, hb1⟩
      have hI1 := hI.below hb1 (Nat.le_refl _)
      go_wp2_with fail
      refine (e2 _ hI1).mono ?_
      rintro e w2 ⟨rfl, hb2⟩
      have hI2 := hI1.below hb2 (Nat.le_refl _)
      have hb12 := bnext hb1 hb2
      clear e1 e2 hb1 hb2 hI hI1
      rcases HE.out with h0 | h1
      · obtain ⟨hp1, hs60⟩ := HP.out h0
        subst h0
        go_wp2_with fail
        refine (pack_short s _ hs60).mono ?_
        rintro e w3 ⟨⟨m, hm, rfl, hown⟩, hb3⟩
        clear hm
        have hI3 := hI2.below hb3 (Nat.le_refl _)
        have hk := own_has hown
        rw [hp1] at hk
        clear hown
        go_wp2_with fail
        refine (same_any _ _ _ _ _ hk hI3 hl).mono ?_
        rw [self_same zs]
        rintro e w4 ⟨rfl, hb4⟩
        have hb34 := bnext (bnext hb12 hb3) hb4
        go_wp2_with (first
          | (go_at_call 16; refine (lives_any _ (hd.below hb34)).mono ?_; rintro e w5 ⟨rfl, hb5⟩))
        go_ret
        exact ⟨rfl, bnext hb34 hb5⟩
      · subst h1
        go_wp2_with (first
          | (go_at_call 16; refine (lives_any _ (hd.below hb12)).mono ?_; rintro e w5 ⟨rfl, hb5⟩))
        go_ret
        exact ⟨rfl, bnext hb12 hb5⟩

end Go.Proofs.YtenhncepoclolaaDoor.strsUnpacks
