/- What is packed is unpacked, and no other numbers are a text's. Nothing of the program is in sight. -/
import Derived.Test.YtenhncepoclolaaDoorN
namespace Go.Proofs.YtenhncepoclolaaDoor.M2
open Go.Proofs.YtenhncepoclolaaDoor.P Go.Proofs.YtenhncepoclolaaDoor.O Go.Proofs.YtenhncepoclolaaDoor.N

theorem ul_inv (n : Nat) (s : List UInt8) : ∀ (r : List Int) (acc : List UInt8), ul n r acc = (s, 0) → acc.length ≤ n →
    s.length = min n (acc.length + 7 * r.length) ∧ s.take acc.length = acc ∧ ∀ j (h : j < r.length), ((le ((s.drop (acc.length + 7 * j)).take 7) : Nat) : Int) = r[j]
  | [], acc, h, hl => by
    have e : acc = s := congrArg Prod.fst h
    subst e
    exact ⟨by simp; omega, by simp, fun j h => by simp at h⟩
  | z :: r, acc, h, hl => by
    obtain ⟨m, hm⟩ : ∃ m, m = min (n - acc.length) 7 := ⟨_, rfl⟩
    have h' : (if hi z (min (n - acc.length) 7) = 0 then ul n r (acc ++ byts z (min (n - acc.length) 7)) else ([], 1)) = (s, 0) := h
    rw [← hm] at h'
    by_cases h0 : hi z m = 0
    · rw [if_pos h0] at h'
      have hal : (acc ++ byts z m).length = acc.length + m := by rw [List.length_append, byts_len]
      obtain ⟨i1, i2, i3⟩ := ul_inv n s r (acc ++ byts z m) h' (by rw [hal]; omega)
      rw [hal] at i1 i2 i3
      have hz : 0 ≤ z := by
        by_cases hz : 0 ≤ z
        · exact hz
        · have := hi_neg (show z < 0 by omega) m; omega
      have hchunk : (s.drop acc.length).take 7 = byts z m := by
        have e1 : (s.drop acc.length).take m = byts z m := by
          have := congrArg (List.drop acc.length) i2
          rw [List.drop_take, List.drop_left] at this
          rw [← this]
          congr 1
          omega
        by_cases h7 : m = 7
        · rw [← h7]; exact e1
        · have hsl : (s.drop acc.length).length ≤ m := by simp; omega
          rw [List.take_of_length_le (by omega), ← e1, List.take_of_length_le hsl]
      refine ⟨by simp only [List.length_cons]; omega, ?_, ?_⟩
      · have := congrArg (List.take acc.length) i2
        rw [List.take_take, Nat.min_eq_left (by omega)] at this
        simpa using this
      · intro j hj
        rcases j with _ | j
        · rw [Nat.mul_zero, Nat.add_zero, hchunk]
          have := le_byts z hz m
          rw [h0] at this
          simp only [List.getElem_cons_zero]
          omega
        · rw [List.getElem_cons_succ, ← i3 j (by simpa using hj)]
          by_cases h7 : m = 7
          · rw [show acc.length + 7 * (j + 1) = acc.length + m + 7 * j from by omega]
          · have d1 : s.drop (acc.length + 7 * (j + 1)) = [] := List.drop_eq_nil_of_le (by omega)
            have d2 : s.drop (acc.length + m + 7 * j) = [] := List.drop_eq_nil_of_le (by omega)
            rw [d1, d2]
    · rw [if_neg h0] at h'
      have := congrArg Prod.snd h'
      simp at this

theorem up_pack {zs : List Int} {s : List UInt8} (h : up zs = (s, 0)) : packL s = zs ∧ s.length ≤ 60 := by
  match zs, h with
  | [], h =>
    have := congrArg Prod.snd h
    simp [up] at this
  | z :: r, h =>
    have h' : (if 0 ≤ z ∧ z ≤ 60 ∧ r.length = (z.toNat + 6) / 7 then ul z.toNat r [] else ([], 1)) = (s, 0) := h
    by_cases hc : 0 ≤ z ∧ z ≤ 60 ∧ r.length = (z.toNat + 6) / 7
    · rw [if_pos hc] at h'
      obtain ⟨c1, c2, c3⟩ := hc
      obtain ⟨i1, _, i3⟩ := ul_inv z.toNat s r [] h' (Nat.zero_le _)
      simp only [List.length_nil, Nat.zero_add] at i1 i3
      have hs : s.length = z.toNat := by omega
      refine ⟨?_, by omega⟩
      unfold packL pk
      rw [hs, ← c3]
      have e1 : ((z.toNat : Nat) : Int) = z := by omega
      rw [e1]
      congr 1
      apply List.ext_getElem
      · simp
      · intro j h1 h2
        rw [← i3 j h2]
        simp [grp]
    · rw [if_neg hc] at h'
      have := congrArg Prod.snd h'
      simp at this

theorem ul_groups (l : List UInt8) (q : Nat) (hq : l.length ≤ 7 * q) : ∀ (i k : Nat), k + i = q → ul l.length (((List.range q).map fun j => ((le (grp l j) : Nat) : Int)).drop k) (l.take (7 * k)) = (l, 0)
  | 0, k, h => by
    rw [List.drop_eq_nil_of_le (by simp; omega), List.take_of_length_le (by omega)]
    rfl
  | i + 1, k, h => by
    have hk : k < ((List.range q).map fun j => ((le (grp l j) : Nat) : Int)).length := by simp; omega
    have hz : ((List.range q).map fun j => ((le (grp l j) : Nat) : Int))[k] = ((le (grp l k) : Nat) : Int) := by simp
    have hg : (grp l k).length = min (l.length - (l.take (7 * k)).length) 7 := by
      unfold grp; simp; omega
    obtain ⟨b1, b2⟩ := byts_le (grp l k)
    rw [ul_next hk hz hg b2, b1]
    have e : l.take (7 * k) ++ grp l k = l.take (7 * (k + 1)) := by
      unfold grp
      rw [show 7 * (k + 1) = 7 * k + 7 from by omega, List.take_add]
    rw [e]
    exact ul_groups l q hq i (k + 1) (by omega)

theorem pack_up {l : List UInt8} (h : l.length ≤ 60) : up (packL l) = (l, 0) := by
  unfold packL pk
  show (if 0 ≤ ((l.length : Nat) : Int) ∧ ((l.length : Nat) : Int) ≤ 60 ∧ _ = _ then _ else _) = _
  rw [if_pos ⟨by omega, by omega, by simp⟩, Int.toNat_natCast]
  have := ul_groups l ((l.length + 6) / 7) (by omega) ((l.length + 6) / 7) 0 (by omega)
  simpa using this
theorem pack_inj {l r : List UInt8} (hl : l.length ≤ 60) (hr : r.length ≤ 60) (h : packL l = packL r) : l = r := by
  have := (pack_up hl).symm.trans ((congrArg up h).trans (pack_up hr))
  exact congrArg Prod.fst this
theorem pack_wf (l : List UInt8) (h : l.length ≤ 60) : ∀ z ∈ packL l, z ≤ 9223372036854775807 := by
  intro z hz
  unfold packL pk at hz
  rcases List.mem_cons.1 hz with rfl | hz
  · omega
  · obtain ⟨j, _, rfl⟩ := List.mem_map.1 hz
    have := grp_lt l j
    omega
end Go.Proofs.YtenhncepoclolaaDoor.M2
