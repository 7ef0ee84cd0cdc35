/- How the program unpacks numbers, wherever they lie. -/
import Derived.Test.YtenhncepoclolaaDoorUN
namespace Go.Proofs.YtenhncepoclolaaDoor.UA
open Go.RowKit Go.Maps Go.Proofs.YtenhncepoclolaaDoor.P Go.Proofs.YtenhncepoclolaaDoor.A Go.Proofs.YtenhncepoclolaaDoor.D Go.Proofs.YtenhncepoclolaaDoor.N Go.Proofs.YtenhncepoclolaaDoor.UN
set_option linter.unusedVariables false

/-- Numbers that lie somewhere: the first one, and the others. -/
theorem has_cons {w : World} {v : Value} {z : Int} {r : List Int} (h : HasI w v (z :: r)) :
    ∃ b off cap, v = .slice (some ⟨b, off, none⟩) (r.length + 1) cap ∧ r.length + 1 ≤ cap ∧ b < w.heap.size ∧ w.cell? ⟨b, off, none⟩ = some (.int .i64 z) ∧ ∀ j (h : j < r.length), w.cell? ⟨b, off + 1 + j, none⟩ = some (.int .i64 r[j]) := by
  obtain ⟨ao, cap, hv, hc, h⟩ := h
  rcases h with h | ⟨b, off, ha, hb, hcell⟩
  · cases h
  · subst ha
    refine ⟨b, off, cap, hv, hc, hb, ?_, ?_⟩
    · exact hcell 0 (by simp)
    · intro j hj
      have := hcell (j + 1) (by simpa using hj)
      rw [show off + 1 + j = off + (j + 1) from by omega]
      exact this
theorem has_nil {w : World} {v : Value} (h : HasI w v []) : ∃ ao cap, v = .slice ao 0 cap := by
  obtain ⟨ao, cap, hv, _⟩ := h
  exact ⟨ao, cap, hv⟩

theorem unpack_any (v : Value) (zs : List Int) (w : World) (h : HasI w v zs) :
    Calls Tryd.prog 17 #[v] w fun e w' => e = .returned (nv (up zs)) ∧ Below w.heap.size w w' := by
  match zs, h with
  | [], h =>
    obtain ⟨ao, cap, rfl⟩ := has_nil h
    refine (unpack_none ao cap w).mono ?_
    rintro e w' ⟨he, rfl⟩
    exact ⟨he, Below.refl _ _⟩
  | z :: r, h =>
    obtain ⟨b, off, cap, rfl, hcap, hb, hc, hcs⟩ := has_cons h
    have bad : ¬ (0 ≤ z ∧ z ≤ 60 ∧ r.length = (z.toNat + 6) / 7) → up (z :: r) = ([], 1) := fun hn => by
      show (if _ then _ else _) = _
      rw [if_neg hn]
    by_cases h0 : z < 0
    · rw [bad (by omega)]
      refine (unpack_neg b off _ cap z w (by omega) hc h0).mono ?_
      rintro e w' ⟨he, rfl⟩
      exact ⟨he, Below.refl _ _⟩
    · by_cases h1 : 60 < z
      · rw [bad (by omega)]
        refine (unpack_big b off _ cap z w (by omega) hc h1).mono ?_
        rintro e w' ⟨he, rfl⟩
        exact ⟨he, Below.refl _ _⟩
      · obtain ⟨m, rfl⟩ : ∃ m : Nat, z = (m : Int) := ⟨z.toNat, by omega⟩
        by_cases h2 : r.length + 1 = 1 + (m + 6) / 7
        · have good : up ((m : Int) :: r) = ul m r [] := by
            show (if _ then _ else _) = _
            rw [if_pos ⟨by omega, by omega, by rw [Int.toNat_natCast]; omega⟩, Int.toNat_natCast]
          rw [good]
          by_cases h3 : 1 ≤ r.length
          · exact unpack_good b off cap m r w hb hcap hc (by omega) h2 h3 hcs _ rfl
          · obtain rfl : r = [] := List.eq_nil_of_length_eq_zero (by omega)
            obtain rfl : m = 0 := by simp at h2; omega
            exact unpack_zero b off cap w (by simpa using hcap) hc
        · rw [bad (by rw [Int.toNat_natCast]; omega)]
          refine (unpack_many b off _ cap m w (by omega) hc (by omega) h2).mono ?_
          rintro e w' ⟨he, rfl⟩
          exact ⟨he, Below.refl _ _⟩
end Go.Proofs.YtenhncepoclolaaDoor.UA
