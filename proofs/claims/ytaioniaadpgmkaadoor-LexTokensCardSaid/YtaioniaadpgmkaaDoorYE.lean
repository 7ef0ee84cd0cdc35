/- Whether a text is a key, a byte a sign: the document's answers. -/
import Derived.Test.YtaioniaadpgmkaaDoorYK
import Derived.Test.YtaioniaadpgmkaaDoorV
import Derived.OneCell
import Derived.Outline
namespace Go.Proofs.YtaioniaadpgmkaaDoor.YE
open Go.RowKit Go.Proofs.YtaioniaadpgmkaaDoor.P Go.Proofs.YtaioniaadpgmkaaDoor.A Go.Proofs.YtaioniaadpgmkaaDoor.V Go.Proofs.YtaioniaadpgmkaaDoor.TK Go.Proofs.YtaioniaadpgmkaaDoor.YC Go.Proofs.YtaioniaadpgmkaaDoor.YK
set_option linter.unusedVariables false

def KC : Array Value := #[.string ⟨#[108, 101, 116]⟩, .string ⟨#[114, 101, 99]⟩, .string ⟨#[105, 110]⟩, .string ⟨#[102, 117, 110]⟩, .string ⟨#[105, 102]⟩, .string ⟨#[116, 104, 101, 110]⟩, .string ⟨#[101, 108, 115, 101]⟩, .string ⟨#[109, 97, 116, 99, 104]⟩, .string ⟨#[119, 105, 116, 104]⟩, .string ⟨#[101, 110, 100]⟩, .string ⟨#[116, 114, 121]⟩, .string ⟨#[112, 114, 105, 110, 116]⟩, .string ⟨#[114, 97, 105, 115, 101]⟩, .string ⟨#[115, 112, 97, 119, 110]⟩, .string ⟨#[97, 116, 111, 109, 105, 99, 97, 108, 108, 121]⟩, .string ⟨#[114, 101, 116, 114, 121]⟩, .string ⟨#[111, 114, 101, 108, 115, 101]⟩, .string ⟨#[116, 118, 97, 114]⟩, .string ⟨#[114, 101, 97, 100]⟩, .string ⟨#[119, 114, 105, 116, 101]⟩, .string ⟨#[116, 121, 112, 101]⟩, .string ⟨#[111, 102]⟩, .string ⟨#[100, 111]⟩]
theorem KC_at : ∀ k (h : k < 23), KC[k]? = some (.string ⟨(keys[k]'h).toArray⟩)
  | 0, _ => rfl
  | 1, _ => rfl
  | 2, _ => rfl
  | 3, _ => rfl
  | 4, _ => rfl
  | 5, _ => rfl
  | 6, _ => rfl
  | 7, _ => rfl
  | 8, _ => rfl
  | 9, _ => rfl
  | 10, _ => rfl
  | 11, _ => rfl
  | 12, _ => rfl
  | 13, _ => rfl
  | 14, _ => rfl
  | 15, _ => rfl
  | 16, _ => rfl
  | 17, _ => rfl
  | 18, _ => rfl
  | 19, _ => rfl
  | 20, _ => rfl
  | 21, _ => rfl
  | 22, _ => rfl
  | k + 23, h => absurd h (by omega)
theorem rkey_any (s : ByteArray) (w : World) :
    Calls Tryd.prog 16 #[.string s] w fun e w' => e = .returned (.bool (isKey s.data.toList)) ∧ Below w.heap.size w w' := by
  obtain ⟨x, hx⟩ : ∃ x, Hid (x = isKey s.data.toList) := ⟨_, rfl⟩
  rw [← hx.out]
  have hcell : Hid (∀ k (h : k < 23), (w.alloc (.cells KC 9)).cell? ⟨w.heap.size, k, none⟩ = some (.string ⟨(keys[k]'h).toArray⟩)) := fun k h => by
    rw [World.cell?_alloc_at _ _ _ _ rfl]; exact KC_at k h
  have HB : Hid (Below w.heap.size w (w.alloc (.cells KC 9))) := (Below.refl _ _).alloc (Nat.le_refl _) _
  unfold KC at hcell HB
  go_enter Tryd.func16, Tryd.ntmps16
  go_wp2
  generalize w.alloc _ = w1 at hcell HB ⊢
  go_loop [4] (fun v => ∃ k : Nat, k ≤ 23 ∧ v = .int .i64 (k : Int) ∧ Hid (∀ j (h : j < 23), j < k → keys[j]'h ≠ s.data.toList)) (fun v => 23 - (intOf v).toNat)
  case atStart => exact ⟨0, Nat.zero_le _, rfl, fun j h hj => absurd hj (Nat.not_lt_zero _)⟩
  case round =>
    obtain ⟨k, hk, rfl, HN⟩ := hrel
    by_cases hlt : k < 23
    · have hc := hcell.out k hlt
      obtain ⟨t, ht⟩ : ∃ t : ByteArray, t = ⟨(keys[k]'hlt).toArray⟩ := ⟨_, rfl⟩
      have htl : t.data.toList = keys[k]'hlt := by rw [ht]
      rw [← ht] at hc
      by_cases he : keys[k]'hlt = s.data.toList
      · have HX : Hid (x = true) := by
          show x = true
          rw [hx.out]; exact decide_eq_true (by rw [← he]; exact List.getElem_mem _)
        have hb : (t.toList == s.toList) = true := by rw [ByteArray.toList_eq, ByteArray.toList_eq, htl, he]; simp
        clear ht htl he
        go_wp2
        go_ret
        exact ⟨ret_bool (by rw [HX.out]), HB.out⟩
      · have hb : (t.toList == s.toList) = false := by rw [ByteArray.toList_eq, ByteArray.toList_eq, htl, beq_eq_false_iff_ne]; exact he
        have HN2 : Hid (∀ j (h : j < 23), j < k + 1 → keys[j]'h ≠ s.data.toList) := fun j h hj => by
          by_cases e : j = k
          · subst e; exact he
          · exact HN.out j h (by omega)
        clear ht htl he
        go_wp2
        go_round
        case rel => exact ⟨k + 1, by omega, by go_num, HN2⟩
        case measure => simp [intOf]; omega
    · have HX : Hid (x = false) := by
        show x = false
        rw [hx.out]
        refine decide_eq_false (fun hm => ?_)
        obtain ⟨j, hj, e⟩ := List.getElem_of_mem hm
        exact HN.out j hj (by have : j < 23 := hj; omega) e
      go_wp2
      go_ret
      exact ⟨ret_bool (by rw [HX.out]), HB.out⟩
end Go.Proofs.YtaioniaadpgmkaaDoor.YE
