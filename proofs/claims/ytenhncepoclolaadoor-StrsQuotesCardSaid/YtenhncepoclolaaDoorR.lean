/- How the document writes a text. -/
import Derived.Test.YtenhncepoclolaaDoorV
import Derived.BigRegion
namespace Go.Proofs.YtenhncepoclolaaDoor.R
open Go.RowKit Go.Maps Go.Proofs.YtenhncepoclolaaDoor.P Go.Proofs.YtenhncepoclolaaDoor.A Go.Proofs.YtenhncepoclolaaDoor.V
set_option linter.unusedVariables false

theorem app_list (o x : ByteArray) : (o ++ x).data.toList = o.data.toList ++ x.data.toList := by simp
theorem cut_list (s : ByteArray) (k : Nat) (h : k < s.size) : (s.extract k (k + 1)).data.toList = [s[k]] := by
  have hl : k < s.data.toList.length := by simpa using h
  have e : (s.extract k (k + 1)).data.toList = (s.data.toList.drop k).take 1 := by
    simp
  rw [e, List.drop_eq_getElem_cons hl]; rfl
theorem text_eq {t : ByteArray} {l : List UInt8} (h : t.data.toList = l) : t = ⟨l.toArray⟩ := by
  subst h; apply ByteArray.ext; simp

theorem text_size {o : ByteArray} {l : List UInt8} (h : o.data.toList = l) : o.size = l.length := by rw [← h]; simp
def dgs : ByteArray := ⟨#[48, 49, 50, 51, 52, 53, 54, 55, 56, 57, 97, 98, 99, 100, 101, 102]⟩
theorem dgs_at : ∀ n : Fin 16, dgs.data.toList[n.val]? = some (hx n.val) := by decide
theorem dgs_cut (n : Nat) (h : n < 16) : (dgs.extract n (n + 1)).data.toList = [hx n] := by
  have hs : n < dgs.size := h
  rw [cut_list dgs n hs]
  have := dgs_at ⟨n, h⟩
  have hl : n < dgs.data.toList.length := h
  rw [List.getElem?_eq_getElem hl] at this
  have e : dgs.data.toList[n] = dgs[n] := rfl
  rw [← e]
  exact congrArg (fun x => [x]) (Option.some.inj this)

theorem next_text {s o x : ByteArray} {k : Nat} {l : List UInt8} (h : k < s.size) (ho : o.data.toList = qt s k) (hx : x.data.toList = l) (hq : q1 s[k] = l) : (o ++ x).data.toList = qt s (k + 1) := by
  rw [app_list, ho, hx, qt_next s k h, hq]

theorem rquote_any (s : ByteArray) (w : World) (hs : s.size ≤ 1000) :
    Calls Tryd.prog 21 #[.string s] w fun e w' => e = .returned (.string ⟨(quoteL s.data.toList).toArray⟩) ∧ Below w.heap.size w w' := by
  go_enter Tryd.func21, Tryd.ntmps21
  go_wp2
  go_loopw [4, 5] (fun t i wr => ∃ (k : Nat) (o : ByteArray), k ≤ s.size ∧ i = .int .i64 (k : Int) ∧ t = .string o ∧ Hid (o.data.toList = qt s k) ∧ Below w.heap.size w wr) (fun _ i _ => s.size - (intOf i).toNat)
  case atStart => exact ⟨0, ⟨#[34]⟩, Nat.zero_le _, rfl, rfl, rfl, Below.refl _ _⟩
  case round =>
    obtain ⟨k, o, hk, rfl, rfl, HO, hnx⟩ := hrel
    have hol : o.size ≤ 4 * k + 1 := by rw [text_size HO.out]; exact (qt_len s k).2
    by_cases hlt : k < s.size
    · by_cases h34 : s[k] = 34
      · have t34 : ((s[k].toNat : Int) == 34) = true := byte_eq (n := 34) (by decide) h34
        have HN : Hid ((o ++ ⟨#[92, 34]⟩ : ByteArray).data.toList = qt s (k + 1)) := next_text hlt HO.out rfl (by rw [h34]; rfl)
        clear h34
        go_wp2
        go_roundw
        case rel => exact ⟨k + 1, _, by omega, by go_num, rfl, HN, hnx⟩
        case measure => simp [intOf]; omega
      · have t34 : ((s[k].toNat : Int) == 34) = false := byte_ne (n := 34) (by decide) h34
        by_cases h92 : s[k] = 92
        · have t92 : ((s[k].toNat : Int) == 92) = true := byte_eq (n := 92) (by decide) h92
          have HN : Hid ((o ++ ⟨#[92, 92]⟩ : ByteArray).data.toList = qt s (k + 1)) := next_text hlt HO.out rfl (by rw [h92]; rfl)
          clear h92 h34
          go_wp2
          go_roundw
          case rel => exact ⟨k + 1, _, by omega, by go_num, rfl, HN, hnx⟩
          case measure => simp [intOf]; omega
        · have t92 : ((s[k].toNat : Int) == 92) = false := byte_ne (n := 92) (by decide) h92
          by_cases h10 : s[k] = 10
          · have t10 : ((s[k].toNat : Int) == 10) = true := byte_eq (n := 10) (by decide) h10
            have HN : Hid ((o ++ ⟨#[92, 110]⟩ : ByteArray).data.toList = qt s (k + 1)) := next_text hlt HO.out rfl (by rw [h10]; rfl)
            clear h10 h92 h34
            go_wp2
            go_roundw
            case rel => exact ⟨k + 1, _, by omega, by go_num, rfl, HN, hnx⟩
            case measure => simp [intOf]; omega
          · have t10 : ((s[k].toNat : Int) == 10) = false := byte_ne (n := 10) (by decide) h10
            have n34 : s[k].toNat ≠ 34 := fun e => h34 (UInt8.toNat_inj.1 e)
            have n92 : s[k].toNat ≠ 92 := fun e => h92 (UInt8.toNat_inj.1 e)
            have n10 : s[k].toNat ≠ 10 := fun e => h10 (UInt8.toNat_inj.1 e)
            by_cases hst : 32 ≤ s[k].toNat ∧ s[k].toNat ≤ 126
            · have HN : Hid ((o ++ s.extract k (k + 1)).data.toList = qt s (k + 1)) := next_text hlt HO.out (cut_list s k hlt) (by unfold q1; rw [if_neg n10, if_neg n34, if_neg n92, if_pos hst])
              have hst1 : (32 : Int) ≤ (s[k].toNat : Int) := by omega
              have hst2 : (s[k].toNat : Int) ≤ 126 := by omega
              clear h10 h92 h34 n34 n92 n10 hst
              go_wp2
              go_roundw
              case rel => exact ⟨k + 1, _, by omega, by go_num, rfl, HN, hnx⟩
              case measure => simp [intOf]; omega
            · have hb := s[k].toNat_lt
              have hst' : s[k].toNat < 32 ∨ (32 ≤ s[k].toNat ∧ 126 < s[k].toNat) := by omega
              have HN : Hid ((o ++ ⟨#[92, 120]⟩ ++ dgs.extract (s[k].toNat / 16) (s[k].toNat / 16 + 1) ++ dgs.extract (s[k].toNat % 16) (s[k].toNat % 16 + 1) : ByteArray).data.toList = qt s (k + 1)) := by
                have hq : q1 s[k] = [92, 120, hx (s[k].toNat / 16), hx (s[k].toNat % 16)] := by unfold q1; rw [if_neg n10, if_neg n34, if_neg n92, if_neg hst]
                show (_ : ByteArray).data.toList = _
                rw [app_list, app_list, app_list, HO.out, dgs_cut _ (by omega), dgs_cut _ (by omega), qt_next s k hlt, hq]
                simp
              clear h10 h92 h34 n34 n92 n10 hst
              rcases hst' with h1 | ⟨h1, h2⟩
              all_goals
                go_wp2
                go_region
                all_goals
                  go_wp2
                  go_roundw
                  case rel => exact ⟨k + 1, _, by omega, by go_num, rfl, HN, hnx.drew⟩
                  case measure => simp [intOf]; omega
    · have hke : s.size ≤ k := by omega
      have HN : Hid ((o ++ ⟨#[34]⟩ : ByteArray).data.toList = quoteL s.data.toList) := by
        show (_ : ByteArray).data.toList = _
        rw [app_list, HO.out, ← qt_end s k hke]
      go_wp2
      go_ret
      exact ⟨congrArg Ending.returned (congrArg Value.string (text_eq HN.out)), hnx⟩
end Go.Proofs.YtenhncepoclolaaDoor.R
