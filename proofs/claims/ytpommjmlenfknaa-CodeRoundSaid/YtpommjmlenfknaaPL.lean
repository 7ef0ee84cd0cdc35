/- The document's example: the walk; bytes as texts. -/
import Derived.Test.YtpommjmlenfknaaPE
import Derived.Laws.BytesArg
namespace Go.Proofs.Ytpommjmlenfknaa.PL
open Go.RowKit Go.Proofs.Ytpommjmlenfknaa.RG Go.Proofs.Ytpommjmlenfknaa.KA Go.Proofs.Ytpommjmlenfknaa.KB Go.Proofs.Ytpommjmlenfknaa.KC Go.Proofs.Ytpommjmlenfknaa.KD Go.Proofs.Ytpommjmlenfknaa.KF Go.Proofs.Ytpommjmlenfknaa.PA Go.Proofs.Ytpommjmlenfknaa.PB Go.Proofs.Ytpommjmlenfknaa.PC Go.Proofs.Ytpommjmlenfknaa.PE
set_option linter.unusedVariables false
set_option maxRecDepth 100000
set_option maxRecDepth 100000

theorem nums_str (l : By) : strOfNums (l.map fun b => (b.toNat : Int)) = ⟨l.toArray⟩ := by
  unfold strOfNums
  congr 2
  rw [List.map_map]
  conv => rhs; rw [← List.map_id l]
  apply List.map_congr_left
  intro b _
  simp
/-- A row of bytes as a text. -/
theorem conv_row {w : World} {S : Nat → Prop} {v : Value} {l : By} (h : RowR TB w S v l) : (convert 22 9 v).run Try.prog w = .ok (.string ⟨l.toArray⟩) w := by
  by_cases h0 : l = []
  · subst h0
    obtain ⟨ao, cap, rfl, _⟩ := h.val
    cases ao with
    | none => exact run_convert_bytes_nil w _ _ Try.underlying22 (by kernel_rfl) _ _ _ Try.underlying9
    | some a =>
      have e : (⟨#[]⟩ : ByteArray) = strOfNums [] := rfl
      obtain ⟨b, o, s⟩ := a
      have hl : (loadCells ⟨b, o, s⟩ 0).run Try.prog w = .ok ([].map (Value.int .u8)).toArray w := run_loadCells_list w ⟨b, o, s⟩ [] (fun j v hj => by simp at hj)
      rw [run_convert_bytes_string w _ _ _ _ _ _ Try.underlying22 (by kernel_rfl) Try.underlying9]
      show (Conv.bytesToString (.slice (some ⟨b, o, s⟩) 0 cap)).run Try.prog w = _
      rw [run_bytesToString w _ 0 cap [] hl]
      rfl
  · obtain ⟨b, off, cap, rfl, _, _, hc⟩ := h.open_ h0
    rw [run_convert_bytes_arg w _ _ Try.underlying22 (by kernel_rfl) b off l.length cap (l.map fun b => (b.toNat : Int)) (by simp) (fun i hi => ?_) _ Try.underlying9, nums_str]
    obtain ⟨x, hx⟩ := getElem?_of_lt hi
    obtain ⟨q, hL, _⟩ := hc i x hx
    have := hL 0 _ rfl
    rw [Nat.add_zero, show i * TB.size = i from Nat.mul_one i] at this
    rw [this]
    simp [List.getD, hx]
theorem conv_own {w : World} {B : Nat} {v : Value} {l : By} (h : OwnB w B v l) : (convert 22 9 v).run Try.prog w = .ok (.string ⟨l.toArray⟩) w := conv_row h.row
def c0 : Cd := ⟨[⟨0, 1, 1, [⟨1, 0, 0⟩, ⟨15, 0, 0⟩]⟩], [5], [], 0⟩
theorem may0 : mayB c0 = true := by decide
theorem enc0 : enc c0 = [83, 77, 49, 0, 1, 5, 0, 0, 0, 0, 0, 0, 0, 0, 1, 0, 1, 1, 2, 0, 1, 0, 0, 0, 0, 15, 0, 0, 0, 0] := by decide
set_option maxHeartbeats 4000000 in
theorem lives_c (w : World) : Calls Try.prog 13 #[] w fun e w' => e = .returned (.bool true) ∧ Below w.heap.size w w' := by
  obtain ⟨W1, hW1⟩ : ∃ W1, W1 = w.alloc (.cells #[.int .i64 5] 3) := ⟨_, rfl⟩
  obtain ⟨W2, hW2⟩ : ∃ W2, W2 = W1.alloc (.cells #[.int .i64 1, .int .i64 0, .int .i64 0, .int .i64 15, .int .i64 0, .int .i64 0] 45) := ⟨_, rfl⟩
  obtain ⟨W3, hW3⟩ : ∃ W3, W3 = W2.alloc (.cells #[.int .i64 0, .int .i64 1, .int .i64 1, .slice (some ⟨w.heap.size + 1, 0, none⟩) 2 2] 49) := ⟨_, rfl⟩
  obtain ⟨W4, hW4⟩ : ∃ W4, W4 = W3.alloc (.cells #[.slice (some ⟨w.heap.size + 1 + 1, 0, none⟩) 1 1, .slice (some ⟨w.heap.size, 0, none⟩) 1 1, .slice none 0 0, .int .i64 0] 27) := ⟨_, rfl⟩
  have s1 : W1.heap.size = w.heap.size + 1 := by rw [hW1]; simp
  have s2 : W2.heap.size = w.heap.size + 1 + 1 := by rw [hW2]; simp [s1]
  have s3 : W3.heap.size = w.heap.size + 1 + 1 + 1 := by rw [hW3]; simp [s2]
  have HX := Lib.hid (show Below w.heap.size w W4 from by rw [hW4, hW3, hW2, hW1]; exact bnext (bnext (bnext (balloc _ _) (balloc _ _)) (balloc _ _)) (balloc _ _))
  have k1 : Bk W4 w.heap.size #[.int .i64 5] 3 := by rw [hW4, hW3, hW2, hW1]; exact (((Bk.new w _ _).alloc _).alloc _).alloc _
  have k2 : Bk W4 (w.heap.size + 1) #[.int .i64 1, .int .i64 0, .int .i64 0, .int .i64 15, .int .i64 0, .int .i64 0] 45 := by rw [hW4, hW3, hW2]; exact ((new_at W1 _ _ s1).alloc _).alloc _
  have k3 : Bk W4 (w.heap.size + 1 + 1) #[.int .i64 0, .int .i64 1, .int .i64 1, .slice (some ⟨w.heap.size + 1, 0, none⟩) 2 2] 49 := by rw [hW4, hW3]; exact (new_at W2 _ _ s2).alloc _
  have HK := Lib.hid (show Bk W4 (w.heap.size + 1 + 1 + 1) #[.slice (some ⟨w.heap.size + 1 + 1, 0, none⟩) 1 1, .slice (some ⟨w.heap.size, 0, none⟩) 1 1, .slice none 0 0, .int .i64 0] 27 from by rw [hW4]; exact new_at W3 _ _ s3)
  have HC := Lib.hid (show HasC W4 (fun _ => True) c0 (.slice (some ⟨w.heap.size + 1 + 1, 0, none⟩) 1 1) (.slice (some ⟨w.heap.size, 0, none⟩) 1 1) (.slice none 0 0) from by
    refine ⟨rowR_block (q := [.slice (some ⟨w.heap.size + 1, 0, none⟩) 2 2]) k3 rfl ⟨_, [[], []], rfl, ?_, ⟨rfl, rfl, trivial⟩⟩, rowR_block (q := []) k1 rfl rfl, rowR_nil _ _⟩
    refine ⟨_, _, rfl, Nat.le_refl _, .inr ⟨_, 0, rfl, ⟨trivial, k2.lt⟩, fun j u hj => ?_⟩⟩
    rw [Nat.zero_add, cell_of_row _ _ _ _ _ (0, 0) k2]
    rw [← Array.getElem?_toList]
    exact hj)
  have HS : c0.funs.length ≤ 100000000000 ∧ c0.ints.length ≤ 100000000000 ∧ c0.texts.length ≤ 100000000000 ∧ ∀ f, f ∈ c0.funs → f.code.length ≤ 100000000000 := ⟨by decide, by decide, by decide, fun f hf => by
    rw [List.mem_singleton.1 hf]; decide⟩
  have HE := Lib.hid (pencode_c c0 _ _ _ W4 _ HC.out HS)
  have HM := fun w' (hb : Below W4.heap.size W4 w') => pmay_c c0 _ _ _ w' _ (HC.out.keep hb) HS
  have HM1 := Lib.hid HM
  have HEq : ((⟨#[83, 77, 49, 0, 1, 5, 0, 0, 0, 0, 0, 0, 0, 0, 1, 0, 1, 1, 2, 0, 1, 0, 0, 0, 0, 15, 0, 0, 0, 0]⟩ : ByteArray) == ⟨#[83, 77, 49, 0, 1, 5, 0, 0, 0, 0, 0, 0, 0, 0, 1, 0, 1, 1, 2, 0, 1, 0, 0, 0, 0, 15, 0, 0, 0, 0]⟩) = true := by rw [MapKept.bytes_beq]
  have HW := Lib.hid (show W4 = (((w.alloc (.cells #[.int .i64 5] 3)).alloc (.cells #[.int .i64 1, .int .i64 0, .int .i64 0, .int .i64 15, .int .i64 0, .int .i64 0] 45)).alloc (.cells #[.int .i64 0, .int .i64 1, .int .i64 1, .slice (some ⟨w.heap.size + 1, 0, none⟩) 2 2] 49)).alloc (.cells #[.slice (some ⟨w.heap.size + 1 + 1, 0, none⟩) 1 1, .slice (some ⟨w.heap.size, 0, none⟩) 1 1, .slice none 0 0, .int .i64 0] 27) from by rw [hW4, hW3, hW2, hW1])
  clear hW4 hW3 hW2 hW1 k1 k2 k3 s1 s2 s3 HM HS
  go_enter Try.func13, Try.ntmps13
  go_wp2_with fail
  rw [← HW.out]
  refine HE.out.mono ?_
  rintro e w5 (⟨_, v5, rfl, ho5, hb5⟩ | ⟨h, _⟩)
  · have HK5 := Lib.hid (HK.out.keep hb5)
    have HX5 := Lib.hid (bnext HX.out hb5)
    have HM5 := Lib.hid (HM1.out w5 hb5)
    have hcv := conv_own ho5
    rw [enc0] at hcv
    rw [may0] at HM5
    clear HM1 HE ho5 hb5
    have k0 := HK5.out.cell 0 _ rfl
    have k1 := HK5.out.cell 1 _ rfl
    have k2 := HK5.out.cell 2 _ rfl
    have k3 := HK5.out.cell 3 _ rfl
    go_wp2_with (go_at_call 26; refine HM5.out.mono ?_; rintro e w6 ⟨rfl, hb6⟩; have HX6 := Lib.hid (bnext HX5.out hb6); clear hb6)
    go_ret
    exact ⟨rfl, HX6.out⟩
  · rw [may0] at h; cases h
end Go.Proofs.Ytpommjmlenfknaa.PL
