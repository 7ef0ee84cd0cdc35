/- A copy of a text. -/
import Derived.Test.YtlcapkgbbgpdmaaGreatDoorA
import Derived.Lib.BufferWrite
import Derived.Lib.UnsafeStr
import Derived.Lib.Hide
namespace Go.Proofs.YtlcapkgbbgpdmaaGreatDoor.C
open Go.RowKit Go.Maps Go.Proofs.YtlcapkgbbgpdmaaGreatDoor.P Go.Proofs.YtlcapkgbbgpdmaaGreatDoor.A
set_option linter.unusedVariables false
set_option maxRecDepth 100000

theorem copied (w : World) (s : ByteArray) (M : Array Value) (hM : M.size = s.size) (h0 : s.size ≠ 0) (hs : s.size ≤ 2100) :
    ∃ w', (Builtin.copy_ #[100, 9] 3 #[.slice (some ⟨w.heap.size, 0, none⟩) s.size s.size, .string s]).run Tryz.prog (w.alloc (.cells M 5)) = .ok (goInt s.size) w' ∧
      Below w.heap.size w w' ∧
      (Builtin.unsafeString_ #[153, 3] 9 #[.pointer (some ⟨w.heap.size, 0, none⟩), .int .i64 (s.size : Int)]).run Tryz.prog w' = .ok (.string s) (w'.freeze ⟨w.heap.size, 0, none⟩ s.size) := by
  have hinfo : (Tryz.prog.info? 5).map (·.size) = some 1 := by kernel_rfl
  have hco : Tryz.prog.cellsOf 5 = 1 := by kernel_rfl
  have hcp := Lib.run_copy_row_string (P := Tryz.prog) (w.alloc (.cells M 5)) 100 9 3 5 w.heap.size 0 s.size s.size s M 5 Tryz.underlying100 hinfo (heap_alloc_new w _) (Nat.le_refl _) (by omega)
  refine ⟨_, hcp, ?_, ?_⟩
  · exact ((Below.refl _ w).alloc (Nat.le_refl _) _).trans ⟨rfl, rfl, rfl, by simp, fun k hk => setRow_other _ _ _ _ (by omega)⟩
  · have hl : s.data.toList.length = s.size := by simp
    generalize hY : (M.toList.take 0 ++ Lib.byteCells s.data.toList ++ M.toList.drop (0 + s.size)).toArray = Y
    have hYl : Y.toList = Lib.byteCells s.data.toList := by
      rw [← hY, List.toList_toArray, List.take_zero, List.nil_append, List.drop_of_length_le (by rw [Array.length_toList]; omega), List.append_nil]
    have hYs : Y.size = s.size := by rw [← Array.length_toList, hYl, Lib.byteCells_length, hl]
    have hgY : ((w.alloc (.cells M 5)).setRow w.heap.size Y).heap[w.heap.size]? = some (.cells Y 5 (0, 0)) := setRow_heap _ _ M _ 5 (0, 0) (heap_alloc_new w _)
    have hne : s.data.toList ≠ [] := fun e => h0 (by rw [← hl, e]; rfl)
    have hUS := Lib.run_unsafeString_row (P := Tryz.prog) ((w.alloc (.cells M 5)).setRow w.heap.size Y) 153 3 9 5 Tryz.underlying153 hco w.heap.size Y.size (by unfold World.shape?; rw [hgY]) s.data.toList hne (by omega) (by omega)
      (fun j x hx => Lib.cells_of_row hgY Y.size j _ (by rw [List.take_of_length_le (by rw [Array.length_toList]; exact Nat.le_refl _), hYl]; simp [Lib.byteCells, hx]))
    rw [hl] at hUS
    exact hUS

theorem clone_any (s : ByteArray) (w : World) (hs : s.size ≤ 2100) :
    Calls Tryz.prog 184 #[.string s] w fun e w' => e = .returned (.string s) ∧ Below w.heap.size w w' := by
  by_cases h0 : s.size = 0
  · have hs : s = ⟨#[]⟩ := by
      apply ByteArray.ext
      exact Array.eq_empty_of_size_eq_zero h0
    subst hs
    go_enter Tryz.func184, Tryz.ntmps184
    go_wp2
    go_ret
    exact ⟨rfl, Below.refl _ _⟩
  · obtain ⟨i0, hi, hz0, hz1, hz2⟩ := info_parts infoB
    obtain ⟨M, hM⟩ : ∃ M, M = madeCells (Value.int .u8 0).cells (((s.size : Nat) : Int).toNat * i0.size) := ⟨_, rfl⟩
    have hMs : M.size = s.size := by rw [hM, size_madeCells, hz1]; simp
    have hmk : ∀ W : World, (Instr.makeSlice 100 (.int .i64 (s.size : Int)) (.int .i64 (s.size : Int))).run Tryz.prog W = .ok (.slice (some ⟨W.heap.size, 0, none⟩) s.size s.size) (W.alloc (.cells M 5)) := fun W => by
      have h := run_make (P := Tryz.prog) W 100 5 i0 (.int .u8 0) Tryz.underlying100 hi hz0 .i64 .i64 (s.size : Int) (s.size : Int) (by omega) (by omega) (by rw [hz2]; omega) (by omega)
      rw [← hM] at h
      simpa using h
    clear hM
    obtain ⟨w1, hcp, hb, hus⟩ := copied w s M hMs h0 hs
    go_enter Tryz.func184, Tryz.ntmps184
    go_wp2
    go_ret
    exact ⟨rfl, Lib.below_freeze hb (p := ⟨w.heap.size, 0, none⟩) (Nat.le_refl _) _⟩

end Go.Proofs.YtlcapkgbbgpdmaaGreatDoor.C
