/- The program's heap in memory; what is told of it. -/
import Derived.Test.YtphebogjmbaboaaDoorHA
import Derived.Test.YtphebogjmbaboaaDoorRB
import Derived.Test.YtphebogjmbaboaaDoorRM
import Derived.Test.YtphebogjmbaboaaDoorZA
import Derived.StillTailTactics
import Derived.BigRegion
import Derived.BigQuiet
import Derived.Deep.RegionHeld3
namespace Go.Proofs.YtphebogjmbaboaaDoor.HB
open Go.RowKit Go.Proofs.YtphebogjmbaboaaDoor.RG Go.Proofs.YtphebogjmbaboaaDoor.RB Go.Proofs.YtphebogjmbaboaaDoor.RM Go.Proofs.YtphebogjmbaboaaDoor.HA
set_option linter.unusedVariables false
set_option maxRecDepth 100000
set_option maxRecDepth 100000

theorem getElem?_of_lt {α : Type} {l : List α} {k : Nat} (h : k < l.length) : ∃ x, l[k]? = some x := ⟨l[k], List.getElem?_eq_getElem h⟩
def TI : Ty Tryd.prog Int := Ty.flat 28 3 1 8 (.int .i64 0) (fun n => [.int .i64 n]) Tryd.underlying28 (by kernel_rfl) rfl (by decide) (by decide) (fun _ => rfl) (fun a u hu => by rw [List.mem_singleton.1 hu]; rfl)
abbrev RowI (w : World) (v : Value) (l : List Int) : Prop := RowR TI w (fun _ => False) v l
/-- Numbers as a block's cells. -/
def xints (L : List Int) : Array Value := (L.map (Value.int .i64)).toArray
theorem xints_at {L : List Int} {k : Nat} {z : Int} (h : L[k]? = some z) : (xints L)[k]? = some (.int .i64 z) := by simp [xints, h]
theorem xints_size (L : List Int) : (xints L).size = L.length := by simp [xints]
theorem xints_set (L : List Int) (i : Nat) (z : Int) : (xints L).set! i (.int .i64 z) = xints (L.set i z) := by
  apply Array.ext'
  simp [xints, List.map_set]
/-- A block of numbers, exactly. -/
abbrev RowN (w : World) (b : Nat) (L : List Int) : Prop := Bk w b (xints L) 3
theorem rown_row {w : World} {b : Nat} {L : List Int} (h : RowN w b L) (off n cap : Nat) (h1 : off + n ≤ L.length) (h2 : n ≤ cap) : RowI w (.slice (some ⟨b, off, none⟩) n cap) ((L.drop off).take n) := by
  have hl : ((L.drop off).take n).length = n := by rw [List.length_take, List.length_drop]; omega
  refine ⟨((L.drop off).take n).map fun _ => [], ⟨_, cap, by rw [hl], by rw [hl]; exact h2, .inr ⟨b, off, rfl, ⟨trivial, h.lt⟩, fun j u hj => ?_⟩⟩, ?_⟩
  · have hr : ∀ l : List Int, rowOf TI l (l.map fun _ => []) = l.map (Value.int .i64) := fun l => by
      induction l with
      | nil => rfl
      | cons x l ih => show [Value.int .i64 x] ++ rowOf TI l (l.map fun _ => []) = _; rw [ih]; rfl
    rw [hr, List.getElem?_map, Option.map_eq_some_iff] at hj
    obtain ⟨z, hz, rfl⟩ := hj
    rw [List.getElem?_take] at hz
    split at hz
    · rw [List.getElem?_drop] at hz
      exact h.cell _ _ (xints_at hz)
    · cases hz
  · generalize (L.drop off).take n = l
    induction l with
    | nil => trivial
    | cons x l ih => exact ⟨rfl, ih⟩
/-- The program's heap: the block p of the heap, x of the words in use, m of the set of places, o of the other words; N words; the heap h. -/
structure HP (w : World) (p x m o N : Nat) (h : Hp) : Prop where
  blk : Bk w p #[.slice (some ⟨x, 0, none⟩) N N, .int .i64 (used h), .map (some m), .slice (some ⟨o, 0, none⟩) N N] 68
  ws : ∃ L, RowN w x L ∧ L.length = N ∧ L.take (used h) = lay h
  set : SetB w m ((List.range h.length).map fun k => (place h k : Int))
  ot : ∃ L, RowN w o L ∧ L.length = N
  ne : p ≠ x ∧ p ≠ m ∧ p ≠ o ∧ x ≠ m ∧ x ≠ o ∧ m ≠ o
  fit : used h ≤ N ∧ N ≤ 65536
  good : ∀ b, b ∈ h → (0 ≤ b.1 ∧ b.1 ≤ 201) ∧ b.2.length ≤ 60
theorem HP.keep {w w' : World} {p x m o N : Nat} {h : Hp} (H : HP w p x m o N h) (hb : Below w.heap.size w w') : HP w' p x m o N h := by
  obtain ⟨L, h1, h2⟩ := H.ws
  obtain ⟨L', h3, h4⟩ := H.ot
  exact ⟨H.blk.keep hb, ⟨L, h1.keep hb, h2⟩, H.set.keep hb, ⟨L', h3.keep hb, h4⟩, H.ne, H.fit, H.good⟩
theorem HP.lt {w : World} {p x m o N : Nat} {h : Hp} (H : HP w p x m o N h) : p < w.heap.size ∧ x < w.heap.size ∧ m < w.heap.size ∧ o < w.heap.size := by
  obtain ⟨L, h1, h2⟩ := H.ws
  obtain ⟨L', h3, h4⟩ := H.ot
  exact ⟨H.blk.lt, h1.lt, H.set.lt, h3.lt⟩
theorem drew_size (w : World) : w.drew.heap.size = w.heap.size := rfl
theorem new_at (w : World) (c : Array Value) (t : TypeId) {x : Nat} (h : w.heap.size = x) : Bk (w.alloc (.cells c t)) x c t := by subst h; exact Bk.new w c t
theorem new_no (n : Int) (w : World) (hn : n < 64 ∨ 65536 < n) : Calls Tryd.prog 9 #[.int .i64 n] w fun e w' => e = .returned (.pointer none) ∧ w = w' := by
  rcases (show n < 64 ∨ (¬ n < 64 ∧ n > 65536) by omega) with h1 | ⟨h1, h2⟩
  · go_enter Tryd.func9, Tryd.ntmps9
    go_wp2_with fail
    go_ret
    exact ⟨rfl, rfl⟩
  · go_enter Tryd.func9, Tryd.ntmps9
    go_wp2_with fail
    go_ret
    exact ⟨rfl, rfl⟩
theorem empty_c (v : Value) (w : World) (hv : ∃ ao n cap, v = .slice ao n cap) : Calls Tryd.prog 34 #[v] w fun e w' => ∃ m, e = .returned (.agg #[v, .int .i64 0, .map (some m)]) ∧ SetB w' m [] ∧ w.heap.size ≤ m ∧ Below w.heap.size w w' := by
  obtain ⟨ao, n, cap, rfl⟩ := hv
  have hmm := @run_makeMap Tryd.prog
  go_enter Tryd.func34, Tryd.ntmps34
  go_wp2_with fail
  have k0 := (Bk.new w #[.slice ao n cap, .int .i64 0, .map (some (w.heap.size + 1))] 65).alloc (.map #[] 0)
  have z0 := k0.cell 0 _ rfl
  have z1 := k0.cell 1 _ rfl
  have z2 := k0.cell 2 _ rfl
  have hs := SetB.new (w.alloc (.cells #[.slice ao n cap, .int .i64 0, .map (some (w.heap.size + 1))] 65))
  rw [World.size_alloc] at hs
  exact bodyPost_ret (v := .agg #[.slice ao n cap, .int .i64 0, .map (some (w.heap.size + 1))]) (by simp [results, Tryd.results34, go_sem, z0, z1, z2]) rfl ⟨_, rfl, hs, Nat.le_succ _, bnext (balloc w _) (balloc _ _)⟩
theorem run_mk (n : Nat) (hn : n ≤ 1000000000) (w : World) : (Instr.makeSlice 28 (.int .i64 (n : Int)) (.int .i64 (n : Int))).run Tryd.prog w = .ok (.slice (some ⟨w.heap.size, 0, none⟩) n n) (w.alloc (.cells (madeCells #[.int .i64 0] (n * 1)) 3)) := run_made TI .i64 .i64 n hn w
theorem mk_row (w : World) (n : Nat) : RowN (w.alloc (.cells (madeCells #[.int .i64 0] (n * 1)) 3)) w.heap.size (List.replicate n 0) := by
  have e : madeCells #[.int .i64 0] (n * 1) = xints (List.replicate n 0) := by
    apply Array.ext'
    have := made_row (R := TI) (0 : Int) [.int .i64 0] rfl rfl n
    rw [show madeCells #[.int .i64 0] (n * 1) = madeCells TI.z.cells (n * TI.size) from rfl, this]
    unfold xints
    generalize n = k
    induction k with
    | zero => rfl
    | succ k ih =>
      rw [List.replicate_succ, List.flatten_cons, ih, List.replicate_succ]
      rfl
  rw [e]
  exact Bk.new w _ _
theorem new_c (n : Nat) (w : World) (h0 : 64 ≤ n) (h1 : n ≤ 65536) : Calls Tryd.prog 9 #[.int .i64 n] w fun e w' => ∃ p x m o, e = .returned (.pointer (some ⟨p, 0, none⟩)) ∧ HP w' p x m o n [] ∧ (w.heap.size ≤ p ∧ w.heap.size ≤ x ∧ w.heap.size ≤ m ∧ w.heap.size ≤ o) ∧ Below w.heap.size w w' := by
  have i0 : ¬ (n : Int) < 64 := by omega
  have i1 : ¬ (n : Int) > 65536 := by omega
  have hmk := run_mk n (by omega)
  obtain ⟨MC, hMC⟩ : ∃ x, Hid (madeCells #[.int .i64 0] (n * 1) = x) := ⟨_, Lib.hid rfl⟩
  rw [hMC.out] at hmk
  go_enter Tryd.func9, Tryd.ntmps9
  go_wp2_with fail
  have HMR := Lib.hid (show ∀ w : World, RowN (w.alloc (.cells MC 3)) w.heap.size (List.replicate n 0) from fun w => by rw [← hMC.out]; exact mk_row w n)
  have HN := Lib.hid (show n ≤ 65536 from h1)
  go_region_with (first | (go_at_call 34; refine (empty_c _ _ ⟨_, _, _, rfl⟩).mono ?_; rintro e w1 ⟨m, rfl, hs, hm, hb⟩; have HS := Lib.hid hs; have HM := Lib.hid hm; have HB := Lib.hid (bdrew hb); clear hs hm hb))
  · go_wp2_with fail
    go_ret
    have hx := ((HMR.out w).keep HB.out).keep (bnext (balloc w1 (.cells MC 3)) (balloc _ (.cells #[.slice (some ⟨w.heap.size, 0, none⟩) n n, .int .i64 0, .map (some m), .slice (some ⟨w1.heap.size, 0, none⟩) n n] 68)))
    have hm := HM.out
    have hml := HS.out.lt
    simp only [drew_size, World.size_alloc] at hm
    refine ⟨_, _, _, _, rfl, ⟨Go.Proofs.YtphebogjmbaboaaDoor.HB.new_at _ _ _ (by simp), ⟨_, hx, by simp, rfl⟩, HS.out.keep (bnext (balloc w1 _) (balloc _ _)), ⟨_, (HMR.out w1).keep (balloc _ _), by simp⟩, ⟨by omega, by omega, by omega, by omega, by omega, by omega⟩, ⟨Nat.zero_le _, HN.out⟩, fun b h => by cases h⟩, ⟨by (try simp) <;> omega, by (try simp) <;> omega, by (try simp) <;> omega, by (try simp) <;> omega⟩, bnext (balloc w _) (bnext HB.out (bnext (balloc w1 _) (balloc _ _)))⟩
  · go_wp2_with fail
    go_ret
    have hm := HM.out
    have hml := HS.out.lt
    simp only [drew_size, World.size_alloc] at hm
    have ho := HMR.out (w.alloc (.cells MC 3))
    rw [World.size_alloc] at ho
    refine ⟨_, _, _, _, rfl, ⟨Bk.new _ _ _, ⟨_, (((HMR.out w).keep (balloc _ _)).keep HB.out).keep (balloc _ _), by simp, rfl⟩, HS.out.keep (balloc _ _), ⟨_, (ho.keep HB.out).keep (balloc _ _), by simp⟩, ⟨by omega, by omega, by omega, by omega, by omega, by omega⟩, ⟨Nat.zero_le _, HN.out⟩, fun b h => by cases h⟩, ⟨by (try simp) <;> omega, by (try simp) <;> omega, by (try simp) <;> omega, by (try simp) <;> omega⟩, bnext (bnext (balloc w _) (balloc _ _)) (bnext HB.out (balloc _ _))⟩
  · go_wp2_with fail
    go_ret
    have hm := HM.out
    have hml := HS.out.lt
    simp only [drew_size, World.size_alloc] at hm
    have ho := HMR.out (w.alloc (.cells MC 3))
    rw [World.size_alloc] at ho
    refine ⟨_, _, _, _, rfl, ⟨Bk.new _ _ _, ⟨_, (ho.keep HB.out).keep (balloc _ _), by simp, rfl⟩, HS.out.keep (balloc _ _), ⟨_, (((HMR.out w).keep (balloc _ _)).keep HB.out).keep (balloc _ _), by simp⟩, ⟨by omega, by omega, by omega, by omega, by omega, by omega⟩, ⟨Nat.zero_le _, HN.out⟩, fun b h => by cases h⟩, ⟨by (try simp) <;> omega, by (try simp) <;> omega, by (try simp) <;> omega, by (try simp) <;> omega⟩, bnext (bnext (balloc w _) (balloc _ _)) (bnext HB.out (balloc _ _))⟩
end Go.Proofs.YtphebogjmbaboaaDoor.HB
