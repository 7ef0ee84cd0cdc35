/- Sets of numbers: maps from numbers to nothing, as they lie; what asking for a key and putting one answers. -/
import Derived.Test.YtphebogjmbaboaaDoorRG
import Derived.MapKept
namespace Go.Proofs.YtphebogjmbaboaaDoor.RM
open Go.RowKit Go.Proofs.YtphebogjmbaboaaDoor.RG
set_option linter.unusedVariables false
set_option maxRecDepth 100000
set_option maxRecDepth 100000

/-- The block r is the map m now. -/
def setMap (w : World) (r : Nat) (o : Obj) : World := { w with heap := w.heap.setIfInBounds r o }
theorem setMap_at {w : World} {r : Nat} {o o' : Obj} (h : w.heap[r]? = some o) : (setMap w r o').heap[r]? = some o' := by
  have := (Array.getElem?_eq_some_iff.1 h).1
  simp [setMap, this]
theorem setMap_other {w : World} (r : Nat) (o : Obj) {k : Nat} (h : k ≠ r) : (setMap w r o).heap[k]? = w.heap[k]? := by
  simp [setMap, Ne.symm h]
theorem setMap_size (w : World) (r : Nat) (o : Obj) : (setMap w r o).heap.size = w.heap.size := by simp [setMap]
theorem setMap_below {w : World} {B r : Nat} (h : B ≤ r) (o : Obj) : Below B w (setMap w r o) :=
  ⟨rfl, rfl, rfl, by simp [setMap], fun k hk => setMap_other r o (by omega)⟩
/-- A set's entries. -/
def entsK : Nat → List Int → List MapEntry
  | _, [] => []
  | i, k :: ks => { key := .int .i64 k, val := .agg #[], born := i } :: entsK (i + 1) ks
theorem entsK_snoc : ∀ (ks : List Int) (i : Nat) (K : Int), entsK i (ks ++ [K]) = entsK i ks ++ [{ key := .int .i64 K, val := .agg #[], born := i + ks.length }]
  | [], i, K => rfl
  | k :: ks, i, K => by
    show _ :: entsK (i + 1) (ks ++ [K]) = _ :: (entsK (i + 1) ks ++ _)
    rw [entsK_snoc ks (i + 1) K]
    congr 3
    simp only [List.length_cons]
    congr 1
    omega
theorem findK_no : ∀ (ks : List Int) (i j : Nat) (K : Int), K ∉ ks → Instr.findNow (.int .i64) (.int .i64 K) (entsK i ks) j = some none
  | [], i, j, K, _ => rfl
  | k :: ks, i, j, K, h => by
    have hne : (K == k) = false := by rw [beq_eq_false_iff_ne]; exact fun e => h (by rw [e]; exact List.mem_cons_self)
    unfold entsK Instr.findNow Instr.sameNow
    simp only [if_pos, hne]
    exact findK_no ks (i + 1) (j + 1) K (fun e => h (List.mem_cons_of_mem _ e))
theorem findK_yes : ∀ (ks : List Int) (i j : Nat) (K : Int), K ∈ ks → ∃ m, Instr.findNow (.int .i64) (.int .i64 K) (entsK i ks) j = some (some (m, .agg #[]))
  | [], i, j, K, h => by cases h
  | k :: ks, i, j, K, h => by
    by_cases e : K = k
    · subst e
      refine ⟨j, ?_⟩
      unfold entsK Instr.findNow Instr.sameNow
      simp
    · have hne : (K == k) = false := by rw [beq_eq_false_iff_ne]; exact e
      obtain ⟨m, hm⟩ := findK_yes ks (i + 1) (j + 1) K ((List.mem_cons.1 h).resolve_left e)
      refine ⟨m, ?_⟩
      unfold entsK Instr.findNow Instr.sameNow
      simp only [if_pos, hne]
      exact hm
/-- The block r is the set of these numbers. -/
def SetB (w : World) (r : Nat) (ks : List Int) : Prop := w.heap[r]? = some (.map (entsK 0 ks).toArray ks.length)
theorem SetB.lt {w : World} {r : Nat} {ks : List Int} (h : SetB w r ks) : r < w.heap.size := (Array.getElem?_eq_some_iff.1 h).1
theorem SetB.keep {w w' : World} {r : Nat} {ks : List Int} (h : SetB w r ks) (hb : Below w.heap.size w w') : SetB w' r ks := (hb.block r h.lt).trans h
theorem SetB.new (w : World) : SetB (w.alloc (.map #[] 0)) w.heap.size [] := heap_alloc_new w _
section
variable {P : Program} {MT KT ET : TypeId}
theorem run_putK (hmap : P.underlying MT = some (.map KT ET)) (hint : P.underlying KT = some (.int .i64)) (w : World) (r : Nat) (ks : List Int) (K : Int) (hK : K ∉ ks) (hb : SetB w r ks) :
    (Instr.mapUpdate MT (.map (some r)) (.int .i64 K) (.agg #[])).run P w = .ok () (setMap w r (.map (entsK 0 (ks ++ [K])).toArray (ks ++ [K]).length)) := by
  unfold SetB at hb
  have hc : (Instr.checkKey false 10000 KT (.int .i64 K)).run P w = .ok () w := MapKept.run_checkKey (k := .int .i64 K) hint (by simp [MapKept.IsKey]) false 9999
  have hf : Instr.findNow (.int .i64) (.int .i64 K) (entsK 0 ks).toArray.toList 0 = some none := by
    rw [List.toList_toArray]
    exact findK_no ks 0 0 K hK
  have hp : (entsK 0 ks).toArray.push { key := .int .i64 K, val := .agg #[], born := ks.length } = (entsK 0 (ks ++ [K])).toArray := by
    rw [entsK_snoc]
    simp
  rw [← hp]
  simp [Instr.mapUpdate, run_underlying hmap, MapKept.run_getObj_map hb, hc, MapKept.run_findKey hint hf, MapKept.run_setObj_map _ hb, Result.andThen, setMap]
theorem run_lookK (hmap : P.underlying MT = some (.map KT ET)) (hint : P.underlying KT = some (.int .i64)) (hz : ∀ w, (zeroValue ET).run P w = .ok (.agg #[]) w) (w : World) (r : Nat) (ks : List Int) (K : Int) (hb : SetB w r ks) :
    (Instr.lookup MT (.map (some r)) (.int .i64 K) true).run P w = .ok (.tuple #[.agg #[], .bool (decide (K ∈ ks))]) w := by
  unfold SetB at hb
  have hc : ∀ b, (Instr.checkKey b 10000 KT (.int .i64 K)).run P w = .ok () w := fun b => MapKept.run_checkKey (k := .int .i64 K) hint (by simp [MapKept.IsKey]) b 9999
  by_cases h : K ∈ ks
  · obtain ⟨m, hm⟩ := findK_yes ks 0 0 K h
    have hf : Instr.findNow (.int .i64) (.int .i64 K) (entsK 0 ks).toArray.toList 0 = some (some (m, .agg #[])) := by rw [List.toList_toArray]; exact hm
    rw [decide_eq_true h]
    simp [Instr.lookup, run_underlying hmap, MapKept.run_getObj_map hb, hc, MapKept.run_findKey hint hf, Result.andThen]
  · have hf : Instr.findNow (.int .i64) (.int .i64 K) (entsK 0 ks).toArray.toList 0 = some none := by rw [List.toList_toArray]; exact findK_no ks 0 0 K h
    rw [decide_eq_false h]
    simp [Instr.lookup, run_underlying hmap, MapKept.run_getObj_map hb, hc, MapKept.run_findKey hint hf, hz, Result.andThen]
end
end Go.Proofs.YtphebogjmbaboaaDoor.RM
