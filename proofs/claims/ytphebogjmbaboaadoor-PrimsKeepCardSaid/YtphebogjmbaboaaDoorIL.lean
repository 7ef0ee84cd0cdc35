/- Maps from numbers to numbers, as they lie; what asking for a key and putting one answers. -/
import Derived.Test.YtphebogjmbaboaaDoorRM
namespace Go.Proofs.YtphebogjmbaboaaDoor.IL
open Go.RowKit Go.Proofs.YtphebogjmbaboaaDoor.RG Go.Proofs.YtphebogjmbaboaaDoor.RM
set_option linter.unusedVariables false
set_option maxRecDepth 100000
set_option maxRecDepth 100000

/-- A map's entries. -/
def entsV : Nat → List (Int × Int) → List MapEntry
  | _, [] => []
  | i, k :: ks => { key := .int .i64 k.1, val := .int .i64 k.2, born := i } :: entsV (i + 1) ks
theorem entsV_snoc : ∀ (ks : List (Int × Int)) (i : Nat) (K : Int × Int), entsV i (ks ++ [K]) = entsV i ks ++ [{ key := .int .i64 K.1, val := .int .i64 K.2, born := i + ks.length }]
  | [], i, K => rfl
  | k :: ks, i, K => by
    show _ :: entsV (i + 1) (ks ++ [K]) = _ :: (entsV (i + 1) ks ++ _)
    rw [entsV_snoc ks (i + 1) K]
    congr 3
    simp only [List.length_cons]
    congr 1
    omega
theorem findV_no : ∀ (ks : List (Int × Int)) (i j : Nat) (K : Int), (∀ v, (K, v) ∉ ks) → Instr.findNow (.int .i64) (.int .i64 K) (entsV i ks) j = some none
  | [], i, j, K, _ => rfl
  | k :: ks, i, j, K, h => by
    have hne : (K == k.1) = false := by rw [beq_eq_false_iff_ne]; exact fun e => h k.2 (by rw [e]; exact List.mem_cons_self)
    unfold entsV Instr.findNow Instr.sameNow
    simp only [if_pos, hne]
    exact findV_no ks (i + 1) (j + 1) K (fun v e => h v (List.mem_cons_of_mem _ e))
/-- Each key has one value. -/
def One (ks : List (Int × Int)) : Prop := ∀ K v v', (K, v) ∈ ks → (K, v') ∈ ks → v = v'
theorem findV_yes : ∀ (ks : List (Int × Int)) (i j : Nat) (K V : Int), One ks → (K, V) ∈ ks → ∃ m, Instr.findNow (.int .i64) (.int .i64 K) (entsV i ks) j = some (some (m, .int .i64 V))
  | [], i, j, K, V, _, h => by cases h
  | k :: ks, i, j, K, V, ho, h => by
    obtain ⟨k1, k2⟩ := k
    by_cases e : K = k1
    · subst e
      obtain rfl : V = k2 := ho K V k2 h List.mem_cons_self
      refine ⟨j, ?_⟩
      unfold entsV Instr.findNow Instr.sameNow
      simp
    · have hne : (K == k1) = false := by rw [beq_eq_false_iff_ne]; exact e
      have hm : (K, V) ∈ ks := by
        rcases List.mem_cons.1 h with h | h
        · cases h; exact absurd rfl e
        · exact h
      obtain ⟨m, hm⟩ := findV_yes ks (i + 1) (j + 1) K V (fun K v v' a b => ho K v v' (List.mem_cons_of_mem _ a) (List.mem_cons_of_mem _ b)) hm
      refine ⟨m, ?_⟩
      unfold entsV Instr.findNow Instr.sameNow
      simp only [if_pos, hne]
      exact hm
/-- The block r is the map of these pairs. -/
def MapB (w : World) (r : Nat) (ks : List (Int × Int)) : Prop := w.heap[r]? = some (.map (entsV 0 ks).toArray ks.length)
theorem MapB.lt {w : World} {r : Nat} {ks : List (Int × Int)} (h : MapB w r ks) : r < w.heap.size := (Array.getElem?_eq_some_iff.1 h).1
theorem MapB.keep {w w' : World} {r : Nat} {ks : List (Int × Int)} (h : MapB w r ks) (hb : Below w.heap.size w w') : MapB w' r ks := (hb.block r h.lt).trans h
theorem MapB.new (w : World) : MapB (w.alloc (.map #[] 0)) w.heap.size [] := heap_alloc_new w _
section
variable {P : Program} {MT KT ET : TypeId}
theorem run_putV (hmap : P.underlying MT = some (.map KT ET)) (hint : P.underlying KT = some (.int .i64)) (w : World) (r : Nat) (ks : List (Int × Int)) (K V : Int) (hK : ∀ v, (K, v) ∉ ks) (hb : MapB w r ks) :
    (Instr.mapUpdate MT (.map (some r)) (.int .i64 K) (.int .i64 V)).run P w = .ok () (setMap w r (.map (entsV 0 (ks ++ [(K, V)])).toArray (ks ++ [(K, V)]).length)) := by
  unfold MapB at hb
  have hc : (Instr.checkKey false 10000 KT (.int .i64 K)).run P w = .ok () w := MapKept.run_checkKey (k := .int .i64 K) hint (by simp [MapKept.IsKey]) false 9999
  have hf : Instr.findNow (.int .i64) (.int .i64 K) (entsV 0 ks).toArray.toList 0 = some none := by
    rw [List.toList_toArray]
    exact findV_no ks 0 0 K hK
  have hp : (entsV 0 ks).toArray.push { key := .int .i64 K, val := .int .i64 V, born := ks.length } = (entsV 0 (ks ++ [(K, V)])).toArray := by
    rw [entsV_snoc]
    simp
  rw [← hp]
  simp [Instr.mapUpdate, run_underlying hmap, MapKept.run_getObj_map hb, hc, MapKept.run_findKey hint hf, MapKept.run_setObj_map _ hb, Result.andThen, setMap]
theorem run_lookV_no (hmap : P.underlying MT = some (.map KT ET)) (hint : P.underlying KT = some (.int .i64)) (hz : ∀ w, (zeroValue ET).run P w = .ok (.int .i64 0) w) (w : World) (r : Nat) (ks : List (Int × Int)) (K : Int) (hK : ∀ v, (K, v) ∉ ks) (hb : MapB w r ks) :
    (Instr.lookup MT (.map (some r)) (.int .i64 K) true).run P w = .ok (.tuple #[.int .i64 0, .bool false]) w := by
  unfold MapB at hb
  have hc : ∀ b, (Instr.checkKey b 10000 KT (.int .i64 K)).run P w = .ok () w := fun b => MapKept.run_checkKey (k := .int .i64 K) hint (by simp [MapKept.IsKey]) b 9999
  have hf : Instr.findNow (.int .i64) (.int .i64 K) (entsV 0 ks).toArray.toList 0 = some none := by rw [List.toList_toArray]; exact findV_no ks 0 0 K hK
  simp [Instr.lookup, run_underlying hmap, MapKept.run_getObj_map hb, hc, MapKept.run_findKey hint hf, hz, Result.andThen]
theorem run_lookV_yes (hmap : P.underlying MT = some (.map KT ET)) (hint : P.underlying KT = some (.int .i64)) (w : World) (r : Nat) (ks : List (Int × Int)) (K V : Int) (ho : One ks) (hK : (K, V) ∈ ks) (hb : MapB w r ks) :
    (Instr.lookup MT (.map (some r)) (.int .i64 K) true).run P w = .ok (.tuple #[.int .i64 V, .bool true]) w ∧ (Instr.lookup MT (.map (some r)) (.int .i64 K) false).run P w = .ok (.int .i64 V) w := by
  unfold MapB at hb
  have hc : ∀ b, (Instr.checkKey b 10000 KT (.int .i64 K)).run P w = .ok () w := fun b => MapKept.run_checkKey (k := .int .i64 K) hint (by simp [MapKept.IsKey]) b 9999
  obtain ⟨m, hm⟩ := findV_yes ks 0 0 K V ho hK
  have hf : Instr.findNow (.int .i64) (.int .i64 K) (entsV 0 ks).toArray.toList 0 = some (some (m, .int .i64 V)) := by rw [List.toList_toArray]; exact hm
  constructor
  · simp [Instr.lookup, run_underlying hmap, MapKept.run_getObj_map hb, hc, MapKept.run_findKey hint hf, Result.andThen]
  · simp [Instr.lookup, run_underlying hmap, MapKept.run_getObj_map hb, hc, MapKept.run_findKey hint hf, Result.andThen]
end
end Go.Proofs.YtphebogjmbaboaaDoor.IL
