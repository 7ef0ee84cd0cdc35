/- What is kept behind a collection, plainly. -/
import Derived.Test.YtphebogjmbaboaaDoorIN
import Derived.Test.YtphebogjmbaboaaDoorID
namespace Go.Proofs.YtphebogjmbaboaaDoor.IR
open Go.Proofs.YtphebogjmbaboaaDoor.HA Go.Proofs.YtphebogjmbaboaaDoor.HN Go.Proofs.YtphebogjmbaboaaDoor.HO Go.Proofs.YtphebogjmbaboaaDoor.HP Go.Proofs.YtphebogjmbaboaaDoor.HQ Go.Proofs.YtphebogjmbaboaaDoor.ID Go.Proofs.YtphebogjmbaboaaDoor.IJ Go.Proofs.YtphebogjmbaboaaDoor.IN Go.Proofs.YtphebogjmbaboaaDoor.O
set_option linter.unusedVariables false
set_option maxRecDepth 100000
set_option maxRecDepth 100000

def lost : List UInt8 := [108, 111, 115, 116]
/-- The heap of three texts. -/
def h3 (S T : List UInt8) : Hp := [(201, packL S), (201, packL lost), (201, packL T)]
def pb (S T : List UInt8) : Int := ptr (h3 S T) 2
def pc (S T : List UInt8) : Int := ptr (h3 S T) 3
/-- And the closure. -/
def h4 (S T : List UInt8) (f : Int) : Hp := h3 S T ++ [(200, [2 * f + 1, pb S T, 2, 9])]
theorem t_a (S : List UInt8) (hs : S.length ≤ 60) : textR 200 [] S = ([(201, packL S)], 2, 0) := textR_ok 200 [] S hs (by decide)
theorem l3 (S T : List UInt8) : (h3 S T).length = 3 := rfl
theorem l4 (S T : List UInt8) (f : Int) : (h4 S T f).length = 4 := rfl
theorem used1 (S : List UInt8) (hs : S.length ≤ 60) : used [(201, packL S)] ≤ 11 := by
  have h1 := packL_len S hs
  simp only [used, size, List.map_cons, List.map_nil, List.sum_cons, List.sum_nil]
  omega
theorem used2 (S T : List UInt8) (hs : S.length ≤ 60) (ht : T.length ≤ 60) : used [(201, packL S), (201, packL T)] ≤ 22 := by
  have h1 := packL_len S hs
  have h2 := packL_len T ht
  simp only [used, size, List.map_cons, List.map_nil, List.sum_cons, List.sum_nil]
  omega
theorem used3 (S T : List UInt8) (hs : S.length ≤ 60) (ht : T.length ≤ 60) : used (h3 S T) ≤ 33 := by
  have h1 := packL_len S hs
  have h2 := packL_len T ht
  have h0 := packL_len lost (by decide)
  simp only [h3, used, size, List.map_cons, List.map_nil, List.sum_cons, List.sum_nil]
  omega
theorem t_l (S : List UInt8) (hs : S.length ≤ 60) : textR 200 [(201, packL S)] lost = ([(201, packL S), (201, packL lost)], ptr [(201, packL S)] 1, 0) := textR_ok 200 _ lost (by decide) (by have := used1 S hs; omega)
theorem t_b (S T : List UInt8) (hs : S.length ≤ 60) (ht : T.length ≤ 60) : textR 200 [(201, packL S), (201, packL lost)] T = (h3 S T, pb S T, 0) := by
  rw [textR_ok 200 _ T ht (by have := used2 S lost hs (by decide); omega)]
  show (_, ptr _ 2, _) = _
  unfold pb
  rw [show h3 S T = [(201, packL S), (201, packL lost)] ++ [(201, packL T)] from rfl, ptr_app _ _ (show 2 ≤ 2 from Nat.le_refl _)]
theorem ev (h : Hp) (k : Nat) : ptr h k % 2 = 0 := by unfold ptr; omega
theorem may_at {h : Hp} {k : Nat} (hk : k < h.length) : mayW h (ptr h k) = true := by unfold mayW; rw [blk_yes hk]; simp
theorem may_odd (h : Hp) (z : Int) (hz : z % 2 ≠ 0) : mayW h z = true := by unfold mayW; simp [hz]
theorem t_c (S T : List UInt8) (hs : S.length ≤ 60) (ht : T.length ≤ 60) (f : Int) (f0 : 0 ≤ f) (f1 : f ≤ 2147483647) : closeR 200 (h3 S T) f [pb S T, 2, 9] = (h4 S T f, pc S T, 0) := by
  have hu := used3 S T hs ht
  have hmay : ([2 * f + 1, pb S T, 2, 9] : List Int).all (mayW (h3 S T)) = true := by
    rw [List.all_cons, List.all_cons, List.all_cons, List.all_cons, List.all_nil, may_odd _ (2 * f + 1) (by omega), may_odd _ 9 (by decide)]
    rw [show mayW (h3 S T) (pb S T) = true from may_at (show 2 < (h3 S T).length from by rw [l3]; decide), show mayW (h3 S T) 2 = true from may_at (h := h3 S T) (k := 0) (show 0 < (h3 S T).length from by rw [l3]; decide)]
    rfl
  unfold closeR
  rw [if_neg (by omega)]
  unfold make
  rw [if_pos ⟨rfl, (show 4 ≤ 60 by decide), .inr hmay⟩, if_pos (by show used (h3 S T) + 1 + 4 ≤ 200; omega)]
  rfl
theorem p_b (S T : List UInt8) (f : Int) : pb S T = ptr (h4 S T f) 2 := by unfold pb h4; rw [ptr_app _ _ (show 2 ≤ (h3 S T).length from by rw [l3]; decide)]
theorem p_a (S T : List UInt8) (f : Int) : 2 = ptr (h4 S T f) 0 := rfl
theorem p_c (S T : List UInt8) (f : Int) : pc S T = ptr (h4 S T f) 3 := by unfold pc h4; rw [ptr_app _ _ (show 3 ≤ (h3 S T).length from by rw [l3]; decide)]
theorem b_b (S T : List UInt8) (f : Int) : blk (h4 S T f) (pb S T) = some 2 := by rw [p_b S T f]; exact blk_yes (show 2 < (h4 S T f).length from by rw [l4]; decide)
theorem b_a (S T : List UInt8) (f : Int) : blk (h4 S T f) 2 = some 0 := by rw [show (2 : Int) = ptr (h4 S T f) 0 from rfl]; exact blk_yes (show 0 < (h4 S T f).length from by rw [l4]; decide)
theorem b_c (S T : List UInt8) (f : Int) : blk (h4 S T f) (pc S T) = some 3 := by rw [p_c S T f]; exact blk_yes (show 3 < (h4 S T f).length from by rw [l4]; decide)
theorem e_b (S T : List UInt8) : pb S T % 2 = 0 := ev _ _
theorem e_c (S T : List UInt8) : pc S T % 2 = 0 := ev _ _
theorem wf4 (S T : List UInt8) (f : Int) : ∀ b, b ∈ h4 S T f → b.1 ≠ 201 → ∀ z, z ∈ b.2 → z % 2 = 0 → ∃ s, blk (h4 S T f) z = some s := by
  intro b hb ht z hz h0
  have hb : b ∈ [((201 : Int), packL S), (201, packL lost), (201, packL T), (200, [2 * f + 1, pb S T, 2, 9])] := hb
  simp only [List.mem_cons, List.not_mem_nil, or_false] at hb
  rcases hb with rfl | rfl | rfl | rfl
  · exact absurd rfl ht
  · exact absurd rfl ht
  · exact absurd rfl ht
  · simp only [List.mem_cons, List.not_mem_nil, or_false] at hz
    rcases hz with rfl | rfl | rfl | rfl
    · omega
    · exact ⟨2, b_b S T f⟩
    · exact ⟨0, b_a S T f⟩
    · exact absurd h0 (by decide)
theorem v_odd (h : Hp) (src : List Nat) (z : Int) (hz : z % 2 ≠ 0) : visit h src z = src := by unfold visit; rw [if_pos hz]
theorem v_new (h : Hp) (src : List Nat) (z : Int) (k : Nat) (hz : z % 2 = 0) (hb : blk h z = some k) (hk : k ∉ src) : visit h src z = src ++ [k] := by
  unfold visit
  rw [if_neg (by omega), hb]
  simp only [if_neg hk]
theorem s_0 (S T : List UInt8) (f : Int) : visits (h4 S T f) [] [pc S T] = [3] := v_new _ _ _ 3 (e_c S T) (b_c S T f) (by decide)
theorem s_1 (S T : List UInt8) (f : Int) : visits (h4 S T f) [3] [2 * f + 1, pb S T, 2, 9] = [3, 2, 0] := by
  unfold visits
  simp only [List.foldl_cons, List.foldl_nil]
  rw [v_odd _ _ (2 * f + 1) (by omega), v_new _ _ _ 2 (e_b S T) (b_b S T f) (by decide), v_new _ _ 2 0 (by decide) (b_a S T f) (by decide), v_odd _ _ 9 (by decide)]
  rfl
theorem s_k (S T : List UInt8) (f : Int) : ∀ k, scan (h4 S T f) [3] (k + 1) = [3, 2, 0]
  | 0 => s_1 S T f
  | k + 1 => by
    have ih := s_k S T f k
    show (match (scan (h4 S T f) [3] (k + 1))[k + 1]? with | some s => if (bl (h4 S T f) s).1 = 201 then scan (h4 S T f) [3] (k + 1) else visits (h4 S T f) (scan (h4 S T f) [3] (k + 1)) (bl (h4 S T f) s).2 | none => scan (h4 S T f) [3] (k + 1)) = _
    rw [ih]
    match k with
    | 0 => rfl
    | 1 => rfl
    | k + 2 => rfl
theorem src_is {S T : List UInt8} {f : Int} {k : Nat} {src : List Nat} (h : src = scan (h4 S T f) (visits (h4 S T f) [] [pc S T]) k) (hl : src.length = k) : src = [3, 2, 0] := by
  rw [s_0] at h
  cases k with
  | zero => rw [h] at hl; cases hl
  | succ k => rw [h]; exact s_k S T f k
/-- The heap behind it. -/
def h5 (S T : List UInt8) (f : Int) : Hp := gone (h4 S T f) [3, 2, 0]
theorem h5_is (S T : List UInt8) (f : Int) : h5 S T f = [(200, [2 * f + 1, fwd (h4 S T f) [3, 2, 0] (pb S T), fwd (h4 S T f) [3, 2, 0] 2, 9]), (201, packL T), (201, packL S)] := by
  have e : fwd (h4 S T f) [3, 2, 0] (2 * f + 1) = 2 * f + 1 := by unfold fwd; rw [if_pos (by omega)]
  have e9 : fwd (h4 S T f) [3, 2, 0] 9 = 9 := rfl
  show [fw (h4 S T f) [3, 2, 0] 60 (200, [2 * f + 1, pb S T, 2, 9]), fw (h4 S T f) [3, 2, 0] 60 (201, packL T), fw (h4 S T f) [3, 2, 0] 60 (201, packL S)] = _
  unfold fw
  rw [if_neg (show ¬ (200 : Int) = 201 by decide), if_pos rfl, if_pos rfl]
  show [((200 : Int), [fwd (h4 S T f) [3, 2, 0] (2 * f + 1), fwd (h4 S T f) [3, 2, 0] (pb S T), fwd (h4 S T f) [3, 2, 0] 2, fwd (h4 S T f) [3, 2, 0] 9]), _, _] = _
  rw [e, e9]
theorem h5_size (S T : List UInt8) (f : Int) : (h5 S T f).map size = (cpy (h4 S T f) [3, 2, 0]).map size := by rw [h5_is]; rfl
theorem p5 (S T : List UInt8) (f : Int) (j : Nat) : ptr (cpy (h4 S T f) [3, 2, 0]) j = ptr (h5 S T f) j := by unfold ptr; rw [place_eq (h5_size S T f)]
theorem f_b (S T : List UInt8) (f : Int) : fwd (h4 S T f) [3, 2, 0] (pb S T) = ptr (h5 S T f) 1 := by
  unfold fwd
  rw [if_neg (by have := e_b S T; omega), b_b, ← p5]
  rfl
theorem f_a (S T : List UInt8) (f : Int) : fwd (h4 S T f) [3, 2, 0] 2 = ptr (h5 S T f) 2 := by
  unfold fwd
  rw [if_neg (by decide), b_a, ← p5]
  rfl
theorem f_c (S T : List UInt8) (f : Int) : fwd (h4 S T f) [3, 2, 0] (pc S T) = 2 := by
  unfold fwd
  rw [if_neg (by have := e_c S T; omega), b_c]
  rfl
theorem o_c (S T : List UInt8) (f : Int) (f0 : 0 ≤ f) (f1 : f ≤ 2147483647) : openR (h5 S T f) 2 = (f, [ptr (h5 S T f) 1, ptr (h5 S T f) 2, 9], 0) := by
  have hl : 0 < (h5 S T f).length := by rw [h5_is]; exact Nat.succ_pos _
  have hb : blk (h5 S T f) 2 = some 0 := blk_yes (h := h5 S T f) (k := 0) hl
  have e0 : (h5 S T f)[0]? = some (200, [2 * f + 1, ptr (h5 S T f) 1, ptr (h5 S T f) 2, 9]) := by
    have h1 := h5_is S T f
    rw [f_b, f_a] at h1
    have h2 := congrArg (·[0]?) h1
    exact h2
  have e1 : tagOf (h5 S T f) 2 = 200 := by unfold tagOf; rw [hb]; simp only [e0]; rfl
  have e2 : fieldsOf (h5 S T f) 2 = [2 * f + 1, ptr (h5 S T f) 1, ptr (h5 S T f) 2, 9] := by unfold fieldsOf; rw [hb]; simp only [e0]; rfl
  unfold openR
  rw [e1, if_pos rfl, e2]
  show (if (2 * f + 1) % 2 = 0 ∨ 2 * f + 1 < 0 ∨ (2 * f + 1) / 2 > 2147483647 then (0, [], 4) else ((2 * f + 1) / 2, _, 0)) = _
  rw [if_neg (by omega)]
  congr 1
  omega
theorem x_b (S T : List UInt8) (f : Int) (ht : T.length ≤ 60) : strR (h5 S T f) (ptr (h5 S T f) 1) = (T, 0) := strR_at _ 1 T ht (by rw [h5_is]; rfl)
theorem x_a (S T : List UInt8) (f : Int) (hs : S.length ≤ 60) : strR (h5 S T f) (ptr (h5 S T f) 2) = (S, 0) := strR_at _ 2 S hs (by rw [h5_is]; rfl)
end Go.Proofs.YtphebogjmbaboaaDoor.IR
