/- The reader's next bytes, by the program: the walk of the closure. -/
import Derived.Test.YtpommjmlenfknaaQE
import Derived.Test.YtpommjmlenfknaaKH
namespace Go.Proofs.Ytpommjmlenfknaa.QF
open Go.RowKit Go.Proofs.Ytpommjmlenfknaa.RG Go.Proofs.Ytpommjmlenfknaa.KA Go.Proofs.Ytpommjmlenfknaa.KB Go.Proofs.Ytpommjmlenfknaa.KD Go.Proofs.Ytpommjmlenfknaa.QA Go.Proofs.Ytpommjmlenfknaa.QB
set_option linter.unusedVariables false
set_option maxRecDepth 100000
set_option maxRecDepth 100000

/-- From one world to another but two blocks are as they were. -/
structure On (x y : Nat) (w w' : World) : Prop where
  os : w'.os = w.os
  tape : w'.tape = w.tape
  output : w'.output = w.output
  size : w.heap.size ≤ w'.heap.size
  block : ∀ k, k < w.heap.size → k ≠ x → k ≠ y → w'.heap[k]? = w.heap[k]?
theorem On.refl (x y : Nat) (w : World) : On x y w w := ⟨rfl, rfl, rfl, Nat.le_refl _, fun _ _ _ _ => rfl⟩
theorem On.trans {x y : Nat} {a b c : World} (h : On x y a b) (k : On x y b c) : On x y a c :=
  ⟨k.os.trans h.os, k.tape.trans h.tape, k.output.trans h.output, Nat.le_trans h.size k.size, fun i hi hx hy => (k.block i (Nat.lt_of_lt_of_le hi h.size) hx hy).trans (h.block i hi hx hy)⟩
theorem On.of {x y : Nat} {w w' : World} (h : Below w.heap.size w w') : On x y w w' := ⟨h.os, h.tape, h.output, h.size, fun k hk _ _ => h.block k hk⟩
theorem On.setx (x y : Nat) (w : World) (i : Nat) (v : Value) : On x y w (w.setCell ⟨x, i, none⟩ v) := ⟨rfl, rfl, rfl, by simp, fun k _ hx _ => Below.heap_setCell _ _ _ _ hx⟩
theorem On.sety (x y : Nat) (w : World) (i : Nat) (v : Value) : On x y w (w.setCell ⟨y, i, none⟩ v) := ⟨rfl, rfl, rfl, by simp, fun k _ _ hy => Below.heap_setCell _ _ _ _ hy⟩
theorem On.below {x y B : Nat} {w w' : World} (h : On x y w w') (hx : B ≤ x) (hy : B ≤ y) (hB : B ≤ w.heap.size) : Below B w w' := ⟨h.os, h.tape, h.output, h.size, fun k hk => h.block k (by omega) (by omega) (by omega)⟩
theorem On.bk {x y b : Nat} {w w' : World} {c : Array Value} {t : TypeId} (h : On x y w w') (hk : Bk w b c t) (hx : b ≠ x) (hy : b ≠ y) : Bk w' b c t := (h.block b hk.lt hx hy).trans hk
/-- The reader in memory: what is left, and whether there were too few; the bytes themselves lie in an old world. -/
structure RdM (w0 w : World) (x y : Nat) (s : St) : Prop where
  rest : ∃ rv, Bk w x #[rv] 22 ∧ RowR TB w0 (fun _ => True) rv s.rest
  short : Bk w y #[.bool s.short] 4
  old : Below w0.heap.size w0 w
  hx : w0.heap.size ≤ x
  hy : w0.heap.size ≤ y
  hne : x ≠ y
  few : s.rest.length ≤ 1000000000
theorem RdM.keep {w0 w w' : World} {x y : Nat} {s : St} (h : RdM w0 w x y s) (hb : Below w.heap.size w w') : RdM w0 w' x y s := by
  obtain ⟨rv, h1, h2⟩ := h.rest
  exact ⟨⟨rv, h1.keep hb, h2⟩, h.short.keep hb, bnext h.old hb, h.hx, h.hy, h.hne, h.few⟩
/-- A part of a row of bytes. -/
theorem row_part {w : World} {b off cap : Nat} {l : By} (h : RowR TB w (fun _ => True) (.slice (some ⟨b, off, none⟩) l.length cap) l) (m k c : Nat) (hm : m + k ≤ l.length) (hc : k ≤ c) : RowR TB w (fun _ => True) (.slice (some ⟨b, off + m, none⟩) k c) ((l.drop m).take k) := by
  by_cases h0 : k = 0
  · subst h0
    rw [List.take_zero]
    exact rowR_nil _ _
  have hne : l ≠ [] := by intro e; rw [e] at hm; simp at hm; omega
  obtain ⟨b', off', cap', hv, _, hlt, hcell⟩ := h.open_ hne
  cases hv
  have hl : ((l.drop m).take k).length = k := by rw [List.length_take, List.length_drop]; omega
  refine ⟨((l.drop m).take k).map fun _ => [], ?_, hsB _⟩
  rw [rowB, hl]
  refine ⟨_, c, rfl, hc, .inr ⟨b, off + m, rfl, ⟨trivial, hlt⟩, fun j u hj => ?_⟩⟩
  unfold bvs at hj
  rw [List.getElem?_map] at hj
  obtain ⟨z, hz, rfl⟩ := Option.map_eq_some_iff.1 hj
  rw [List.getElem?_take] at hz
  split at hz
  · rw [List.getElem?_drop] at hz
    obtain ⟨q, hL, _⟩ := hcell (m + j) z hz
    have h3 := hL 0 _ rfl
    rw [Nat.add_zero, show (m + j) * TB.size = m + j from Nat.mul_one _, ← Nat.add_assoc] at h3
    exact h3
  · cases hz
set_option maxHeartbeats 4000000 in
theorem next_c (w0 w : World) (x y : Nat) (s : St) (k : Nat) (h : RdM w0 w x y s) (hk : k ≤ 1000000) :
    Calls Try.prog 24 #[.int .i64 (k : Int), .pointer (some ⟨x, 0, none⟩), .pointer (some ⟨y, 0, none⟩)] w fun e w' => ∃ v, e = .returned v ∧ RowR TB w0 (fun _ => True) v (nx k s).1 ∧ RdM w0 w' x y (nx k s).2 ∧ On x y w w' := by
  obtain ⟨rv, hbx, hrow⟩ := h.rest
  have hby := h.short
  obtain ⟨r, sh⟩ := s
  have HR := Lib.hid h
  simp only at hrow hby
  have c0 := hbx.cell 0 _ rfl
  have f1 := hby.free 0
  have f0 := hbx.free 0
  have d0 := hby.cell 0 _ rfl
  have lx := hbx.lt
  have ly := hby.lt
  have HBX := Lib.hid hbx
  have HBY := Lib.hid hby
  have hfew := h.few
  simp only at hfew
  by_cases hlt : r.length < k
  · have hn : nx k ⟨r, sh⟩ = ([], ⟨r, true⟩) := by unfold nx; rw [if_pos hlt]
    rw [hn]
    obtain ⟨ao, cap, rfl, hcap⟩ := hrow.val
    have HROW := Lib.hid hrow
    obtain ⟨N, hN⟩ : ∃ x, Hid (r.length = x) := ⟨_, Lib.hid rfl⟩
    rw [hN.out] at hcap hlt c0 HBX hfew
    have i1 : (k : Int) > (N : Int) := by omega
    clear h hbx hby hrow hn
    go_enter Try.func24, Try.ntmps24
    go_wp2_with fail
    go_ret
    exact ⟨_, rfl, rowR_nil _ _, ⟨⟨_, HBX.out.other HR.out.hne _ _, by rw [← hN.out]; exact HROW.out⟩, HBY.out.set 0 _, HR.out.old.setCell (p := ⟨y, 0, none⟩) HR.out.hy _, HR.out.hx, HR.out.hy, HR.out.hne, by rw [hN.out]; exact hfew⟩, On.sety _ _ _ _ _⟩
  · have hn : nx k ⟨r, sh⟩ = (r.take k, ⟨r.drop k, sh⟩) := by unfold nx; rw [if_neg hlt]
    rw [hn]
    have hcs : (∃ b off cap, rv = .slice (some ⟨b, off, none⟩) r.length cap ∧ r.length ≤ cap) ∨ (r = [] ∧ k = 0) := by
      by_cases h0 : r = []
      · exact .inr ⟨h0, by rw [h0] at hlt; simpa using hlt⟩
      · obtain ⟨b, off, cap, hv, hc, _⟩ := hrow.open_ h0
        exact .inl ⟨b, off, cap, hv, hc⟩
    rcases hcs with ⟨b, off, cap, rfl, hcap⟩ | ⟨h0, rfl⟩
    · have HP := Lib.hid (fun m k' c (h1 : m + k' ≤ r.length) (h2 : k' ≤ c) => row_part hrow m k' c h1 h2)
      have hle : k ≤ r.length := by omega
      have HT := Lib.hid (show (r.drop 0).take k = r.take k by rw [List.drop_zero])
      have HD := Lib.hid (show (r.drop k).take (r.length - k) = r.drop k by rw [List.take_of_length_le]; rw [List.length_drop]; exact Nat.le_refl _)
      have HF := Lib.hid (show (r.drop k).length ≤ 1000000000 by rw [List.length_drop]; omega)
      obtain ⟨N, hN⟩ : ∃ x, Hid (r.length = x) := ⟨_, Lib.hid rfl⟩
      rw [hN.out] at hcap hle c0 HBX HP HD hfew
      have i1 : ¬ (k : Int) > (N : Int) := by omega
      have i2 : (k : Int) ≤ (N : Int) := by omega
      have i3 : (N : Int) ≤ (cap : Int) := by omega
      have i4 : (k : Int) ≤ (cap : Int) := by omega
      have i0 : (0 : Int) ≤ (k : Int) := by omega
      clear h hbx hby hrow hn hlt
      go_enter Try.func24, Try.ntmps24
      go_wp2_with fail
      · go_ret
        have hz : N - k = 0 := by omega
        have hdr : r.drop k = [] := List.drop_eq_nil_of_le (by rw [hN.out]; omega)
        exact ⟨_, rfl, by have h := HP.out 0 k k (by omega) (by omega); rw [HT.out, Nat.add_zero] at h; exact h, ⟨⟨_, HBX.out.set 0 _, by rw [hdr, hz]; exact rowR_nil _ _⟩, HBY.out.other (Ne.symm HR.out.hne) _ _, HR.out.old.setCell (p := ⟨x, 0, none⟩) HR.out.hx _, HR.out.hx, HR.out.hy, HR.out.hne, HF.out⟩, On.setx _ _ _ _ _⟩
      · go_ret
        exact ⟨_, rfl, by have h := HP.out 0 k cap (by omega) (by omega); rw [HT.out, Nat.add_zero] at h; exact h, ⟨⟨_, HBX.out.set 0 _, by have h := HP.out k (N - k) (cap - k) (by omega) (by omega); rw [HD.out] at h; exact h⟩, HBY.out.other (Ne.symm HR.out.hne) _ _, HR.out.old.setCell (p := ⟨x, 0, none⟩) HR.out.hx _, HR.out.hx, HR.out.hy, HR.out.hne, HF.out⟩, On.setx _ _ _ _ _⟩
    · subst h0
      obtain ⟨ao, cap, rfl, _⟩ := hrow.val
      have hle : (0 : Int) ≤ (cap : Int) := by omega
      have i1 : ¬ (((0 : Nat) : Int) > 0) := by omega
      have c0' : w.cell? ⟨x, 0, none⟩ = some (.slice ao 0 cap) := c0
      have HBX' := HBX
      clear h hbx hby hrow hn hlt c0 hfew
      cases ao with
      | none =>
        go_enter Try.func24, Try.ntmps24
        go_wp2_with fail
        all_goals
          go_ret
          exact ⟨_, rfl, rowR_nil _ _, ⟨⟨_, HBX.out.set 0 _, rowR_nil _ _⟩, HBY.out.other (Ne.symm HR.out.hne) _ _, HR.out.old.setCell (p := ⟨x, 0, none⟩) HR.out.hx _, HR.out.hx, HR.out.hy, HR.out.hne, by simp⟩, On.setx _ _ _ _ _⟩
      | some a =>
        go_enter Try.func24, Try.ntmps24
        go_wp2_with fail
        all_goals
          go_ret
          exact ⟨_, rfl, rowR_nil _ _, ⟨⟨_, HBX.out.set 0 _, rowR_nil _ _⟩, HBY.out.other (Ne.symm HR.out.hne) _ _, HR.out.old.setCell (p := ⟨x, 0, none⟩) HR.out.hx _, HR.out.hx, HR.out.hy, HR.out.hne, by simp⟩, On.setx _ _ _ _ _⟩
end Go.Proofs.Ytpommjmlenfknaa.QF
