/- Tokens held against the same tokens. -/
import Derived.Test.YtaioniaadpgmkaaDoorYF
import Derived.Test.YtaioniaadpgmkaaDoorTL
namespace Go.Proofs.YtaioniaadpgmkaaDoor.YM
open Go.RowKit Go.Proofs.YtaioniaadpgmkaaDoor.P Go.Proofs.YtaioniaadpgmkaaDoor.A Go.Proofs.YtaioniaadpgmkaaDoor.TK Go.Proofs.YtaioniaadpgmkaaDoor.TO Go.Proofs.YtaioniaadpgmkaaDoor.YT
set_option linter.unusedVariables false

/-- Tokens by their places. -/
def tat (ts : List Tok) (j : Nat) : Tok := ts.getD j ⟨0, [], 0, 0⟩
theorem tat_lt {ts : List Tok} {j : Nat} (h : j < ts.length) : tat ts j = ts[j] := by simp [tat, List.getD, h]
/-- A token's four cells at an address. -/
def Lies (w : World) (b o : Nat) (x : Tok) : Prop :=
  w.cell? ⟨b, o, none⟩ = some (.int .i64 (x.k : Int)) ∧ w.cell? ⟨b, o + 1, none⟩ = some (.string ⟨x.t.toArray⟩) ∧ w.cell? ⟨b, o + 2, none⟩ = some (.int .i64 (x.n : Int)) ∧ w.cell? ⟨b, o + 3, none⟩ = some (.int .i64 (x.p : Int))
theorem Lies.below {w w' : World} {b o B : Nat} {x : Tok} (h : Lies w b o x) (hb : Below B w w') (hB : b < B) : Lies w' b o x :=
  ⟨(hb.cell (p := ⟨b, o, none⟩) hB).trans h.1, (hb.cell (p := ⟨b, o + 1, none⟩) hB).trans h.2.1, (hb.cell (p := ⟨b, o + 2, none⟩) hB).trans h.2.2.1, (hb.cell (p := ⟨b, o + 3, none⟩) hB).trans h.2.2.2⟩
theorem lies_of {w : World} {b o : Nat} {ts : List Tok} (HC : ∀ j (h : j < ts.length) i, i < 4 → w.cell? ⟨b, o + (4 * j + i), none⟩ = (tcell ts[j])[i]?) : ∀ j, j < ts.length → Lies w b (o + j * 4) (tat ts j) := by
  intro j hj
  rw [tat_lt hj]
  have h0 := HC j hj 0 (by decide)
  have h1 := HC j hj 1 (by decide)
  have h2 := HC j hj 2 (by decide)
  have h3 := HC j hj 3 (by decide)
  rw [show o + (4 * j + 0) = o + j * 4 from by omega] at h0
  rw [show o + (4 * j + 1) = o + j * 4 + 1 from by omega] at h1
  rw [show o + (4 * j + 2) = o + j * 4 + 2 from by omega] at h2
  rw [show o + (4 * j + 3) = o + j * 4 + 3 from by omega] at h3
  exact ⟨h0, h1, h2, h3⟩

theorem same_none (a1 a2 : Option Addr) (c1 c2 : Nat) (w : World) :
    Calls Tryd.prog 13 #[.slice a1 0 c1, .slice a2 0 c2] w fun e w' => e = .returned (.bool true) ∧ Below w.heap.size w w' := by
  go_enter Tryd.func13, Tryd.ntmps13
  go_wp2
  refine wp_loop_rounds 1 ?_
  rw [rounds_succ]
  go_wp2_with fail
  go_ret
  exact ⟨rfl, Below.refl _ _⟩
set_option maxHeartbeats 1000000 in
theorem same_some (n b1 o1 c1 b2 o2 c2 : Nat) (f : Nat → Tok) (w : World) (hn : n ≤ 100000) (l1 : b1 < w.heap.size) (l2 : b2 < w.heap.size) (H1 : ∀ j, j < n → Lies w b1 (o1 + j * 4) (f j)) (H2 : ∀ j, j < n → Lies w b2 (o2 + j * 4) (f j)) :
    Calls Tryd.prog 13 #[.slice (some ⟨b1, o1, none⟩) n c1, .slice (some ⟨b2, o2, none⟩) n c2] w fun e w' => e = .returned (.bool true) ∧ Below w.heap.size w w' := by
  have M1 := Lib.hid H1
  have M2 := Lib.hid H2
  clear H1 H2
  go_enter Tryd.func13, Tryd.ntmps13
  go_wp2
  go_loopg [5] n (fun g i wr => ∃ j : Nat, j + g = n ∧ i = .int .i64 (j : Int) ∧ Hid (Below w.heap.size w wr))
  case atStart => exact ⟨0, Nat.zero_add _, rfl, Below.refl _ _⟩
  case round =>
    obtain ⟨j, hj, rfl, HX⟩ := hrel
    by_cases hlt : j < n
    · obtain ⟨g, rfl⟩ : ∃ g, gk = g + 1 := ⟨gk - 1, by omega⟩
      have hA := (M1.out j hlt).below HX.out l1
      have hB := (M2.out j hlt).below HX.out l2
      generalize f j = X at *
      obtain ⟨K, T, N, P⟩ := X
      obtain ⟨x0, x1, x2, x3⟩ := hA
      obtain ⟨y0, y1, y2, y3⟩ := hB
      simp only at x0 x1 x2 x3 y0 y1 y2 y3
      have i0 : (0 : Int) ≤ (j : Int) := by omega
      have i1 : (j : Int) < (n : Int) := by omega
      go_wp2_with fail
      go_quiet (fail)
      have HY : Hid (Below w.heap.size w (wr.drewN nq)) := HX.out.trans ⟨rfl, rfl, rfl, Nat.le_refl _, fun _ _ => rfl⟩
      go_wp2
      go_roundg g
      case rel => exact ⟨j + 1, by omega, by go_num, HY⟩
      case measure => omega
    · go_wp2
      go_ret
      exact ⟨rfl, HX.out⟩
theorem same_any (ts : List Tok) (va vb : Value) (w : World) (hn : ts.length ≤ 100000) (ha : HasT w va ts) (hb : HasT w vb ts) :
    Calls Tryd.prog 13 #[va, vb] w fun e w' => e = .returned (.bool true) ∧ Below w.heap.size w w' := by
  obtain ⟨a1, c1, rfl, _, h1⟩ := ha
  obtain ⟨a2, c2, rfl, _, h2⟩ := hb
  by_cases he : ts = []
  · subst he
    exact same_none a1 a2 c1 c2 w
  · obtain ⟨b1, o1, rfl, l1, C1⟩ := h1.resolve_left he
    obtain ⟨b2, o2, rfl, l2, C2⟩ := h2.resolve_left he
    exact same_some ts.length b1 o1 c1 b2 o2 c2 (tat ts) w hn l1 l2 (lies_of C1) (lies_of C2)
theorem toks_most (l : List UInt8) (h : l.length ≤ 2000) : (toks l).1.length ≤ 100000 := by
  by_cases he : (toks l).2.2 = 0
  · obtain ⟨ts, h1, _, h3⟩ := TL.toks_ok he
    have := TL.toks_len h3
    rw [h1]; show ts.length ≤ _; omega
  · rw [TL.toks_bad he]; simp
end Go.Proofs.YtaioniaadpgmkaaDoor.YM
