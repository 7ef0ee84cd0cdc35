/- The document's walk through a function. -/
import Derived.Test.YtkhdkepjhifffaaVQ
import Derived.Test.YtkhdkepjhifffaaVN
import Derived.Test.YtkhdkepjhifffaaVL
import Derived.BigRegion
import Derived.Deep.RegionHeld3
namespace Go.Proofs.Ytkhdkepjhifffaa.VR
open Go.RowKit Go.Proofs.Ytkhdkepjhifffaa.RG Go.Proofs.Ytkhdkepjhifffaa.RB Go.Proofs.Ytkhdkepjhifffaa.KA Go.Proofs.Ytkhdkepjhifffaa.KB Go.Proofs.Ytkhdkepjhifffaa.KH Go.Proofs.Ytkhdkepjhifffaa.VA Go.Proofs.Ytkhdkepjhifffaa.VB Go.Proofs.Ytkhdkepjhifffaa.VE Go.Proofs.Ytkhdkepjhifffaa.VF Go.Proofs.Ytkhdkepjhifffaa.VG Go.Proofs.Ytkhdkepjhifffaa.VH Go.Proofs.Ytkhdkepjhifffaa.VI Go.Proofs.Ytkhdkepjhifffaa.VL Go.Proofs.Ytkhdkepjhifffaa.VM Go.Proofs.Ytkhdkepjhifffaa.VN Go.Proofs.Ytkhdkepjhifffaa.VQ
set_option linter.unusedVariables false
set_option maxRecDepth 100000
set_option maxRecDepth 100000

def WalkRes (c : Cd) (n : Nat) (f : Bd) (w : World) (e : Ending) (w' : World) : Prop :=
  Below w.heap.size w w' ∧ ((∃ A b, Ans f.code.length f.stack (goes c n f) (some A) ∧ e = .returned (.tuple #[.slice (some ⟨b, 0, none⟩) f.code.length f.code.length, .bool true]) ∧ RowB TZ w' (fun x => w.heap.size ≤ x ∧ x ≠ b) b (A.map rawD) ∧ w.heap.size ≤ b) ∨ (Ans f.code.length f.stack (goes c n f) none ∧ e = .returned (.tuple #[.slice none 0 0, .bool false])))
theorem count_set : ∀ {D : List Bool} {i : Nat}, D[i]? = some false → (D.set i true).count false + 1 = D.count false
  | [], i, h => by simp at h
  | d :: D, 0, h => by
    have : d = false := by simpa using h
    subst this
    rw [List.set_cons_zero, List.count_cons_self, List.count_cons_of_ne (by decide)]
  | d :: D, i + 1, h => by
    have := count_set (D := D) (i := i) (by simpa using h)
    rw [List.set_cons_succ, List.count_cons, List.count_cons]
    omega
/-- What the document's walk has between two rounds. -/
structure Mdd (B : Nat) (w0 w : World) (P0 P1 AB DB : Nat) (cc fcs : Array Value) (N : Nat) (K : Int) (nx : Nat → Sx → Option (List (Nat × Sx))) (g : Nat) (A : Row) (D : List Bool) : Prop where
  bc : Bk w P0 cc 27
  bf : Bk w P1 fcs 49
  rows : RowB TZ w (fun y => B ≤ y ∧ y ≠ AB ∧ y ≠ DB) AB (A.map rawD)
  dn : RowB TBo w (fun _ => False) DB D
  bel : Below B w0 w
  len : A.length = N
  dl : D.length = N
  st : St N K nx A (fun (a : Nat) => D[a]? = some false)
  few : D.count false = g
  don : ∀ (a : Nat), D[a]? = some true → ∃ s, A[a]? = some (some s)
  gd : ∀ (a : Nat) (s : Sx), A[a]? = some (some s) → Gd (N - g) K s
  pl : B ≤ P0 ∧ B ≤ P1 ∧ B ≤ AB ∧ B ≤ DB ∧ P0 ≠ AB ∧ P0 ≠ DB ∧ P1 ≠ AB ∧ P1 ≠ DB ∧ AB ≠ DB
  lts : AB < w.heap.size ∧ DB < w.heap.size
theorem Mdd.le {B : Nat} {w0 w : World} {P0 P1 AB DB : Nat} {cc fcs : Array Value} {N : Nat} {K : Int} {nx : Nat → Sx → Option (List (Nat × Sx))} {g : Nat} {A : Row} {D : List Bool} (h : Mdd B w0 w P0 P1 AB DB cc fcs N K nx g A D) : g ≤ N := by
  have h1 := h.few
  have h2 := h.dl
  have h3 := List.count_le_length (a := false) (l := D)
  omega
theorem st_nextR {N : Nat} {K : Int} {nx : Nat → Sx → Option (List (Nat × Sx))} {A A' : Row} {D D' : Nat → Prop} {a : Nat} {s : Sx} {l : List (Nat × Sx)} (h : St N K nx A D) (hA : A[a]? = some (some s)) (hl : nx a s = some l) (hp : puts K A l.reverse = some A')
    (hD : ∀ b, D b → b ≠ a → D' b) (hN : ∀ (b : Nat) (t : Sx), A'[b]? = some (some t) → A[b]? = some (some t) ∨ D' b) : St N K nx A' D' := by
  have hr : ∀ x, x ∈ l.reverse → Rch nx x.1 x.2 := fun x hx => .step (h.inv.rch a s hA).1 hl (by simpa using hx)
  obtain ⟨h1, h2, h3⟩ := puts_inv h.inv hr hp
  refine ⟨h1, fun b t hb => ?_⟩
  rcases hN b t hb with e | e
  · by_cases hba : b = a
    · subst hba
      rw [hA] at e
      cases e
      exact .inr ⟨l, hl, fun x hx => h3 x (by simpa using hx)⟩
    · rcases h.cls b t e with hd | ⟨l', k1, k2⟩
      · exact .inl (hD b hd hba)
      · exact .inr ⟨l', k1, fun x hx => h2.2 _ _ (k2 x hx)⟩
  · exact .inl e
theorem mdd_next {B : Nat} {w0 w w' : World} {P0 P1 AB DB : Nat} {cc fcs : Array Value} {N : Nat} {K : Int} {nx : Nat → Sx → Option (List (Nat × Sx))} {g : Nat} {A A' : Row} {D : List Bool} {j : Nat} {s : Sx} {l : List (Nat × Sx)}
    (h : Mdd B w0 w P0 P1 AB DB cc fcs N K nx g A D) (hA : A[j]? = some (some s)) (hD : D[j]? = some false) (hgo : nx j s = some l) (hp : puts K A l.reverse = some A') (hgd : ∀ x, x ∈ l → Gd (N - g + 1) K x.2)
    (hrow : RowB TZ w' (fun y => B ≤ y ∧ y ≠ AB ∧ y ≠ DB) AB (A'.map rawD)) (hbo : Bo (w.setCell ⟨DB, j, none⟩ (.bool true)).heap.size AB (w.setCell ⟨DB, j, none⟩ (.bool true)) w') :
    ∃ g', g = g' + 1 ∧ Mdd B w0 w' P0 P1 AB DB cc fcs N K nx g' A' (D.set j true) := by
  have hc := count_set hD
  have hle := h.le
  have hfew := h.few
  obtain ⟨p0, p1, p2, p3, q0, q1, q2, q3, q4⟩ := h.pl
  obtain ⟨l0, l1⟩ := h.lts
  have hjD := (List.getElem?_eq_some_iff.1 hD).1
  have hr : ∀ x, x ∈ l.reverse → Rch nx x.1 x.2 := fun x hx => .step (h.st.inv.rch j s hA).1 hgo (by simpa using hx)
  obtain ⟨i1, i2, i3⟩ := puts_inv h.st.inv hr hp
  have k0 := h.bc.other q1 j (.bool true)
  have k1 := h.bf.other q3 j (.bool true)
  have hdn := h.dn.set (i := j) (j := 0) (p := true) (v := .bool true) hD (fun x hx => hx.elim) (by decide) (fun q hq => ⟨q, rfl, hq⟩)
  have e1 : j * TBo.size + 0 = j := Nat.mul_one j
  rw [e1] at hdn
  have hsz := hbo.size
  have hs0 : (w.setCell ⟨DB, j, none⟩ (.bool true)).heap.size = w.heap.size := by simp
  have hbel := h.bel.setCell (p := ⟨DB, j, none⟩) p3 (.bool true)
  have hset : ∀ a : Nat, (D.set j true)[a]? = if j = a then some true else D[a]? := fun a => by
    by_cases e : j = a
    · subst e; simp [hjD]
    · rw [List.getElem?_set_ne e, if_neg e]
  refine ⟨(D.set j true).count false, by omega, ⟨(hbo.block P0 k0.lt q0).trans k0, (hbo.block P1 k1.lt q2).trans k1, hrow, hdn.mv ⟨hsz, fun b hb => hb.elim⟩ (hbo.block DB hdn.lt (Ne.symm q4)), hbel.trans ((hbo.mono (by have := hbel.size; have := h.bel; omega)).below p2), i1.len, by rw [List.length_set]; exact h.dl, ?_, rfl, fun a ha => ?_, fun a t ht => ?_, ⟨p0, p1, p2, p3, q0, q1, q2, q3, q4⟩, by omega⟩⟩
  · refine st_nextR h.st hA hgo hp (fun b hb hne => ?_) (fun b t hb => ?_)
    · rw [hset, if_neg (fun e => hne e.symm)]; exact hb
    · by_cases hbj : j = b
      · subst hbj
        have := i2.2 _ _ hA
        rw [hb] at this
        cases this
        exact .inl hA
      · rw [hset, if_neg hbj]
        have hlt := (List.getElem?_eq_some_iff.1 hb).1
        rw [i1.len, ← h.dl] at hlt
        obtain ⟨d, hd⟩ := getElem?_of_lt hlt
        cases d
        · exact .inr hd
        · obtain ⟨t', ht'⟩ := h.don b hd
          have := i2.2 _ _ ht'
          rw [hb] at this
          cases this
          exact .inl ht'
  · rw [hset] at ha
    split at ha
    · next e => subst e; exact ⟨s, i2.2 _ _ hA⟩
    · obtain ⟨t, ht⟩ := h.don a ha
      exact ⟨t, i2.2 _ _ ht⟩
  · have e : N - (D.set j true).count false = N - g + 1 := by omega
    rw [e]
    rcases puts_back hp a t ht with h1 | h1
    · exact gd_up (h.gd a t h1) (by omega)
    · exact hgd _ (by simpa using h1)
set_option maxHeartbeats 16000000 in
theorem walk_c (c : Cd) (fv iv tv : Value) (n : Nat) (f : Bd) (w : World) (S : Nat → Prop) (h : HasC w S c fv iv tv) (hf : c.funs[n]? = some f) (hz : Sz c) (F : FOk f) (hF : c.funs.length ≤ 100000) :
    Calls Try.prog 34 #[.agg #[fv, iv, tv, .int .i64 c.lets], .int .i64 (n : Int)] w (WalkRes c n f w) := by
  have hn := (List.getElem?_eq_some_iff.1 hf).1
  have HC := Lib.hid h
  have HFK := Lib.hid F
  have HF := Lib.hid hf
  have HZ := Lib.hid hz
  obtain ⟨io, ic, rfl, _⟩ := h.ints.val
  obtain ⟨to_, tc, rfl, _⟩ := h.texts.val
  obtain ⟨fb, fo, fc, rfl, _, hfb, hcell⟩ := h.funs.open_ (by intro e; rw [e] at hn; simp at hn)
  obtain ⟨q, hL, hq⟩ := hcell n f hf
  obtain ⟨qv, rfl, hrow⟩ := hasBd_row hq
  obtain ⟨co, cc, rfl, _⟩ := hrow.val
  obtain ⟨ke, lo, st, code⟩ := f
  simp only at hL hrow
  obtain ⟨N, hNe⟩ : ∃ x, Hid (code.length = x) := ⟨_, Lib.hid rfl⟩
  obtain ⟨NF, hNF⟩ : ∃ x, Hid (c.funs.length = x) := ⟨_, Lib.hid rfl⟩
  obtain ⟨NI, hNI⟩ : ∃ x, Hid (c.ints.length = x) := ⟨_, Lib.hid rfl⟩
  obtain ⟨NT, hNT⟩ : ∃ x, Hid (c.texts.length = x) := ⟨_, Lib.hid rfl⟩
  obtain ⟨LT, hLT⟩ : ∃ x, Hid (c.lets = x) := ⟨_, Lib.hid rfl⟩
  have HN0 : Hid (0 < N ∧ N ≤ 400) := Lib.hid (by rw [← hNe.out]; exact ⟨HFK.out.n0, HFK.out.n1⟩)
  rw [hNe.out] at hL
  rw [hNF.out] at hn hF ⊢
  rw [hNI.out, hNT.out, hLT.out]
  have a1 := balloc w (.cells #[.slice (some ⟨fb, fo, none⟩) NF fc, .slice io NI ic, .slice to_ NT tc, .int .i64 LT] 27)
  have HA1 := Lib.hid a1
  have m1 := hL.keep a1 hfb
  have y0 : (w.alloc (.cells #[.slice (some ⟨fb, fo, none⟩) NF fc, .slice io NI ic, .slice to_ NT tc, .int .i64 LT] 27)).cell? ⟨fb, fo + n * 4, none⟩ = some (.int .i64 ke) := m1 0 _ rfl
  have y1 : (w.alloc (.cells #[.slice (some ⟨fb, fo, none⟩) NF fc, .slice io NI ic, .slice to_ NT tc, .int .i64 LT] 27)).cell? ⟨fb, fo + n * 4 + 1, none⟩ = some (.int .i64 lo) := m1 1 _ rfl
  have y2 : (w.alloc (.cells #[.slice (some ⟨fb, fo, none⟩) NF fc, .slice io NI ic, .slice to_ NT tc, .int .i64 LT] 27)).cell? ⟨fb, fo + n * 4 + 2, none⟩ = some (.int .i64 st) := m1 2 _ rfl
  have y3 : (w.alloc (.cells #[.slice (some ⟨fb, fo, none⟩) NF fc, .slice io NI ic, .slice to_ NT tc, .int .i64 LT] 27)).cell? ⟨fb, fo + n * 4 + 3, none⟩ = some (.slice co N cc) := m1 3 _ rfl
  have i0 : (0 : Int) ≤ (n : Int) := by omega
  have i1 : (n : Int) < (NF : Int) := by omega
  have HMZ := Lib.hid (fun w => run_made TZ .i64 .i64 N (Nat.le_trans HN0.out.2 (by decide)) w)
  have HMB := Lib.hid (fun w => run_made TBo .i64 .i64 N (Nat.le_trans HN0.out.2 (by decide)) w)
  clear h hf hz F hcell hL hq hrow a1 m1 hfb
  go_enter Try.func34, Try.ntmps34
  go_upto_region 2 with fail
  have KF0 := bk2 w #[.slice (some ⟨fb, fo, none⟩) NF fc, .slice io NI ic, .slice to_ NT tc, .int .i64 LT] #[.int .i64 ke, .int .i64 lo, .int .i64 st, .slice co N cc] 27 49
  have KC0 := (Bk.new w #[.slice (some ⟨fb, fo, none⟩) NF fc, .slice io NI ic, .slice to_ NT tc, .int .i64 LT] 27).alloc (.cells #[.int .i64 ke, .int .i64 lo, .int .i64 st, .slice co N cc] 49)
  have HB1 : Hid (Below w.heap.size w ((w.alloc (.cells #[.slice (some ⟨fb, fo, none⟩) NF fc, .slice io NI ic, .slice to_ NT tc, .int .i64 LT] 27)).alloc (.cells #[.int .i64 ke, .int .i64 lo, .int .i64 st, .slice co N cc] 49))) := Lib.hid (bnext (balloc w _) (balloc _ _))
  have HS1 : Hid (((w.alloc (.cells #[.slice (some ⟨fb, fo, none⟩) NF fc, .slice io NI ic, .slice to_ NT tc, .int .i64 LT] 27)).alloc (.cells #[.int .i64 ke, .int .i64 lo, .int .i64 st, .slice co N cc] 49)).heap.size = w.heap.size + 2) := Lib.hid (by simp)
  have KC := Lib.hid KC0
  have KF := Lib.hid KF0
  clear KC0 KF0 y0 y1 y2 y3
  obtain ⟨P0, hP0⟩ : ∃ P, Hid (w.heap.size = P) := ⟨_, Lib.hid rfl⟩
  obtain ⟨P1, hP1⟩ : ∃ P, Hid (w.heap.size + 1 = P) := ⟨_, Lib.hid rfl⟩
  rw [hP0.out] at KC
  rw [hP1.out] at KF ⊢
  rw [hP0.out]
  generalize World.alloc (World.alloc w _) _ = W2 at KC KF HB1 HS1 ⊢
  obtain ⟨MZ, hMZ⟩ : ∃ x, Hid (madeCells TZ.z.cells (N * TZ.size) = x) := ⟨_, Lib.hid rfl⟩
  have mk1 : (Instr.makeSlice 63 (.int .i64 (N : Int)) (.int .i64 (N : Int))).run Try.prog W2 = .ok (.slice (some ⟨W2.heap.size, 0, none⟩) N N) (W2.alloc (.cells MZ 75)) := by rw [← hMZ.out]; exact HMZ.out W2
  have f3 := KF.out.cell 3 (.slice co N cc) rfl
  have HR0 : Hid (RowB TZ (W2.alloc (.cells MZ 75)) (fun y => w.heap.size ≤ y ∧ y ≠ W2.heap.size ∧ y ≠ W2.heap.size + 1) W2.heap.size ((List.replicate N (none : Option Sx)).map rawD)) := Lib.hid (by
    have := rowB_made (R := TZ) (S := fun y => w.heap.size ≤ y ∧ y ≠ W2.heap.size ∧ y ≠ W2.heap.size + 1) W2 (false, ⟨0, []⟩) [.slice none 0 0] rfl (fun w' => ⟨_, [], rfl, rw_nil _ _, trivial⟩) N
    rw [hMZ.out] at this
    rw [List.map_replicate]
    exact this)
  have HKF := Lib.hid (KF.out.alloc (.cells MZ 75))
  have HKC := Lib.hid (KC.out.alloc (.cells MZ 75))
  have HB2 := Lib.hid (bnext HB1.out (balloc W2 (.cells MZ 75)))
  have HS2 : Hid ((W2.alloc (.cells MZ 75)).heap.size = W2.heap.size + 1) := Lib.hid (by simp)
  go_upto_region 3 with fail
  have HSP : Hid (W2.heap.size = w.heap.size + 2 ∧ w.heap.size = P0 ∧ w.heap.size + 1 = P1) := Lib.hid ⟨HS1.out, hP0.out, hP1.out⟩
  obtain ⟨AB, hAB⟩ : ∃ P, Hid (W2.heap.size = P) := ⟨_, Lib.hid rfl⟩
  rw [hAB.out] at HR0 HS2 HSP
  rw [hAB.out]
  clear mk1 f3
  generalize World.alloc W2 _ = W3 at HR0 HKF HKC HB2 HS2 ⊢
  have hr00 : (List.map rawD (List.replicate N (none : Option Sx)))[0]? = some (false, ⟨0, []⟩) := by rw [List.map_replicate, List.getElem?_replicate, if_pos HN0.out.1]; rfl
  obtain ⟨t0, t1, t2, hc0, hc1, hc2⟩ := cells_some (HR0.out.at hr00)
  have hc0 : W3.cell? ⟨AB, 0, none⟩ = some t0 := hc0
  have hc1 : W3.cell? ⟨AB, 1, none⟩ = some t1 := hc1
  have hc2 : W3.cell? ⟨AB, 2, none⟩ = some t2 := hc2
  have z0 := HR0.out.free 0
  have z1 := HR0.out.free 1
  have z2 := HR0.out.free 2
  have i2 : (0 : Int) < (N : Int) := by have := HN0.out.1; omega
  have HR1 : Hid (RowB TZ (((W3.setCell ⟨AB, 0, none⟩ (.bool true)).setCell ⟨AB, 1, none⟩ (.int .i64 0)).setCell ⟨AB, 2, none⟩ (.slice none 0 0)) (fun y => w.heap.size ≤ y ∧ y ≠ AB ∧ y ≠ AB + 1) AB (((List.replicate N (none : Option Sx)).set 0 (some VA.start)).map rawD)) := Lib.hid (by
    have := put_stateD (s := VA.start) (mv := .slice none 0 0) HR0.out hr00 (RowM.nil _ _) (fun x hx => hx.2.1)
    rw [map_set_some]
    exact this)
  have HKF1 := Lib.hid (((HKF.out.other (b' := AB) (by have := HSP.out; omega) 0 (.bool true)).other (b' := AB) (by have := HSP.out; omega) 1 (.int .i64 0)).other (b' := AB) (by have := HSP.out; omega) 2 (.slice none 0 0))
  have HKC1 := Lib.hid (((HKC.out.other (b' := AB) (by have := HSP.out; omega) 0 (.bool true)).other (b' := AB) (by have := HSP.out; omega) 1 (.int .i64 0)).other (b' := AB) (by have := HSP.out; omega) 2 (.slice none 0 0))
  have HB3 := Lib.hid (((HB2.out.setCell (p := ⟨AB, 0, none⟩) (by have := HSP.out; show w.heap.size ≤ AB; omega) (.bool true)).setCell (p := ⟨AB, 1, none⟩) (by have := HSP.out; show w.heap.size ≤ AB; omega) (.int .i64 0)).setCell (p := ⟨AB, 2, none⟩) (by have := HSP.out; show w.heap.size ≤ AB; omega) (.slice none 0 0))
  have HS3 : Hid ((((W3.setCell ⟨AB, 0, none⟩ (.bool true)).setCell ⟨AB, 1, none⟩ (.int .i64 0)).setCell ⟨AB, 2, none⟩ (.slice none 0 0)).heap.size = AB + 1) := Lib.hid (by simp [HS2.out])
  clear hr00
  go_upto_region 4 with fail
  clear hc0 hc1 hc2 z0 z1 z2 HR0 HKF HKC HB2 HS2
  generalize World.setCell (World.setCell (World.setCell W3 _ _) _ _) _ _ = W4 at HR1 HKF1 HKC1 HB3 HS3 ⊢
  obtain ⟨MBo, hMBo⟩ : ∃ x, Hid (madeCells TBo.z.cells (N * TBo.size) = x) := ⟨_, Lib.hid rfl⟩
  have mk2 : (Instr.makeSlice 97 (.int .i64 (N : Int)) (.int .i64 (N : Int))).run Try.prog W4 = .ok (.slice (some ⟨W4.heap.size, 0, none⟩) N N) (W4.alloc (.cells MBo 4)) := by rw [← hMBo.out]; exact HMB.out W4
  have f3 := HKF1.out.cell 3 (.slice co N cc) rfl
  have HM : Hid (Mdd w.heap.size w (W4.alloc (.cells MBo 4)) P0 P1 AB W4.heap.size #[.slice (some ⟨fb, fo, none⟩) NF fc, .slice io NI ic, .slice to_ NT tc, .int .i64 LT] #[.int .i64 ke, .int .i64 lo, .int .i64 st, .slice co N cc] N st (goes c n ⟨ke, lo, st, code⟩) N ((List.replicate N none).set 0 (some VA.start)) (List.replicate N false)) := Lib.hid (by
    have hst := (st_begin (K := st) (nx := goes c n ⟨ke, lo, st, code⟩) HN0.out.1 (by have := HFK.out.st0; simp only at this; omega)).2
    have hrb := rowB_made (R := TBo) (S := fun _ => False) W4 false [] rfl (fun w' => rfl) N
    rw [hMBo.out] at hrb
    have hs3 := HS3.out
    have hsp := HSP.out
    refine ⟨HKC1.out.alloc _, HKF1.out.alloc _, ?_, hrb, bnext HB3.out (balloc W4 _), by simp, by simp, ⟨hst.inv, fun a s hs => ?_⟩, by simp, fun a ha => ?_, fun a s hs => ?_, by omega, by simp; omega⟩
    · rw [hs3]; exact HR1.out.keep (balloc W4 _)
    · rcases hst.cls a s hs with e | e
      · left; rw [e, List.getElem?_replicate, if_pos HN0.out.1]
      · exact .inr e
    · rw [List.getElem?_replicate] at ha
      split at ha <;> cases ha
    · rw [List.getElem?_set] at hs
      split at hs
      · next e =>
        subst e
        simp at hs
        rw [← hs.2]
        exact gd_start _ _
      · rw [List.getElem?_replicate] at hs
        split at hs <;> cases hs)
  have HSTEP : Hid (∀ (A : Row) (w1 : World) (at_ DB : Nat) (s : Sx), Below w.heap.size w w1 → RowB TZ w1 (fun y => w.heap.size ≤ y ∧ y ≠ AB ∧ y ≠ DB) AB (A.map rawD) → A[at_]? = some (some s) → A.length = N → s.dep ≤ st → (∀ (a : Nat) (s : Sx), A[a]? = some (some s) → Gd N st s) → AB < w1.heap.size → DB < w1.heap.size → Calls Try.prog 63 #[.agg #[.slice (some ⟨fb, fo, none⟩) NF fc, .slice io NI ic, .slice to_ NT tc, .int .i64 LT], .int .i64 (n : Int), .int .i64 (at_ : Int), .slice (some ⟨AB, 0, none⟩) N N] w1 (StepRes st (goes c n ⟨ke, lo, st, code⟩ at_ s) A (fun y => w.heap.size ≤ y ∧ y ≠ AB ∧ y ≠ DB) AB w1)) := Lib.hid fun A w1 at_ DB s hb hrow hA hlen hd hgd hlt1 hlt2 => by
    have hF := HFK.out
    have hat := (List.getElem?_eq_some_iff.1 hA).1
    obtain ⟨i, hi⟩ := getElem?_of_lt (l := code) (k := at_) (by rw [hNe.out]; omega)
    obtain ⟨ho, ha, hb'⟩ := hF.ins _ _ hi
    obtain ⟨op, a, b⟩ := i
    simp only at ho ha hb'
    obtain ⟨an, rfl⟩ := Int.eq_ofNat_of_zero_le ha.1
    obtain ⟨bn, rfl⟩ := Int.eq_ofNat_of_zero_le hb'.1
    have hst1 : st ≤ 60 := hF.st1
    have hst0 : 1 ≤ st := hF.st0
    have hg0 := hgd at_ s hA
    have hbg := base_gd hg0 (by omega)
    have hsz := hb.size
    have := dstep_c w w1 AB N (fun y => w.heap.size ≤ y ∧ y ≠ AB ∧ y ≠ DB) S A c _ _ _ n at_ ⟨ke, lo, st, code⟩ op an bn s HC.out hb HZ.out HF.out hi hNe.out (Nat.le_trans HN0.out.2 (by decide)) hA hlen hrow (fun y hy => hy.2.1) (fun y hy => ⟨by omega, by omega, by omega⟩) hg0.1 hd hst1 (fun a s h => by have := (hgd a s h).2.1; have := HN0.out.2; omega) ⟨by omega, by omega⟩ ⟨hbg.1, by omega⟩ ho
    rw [hNF.out, hNI.out, hNT.out, hLT.out] at this
    exact this
  have HRES : Hid (∀ (wr : World) (DB g : Nat) (A : Row) (D : List Bool), Mdd w.heap.size w wr P0 P1 AB DB #[.slice (some ⟨fb, fo, none⟩) NF fc, .slice io NI ic, .slice to_ NT tc, .int .i64 LT] #[.int .i64 ke, .int .i64 lo, .int .i64 st, .slice co N cc] N st (goes c n ⟨ke, lo, st, code⟩) g A D → (∀ (a : Nat) (s : Sx), A[a]? = some (some s) → ¬ D[a]? = some false) → WalkRes c n ⟨ke, lo, st, code⟩ w (.returned (.tuple #[.slice (some ⟨AB, 0, none⟩) N N, .bool true])) wr) := Lib.hid fun wr DB g A D hm hD => by
    have ha := st_end hm.st hD
    refine ⟨hm.bel, .inl ⟨A, AB, by simp only; rw [hNe.out]; exact ha, by simp only; rw [hNe.out], hm.rows.mv (Mv.weak wr fun b hb _ => ⟨hb.1, hb.2.1⟩) rfl, hm.pl.2.2.1⟩⟩
  clear i2
  go_wp2_with fail
  obtain ⟨DB, hDB⟩ : ∃ P, Hid (W4.heap.size = P) := ⟨_, Lib.hid rfl⟩
  rw [hDB.out] at HM
  rw [hDB.out]
  clear mk2 f3 HR1 HKF1 HKC1 HB3
  generalize World.alloc W4 _ = W5 at HM ⊢
  go_loopg [9, 10] N (fun g s9 s10 wr => ∃ A D, Hid (Mdd w.heap.size w wr P0 P1 AB DB #[.slice (some ⟨fb, fo, none⟩) NF fc, .slice io NI ic, .slice to_ NT tc, .int .i64 LT] #[.int .i64 ke, .int .i64 lo, .int .i64 st, .slice co N cc] N st (goes c n ⟨ke, lo, st, code⟩) g A D))
  case atStart => exact ⟨_, _, HM⟩
  case round =>
    clear HM
    obtain ⟨A, D, HM0⟩ := hrel
    obtain ⟨G, hG⟩ : ∃ x, Hid (gk = x) := ⟨_, Lib.hid rfl⟩
    rw [hG.out] at HM0
    go_wp2_with fail
    go_loopg [9] N (fun g s9 w9 => ∃ j : Nat, j + g = N ∧ s9 = .int .i64 (j : Int) ∧ Hid (Mdd w.heap.size w w9 P0 P1 AB DB #[.slice (some ⟨fb, fo, none⟩) NF fc, .slice io NI ic, .slice to_ NT tc, .int .i64 LT] #[.int .i64 ke, .int .i64 lo, .int .i64 st, .slice co N cc] N st (goes c n ⟨ke, lo, st, code⟩) G A D) ∧ Hid (∀ i, i < j → D[i]? = some true ∨ A[i]? = some none))
    case atStart => exact ⟨0, Nat.zero_add _, rfl, HM0, Lib.hid (fun i hi => by omega)⟩
    case round =>
      clear HM0
      obtain ⟨j, hin, rfl, HMM, HJ⟩ := hrel
      have f3 := HMM.out.bf.cell 3 (.slice co N cc) rfl
      by_cases hlt : j < N
      · obtain ⟨o, ho⟩ := getElem?_of_lt (l := A) (k := j) (by rw [HMM.out.len]; exact hlt)
        obtain ⟨d, hd⟩ := getElem?_of_lt (l := D) (k := j) (by rw [HMM.out.dl]; exact hlt)
        obtain ⟨g, rfl⟩ : ∃ g, gk = g + 1 := ⟨gk - 1, by omega⟩
        obtain ⟨q3, hL3, _⟩ := HMM.out.rows.at (at_map rawD ho)
        obtain ⟨q4, hL4, _⟩ := HMM.out.dn.at hd
        have x0 := hL3 0 _ rfl
        have e0 : j * TZ.size + 0 = j * 3 := rfl
        rw [e0] at x0
        have d0 := hL4 0 _ rfl
        have e1 : j * TBo.size + 0 = j := Nat.mul_one j
        rw [e1] at d0
        have i4 : (0 : Int) ≤ (j : Int) := by omega
        have i5 : (j : Int) < (N : Int) := by omega
        have HOA := Lib.hid ho
        have HDA := Lib.hid hd
        clear hL3 hL4 ho hd
        have HSTAY : Hid ((d = true ∨ o = none) → ∀ i, i < j + 1 → D[i]? = some true ∨ A[i]? = some none) := Lib.hid fun hx i hi => by
          rcases Nat.lt_or_eq_of_le (Nat.le_of_lt_succ hi) with h | h
          · exact HJ.out i h
          · subst h
            rcases hx with rfl | rfl
            · exact .inl HDA.out
            · exact .inr HOA.out
        have HST1 : Hid ((d = true ∨ o = none) → Hid (∀ i, i < j + 1 → D[i]? = some true ∨ A[i]? = some none)) := Lib.hid fun hx => Lib.hid (HSTAY.out hx)
        cases d
        · rcases o with _ | s
          · have x0 : wr.cell? ⟨AB, j * 3, none⟩ = some (.bool false) := x0
            have HS2 := HST1.out (.inr rfl)
            clear HSTAY HST1
            go_wp2_with fail
            go_roundg g
            case rel => exact ⟨j + 1, by omega, by have := HN0.out; congr 1; unfold wrap64; omega, HMM, HS2⟩
            case measure => omega
          · have x0 : wr.cell? ⟨AB, j * 3, none⟩ = some (.bool true) := x0
            have HKC := Lib.hid HMM.out.bc
            have k0 := HKC.out.cell 0 (.slice (some ⟨fb, fo, none⟩) NF fc) rfl
            have k1 := HKC.out.cell 1 (.slice io NI ic) rfl
            have k2 := HKC.out.cell 2 (.slice to_ NT tc) rfl
            have k3 := HKC.out.cell 3 (.int .i64 LT) rfl
            have z0 := HMM.out.dn.free j
            have i6 : ¬ (j : Int) = (N : Int) := by omega
            clear HSTAY HST1
            go_upto_region 11 with fail
            have HDEP : Hid (s.dep ≤ st) := Lib.hid (HMM.out.st.inv.rch j s HOA.out).2
            have HCAL := Lib.hid (HSTEP.out A (wr.setCell ⟨DB, j, none⟩ (.bool true)) j DB s (HMM.out.bel.setCell (p := ⟨DB, j, none⟩) HMM.out.pl.2.2.2.1 (.bool true)) (HMM.out.rows.other (b' := DB) (fun x hx => hx.2.2) HMM.out.pl.2.2.2.2.2.2.2.2 j (.bool true)) HOA.out HMM.out.len HDEP.out (fun a s h => gd_up (HMM.out.gd a s h) (by omega)) (by simp; exact HMM.out.lts.1) (by simp; exact HMM.out.lts.2))
            have HNEXT := Lib.hid (fun l A' w' h1 h2 h3 h4 h5 => @mdd_next _ _ _ w' _ _ _ _ _ _ _ _ _ _ _ A' _ _ _ l HMM.out HOA.out HDA.out h1 h2 h3 h4 h5)
            have HKW := Lib.hid (HMM.out.bc.other (b' := DB) HMM.out.pl.2.2.2.2.2.1 j (.bool true))
            have HBW := Lib.hid (HMM.out.bel.setCell (p := ⟨DB, j, none⟩) HMM.out.pl.2.2.2.1 (.bool true))
            have HPL := Lib.hid HMM.out.pl
            clear x0 d0 k0 k1 k2 k3 z0 f3
            generalize World.setCell wr _ _ = w7 at HCAL HNEXT HKW HBW ⊢
            have k0 := HKW.out.cell 0 (.slice (some ⟨fb, fo, none⟩) NF fc) rfl
            have k1 := HKW.out.cell 1 (.slice io NI ic) rfl
            have k2 := HKW.out.cell 2 (.slice to_ NT tc) rfl
            have k3 := HKW.out.cell 3 (.int .i64 LT) rfl
            go_wp2_with fail
            refine HCAL.out.mono ?_
            rintro e w8 (⟨l, A', hgo, hp, rfl, hrow, hbo⟩ | ⟨hbad, rfl, hbo⟩)
            · obtain ⟨g', hg', hm'⟩ := HNEXT.out l A' w8 hgo hp (goes_gd hgo (HMM.out.gd j s HOA.out) HDEP.out (by have : 1 ≤ st := HFK.out.st0; omega)) hrow hbo
              have HM' := Lib.hid hm'
              clear hgo hp hrow hbo hm' k0 k1 k2 k3 HNEXT HCAL
              go_wp2_with fail
              go_roundg g'
              case rel => exact ⟨A', _, HM'⟩
              case measure => have := hG.out; omega
            · have HR : Hid (WalkRes c n ⟨ke, lo, st, code⟩ w (.returned (.tuple #[.slice none 0 0, .bool false])) w8) := Lib.hid ⟨HBW.out.trans ((hbo.mono HBW.out.size).below HPL.out.2.2.1), .inr ⟨.no (by
                  simp only
                  rw [hNe.out]
                  exact st_bad HMM.out.st HOA.out (by
                    rcases hbad with h | ⟨l, h1, h2⟩
                    · exact .inl h
                    · exact .inr ⟨l, h1, l.reverse, fun x => by simp, h2⟩)), rfl⟩⟩
              clear hbad hbo k0 k1 k2 k3 HNEXT HCAL
              go_wp2_with fail
              exact bodyPost_ret (v := .tuple #[.slice none 0 0, .bool false]) (by simp [results, Try.results34, go_sem]) rfl HR.out
        · have HS2 := HST1.out (.inl rfl)
          clear HSTAY HST1
          go_wp2_with fail
          go_roundg g
          case rel => exact ⟨j + 1, by omega, by have := HN0.out; congr 1; unfold wrap64; omega, HMM, HS2⟩
          case measure => omega
      · have hjN : j = N := by omega
        subst hjN
        have HR := Lib.hid (HRES.out wr DB G A D HMM.out (fun a s h hd => by
          have hlt := (List.getElem?_eq_some_iff.1 h).1
          rw [HMM.out.len] at hlt
          rcases HJ.out a hlt with e | e
          · rw [hd] at e; cases e
          · rw [h] at e; cases e))
        have i5 : decide ((j : Int) < (j : Int)) = false := by simp
        go_wp2_with fail
        exact bodyPost_ret (v := .tuple #[.slice (some ⟨AB, 0, none⟩) j j, .bool true]) (by simp [results, Try.results34, go_sem]) rfl HR.out
end Go.Proofs.Ytkhdkepjhifffaa.VR
