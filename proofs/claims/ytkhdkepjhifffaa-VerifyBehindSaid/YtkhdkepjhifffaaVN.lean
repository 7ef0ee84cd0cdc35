/- The program's walk through a function: its begin, and whether the function holds together. -/
import Derived.Test.YtkhdkepjhifffaaVL
import Derived.Test.YtkhdkepjhifffaaVM
import Derived.BigRegion
namespace Go.Proofs.Ytkhdkepjhifffaa.VN
open Go.RowKit Go.Proofs.Ytkhdkepjhifffaa.RG Go.Proofs.Ytkhdkepjhifffaa.RB Go.Proofs.Ytkhdkepjhifffaa.KA Go.Proofs.Ytkhdkepjhifffaa.KB Go.Proofs.Ytkhdkepjhifffaa.KH Go.Proofs.Ytkhdkepjhifffaa.VA Go.Proofs.Ytkhdkepjhifffaa.VB Go.Proofs.Ytkhdkepjhifffaa.VE Go.Proofs.Ytkhdkepjhifffaa.VF Go.Proofs.Ytkhdkepjhifffaa.VJ Go.Proofs.Ytkhdkepjhifffaa.VK Go.Proofs.Ytkhdkepjhifffaa.VL Go.Proofs.Ytkhdkepjhifffaa.VM
set_option linter.unusedVariables false
set_option maxRecDepth 100000
set_option maxRecDepth 100000

def mixed {α : Type} (a z : α) (N i : Nat) : List α := List.replicate i a ++ List.replicate (N - i) z
theorem mixed_at {α : Type} {a z : α} {N i : Nat} (h : i < N) : (mixed a z N i)[i]? = some z := by
  unfold mixed
  rw [List.getElem?_append_right (by simp), List.length_replicate, Nat.sub_self, List.getElem?_replicate, if_pos (by omega)]
theorem mixed_set {α : Type} {a z : α} {N i : Nat} (h : i < N) : (mixed a z N i).set i a = mixed a z N (i + 1) := by
  unfold mixed
  rw [List.set_append_right _ _ (by simp), List.length_replicate, Nat.sub_self, show N - i = (N - (i + 1)) + 1 by omega, List.replicate_succ, List.set_cons_zero, List.replicate_succ']
  simp
theorem mixed_end {α : Type} {a z : α} {N : Nat} : mixed a z N N = List.replicate N a := by unfold mixed; simp
def BeginRes (c : Cd) (n : Nat) (f : Bd) (mp : Value) (S : Nat → Prop) (w : World) (e : Ending) (w' : World) : Prop :=
  ∃ p k, e = .returned (.pointer (some ⟨p, 0, none⟩)) ∧ WK w.heap.size w' p k (.slice none 0 0) (List.replicate k.N none) [] ∧ WOk c n f k w S ∧ k.mp = mp ∧ Below w.heap.size w w'
set_option maxHeartbeats 16000000 in
theorem begin_c (c : Cd) (fv iv tv : Value) (n : Nat) (f : Bd) (r : Nat) (w : World) (S : Nat → Prop) (h : HasC w S c fv iv tv) (hf : c.funs[n]? = some f) (hN : f.code.length ≤ 1000) (hF : c.funs.length ≤ 100000) :
    Calls Try.prog 32 #[.agg #[fv, iv, tv, .int .i64 c.lets], .int .i64 (n : Int), .map (some r)] w (BeginRes c n f (.map (some r)) S w) := by
  have hn := (List.getElem?_eq_some_iff.1 hf).1
  obtain ⟨io, ic, rfl, _⟩ := h.ints.val
  obtain ⟨to_, tc, rfl, _⟩ := h.texts.val
  obtain ⟨fb, fo, fc, rfl, _, hfb, hcell⟩ := h.funs.open_ (by intro e; rw [e] at hn; simp at hn)
  obtain ⟨q, hL, hq⟩ := hcell n f hf
  obtain ⟨qv, rfl, hrow⟩ := hasBd_row hq
  obtain ⟨co, cc, rfl, _⟩ := hrow.val
  have HC := Lib.hid h
  have HROW := Lib.hid hrow
  have HF := Lib.hid hf
  obtain ⟨ke, lo, st, code⟩ := f
  simp only at hN hL hrow
  obtain ⟨N, hNe⟩ : ∃ x, Hid (code.length = x) := ⟨_, Lib.hid rfl⟩
  obtain ⟨NF, hNF⟩ : ∃ x, Hid (c.funs.length = x) := ⟨_, Lib.hid rfl⟩
  obtain ⟨NI, hNI⟩ : ∃ x, Hid (c.ints.length = x) := ⟨_, Lib.hid rfl⟩
  obtain ⟨NT, hNT⟩ : ∃ x, Hid (c.texts.length = x) := ⟨_, Lib.hid rfl⟩
  obtain ⟨LT, hLT⟩ : ∃ x, Hid (c.lets = x) := ⟨_, Lib.hid rfl⟩
  rw [hNe.out] at hN hL
  have HCV := Lib.hid (show RowR TN w S (.slice co N cc) code by rw [← hNe.out]; exact hrow)
  rw [hNF.out] at hn hF ⊢
  rw [hNI.out, hNT.out, hLT.out]
  have a1 := balloc w (.cells #[.slice (some ⟨fb, fo, none⟩) NF fc, .slice io NI ic, .slice to_ NT tc, .int .i64 LT] 27)
  have HA1 := Lib.hid a1
  have m1 := hL.keep a1 hfb
  have y0 : (w.alloc (.cells #[.slice (some ⟨fb, fo, none⟩) NF fc, .slice io NI ic, .slice to_ NT tc, .int .i64 LT] 27)).cell? ⟨fb, fo + n * 4, none⟩ = some (.int .i64 ke) := m1 0 _ rfl
  have y1 : (w.alloc (.cells #[.slice (some ⟨fb, fo, none⟩) NF fc, .slice io NI ic, .slice to_ NT tc, .int .i64 LT] 27)).cell? ⟨fb, fo + n * 4 + 1, none⟩ = some (.int .i64 lo) := m1 1 _ rfl
  have y2 : (w.alloc (.cells #[.slice (some ⟨fb, fo, none⟩) NF fc, .slice io NI ic, .slice to_ NT tc, .int .i64 LT] 27)).cell? ⟨fb, fo + n * 4 + 2, none⟩ = some (.int .i64 st) := m1 2 _ rfl
  have y3 : (w.alloc (.cells #[.slice (some ⟨fb, fo, none⟩) NF fc, .slice io NI ic, .slice to_ NT tc, .int .i64 LT] 27)).cell? ⟨fb, fo + n * 4 + 3, none⟩ = some (.slice co N cc) := m1 3 _ rfl
  have i0 : (0 : Int) ≤ (n : Int) := by omega
  have i1 : (n : Int) < (NF : Int) := by omega
  have hmk := fun w => run_made TS .i64 .i64 N (by omega) w
  have HMK := Lib.hid hmk
  clear h hf hcell hL hq hrow a1 m1 hfb hmk
  go_enter Try.func32, Try.ntmps32
  go_wp2_with fail
  go_region
  go_upto_region 2 with fail
  have KP0 := (bk2 w #[.slice (some ⟨fb, fo, none⟩) NF fc, .slice io NI ic, .slice to_ NT tc, .int .i64 LT] #[.slice (some ⟨fb, fo, none⟩) NF fc, .slice io NI ic, .slice to_ NT tc, .int .i64 LT, .int .i64 (n : Int), .int .i64 ke, .int .i64 lo, .int .i64 st, .slice co N cc, .map (some r), .slice none 0 0, .slice none 0 0] 27 69).drew
  have HB1 := Lib.hid (below_dN (bnext (balloc w (.cells #[.slice (some ⟨fb, fo, none⟩) NF fc, .slice io NI ic, .slice to_ NT tc, .int .i64 LT] 27)) (balloc _ (.cells #[.slice (some ⟨fb, fo, none⟩) NF fc, .slice io NI ic, .slice to_ NT tc, .int .i64 LT, .int .i64 (n : Int), .int .i64 ke, .int .i64 lo, .int .i64 st, .slice co N cc, .map (some r), .slice none 0 0, .slice none 0 0] 69))) 1)
  have HS1 : Hid (((w.alloc (.cells #[.slice (some ⟨fb, fo, none⟩) NF fc, .slice io NI ic, .slice to_ NT tc, .int .i64 LT] 27)).alloc (.cells #[.slice (some ⟨fb, fo, none⟩) NF fc, .slice io NI ic, .slice to_ NT tc, .int .i64 LT, .int .i64 (n : Int), .int .i64 ke, .int .i64 lo, .int .i64 st, .slice co N cc, .map (some r), .slice none 0 0, .slice none 0 0] 69)).drew.heap.size = w.heap.size + 2) := Lib.hid (by show ((w.alloc _).alloc _).heap.size = _; simp)
  have HB1 : Hid (Below w.heap.size w ((w.alloc (.cells #[.slice (some ⟨fb, fo, none⟩) NF fc, .slice io NI ic, .slice to_ NT tc, .int .i64 LT] 27)).alloc (.cells #[.slice (some ⟨fb, fo, none⟩) NF fc, .slice io NI ic, .slice to_ NT tc, .int .i64 LT, .int .i64 (n : Int), .int .i64 ke, .int .i64 lo, .int .i64 st, .slice co N cc, .map (some r), .slice none 0 0, .slice none 0 0] 69)).drew) := HB1
  obtain ⟨P, hP⟩ : ∃ P, Hid (w.heap.size + 1 = P) := ⟨_, Lib.hid rfl⟩
  rw [hP.out] at KP0 ⊢
  generalize World.drew _ = W1 at KP0 HB1 HS1 ⊢
  have KP := Lib.hid KP0
  have HPS : Hid (P ≠ W1.heap.size ∧ w.heap.size ≤ P ∧ w.heap.size ≤ W1.heap.size ∧ P < W1.heap.size) := Lib.hid (by have := HS1.out; have := hP.out; omega)
  obtain ⟨MC, hMC⟩ : ∃ x, Hid (madeCells TS.z.cells (N * TS.size) = x) := ⟨_, Lib.hid rfl⟩
  have hmk1 : (Instr.makeSlice 67 (.int .i64 (N : Int)) (.int .i64 (N : Int))).run Try.prog W1 = .ok (.slice (some ⟨W1.heap.size, 0, none⟩) N N) (W1.alloc (.cells MC 72)) := by rw [← hMC.out]; exact HMK.out W1
  have p3 := KP0.cell 4 (.int .i64 (n : Int)) rfl
  have p8 := KP0.cell 8 (.slice co N cc) rfl
  have p10 := KP0.cell 10 (.slice none 0 0) rfl
  have f10 := KP0.free 10
  have lP := KP0.lt
  have hs2 : (W1.setCell ⟨P, 10, none⟩ (.slice (some ⟨W1.heap.size, 0, none⟩) N N)).heap.size = W1.heap.size := by simp
  have HKA := Lib.hid ((KP0.set 10 (.slice (some ⟨W1.heap.size, 0, none⟩) N N)).alloc (.cells MC 72))
  have HRA0 : Hid (RowB TS ((W1.setCell ⟨P, 10, none⟩ (.slice (some ⟨W1.heap.size, 0, none⟩) N N)).alloc (.cells MC 72)) (Sm P W1.heap.size (.slice none 0 0)) W1.heap.size (List.replicate N ⟨0, []⟩)) := Lib.hid (by
    have := rowB_made (R := TS) (S := Sm P W1.heap.size (.slice none 0 0)) (W1.setCell ⟨P, 10, none⟩ (.slice (some ⟨W1.heap.size, 0, none⟩) N N)) ⟨0, []⟩ [.slice none 0 0] rfl (fun w' => ⟨_, [], rfl, rw_nil _ _, trivial⟩) N
    rw [hs2, hMC.out] at this
    exact this)
  have HBA := Lib.hid (bnext (HB1.out.setCell (p := ⟨P, 10, none⟩) HPS.out.2.1 (.slice (some ⟨W1.heap.size, 0, none⟩) N N)) (balloc _ (.cells MC 72)))
  clear hs2
  clear KP0
  go_upto_region 3 with fail
  obtain ⟨SB, hSB⟩ : ∃ x, Hid (W1.heap.size = x) := ⟨_, Lib.hid rfl⟩
  rw [hSB.out] at HKA HRA0 HBA HPS
  rw [hSB.out]
  clear hmk1 p3 p8 p10 f10 lP
  generalize World.alloc (World.setCell W1 _ _) _ = W2 at HKA HRA0 HBA ⊢
  have q10 := HKA.out.cell 10 (.slice (some ⟨SB, 0, none⟩) N N) rfl
  go_wp2_with fail
  go_loopg [8, 34] N (fun g s8 jv wr => ∃ i : Nat, i + g = N ∧ jv = .int .i64 (i : Int) ∧ Hid (Below w.heap.size w wr) ∧ Hid (Bk wr P (#[.slice (some ⟨fb, fo, none⟩) NF fc, .slice io NI ic, .slice to_ NT tc, .int .i64 LT, .int .i64 (n : Int), .int .i64 ke, .int .i64 lo, .int .i64 st, .slice co N cc, .map (some r), .slice none 0 0, .slice none 0 0].set! 10 (.slice (some ⟨SB, 0, none⟩) N N)) 69) ∧ Hid (RowB TS wr (Sm P SB (.slice none 0 0)) SB (mixed ⟨-1, []⟩ ⟨0, []⟩ N i)))
  case atStart => exact ⟨0, Nat.zero_add _, rfl, HBA, HKA, HRA0⟩
  case round =>
    clear q10 HBA HKA HRA0
    obtain ⟨i, hin, rfl, HBA, HKA, HRA⟩ := hrel
    have q10 := HKA.out.cell 10 (.slice (some ⟨SB, 0, none⟩) N N) rfl
    by_cases hlt : i < N
    · obtain ⟨g, rfl⟩ : ∃ g, gk = g + 1 := ⟨gk - 1, by omega⟩
      obtain ⟨qs, hLs, _⟩ := HRA.out.at (mixed_at hlt)
      have x0 : wr.cell? ⟨SB, i * 2, none⟩ = some (.int .i64 0) := hLs 0 _ rfl
      have z0 := HRA.out.free (i * 2)
      have i4 : (0 : Int) ≤ (i : Int) := by omega
      have i5 : (i : Int) < (N : Int) := by omega
      clear hLs
      go_wp2_with fail
      go_roundg g
      case rel =>
        refine ⟨i + 1, by omega, by go_num, Lib.hid (HBA.out.setCell (p := ⟨SB, i * 2, none⟩) (by have := HPS.out; show w.heap.size ≤ SB; omega) _), Lib.hid (HKA.out.other HPS.out.1 _ _), Lib.hid ?_⟩
        have := HRA.out.set (i := i) (j := 0) (p := ⟨-1, []⟩) (v := .int .i64 (-1)) (mixed_at hlt) (fun x hx => hx.2.1) (by decide) (fun q hq => ⟨q, rfl, hasM.mv (mv_set (fun x hx => hx.2.1) _ _) hq⟩)
        rw [mixed_set hlt] at this
        exact this
      case measure => omega
    · have HIN : Hid (i = N) := Lib.hid (by omega)
      go_wp2_with fail
      go_ret
      have hrow := HRA.out
      rw [HIN.out, mixed_end] at hrow
      refine ⟨P, ⟨.slice (some ⟨fb, fo, none⟩) NF fc, .slice io NI ic, .slice to_ NT tc, LT, n, ke, lo, st, .slice co N cc, .map (some r), SB, N⟩, rfl, ⟨HKA.out, by rw [List.map_replicate]; exact hrow, OwnR.nil _ _ _, by simp, HPS.out.2.1, HPS.out.2.2.1, HPS.out.1, (fun g hg => by cases hg), fun a s hs => by rw [List.getElem?_replicate] at hs; split at hs <;> cases hs⟩, ⟨?_, hLT.out.symm, rfl, HF.out, rfl, rfl, rfl, HCV.out, hNe.out.symm⟩, rfl, HBA.out⟩
      have := HC.out
      rw [hNF.out, hNI.out, hNT.out] at this
      exact this
/-- What is known of a function that may be. -/
structure FOk (f : Bd) : Prop where
  n0 : 0 < f.code.length
  n1 : f.code.length ≤ 400
  st0 : 1 ≤ f.stack
  st1 : f.stack ≤ 60
  ins : ∀ (a : Nat) (i : In), f.code[a]? = some i → (1 ≤ i.op ∧ i.op ≤ 33) ∧ (0 ≤ i.a ∧ i.a ≤ 65535) ∧ 0 ≤ i.b ∧ i.b ≤ 65535
/-- What a walk has between two steps. -/
structure Mid (B : Nat) (w0 w : World) (p : Nat) (k : WC) (nx : Nat → Sx → Option (List (Nat × Sx))) (g : Nat) (A : Row) (O : List Nat) (ov : Value) : Prop where
  wk : WK B w p k ov A O
  st : St k.N k.st nx A (fun a => a ∈ O)
  bel : Below B w0 w
  few : left A + O.length = g
  le : g ≤ k.N
  at_ : ∀ a, a ∈ O → ∃ s, A[a]? = some (some s)
  gd : ∀ (a : Nat) (s : Sx), A[a]? = some (some s) → Gd (k.N - g) k.st s
def HoldsRes (B : Nat) (p : Nat) (k : WC) (nx : Nat → Sx → Option (List (Nat × Sx))) (w : World) (e : Ending) (w' : World) : Prop :=
  Below B w w' ∧ ((∃ A ov, Ans k.N k.st nx (some A) ∧ e = .returned (.bool true) ∧ WK B w' p k ov A []) ∨ (Ans k.N k.st nx none ∧ e = .returned (.bool false)))
theorem puts_back {K : Int} : ∀ {l : List (Nat × Sx)} {A A' : Row}, puts K A l = some A' → ∀ (a : Nat) (s : Sx), A'[a]? = some (some s) → A[a]? = some (some s) ∨ (a, s) ∈ l
  | [], A, A', h, a, s, hs => by cases h; exact .inl hs
  | x :: l, A, A', h, a, s, hs => by
    obtain ⟨B, hB, h⟩ := Option.bind_eq_some_iff.1 (show (put K A x).bind (fun A' => puts K A' l) = some A' from h)
    rcases puts_back h a s hs with e | e
    · rcases (put_some hB).2.2.2 a s e with e | e
      · exact .inl e
      · exact .inr (by rw [e]; exact List.mem_cons_self)
    · exact .inr (List.mem_cons_of_mem _ e)
theorem own_someI {w : World} {B n cap : Nat} {ao : Option Addr} {L : List Int} (h : OwnR TI w B (fun _ => False) (.slice ao n cap) L) (h0 : 0 < L.length) : ∃ g, ao = some ⟨g, 0, none⟩ := by
  obtain ⟨qs, ⟨h1, h2⟩, h3⟩ := h
  rcases h2 with ⟨_, h2⟩ | ⟨g, cap', cur, hv, _⟩
  · omega
  · cases hv
    exact ⟨g, rfl⟩
/-- The last one that is to be gone on from is taken away. -/
theorem wk_pop {B : Nat} {w : World} {p M oc g5 : Nat} {k : WC} {A : Row} {O' : List Nat} {a : Nat} (h : WK B w p k (.slice (some ⟨g5, 0, none⟩) (M + 1) oc) A (O' ++ [a])) (hM : O'.length = M) : WK B (w.setCell ⟨p, 11, none⟩ (.slice (some ⟨g5, 0, none⟩) M oc)) p k (.slice (some ⟨g5, 0, none⟩) M oc) A O' := by
  have hg : g5 ≠ p ∧ g5 ≠ k.sb := h.hop g5 rfl
  have ho := own_short (m := M) h.opn (by simp; omega) (by simp)
  have ht : ((O' ++ [a]).map Int.ofNat).take M = O'.map Int.ofNat := by rw [List.map_append, List.take_append_of_le_length (by simp; omega), List.take_of_length_le (by simp; omega)]
  rw [ht] at ho
  exact ⟨h.blk.set 11 _, h.sts.other (fun x hx => hx.1) (Ne.symm h.hps) 11 _, own_bo ho (Bo.set w.heap.size p w 11 _) (fun g e => ⟨(ho.own e).2, (h.hop g e).1⟩), h.len, h.hp, h.hs, h.hps, h.hop, h.gd⟩
theorem snoc_cases (O : List Nat) (h : O ≠ []) : ∃ O' a, O = O' ++ [a] := ⟨O.dropLast, O.getLast h, (List.dropLast_concat_getLast h).symm⟩
set_option maxHeartbeats 16000000 in
theorem holds_c (B : Nat) (w0 : World) (p : Nat) (k : WC) (c : Cd) (n : Nat) (f : Bd) (S0 : Nat → Prop) (r : Nat) (vs : List Value) (wr w : World)
    (h : WK B w p k (.slice none 0 0) (List.replicate k.N none) []) (hw : WOk c n f k w0 S0) (hri : RI wr w0 r vs) (hvs : vs.length = 33) (hmp : k.mp = .map (some r)) (hwB : w0.heap.size = B) (hB0 : Below B w0 w) (hf : FOk f) :
    Calls Try.prog 33 #[.pointer (some ⟨p, 0, none⟩)] w (HoldsRes B p k (goes c n f) w) := by
  have hN0 : 0 < k.N := by rw [hw.N]; exact hf.n0
  have hN1 : k.N ≤ 400 := by rw [hw.N]; exact hf.n1
  have hK0 : 1 ≤ k.st := by rw [hw.st]; exact hf.st0
  have hK1 : k.st ≤ 60 := by rw [hw.st]; exact hf.st1
  obtain ⟨hput, hst⟩ := st_begin (K := k.st) (nx := goes c n f) hN0 (by omega)
  have HR0 := Lib.hid (reach_z B w p k (.slice none 0 0) (List.replicate k.N none) [] (0, VA.start) (.slice none 0 0) 0 rfl h ⟨_, [], rfl, rw_nil _ _, trivial⟩ (Int.le_refl _) (Nat.zero_le _) (Nat.zero_le _) (by omega))
  have HPUT := Lib.hid hput
  have HST := Lib.hid hst
  have HH := Lib.hid h
  have HSTEP : Hid (∀ (A : Row) (O : List Nat) (ov : Value) (w1 : World) (at_ : Nat) (s : Sx), WK B w1 p k ov A O → Below B w0 w1 → A[at_]? = some (some s) → s.dep ≤ k.st → Gd 400 k.st s → O.length ≤ 400 → Calls Try.prog 62 #[.pointer (some ⟨p, 0, none⟩), .int .i64 (at_ : Int)] w1 (PStepRes B p k ov A O (goes c n f at_ s) w1)) := Lib.hid fun A O ov w1 at_ s hwk hb hA hd hgd hO => by
    obtain ⟨D, ms⟩ := s
    have hat := (List.getElem?_eq_some_iff.1 hA).1
    rw [hwk.len, hw.N] at hat
    obtain ⟨i, hi⟩ := getElem?_of_lt hat
    obtain ⟨ho, ha, hb'⟩ := hf.ins _ _ hi
    obtain ⟨op, a, b⟩ := i
    simp only at ho ha hb'
    obtain ⟨an, rfl⟩ := Int.eq_ofNat_of_zero_le ha.1
    obtain ⟨bn, rfl⟩ := Int.eq_ofNat_of_zero_le hb'.1
    have hbg := base_gd hgd (by omega)
    exact step_c B w0 w1 p k ov A O c n f S0 r vs wr at_ op an bn D ms hwk hw hri hvs hmp hwB hb hi ho ⟨by omega, by omega⟩ hA (by simp only at hd; omega) (Nat.le_trans hgd.2.1 (by decide)) (by omega) (by omega) ⟨hbg.1, by omega⟩
  have HB0 := Lib.hid hB0
  have HWL := Lib.hid (fun g (hg : k.N = g) => hg)
  clear h hw hri hvs hmp hwB hB0 hf hput hst
  go_enter Try.func33, Try.ntmps33
  go_wp2_with fail
  refine HR0.out.mono ?_
  rintro e w1 (⟨A1, ov1, hp1, rfl, hk1, hf1⟩ | ⟨hp1, _⟩)
  rotate_left
  · rw [HPUT.out] at hp1; cases hp1
  have hA1 : A1 = (List.replicate k.N none).set 0 (some VA.start) := by rw [HPUT.out] at hp1; exact (Option.some.inj hp1).symm
  have hO1 : addO (List.replicate k.N none) [] (0, VA.start) = [0] := by unfold addO; rw [if_pos (by simp [hN0])]; rfl
  subst hA1
  rw [hO1] at hk1
  have hzero : ((List.replicate k.N (none : Option Sx)).set 0 (some VA.start))[0]? = some (some VA.start) := by simp [hN0]
  have HM : Hid (∃ A O ov, Mid B w0 w1 p k (goes c n f) k.N A O ov) := Lib.hid ⟨_, [0], ov1, hk1, by
      refine ⟨HST.out.inv, fun a s hs => ?_⟩
      rcases HST.out.cls a s hs with e | e
      · exact .inl (by rw [e]; simp)
      · exact .inr e, HB0.out.trans (HH.out.bel hf1), by
      have := left_set (A := List.replicate k.N none) (i := 0) (s := VA.start) (by simp [hN0])
      rw [left_rep] at this
      simp
      omega, Nat.le_refl _, fun a ha => ⟨VA.start, by rw [List.mem_singleton.1 ha]; exact hzero⟩, fun a s hs => by
      rw [List.getElem?_set] at hs
      split at hs
      · next e =>
        subst e
        simp [hN0] at hs
        rw [← hs]
        exact gd_start _ _
      · rw [List.getElem?_replicate] at hs
        split at hs <;> cases hs⟩
  have HBW := Lib.hid (HH.out.bel hf1)
  clear hp1 hk1 hf1 hO1 hzero HR0 HST HPUT
  go_wp2_with fail
  go_loopg [3, 4, 5] k.N (fun g s3 s4 s5 wr => (s3 = .bool true ∧ Hid (Below B w wr) ∧ Hid (∃ A O ov, Mid B w0 wr p k (goes c n f) g A O ov)) ∨ (s3 = .bool false ∧ Hid (Below B w wr) ∧ Hid (¬ Ok k.N k.st (goes c n f))))
  case atStart => exact .inl ⟨rfl, HBW, HM⟩
  case round =>
    clear HBW HM
    rcases hrel with ⟨rfl, HBW, HM⟩ | ⟨rfl, HBW, HNO⟩
    · obtain ⟨A, O, ov, hm⟩ := HM.out
      obtain ⟨oo, oc, eov, hoc⟩ := hm.wk.opn.val
      have hlen : (O.map Int.ofNat).length = O.length := List.length_map ..
      rw [hlen] at eov hoc
      have q11 := hm.wk.blk.cell 11 ov rfl
      by_cases hO : O = []
      · subst hO
        have e0 : ov = .slice oo 0 oc := eov
        rw [e0] at q11
        have HRES : Hid (HoldsRes B p k (goes c n f) w (.returned (.bool true)) wr) := Lib.hid ⟨HBW.out, .inl ⟨A, ov, st_end hm.st (fun a s _ h => by cases h), rfl, hm.wk⟩⟩
        clear hm eov e0 hoc hlen HM
        go_wp2_with fail
        go_ret
        exact HRES.out
      · obtain ⟨O', at_, rfl⟩ := snoc_cases O hO
        obtain ⟨M, hM⟩ : ∃ M, O'.length = M := ⟨_, rfl⟩
        have hl1 : (O' ++ [at_]).length = M + 1 := by simp [hM]
        rw [hl1] at eov hoc
        subst eov
        obtain ⟨g5, rfl⟩ := own_someI hm.wk.opn (by rw [hlen, hl1]; omega)
        obtain ⟨s, hs⟩ := hm.at_ at_ (by simp)
        obtain ⟨b5, o5, c5, hv5, _, hb5, hc5⟩ := hm.wk.opn.row.open_ (by simp)
        rw [hlen, hl1] at hv5
        cases hv5
        obtain ⟨q5, hL5, _⟩ := hc5 M (at_ : Int) (by rw [List.map_append, List.getElem?_append_right (by simp; omega)]; simp [hM])
        have x5 : wr.cell? ⟨g5, M, none⟩ = some (.int .i64 (at_ : Int)) := by
          have := hL5 0 _ rfl
          rw [Nat.zero_add] at this
          have e : M * TI.size + 0 = M := Nat.mul_one M
          rw [e] at this
          exact this
        have hfew := hm.few
        have hle := hm.le
        obtain ⟨g, rfl⟩ : ∃ g, gk = g + 1 := ⟨gk - 1, by omega⟩
        have HW2 := Lib.hid (wk_pop hm.wk hM)
        have HB2 := Lib.hid (hm.bel.setCell (p := ⟨p, 11, none⟩) hm.wk.hp (.slice (some ⟨g5, 0, none⟩) M oc))
        have HBW2 := Lib.hid (HBW.out.trans ((Below.refl B wr).setCell (p := ⟨p, 11, none⟩) hm.wk.hp (.slice (some ⟨g5, 0, none⟩) M oc)))
        have HMM := Lib.hid hm
        have HSS := Lib.hid hs
        have HE := Lib.hid (And.intro hM hfew)
        have hdep := (hm.st.inv.rch at_ s hs).2
        have HDEP := Lib.hid hdep
        have f11 := hm.wk.blk.free 11
        have l11 := hm.wk.blk.lt
        have i4 : (0 : Int) ≤ (M : Int) := by omega
        have i5 : (M : Int) < (M : Int) + 1 := by omega
        have i6 : (M : Int) ≤ (oc : Int) := by omega
        have i7 : (M : Int) + 1 > 0 := by omega
        have HM4 : Hid (O'.length ≤ 400) := Lib.hid (by omega)
        have i8 : (M : Int) ≤ 400 := by omega
        clear hm hs hL5 hc5 hb5 hl1 hlen hoc hO HM hM hfew hdep
        go_upto_region 6 with fail
        generalize World.setCell wr _ _ = w2 at HW2 HB2 HBW2 ⊢
        clear q11 x5 f11 l11
        go_wp2_with fail
        refine (HSTEP.out A O' _ w2 at_ s HW2.out HB2.out HSS.out HDEP.out (gd_up (HMM.out.gd at_ s HSS.out) (by omega)) HM4.out).mono ?_
        rintro e w3 (⟨l, A', O2, ov2, hgo, hputs, rfl, hwk, hfr⟩ | ⟨hbad, rfl, hb3⟩)
        · have HN : Hid (Below B w w3) := Lib.hid (HBW2.out.trans (HW2.out.bel hfr))
          obtain ⟨u1, u2, u3, u4, u5, u6⟩ := putsO_all hputs
          have HMID : Hid (∃ A O ov, Mid B w0 w3 p k (goes c n f) g A O ov) := Lib.hid ⟨A', O2, ov2, hwk, st_next HMM.out.st HSS.out hgo u1 (fun b hb hne => u3 b (by
              rcases List.mem_append.1 hb with h | h
              · exact h
              · exact absurd (List.mem_singleton.1 h) hne)) (fun b t hb => u4 b t hb), HB2.out.trans (HW2.out.bel hfr), by have := HE.out.2; simp at this; omega, by omega, fun a ha => by
              rcases u6 a ha with h | h
              · obtain ⟨t, ht⟩ := HMM.out.at_ a (List.mem_append_left _ h)
                exact ⟨t, u5.2 _ _ ht⟩
              · exact h, fun a t ht => by
              rcases puts_back u1 a t ht with h | h
              · exact gd_up (HMM.out.gd a t h) (by omega)
              · exact gd_up (goes_gd hgo (HMM.out.gd at_ s HSS.out) HDEP.out (by omega) _ h) (by omega)⟩
          clear hgo hputs hwk hfr u1 u2 u3 u4 u5 u6
          go_wp2_with fail
          go_roundg g
          case rel => exact .inl ⟨rfl, HN, HMID⟩
          case measure => omega
        · have HN : Hid (Below B w w3) := Lib.hid (HBW2.out.trans hb3)
          have HNO : Hid (¬ Ok k.N k.st (goes c n f)) := Lib.hid (st_bad HMM.out.st HSS.out (by
            rcases hbad with h | ⟨l, h1, h2⟩
            · exact .inl h
            · exact .inr ⟨l, h1, l, fun x => Iff.rfl, putsO_none h2⟩))
          clear hbad hb3
          go_wp2_with fail
          go_roundg g
          case rel => exact .inr ⟨rfl, HN, HNO⟩
          case measure => omega
    · have HRES : Hid (HoldsRes B p k (goes c n f) w (.returned (.bool false)) wr) := Lib.hid ⟨HBW.out, .inr ⟨.no HNO.out, rfl⟩⟩
      go_wp2_with fail
      go_ret
      exact HRES.out
end Go.Proofs.Ytkhdkepjhifffaa.VN
