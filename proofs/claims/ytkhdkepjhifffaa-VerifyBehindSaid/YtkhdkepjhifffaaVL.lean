/- The program's step: it goes on from an instruction. -/
import Derived.Test.YtkhdkepjhifffaaVF
import Derived.Test.YtkhdkepjhifffaaVK
import Derived.Test.YtkhdkepjhifffaaVI
import Derived.Deep.Cut
import Derived.Deep.DeepCutAuto
namespace Go.Proofs.Ytkhdkepjhifffaa.VL
open Go.RowKit Go.Proofs.Ytkhdkepjhifffaa.RG Go.Proofs.Ytkhdkepjhifffaa.RB Go.Proofs.Ytkhdkepjhifffaa.KA Go.Proofs.Ytkhdkepjhifffaa.KB Go.Proofs.Ytkhdkepjhifffaa.KH Go.Proofs.Ytkhdkepjhifffaa.VA Go.Proofs.Ytkhdkepjhifffaa.VB Go.Proofs.Ytkhdkepjhifffaa.VC Go.Proofs.Ytkhdkepjhifffaa.VD Go.Proofs.Ytkhdkepjhifffaa.VE Go.Proofs.Ytkhdkepjhifffaa.VF Go.Proofs.Ytkhdkepjhifffaa.VI Go.Proofs.Ytkhdkepjhifffaa.VJ Go.Proofs.Ytkhdkepjhifffaa.VK
set_option linter.unusedVariables false
set_option maxRecDepth 100000
set_option maxRecDepth 100000

theorem leave_c (B : Nat) (w : World) (p : Nat) (k : WC) (ov : Value) (A : Row) (O : List Nat) (at_ : Nat) (op : Int) (an bn : Nat) (D : Int) (ms : List Mk) (mv : Value) (h : WK B w p k ov A O) (hm : RowM TM w (Sm p k.sb ov) mv ms) (hd0 : 0 ≤ D) (hd1 : D ≤ 100000) (hl : ms.length ≤ 900000) (hO : O.length ≤ 90000) (hN : k.N ≤ 1000000) (hat : at_ ≤ 1000000) :
    Calls Try.prog 71 #[.pointer (some ⟨p, 0, none⟩), .int .i64 (at_ : Int), .agg #[.int .i64 op, .int .i64 (an : Int), .int .i64 (bn : Int)], .agg #[.int .i64 D, mv]] w (LeaveRes B p k ov A O ⟨op, an, bn⟩ at_ ⟨D, ms⟩ w) := by
  by_cases hop : op ∈ ([14, 15, 23, 30, 16, 17, 18, 21, 28, 26, 22, 27, 29] : List Int)
  · simp only [List.mem_cons, List.not_mem_nil, or_false] at hop
    rcases hop with rfl | rfl | rfl | rfl | rfl | rfl | rfl | rfl | rfl | rfl | rfl | rfl | rfl
    · exact leave_14 B w p k ov A O at_ an bn D ms mv h hm hd0 hd1 hl hO hN hat
    · exact leave_15 B w p k ov A O at_ an bn D ms mv h hm hd0 hd1 hl hO hN hat
    · exact leave_23 B w p k ov A O at_ an bn D ms mv h hm hd0 hd1 hl hO hN hat
    · exact leave_30 B w p k ov A O at_ an bn D ms mv h hm hd0 hd1 hl hO hN hat
    · exact leave_16 B w p k ov A O at_ an bn D ms mv h hm hd0 hd1 hl hO hN hat
    · exact leave_17 B w p k ov A O at_ an bn D ms mv h hm hd0 hd1 hl hO hN hat
    · exact leave_18 B w p k ov A O at_ an bn D ms mv h hm hd0 hd1 hl hO hN hat
    · exact leave_21 B w p k ov A O at_ an bn D ms mv h hm hd0 hd1 hl hO hN hat
    · exact leave_28 B w p k ov A O at_ an bn D ms mv h hm hd0 hd1 hl hO hN hat
    · exact leave_26 B w p k ov A O at_ an bn D ms mv h hm hd0 hd1 hl hO hN hat
    · exact leave_22 B w p k ov A O at_ an bn D ms mv h hm hd0 hd1 hl hO hN hat
    · exact leave_27 B w p k ov A O at_ an bn D ms mv h hm hd0 hd1 hl hO hN hat
    · exact leave_29 B w p k ov A O at_ an bn D ms mv h hm hd0 hd1 hl hO hN hat
  · exact leave_else B w p k ov A O at_ op an bn D ms mv h hm hd0 hd1 hl hO hN hat hop
theorem goes_ok {c : Cd} {n : Nat} {f : Bd} {at_ : Nat} {i : In} {D TK PT : Int} {ms : List Mk} (hi : f.code[at_]? = some i) (hr : rightB c n f i = true) (hg : base ⟨D, ms⟩ ≤ D - TK) (hTK : takesN i = TK) (hPT : putsN i.op = PT) : goes c n f at_ ⟨D, ms⟩ = leaves i at_ ⟨D + (PT - TK), ms⟩ := by
  subst hTK hPT
  unfold goes
  rw [hi]
  simp only
  rw [if_pos ⟨hr, hg⟩]
  unfold after
  simp only
  congr 2
  omega
theorem goes_no {c : Cd} {n : Nat} {f : Bd} {at_ : Nat} {i : In} {D TK : Int} {ms : List Mk} (hi : f.code[at_]? = some i) (hTK : takesN i = TK) (hg : ¬ (rightB c n f i = true ∧ base ⟨D, ms⟩ ≤ D - TK)) : goes c n f at_ ⟨D, ms⟩ = none := by
  subst hTK
  unfold goes
  rw [hi]
  simp only
  rw [if_neg hg]
def PStepRes (B : Nat) (p : Nat) (k : WC) (ov : Value) (A : Row) (O : List Nat) (g : Option (List (Nat × Sx))) (w : World) (e : Ending) (w' : World) : Prop :=
  (∃ l A' O' ov', g = some l ∧ putsO k.st A O l = some (A', O') ∧ e = .returned (.bool true) ∧ WK B w' p k ov' A' O' ∧ Fr p k.sb ov ov' w w') ∨ ((g = none ∨ ∃ l, g = some l ∧ putsO k.st A O l = none) ∧ e = .returned (.bool false) ∧ Below B w w')
theorem below_any (c : Cd) (n : Nat) (f : Bd) (w : World) (S : Nat → Prop) (p : Nat) (k : WC) (ov : Value) (hb : Bk w p (wcells k ov) 69) (hw : WOk c n f k w S) (op : Int) (an bn : Nat) (x y z : Nat) (t q : Int) (l : Nat) (hx : Bk w x #[.int .i64 t] 3) (hy : Bk w y #[.int .i64 q] 3) (hz : Bk w z #[fn l] 90) (hlim : LimOk l op) (ht : ∀ a b, takesN ⟨op, a, b⟩ = t) (hq : putsN op = q) :
    Calls Try.prog 67 #[.pointer (some ⟨p, 0, none⟩), .agg #[.int .i64 op, .int .i64 (an : Int), .int .i64 (bn : Int)], .pointer (some ⟨x, 0, none⟩), .pointer (some ⟨y, 0, none⟩), .pointer (some ⟨z, 0, none⟩)] w (RuleRes c n f ⟨op, an, bn⟩ w) := by
  have key : ∀ (L : Int), rightB c n f ⟨op, an, bn⟩ = decide ((an : Int) < L) → ∀ e w', (e = .returned (.tuple #[.int .i64 t, .int .i64 q, .bool (decide ((an : Int) < L))]) ∧ Below w.heap.size w w') → RuleRes c n f ⟨op, an, bn⟩ w e w' := fun L hL e w' h => by
    obtain ⟨rfl, h2⟩ := h
    exact rule_of hL (ht _ _) hq h2
  obtain ⟨io, ic, hiv, _⟩ := hw.has.ints.val
  obtain ⟨to_, tc, htv, _⟩ := hw.has.texts.val
  rcases hlim with ⟨rfl, rfl⟩ | ⟨rfl, rfl⟩ | ⟨rfl, rfl⟩ | ⟨rfl, rfl⟩ | ⟨rfl, rfl⟩ | ⟨rfl, rfl⟩ | ⟨rfl, rfl⟩ | ⟨rfl, rfl⟩ | ⟨rfl, rfl⟩
  · exact (below_ints w p k ov hb io _ ic hiv 1 an bn x y z t q hx hy hz).mono (key _ (by simp [rightB]))
  · exact (below_texts w p k ov hb to_ _ tc htv 2 an bn x y z t q hx hy hz).mono (key _ (by simp [rightB]))
  · exact (below_locals w p k ov hb 3 an bn x y z t q hx hy hz).mono (key _ (by simp [rightB, hw.lo]))
  · exact (below_kept w p k ov hb 4 an bn x y z t q hx hy hz).mono (key _ (by simp [rightB, hw.ke]))
  · exact (below_lets w p k ov hb 6 an bn x y z t q hx hy hz).mono (key _ (by simp [rightB, hw.lets]))
  · exact (below_locals w p k ov hb 7 an bn x y z t q hx hy hz).mono (key _ (by simp [rightB, hw.lo]))
  · exact (below_lets w p k ov hb 8 an bn x y z t q hx hy hz).mono (key _ (by simp [rightB, hw.lets]))
  · exact (below_arity w p k ov hb 12 an bn x y z t q hx hy hz).mono (key _ (by simp [rightB]))
  · exact (below_sums w p k ov hb 19 an bn x y z t q hx hy hz).mono (key _ (by simp [rightB]))
theorem plain_any (c : Cd) (n : Nat) (f : Bd) (w : World) (p : Nat) (op : Int) (an bn : Nat) (x y : Nat) (t q : Int) (hx : Bk w x #[.int .i64 t] 3) (hy : Bk w y #[.int .i64 q] 3) (ht : ∀ a b, takesN ⟨op, a, b⟩ = t) (hq : putsN op = q) (hr : ∀ c n f a b, rightB c n f ⟨op, a, b⟩ = true) :
    Calls Try.prog 68 #[.pointer (some ⟨p, 0, none⟩), .agg #[.int .i64 op, .int .i64 (an : Int), .int .i64 (bn : Int)], .pointer (some ⟨x, 0, none⟩), .pointer (some ⟨y, 0, none⟩)] w (RuleRes c n f ⟨op, an, bn⟩ w) :=
  (plain1_c w p op an bn x y t q hx hy).mono fun e w' h => by
    obtain ⟨rfl, h2⟩ := h
    exact rule_of (hr _ _ _ _ _) (ht _ _) hq h2

def Cut2 (w1 : World) (TK PT : Int) (R : Bool) (s7 s8 s9 : Value) (wx : World) : Prop := .int .i64 TK = s7 ∧ .int .i64 PT = s8 ∧ .bool R = s9 ∧ Below w1.heap.size w1 wx
def Cut1 (w : World) (op : Int) (an bn : Nat) (D : Int) (mv : Value) (s5 s6 : Value) (wc : World) : Prop := ∃ X Y, s5 = .pointer (some ⟨X, 0, none⟩) ∧ s6 = .pointer (some ⟨Y, 0, none⟩) ∧ Bk wc X #[.int .i64 op, .int .i64 (an : Int), .int .i64 (bn : Int)] 45 ∧ Bk wc Y #[.int .i64 D, mv] 72 ∧ Below w.heap.size w wc ∧ w.heap.size ≤ X ∧ w.heap.size ≤ Y ∧ X ≠ Y
theorem bk2 (w : World) (a b : Array Value) (t u : TypeId) : Bk ((w.alloc (.cells a t)).alloc (.cells b u)) (w.heap.size + 1) b u := by
  have := Bk.new (w.alloc (.cells a t)) b u
  rw [World.size_alloc] at this
  exact this
theorem cut1_a (w : World) (op : Int) (an bn : Nat) (D : Int) (mv : Value) : Cut1 w op an bn D mv (.pointer (some ⟨w.heap.size, 0, none⟩)) (.pointer (some ⟨w.heap.size + 1, 0, none⟩)) (((w.alloc (.cells #[.int .i64 op, .int .i64 (an : Int), .int .i64 (bn : Int)] 45)).alloc (.cells #[.int .i64 D, mv] 72)).drew) :=
  ⟨_, _, rfl, rfl, ((Bk.new w _ _).alloc _).drew, (bk2 w _ _ _ _).drew, below_dN (bnext (balloc w _) (balloc _ _)) 1, Nat.le_refl _, Nat.le_succ _, by omega⟩
theorem cut1_b (w : World) (op : Int) (an bn : Nat) (D : Int) (mv : Value) : Cut1 w op an bn D mv (.pointer (some ⟨w.heap.size + 1, 0, none⟩)) (.pointer (some ⟨w.heap.size, 0, none⟩)) (((w.alloc (.cells #[.int .i64 D, mv] 72)).alloc (.cells #[.int .i64 op, .int .i64 (an : Int), .int .i64 (bn : Int)] 45)).drew) :=
  ⟨_, _, rfl, rfl, (bk2 w _ _ _ _).drew, ((Bk.new w _ _).alloc _).drew, below_dN (bnext (balloc w _) (balloc _ _)) 1, Nat.le_succ _, Nat.le_refl _, by omega⟩
set_option maxHeartbeats 32000000 in
theorem step_c (B : Nat) (w0 w : World) (p : Nat) (k : WC) (ov : Value) (A : Row) (O : List Nat) (c : Cd) (n : Nat) (f : Bd) (S0 : Nat → Prop) (r : Nat) (vs : List Value) (wr : World) (at_ : Nat) (op : Int) (an bn : Nat) (D : Int) (ms : List Mk)
    (h : WK B w p k ov A O) (hw : WOk c n f k w0 S0) (hri : RI wr w0 r vs) (hvs : vs.length = 33) (hmp : k.mp = .map (some r)) (hwB : w0.heap.size = B) (hB0 : Below B w0 w)
    (hi : f.code[at_]? = some ⟨op, an, bn⟩) (hop : 1 ≤ op ∧ op ≤ 33) (hab : an ≤ 65535 ∧ bn ≤ 65535) (hA : A[at_]? = some (some ⟨D, ms⟩)) (hd1 : D ≤ 1000) (hl : ms.length ≤ 900000) (hO : O.length ≤ 90000) (hN : k.N ≤ 1000000) (hbs : 0 ≤ base ⟨D, ms⟩ ∧ base ⟨D, ms⟩ ≤ 100000) :
    Calls Try.prog 62 #[.pointer (some ⟨p, 0, none⟩), .int .i64 (at_ : Int)] w (PStepRes B p k ov A O (goes c n f at_ ⟨D, ms⟩) w) := by
  subst hwB
  have hd0 : 0 ≤ D := (h.gd _ _ hA).1
  have HW0 := Lib.hid (hw.keep hB0)
  have HRI := Lib.hid (hri.keep hB0)
  have hat := (List.getElem?_eq_some_iff.1 hi).1
  obtain ⟨cb, coff, cc, hcv, _, hcb, hcd⟩ := HW0.out.cv.open_ (by intro e; rw [e] at hat; simp at hat)
  obtain ⟨q2, hLi, _⟩ := hcd at_ _ hi
  obtain ⟨q3, hLs, hq3⟩ := h.sts.at (at_map rawP hA)
  obtain ⟨sv, qs3, rfl, hsr⟩ := hq3
  have HMS0 : RowM TM w (Sm p k.sb ov) sv ms := ⟨sv, qs3, rfl, hsr⟩
  obtain ⟨mo, mc, rfl, _⟩ := HMS0.val
  have hfl := hw.N
  rw [← hfl] at hat hcv
  obtain ⟨v, hv⟩ := getElem?_of_lt (l := vs) (k := (op - 1).toNat) (by rw [hvs]; omega)
  have hvk : ((op - 1).toNat : Int) + 1 = op := by omega
  have hrk := HRI.out.ok _ v hv
  rw [hvk] at hrk
  have HRK := Lib.hid hrk
  have HLK := Lib.hid (fun w' (hb : Below w.heap.size w w') => run_look w' r (op - 1).toNat vs v hv op hvk.symm (HRI.out.keep hb).blk)
  have HIN := Lib.hid hi
  have HH := Lib.hid h
  obtain ⟨N, hNk⟩ : ∃ x, Hid (k.N = x) := ⟨_, Lib.hid rfl⟩
  obtain ⟨MN, hMN⟩ : ∃ x, Hid (ms.length = x) := ⟨_, Lib.hid rfl⟩
  have HL := Lib.hid hl
  rw [hMN.out] at hl HMS0
  have HMS := Lib.hid HMS0

  rw [hMN.out] at hLs
  rw [hNk.out] at hat hcv
  have q8 := h.blk.cell 8 (.slice (some ⟨cb, coff, none⟩) N cc) (by unfold wcells; rw [hcv]; rfl)
  have q9 := h.blk.cell 9 (.map (some r)) (by unfold wcells; rw [hmp]; rfl)
  have q10 := h.blk.cell 10 (.slice (some ⟨k.sb, 0, none⟩) N N) (by unfold wcells; rw [hNk.out]; rfl)
  have HMP := Lib.hid hmp
  have z0 : w.cell? ⟨cb, coff + at_ * 3, none⟩ = some (.int .i64 op) := hLi 0 _ rfl
  have z1 : w.cell? ⟨cb, coff + at_ * 3 + 1, none⟩ = some (.int .i64 (an : Int)) := hLi 1 _ rfl
  have z2 : w.cell? ⟨cb, coff + at_ * 3 + 2, none⟩ = some (.int .i64 (bn : Int)) := hLi 2 _ rfl
  have x0 : w.cell? ⟨k.sb, at_ * 2, none⟩ = some (.int .i64 D) := hLs 0 _ rfl
  have x1 : w.cell? ⟨k.sb, at_ * 2 + 1, none⟩ = some (.slice mo MN mc) := hLs 1 _ rfl
  have i0 : (0 : Int) ≤ (at_ : Int) := by omega
  have i1 : (at_ : Int) < (N : Int) := by omega
  have HNB := Lib.hid hN
  rw [hNk.out] at hN
  obtain ⟨BS, hBS⟩ : ∃ x, Hid (base ⟨D, ms⟩ = x) := ⟨_, Lib.hid rfl⟩
  rw [hBS.out] at hbs
  have hTKb := takes_le ⟨op, (an : Int), (bn : Int)⟩ (by show (0 : Int) ≤ (bn : Int) ∧ (bn : Int) ≤ 65535; omega)
  have hPTb := puts_le op
  have HWOK := Lib.hid hw
  have HB0 := Lib.hid hB0
  have HPL := Lib.hid h.blk.lt
  have HCB : Hid (cb < w.heap.size) := Lib.hid hcb
  have HSB := Lib.hid h.sts.lt
  clear h hw hri hvs hmp hB0 hi hA hcv hcb hcd hLi hLs hsr HMS0 hfl hv hvk hrk q9
  go_enter Try.func62, Try.ntmps62
  go_upto_region 1 with fail
  go_cut [5, 6] from 10 to 24 (fun s5 s6 wc => Cut1 w op an bn D (.slice mo MN mc) s5 s6 wc)
  case first =>
    have HKE := Lib.hid (fun w' (hb : Below w.heap.size w w') => (⟨(hb.cell (p := ⟨p, 8, none⟩) HPL.out).trans q8, (hb.cell (p := ⟨p, 10, none⟩) HPL.out).trans q10, (hb.cell (p := ⟨cb, coff + at_ * 3, none⟩) HCB.out).trans z0, (hb.cell (p := ⟨cb, coff + at_ * 3 + 1, none⟩) HCB.out).trans z1, (hb.cell (p := ⟨cb, coff + at_ * 3 + 2, none⟩) HCB.out).trans z2, (hb.cell (p := ⟨k.sb, at_ * 2, none⟩) HSB.out).trans x0, (hb.cell (p := ⟨k.sb, at_ * 2 + 1, none⟩) HSB.out).trans x1⟩ : w'.cell? ⟨p, 8, none⟩ = some (.slice (some ⟨cb, coff, none⟩) N cc) ∧ w'.cell? ⟨p, 10, none⟩ = some (.slice (some ⟨k.sb, 0, none⟩) N N) ∧ w'.cell? ⟨cb, coff + at_ * 3, none⟩ = some (.int .i64 op) ∧ w'.cell? ⟨cb, coff + at_ * 3 + 1, none⟩ = some (.int .i64 (an : Int)) ∧ w'.cell? ⟨cb, coff + at_ * 3 + 2, none⟩ = some (.int .i64 (bn : Int)) ∧ w'.cell? ⟨k.sb, at_ * 2, none⟩ = some (.int .i64 D) ∧ w'.cell? ⟨k.sb, at_ * 2 + 1, none⟩ = some (.slice mo MN mc)))
    go_region_held3 (fun w' => w'.cell? ⟨p, 8, none⟩ = some (.slice (some ⟨cb, coff, none⟩) N cc) ∧ w'.cell? ⟨p, 10, none⟩ = some (.slice (some ⟨k.sb, 0, none⟩) N N) ∧ w'.cell? ⟨cb, coff + at_ * 3, none⟩ = some (.int .i64 op) ∧ w'.cell? ⟨cb, coff + at_ * 3 + 1, none⟩ = some (.int .i64 (an : Int)) ∧ w'.cell? ⟨cb, coff + at_ * 3 + 2, none⟩ = some (.int .i64 (bn : Int)) ∧ w'.cell? ⟨k.sb, at_ * 2, none⟩ = some (.int .i64 D) ∧ w'.cell? ⟨k.sb, at_ * 2 + 1, none⟩ = some (.slice mo MN mc)) (first | exact HKE.out _ (below_dN (Below.refl _ _) 1) | exact HKE.out _ (below_dN (balloc w _) 1) | exact HKE.out _ (below_dN (bnext (balloc w _) (balloc _ _)) 1)) (fail)
    all_goals
      go_wp2_with fail
      go_meet
      case rel => first | exact cut1_a w op an bn D _ | exact cut1_b w op an bn D _
  case rest =>
  obtain ⟨X, Y, rfl, rfl, KX0, KY0, hb1, hX, hY, hXY⟩ := hcut
  rename World => W1
  have KX := Lib.hid KX0
  have KY := Lib.hid KY0
  have HB1 := Lib.hid hb1
  have HXY := Lib.hid (And.intro hX (And.intro hY hXY))
  have HK1 := Lib.hid (HH.out.keep hb1)
  have HMS1 := Lib.hid (HMS.out.mv (Mv.low hb1))
  have HP1 := Lib.hid HK1.out.blk.lt
  have HWD : Hid (WOk c n f k W1.drew S0) := Lib.hid ((HWOK.out.keep (HB0.out.trans (hb1.mono HB0.out.size))).keep (bdr W1))
  have HNUM := Lib.hid HWOK.out.num
  obtain ⟨TK, hTK⟩ : ∃ x, Hid (takesN ⟨op, (an : Int), (bn : Int)⟩ = x) := ⟨_, Lib.hid rfl⟩
  obtain ⟨PT, hPT⟩ : ∃ x, Hid (putsN op = x) := ⟨_, Lib.hid rfl⟩
  obtain ⟨R, hR⟩ : ∃ x, Hid (rightB c n f ⟨op, (an : Int), (bn : Int)⟩ = x) := ⟨_, Lib.hid rfl⟩
  have q9 := HK1.out.blk.cell 9 (.map (some r)) (by unfold wcells; rw [HMP.out]; rfl)
  have c0 := KX0.cell 0 (.int .i64 op) rfl
  have c1 := KX0.cell 1 (.int .i64 (an : Int)) rfl
  have c2 := KX0.cell 2 (.int .i64 (bn : Int)) rfl
  have lk := HLK.out W1.drew (hb1.trans ((bdr W1).mono hb1.size))
  clear KX0 KY0 hb1 hX hY hXY z0 z1 z2 x0 x1 q8 q10
  go_upto_region 2 with fail
  go_cut [7, 8, 9] from 25 to 38 (fun s7 s8 s9 wx => Cut2 W1 (takesN ⟨op, (an : Int), (bn : Int)⟩) (putsN op) (rightB c n f ⟨op, (an : Int), (bn : Int)⟩) s7 s8 s9 wx)
  case first =>
    rcases HRK.out with ⟨t, q, ⟨x, y, rfl, hx, hy, _⟩, ht, hq, hr⟩ | ⟨t, q, l, ⟨x, y, z, rfl, hx, hy, hz, _⟩, hlim, ht, hq⟩ | ⟨rfl, rfl⟩ | ⟨rfl, rfl⟩ | ⟨rfl, rfl⟩
    · skip
      have HRU := Lib.hid (And.intro ht (And.intro hq hr))
      clear ht hq hr
      have HXB := Lib.hid (Bk.keep hx HB1.out)
      have HYB := Lib.hid (Bk.keep hy HB1.out)
      clear hx hy
      go_region_held3 (fun w' => w'.cell? ⟨p, 9, none⟩ = some (.map (some r)) ∧ w'.cell? ⟨X, 0, none⟩ = some (.int .i64 op) ∧ w'.cell? ⟨X, 1, none⟩ = some (.int .i64 (an : Int)) ∧ w'.cell? ⟨X, 2, none⟩ = some (.int .i64 (bn : Int))) (first | with_reducible exact HH3.out | go_keep)
        ((go_at_call 68; refine (plain_any c n f W1.drew p op an bn x y t q HXB.out.drew HYB.out.drew HRU.out.1 HRU.out.2.1 HRU.out.2.2).mono ?_; rintro e w3 hres; have hres2 := hres; unfold RuleRes at hres2; obtain ⟨rfl, hb3⟩ := hres2; have HB3 := Lib.hid ((bdr W1).trans (hb3.mono (Nat.le_refl _))); have HH3 := Lib.hid (And.intro ((HB3.out.cell (p := ⟨p, 9, none⟩) HP1.out).trans q9) (And.intro ((HB3.out.cell (p := ⟨X, 0, none⟩) KX.out.lt).trans c0) (And.intro ((HB3.out.cell (p := ⟨X, 1, none⟩) KX.out.lt).trans c1) ((HB3.out.cell (p := ⟨X, 2, none⟩) KX.out.lt).trans c2)))); clear hres hb3))
      go_wp2_with fail
      go_meet
      case rel => exact ⟨rfl, rfl, rfl, HB3.out⟩
    · skip
      have HRU := Lib.hid (And.intro ht hq)
      clear ht hq
      have HXB := Lib.hid (Bk.keep hx HB1.out)
      have HYB := Lib.hid (Bk.keep hy HB1.out)
      have HZB := Lib.hid (Bk.keep hz HB1.out)
      clear hz
      clear hx hy
      go_region_held3 (fun w' => w'.cell? ⟨p, 9, none⟩ = some (.map (some r)) ∧ w'.cell? ⟨X, 0, none⟩ = some (.int .i64 op) ∧ w'.cell? ⟨X, 1, none⟩ = some (.int .i64 (an : Int)) ∧ w'.cell? ⟨X, 2, none⟩ = some (.int .i64 (bn : Int))) (first | with_reducible exact HH3.out | go_keep)
        ((go_at_call 67; refine (below_any c n f W1.drew S0 p k ov (HK1.out.blk.drew) (HWD.out) op an bn x y z t q l HXB.out.drew HYB.out.drew HZB.out.drew hlim HRU.out.1 HRU.out.2).mono ?_; rintro e w3 hres; have hres2 := hres; unfold RuleRes at hres2; obtain ⟨rfl, hb3⟩ := hres2; have HB3 := Lib.hid ((bdr W1).trans (hb3.mono (Nat.le_refl _))); have HH3 := Lib.hid (And.intro ((HB3.out.cell (p := ⟨p, 9, none⟩) HP1.out).trans q9) (And.intro ((HB3.out.cell (p := ⟨X, 0, none⟩) KX.out.lt).trans c0) (And.intro ((HB3.out.cell (p := ⟨X, 1, none⟩) KX.out.lt).trans c1) ((HB3.out.cell (p := ⟨X, 2, none⟩) KX.out.lt).trans c2)))); clear hres hb3))
      go_wp2_with fail
      go_meet
      case rel => exact ⟨rfl, rfl, rfl, HB3.out⟩
    · skip
      go_region_held3 (fun w' => w'.cell? ⟨p, 9, none⟩ = some (.map (some r)) ∧ w'.cell? ⟨X, 0, none⟩ = some (.int .i64 5) ∧ w'.cell? ⟨X, 1, none⟩ = some (.int .i64 (an : Int)) ∧ w'.cell? ⟨X, 2, none⟩ = some (.int .i64 (bn : Int))) (first | with_reducible exact HH3.out | go_keep)
        ((go_at_call 55; refine (self_c c n f W1.drew p k ov HK1.out.blk.drew HNUM.out an bn).mono ?_; rintro e w3 hres; have hres2 := hres; unfold RuleRes at hres2; obtain ⟨rfl, hb3⟩ := hres2; have HB3 := Lib.hid ((bdr W1).trans (hb3.mono (Nat.le_refl _))); have HH3 := Lib.hid (And.intro ((HB3.out.cell (p := ⟨p, 9, none⟩) HP1.out).trans q9) (And.intro ((HB3.out.cell (p := ⟨X, 0, none⟩) KX.out.lt).trans c0) (And.intro ((HB3.out.cell (p := ⟨X, 1, none⟩) KX.out.lt).trans c1) ((HB3.out.cell (p := ⟨X, 2, none⟩) KX.out.lt).trans c2)))); clear hres hb3))
      go_wp2_with fail
      go_meet
      case rel => exact ⟨rfl, rfl, rfl, HB3.out⟩
    · skip
      go_region_held3 (fun w' => w'.cell? ⟨p, 9, none⟩ = some (.map (some r)) ∧ w'.cell? ⟨X, 0, none⟩ = some (.int .i64 10) ∧ w'.cell? ⟨X, 1, none⟩ = some (.int .i64 (an : Int)) ∧ w'.cell? ⟨X, 2, none⟩ = some (.int .i64 (bn : Int))) (first | with_reducible exact HH3.out | go_keep)
        ((go_at_call 57; refine (block_c c n f W1.drew p an bn).mono ?_; rintro e w3 hres; have hres2 := hres; unfold RuleRes at hres2; obtain ⟨rfl, hb3⟩ := hres2; have HB3 := Lib.hid ((bdr W1).trans (hb3.mono (Nat.le_refl _))); have HH3 := Lib.hid (And.intro ((HB3.out.cell (p := ⟨p, 9, none⟩) HP1.out).trans q9) (And.intro ((HB3.out.cell (p := ⟨X, 0, none⟩) KX.out.lt).trans c0) (And.intro ((HB3.out.cell (p := ⟨X, 1, none⟩) KX.out.lt).trans c1) ((HB3.out.cell (p := ⟨X, 2, none⟩) KX.out.lt).trans c2)))); clear hres hb3))
      go_wp2_with fail
      go_meet
      case rel => exact ⟨rfl, rfl, rfl, HB3.out⟩
    · skip
      go_region_held3 (fun w' => w'.cell? ⟨p, 9, none⟩ = some (.map (some r)) ∧ w'.cell? ⟨X, 0, none⟩ = some (.int .i64 11) ∧ w'.cell? ⟨X, 1, none⟩ = some (.int .i64 (an : Int)) ∧ w'.cell? ⟨X, 2, none⟩ = some (.int .i64 (bn : Int))) (first | with_reducible exact HH3.out | go_keep)
        ((go_at_call 58; refine (closure_c c n f W1.drew S0 p k ov HK1.out.blk.drew HWD.out an bn).mono ?_; rintro e w3 hres; have hres2 := hres; unfold RuleRes at hres2; obtain ⟨rfl, hb3⟩ := hres2; have HB3 := Lib.hid ((bdr W1).trans (hb3.mono (Nat.le_refl _))); have HH3 := Lib.hid (And.intro ((HB3.out.cell (p := ⟨p, 9, none⟩) HP1.out).trans q9) (And.intro ((HB3.out.cell (p := ⟨X, 0, none⟩) KX.out.lt).trans c0) (And.intro ((HB3.out.cell (p := ⟨X, 1, none⟩) KX.out.lt).trans c1) ((HB3.out.cell (p := ⟨X, 2, none⟩) KX.out.lt).trans c2)))); clear hres hb3))
      go_wp2_with fail
      go_meet
      case rel => exact ⟨rfl, rfl, rfl, HB3.out⟩
  case rest =>
  obtain ⟨rfl, rfl, rfl, hb2⟩ := hcut
  rename World => W2
  have HB2 := Lib.hid (HB1.out.trans (hb2.mono HB1.out.size))
  replace KX := Lib.hid (KX.out.keep hb2)
  replace KY := Lib.hid (KY.out.keep hb2)
  have HMS2 := Lib.hid (HMS1.out.mv (Mv.low hb2))
  clear hb2 q9 c0 c1 c2 lk
  rw [hTK.out] at hTKb
  rw [hPT.out] at hPTb
  rw [hTK.out, hPT.out, hR.out]
  have d0 := KY.out.cell 0 (.int .i64 D) rfl
  have d1 := KY.out.cell 1 (.slice mo MN mc) rfl
  cases R
  · have HGO := Lib.hid (goes_no (c := c) (n := n) (D := D) (ms := ms) HIN.out hTK.out (fun e => by rw [hR.out] at e; cases e.1))
    go_wp2_with fail
    go_quiet (fail)
    go_wp2_with fail
    go_ret
    exact .inr ⟨.inl HGO.out, rfl, HH.out.bel (Fr.of (below_dN HB2.out _))⟩
  · have HBA := Lib.hid (base_c ⟨D, ms⟩ (.slice mo MN mc) W2.drew (Sm p k.sb ov) (HMS2.out.mv (Mv.low (bdr _))) (Nat.le_trans HL.out (by decide)))
    rw [hBS.out] at HBA
    have hw1 : IntKind.i64.wrap (D - BS) = D - BS := IntWalk.i64_in _ (by omega)
    by_cases hg : BS ≤ D - TK
    · have hg2 : decide (D - BS < TK) = false := by simp; omega
      have hg3 : ¬ D - BS < TK := by omega
      have HGO := Lib.hid (goes_ok (c := c) (n := n) (D := D) (ms := ms) HIN.out hR.out (by rw [hBS.out]; exact hg) hTK.out hPT.out)
      go_wp2_with fail
      go_region_held3 (fun w' => w'.cell? ⟨Y, 0, none⟩ = some (.int .i64 D) ∧ w'.cell? ⟨Y, 1, none⟩ = some (.slice mo MN mc)) (first | with_reducible exact HH4.out | go_keep)
        ((go_at_call 70; refine HBA.out.mono ?_; rintro e w4 ⟨rfl, hb4⟩; have HB4 := Lib.hid ((bdr W2).trans (hb4.mono (Nat.le_refl _))); have KY4 := Lib.hid (KY.out.keep HB4.out); have KX4 := Lib.hid (KX.out.keep HB4.out); have HH4 := Lib.hid (And.intro (KY4.out.cell 0 (.int .i64 D) rfl) (KY4.out.cell 1 (.slice mo MN mc) rfl)); clear hb4))
      have e0 := KY4.out.cell 0 (.int .i64 D) rfl
      have e1 := KY4.out.cell 1 (.slice mo MN mc) rfl
      have f0 := KY4.out.free 0
      have l0 := KY4.out.lt
      have g0 := KX4.out.cell 0 (.int .i64 op) rfl
      have g1 := KX4.out.cell 1 (.int .i64 (an : Int)) rfl
      have g2 := KX4.out.cell 2 (.int .i64 (bn : Int)) rfl
      have hw2 : IntKind.i64.wrap (PT - TK) = PT - TK := IntWalk.i64_in _ (by omega)
      have hw3 : IntKind.i64.wrap (D + (PT - TK)) = D + (PT - TK) := IntWalk.i64_in _ (by omega)
      have HB5 := Lib.hid ((HB2.out.trans (HB4.out.mono HB2.out.size)).setCell (p := ⟨Y, 0, none⟩) HXY.out.2.1 (.int .i64 (D + (PT - TK))))
      have HNE : X ≠ Y := HXY.out.2.2
      have HNE2 : Y ≠ X := fun e => HNE e.symm
      clear hg2 hg3 hw1
      go_wp2_with fail
      clear e0 e1 f0 l0 g0 g1 g2 hw2 hw3 d0 d1
      generalize World.setCell w4 _ _ = W5 at HB5 ⊢
      refine (leave_c w0.heap.size W5 p k ov A O at_ op an bn (D + (PT - TK)) ms (.slice mo MN mc) (HH.out.keep HB5.out) (HMS.out.mv (Mv.low HB5.out)) (by omega) (by omega) HL.out hO HNB.out (by omega)).mono ?_
      rintro e w6 hres
      have HRES : Hid (PStepRes w0.heap.size p k ov A O (goes c n f at_ ⟨D, ms⟩) w e w6) := Lib.hid (by
        rcases hres with ⟨l, A', O', ov', h1, h2, h3, h4, h5⟩ | ⟨h1, h2, h3⟩
        · exact .inl ⟨l, A', O', ov', HGO.out.trans h1, h2, h3, h4, (Fr.of HB5.out).trans h5⟩
        · refine .inr ⟨?_, h2, (HH.out.bel (Fr.of HB5.out)).trans h3⟩
          rcases h1 with h1 | ⟨l, h1, h4⟩
          · exact .inl (HGO.out.trans h1)
          · exact .inr ⟨l, HGO.out.trans h1, h4⟩)
      rcases hres with ⟨l, A', O', ov', _, _, rfl, _, _⟩ | ⟨_, rfl, _⟩
      · go_wp2_with fail
        go_ret
        exact HRES.out
      · go_wp2_with fail
        go_ret
        exact HRES.out
    · have hg2 : decide (D - BS < TK) = true := by simp; omega
      have hg3 : D - BS < TK := by omega
      have HGO := Lib.hid (goes_no (c := c) (n := n) (D := D) (ms := ms) HIN.out hTK.out (fun e => by rw [hBS.out] at e; exact hg e.2))
      go_wp2_with fail
      go_region_held3 (fun w' => w'.cell? ⟨Y, 0, none⟩ = some (.int .i64 D) ∧ w'.cell? ⟨Y, 1, none⟩ = some (.slice mo MN mc)) (first | with_reducible exact HH4.out | go_keep)
        ((go_at_call 70; refine HBA.out.mono ?_; rintro e w4 ⟨rfl, hb4⟩; have HB4 := Lib.hid ((bdr W2).trans (hb4.mono (Nat.le_refl _))); have KY4 := Lib.hid (KY.out.keep HB4.out); have HH4 := Lib.hid (And.intro (KY4.out.cell 0 (.int .i64 D) rfl) (KY4.out.cell 1 (.slice mo MN mc) rfl)); clear hb4))
      go_wp2_with fail
      go_ret
      exact .inr ⟨.inl HGO.out, rfl, HH.out.bel (Fr.of (HB2.out.trans (HB4.out.mono HB2.out.size)))⟩
end Go.Proofs.Ytkhdkepjhifffaa.VL
