/- To which instructions the program goes from an instruction. -/
import Derived.Test.YtkhdkepjhifffaaVE
namespace Go.Proofs.Ytkhdkepjhifffaa.VF
open Go.RowKit Go.Proofs.Ytkhdkepjhifffaa.RG Go.Proofs.Ytkhdkepjhifffaa.RB Go.Proofs.Ytkhdkepjhifffaa.KA Go.Proofs.Ytkhdkepjhifffaa.KB Go.Proofs.Ytkhdkepjhifffaa.KH Go.Proofs.Ytkhdkepjhifffaa.VA Go.Proofs.Ytkhdkepjhifffaa.VB Go.Proofs.Ytkhdkepjhifffaa.VC Go.Proofs.Ytkhdkepjhifffaa.VD Go.Proofs.Ytkhdkepjhifffaa.VE
set_option linter.unusedVariables false
set_option maxRecDepth 100000
set_option maxRecDepth 100000

def putsO (K : Int) : Row → List Nat → List (Nat × Sx) → Option (Row × List Nat)
  | A, O, [] => some (A, O)
  | A, O, x :: l => (put K A x).bind fun A' => putsO K A' (addO A O x) l
theorem putsO_one {K : Int} {A A' : Row} {O : List Nat} {x : Nat × Sx} (h : put K A x = some A') : putsO K A O [x] = some (A', addO A O x) := by
  unfold putsO; rw [h]; rfl
theorem putsO_bad {K : Int} {A : Row} {O : List Nat} {x : Nat × Sx} {l : List (Nat × Sx)} (h : put K A x = none) : putsO K A O (x :: l) = none := by
  unfold putsO; rw [h]; rfl
theorem putsO_two {K : Int} {A A' : Row} {O : List Nat} {x : Nat × Sx} {l : List (Nat × Sx)} (h : put K A x = some A') : putsO K A O (x :: l) = putsO K A' (addO A O x) l := by
  conv => lhs; unfold putsO
  rw [h]; rfl
def LeaveRes (B : Nat) (p : Nat) (k : WC) (ov : Value) (A : Row) (O : List Nat) (i : In) (at_ : Nat) (t : Sx) (w : World) (e : Ending) (w' : World) : Prop :=
  (∃ l A' O' ov', leaves i at_ t = some l ∧ putsO k.st A O l = some (A', O') ∧ e = .returned (.bool true) ∧ WK B w' p k ov' A' O' ∧ Fr p k.sb ov ov' w w') ∨ ((leaves i at_ t = none ∨ ∃ l, leaves i at_ t = some l ∧ putsO k.st A O l = none) ∧ e = .returned (.bool false) ∧ Below B w w')
theorem reach_z (B : Nat) (w : World) (p : Nat) (k : WC) (ov : Value) (A : Row) (O : List Nat) (x : Nat × Sx) (mv : Value) (z : Int) (hz : z = (x.1 : Int)) (h : WK B w p k ov A O) (hm : RowM TM w (Sm p k.sb ov) mv x.2.ms) (hd : 0 ≤ x.2.dep) (hl : x.2.ms.length ≤ 1000000) (hO : O.length ≤ 100000) (hN : k.N ≤ 1000000) :
    Calls Try.prog 61 #[.pointer (some ⟨p, 0, none⟩), .int .i64 z, .agg #[.int .i64 x.2.dep, mv]] w (PutRes B p k ov A O x w) := by subst hz; exact reach_c B w p k ov A O x mv h hm hd hl hO hN
theorem addO_len (A : Row) (O : List Nat) (x : Nat × Sx) : (addO A O x).length ≤ O.length + 1 := by unfold addO; split <;> simp
theorem one_yes {B : Nat} {p : Nat} {k : WC} {ov : Value} {A : Row} {O : List Nat} {i : In} {at_ : Nat} {t : Sx} {x : Nat × Sx} {w0 w : World} {e : Ending} {w' : World} (hw : WK B w p k ov A O) (hle : leaves i at_ t = some [x]) (hf : Fr p k.sb ov ov w0 w) (hb : Below B w0 w) (h : PutRes B p k ov A O x w e w') : LeaveRes B p k ov A O i at_ t w0 e w' := by
  rcases h with ⟨A', ov', h1, h2, h3, h4⟩ | ⟨h1, h2, h3⟩
  · exact .inl ⟨_, _, _, ov', hle, putsO_one h1, h2, h3, hf.trans h4⟩
  · exact .inr ⟨.inr ⟨_, hle, putsO_bad h1⟩, h2, hb.trans h3⟩
theorem two_yes {B : Nat} {p : Nat} {k : WC} {ov ov1 : Value} {A A1 : Row} {O : List Nat} {i : In} {at_ : Nat} {t : Sx} {x y : Nat × Sx} {w0 w : World} {e : Ending} {w' : World} (hle : leaves i at_ t = some [x, y]) (hp : put k.st A x = some A1) (hf : Fr p k.sb ov ov1 w0 w) (hb : Below B w0 w) (h : PutRes B p k ov1 A1 (addO A O x) y w e w') : LeaveRes B p k ov A O i at_ t w0 e w' := by
  rcases h with ⟨A', ov', h1, h2, h3, h4⟩ | ⟨h1, h2, h3⟩
  · exact .inl ⟨_, _, _, ov', hle, by rw [putsO_two hp]; exact putsO_one h1, h2, h3, hf.trans h4⟩
  · exact .inr ⟨.inr ⟨_, hle, by rw [putsO_two hp]; exact putsO_bad h1⟩, h2, hb.trans h3⟩
theorem sm_new {p sb : Nat} {ov : Value} {w w' : World} {mv : Value} {ms : List Mk} (h : RowM TM w' (fun b => w.heap.size ≤ b) mv ms) (hp : p < w.heap.size) (hs : sb < w.heap.size) (ho : ∀ g, ov.ownBlock = some g → g < w.heap.size) : RowM TM w' (Sm p sb ov) mv ms :=
  h.mv (Mv.weak w' fun b hb _ => ⟨by omega, by omega, fun e => by have := ho b e; omega⟩)
theorem leaves_16 {an bn at_ : Nat} {t : Sx} : leaves ⟨16, (an : Int), (bn : Int)⟩ at_ t = some [(an, t)] := by simp [leaves]
set_option maxHeartbeats 8000000 in
theorem leave_16 (B : Nat) (w : World) (p : Nat) (k : WC) (ov : Value) (A : Row) (O : List Nat) (at_ : Nat) (an bn : Nat) (D : Int) (ms : List Mk) (mv : Value) (h : WK B w p k ov A O) (hm : RowM TM w (Sm p k.sb ov) mv ms) (hd0 : 0 ≤ D) (hd1 : D ≤ 100000) (hl : ms.length ≤ 900000) (hO : O.length ≤ 90000) (hN : k.N ≤ 1000000) (hat : at_ ≤ 1000000) :
    Calls Try.prog 71 #[.pointer (some ⟨p, 0, none⟩), .int .i64 (at_ : Int), .agg #[.int .i64 16, .int .i64 (an : Int), .int .i64 (bn : Int)], .agg #[.int .i64 D, mv]] w (LeaveRes B p k ov A O ⟨16, an, bn⟩ at_ ⟨D, ms⟩ w) := by
  obtain ⟨mo, mc, rfl, _⟩ := hm.val
  obtain ⟨MN, hMN⟩ : ∃ n, Hid (ms.length = n) := ⟨_, Lib.hid rfl⟩
  have HL := Lib.hid hl
  rw [hMN.out] at hm hl ⊢
  have hz : ((at_ : Int) + 1) = ((at_ + 1 : Nat) : Int) := by omega
  have HZ := Lib.hid hz
  clear hz
  have i0 : (0 : Int) ≤ (at_ : Int) := by omega
  have i1 : (at_ : Int) ≤ 1000000 := by omega
  have HX := Lib.hid (bnext (balloc w (.cells #[.int .i64 16, .int .i64 (an : Int), .int .i64 (bn : Int)] 45)) (balloc _ (.cells #[.int .i64 D, .slice mo MN mc] 72)))
  have HK := Lib.hid (h.keep HX.out)
  have HM := Lib.hid (hm.mv (Mv.low HX.out))
  have HB := Lib.hid (h.bel (Fr.of HX.out))
  have HFR : Hid (Fr p k.sb ov ov w _) := Lib.hid (Fr.of HX.out)
  have HI := Lib.hid ((Bk.new w #[.int .i64 16, .int .i64 (an : Int), .int .i64 (bn : Int)] 45).alloc (.cells #[.int .i64 D, .slice mo MN mc] 72))
  have HS := Lib.hid (Bk.new (w.alloc (.cells #[.int .i64 16, .int .i64 (an : Int), .int .i64 (bn : Int)] 45)) #[.int .i64 D, .slice mo MN mc] 72)
  rw [World.size_alloc] at HS
  have HLT := Lib.hid (And.intro h.blk.lt (And.intro h.sts.lt (fun g (hg : ov.ownBlock = some g) => (h.opn.own hg).2)))
  have HNX : Hid (w.heap.size ≠ p ∧ w.heap.size ≠ k.sb ∧ ov.ownBlock ≠ some w.heap.size ∧ w.heap.size + 1 ≠ p ∧ w.heap.size + 1 ≠ k.sb ∧ ov.ownBlock ≠ some (w.heap.size + 1)) := Lib.hid ⟨by have := HLT.out.1; omega, by have := HLT.out.2.1; omega, fun e => by have := HLT.out.2.2 _ e; omega, by have := HLT.out.1; omega, by have := HLT.out.2.1; omega, fun e => by have := HLT.out.2.2 _ e; omega⟩
  clear h hm
  go_enter Try.func71, Try.ntmps71
  go_upto_region 1 with fail
  generalize World.alloc (World.alloc w _) _ = W at HX HK HM HB HFR HI HS ⊢
  have c0 := HI.out.cell 0 (.int .i64 16) rfl
  have c1 := HI.out.cell 1 (.int .i64 (an : Int)) rfl
  have c2 := HI.out.cell 2 (.int .i64 (bn : Int)) rfl
  have d0 := HS.out.cell 0 (.int .i64 D) rfl
  have d1 := HS.out.cell 1 (.slice mo MN mc) rfl
  go_wp2_with fail
  refine (reach_z B W p k ov A O (an, ⟨D, ms⟩) (.slice mo MN mc) _ rfl HK.out HM.out hd0 (Nat.le_trans HL.out (by decide)) (Nat.le_trans hO (by decide)) hN).mono ?_
  rintro e w2 hres
  have HRES := Lib.hid (show LeaveRes B p k ov A O ⟨16, an, bn⟩ at_ ⟨D, ms⟩ w e w2 from one_yes HK.out leaves_16 HFR.out HB.out hres)
  rcases hres with ⟨A2, ov2, _, rfl, _, _⟩ | ⟨_, rfl, _⟩
  · go_wp2_with fail
    go_ret
    exact HRES.out
  · go_wp2_with fail
    go_ret
    exact HRES.out
theorem leaves_14 {an bn at_ : Nat} {t : Sx} : leaves ⟨14, (an : Int), (bn : Int)⟩ at_ t = if t.ms = [] then some [] else none := by simp [leaves]
set_option maxHeartbeats 8000000 in
theorem leave_14 (B : Nat) (w : World) (p : Nat) (k : WC) (ov : Value) (A : Row) (O : List Nat) (at_ : Nat) (an bn : Nat) (D : Int) (ms : List Mk) (mv : Value) (h : WK B w p k ov A O) (hm : RowM TM w (Sm p k.sb ov) mv ms) (hd0 : 0 ≤ D) (hd1 : D ≤ 100000) (hl : ms.length ≤ 900000) (hO : O.length ≤ 90000) (hN : k.N ≤ 1000000) (hat : at_ ≤ 1000000) :
    Calls Try.prog 71 #[.pointer (some ⟨p, 0, none⟩), .int .i64 (at_ : Int), .agg #[.int .i64 14, .int .i64 (an : Int), .int .i64 (bn : Int)], .agg #[.int .i64 D, mv]] w (LeaveRes B p k ov A O ⟨14, an, bn⟩ at_ ⟨D, ms⟩ w) := by
  obtain ⟨mo, mc, rfl, _⟩ := hm.val
  obtain ⟨MN, hMN⟩ : ∃ n, Hid (ms.length = n) := ⟨_, Lib.hid rfl⟩
  have HL := Lib.hid hl
  rw [hMN.out] at hm hl ⊢
  have hz : ((at_ : Int) + 1) = ((at_ + 1 : Nat) : Int) := by omega
  have HZ := Lib.hid hz
  clear hz
  have i0 : (0 : Int) ≤ (at_ : Int) := by omega
  have i1 : (at_ : Int) ≤ 1000000 := by omega
  have HX := Lib.hid (bnext (balloc w (.cells #[.int .i64 14, .int .i64 (an : Int), .int .i64 (bn : Int)] 45)) (balloc _ (.cells #[.int .i64 D, .slice mo MN mc] 72)))
  have HK := Lib.hid (h.keep HX.out)
  have HM := Lib.hid (hm.mv (Mv.low HX.out))
  have HB := Lib.hid (h.bel (Fr.of HX.out))
  have HFR : Hid (Fr p k.sb ov ov w _) := Lib.hid (Fr.of HX.out)
  have HI := Lib.hid ((Bk.new w #[.int .i64 14, .int .i64 (an : Int), .int .i64 (bn : Int)] 45).alloc (.cells #[.int .i64 D, .slice mo MN mc] 72))
  have HS := Lib.hid (Bk.new (w.alloc (.cells #[.int .i64 14, .int .i64 (an : Int), .int .i64 (bn : Int)] 45)) #[.int .i64 D, .slice mo MN mc] 72)
  rw [World.size_alloc] at HS
  have HLT := Lib.hid (And.intro h.blk.lt (And.intro h.sts.lt (fun g (hg : ov.ownBlock = some g) => (h.opn.own hg).2)))
  have HNX : Hid (w.heap.size ≠ p ∧ w.heap.size ≠ k.sb ∧ ov.ownBlock ≠ some w.heap.size ∧ w.heap.size + 1 ≠ p ∧ w.heap.size + 1 ≠ k.sb ∧ ov.ownBlock ≠ some (w.heap.size + 1)) := Lib.hid ⟨by have := HLT.out.1; omega, by have := HLT.out.2.1; omega, fun e => by have := HLT.out.2.2 _ e; omega, by have := HLT.out.1; omega, by have := HLT.out.2.1; omega, fun e => by have := HLT.out.2.2 _ e; omega⟩
  clear h hm
  go_enter Try.func71, Try.ntmps71
  go_upto_region 1 with fail
  generalize World.alloc (World.alloc w _) _ = W at HX HK HM HB HFR HI HS ⊢
  have c0 := HI.out.cell 0 (.int .i64 14) rfl
  have c1 := HI.out.cell 1 (.int .i64 (an : Int)) rfl
  have c2 := HI.out.cell 2 (.int .i64 (bn : Int)) rfl
  have d0 := HS.out.cell 0 (.int .i64 D) rfl
  have d1 := HS.out.cell 1 (.slice mo MN mc) rfl
  by_cases h0 : MN = 0
  · have hn : ms = [] := List.eq_nil_of_length_eq_zero (by rw [hMN.out]; exact h0)
    have t0 : ((MN : Int) == 0) = true := by simp [h0]
    have HRES := Lib.hid (show LeaveRes B p k ov A O ⟨14, an, bn⟩ at_ ⟨D, ms⟩ w (.returned (.bool true)) W from .inl ⟨[], A, O, ov, by rw [leaves_14]; simp [hn], rfl, rfl, HK.out, HFR.out⟩)
    clear h0 hn
    go_wp2_with fail
    go_ret
    exact HRES.out
  · have hn : ms ≠ [] := fun e => h0 (by rw [← hMN.out, e]; rfl)
    have t0 : ((MN : Int) == 0) = false := by simp [h0]
    have HRES := Lib.hid (show LeaveRes B p k ov A O ⟨14, an, bn⟩ at_ ⟨D, ms⟩ w (.returned (.bool false)) W from .inr ⟨.inl (by rw [leaves_14]; simp [hn]), rfl, HB.out⟩)
    clear h0 hn
    go_wp2_with fail
    go_ret
    exact HRES.out
theorem leaves_15 {an bn at_ : Nat} {t : Sx} : leaves ⟨15, (an : Int), (bn : Int)⟩ at_ t = if t.ms = [] then some [] else none := by simp [leaves]
set_option maxHeartbeats 8000000 in
theorem leave_15 (B : Nat) (w : World) (p : Nat) (k : WC) (ov : Value) (A : Row) (O : List Nat) (at_ : Nat) (an bn : Nat) (D : Int) (ms : List Mk) (mv : Value) (h : WK B w p k ov A O) (hm : RowM TM w (Sm p k.sb ov) mv ms) (hd0 : 0 ≤ D) (hd1 : D ≤ 100000) (hl : ms.length ≤ 900000) (hO : O.length ≤ 90000) (hN : k.N ≤ 1000000) (hat : at_ ≤ 1000000) :
    Calls Try.prog 71 #[.pointer (some ⟨p, 0, none⟩), .int .i64 (at_ : Int), .agg #[.int .i64 15, .int .i64 (an : Int), .int .i64 (bn : Int)], .agg #[.int .i64 D, mv]] w (LeaveRes B p k ov A O ⟨15, an, bn⟩ at_ ⟨D, ms⟩ w) := by
  obtain ⟨mo, mc, rfl, _⟩ := hm.val
  obtain ⟨MN, hMN⟩ : ∃ n, Hid (ms.length = n) := ⟨_, Lib.hid rfl⟩
  have HL := Lib.hid hl
  rw [hMN.out] at hm hl ⊢
  have hz : ((at_ : Int) + 1) = ((at_ + 1 : Nat) : Int) := by omega
  have HZ := Lib.hid hz
  clear hz
  have i0 : (0 : Int) ≤ (at_ : Int) := by omega
  have i1 : (at_ : Int) ≤ 1000000 := by omega
  have HX := Lib.hid (bnext (balloc w (.cells #[.int .i64 15, .int .i64 (an : Int), .int .i64 (bn : Int)] 45)) (balloc _ (.cells #[.int .i64 D, .slice mo MN mc] 72)))
  have HK := Lib.hid (h.keep HX.out)
  have HM := Lib.hid (hm.mv (Mv.low HX.out))
  have HB := Lib.hid (h.bel (Fr.of HX.out))
  have HFR : Hid (Fr p k.sb ov ov w _) := Lib.hid (Fr.of HX.out)
  have HI := Lib.hid ((Bk.new w #[.int .i64 15, .int .i64 (an : Int), .int .i64 (bn : Int)] 45).alloc (.cells #[.int .i64 D, .slice mo MN mc] 72))
  have HS := Lib.hid (Bk.new (w.alloc (.cells #[.int .i64 15, .int .i64 (an : Int), .int .i64 (bn : Int)] 45)) #[.int .i64 D, .slice mo MN mc] 72)
  rw [World.size_alloc] at HS
  have HLT := Lib.hid (And.intro h.blk.lt (And.intro h.sts.lt (fun g (hg : ov.ownBlock = some g) => (h.opn.own hg).2)))
  have HNX : Hid (w.heap.size ≠ p ∧ w.heap.size ≠ k.sb ∧ ov.ownBlock ≠ some w.heap.size ∧ w.heap.size + 1 ≠ p ∧ w.heap.size + 1 ≠ k.sb ∧ ov.ownBlock ≠ some (w.heap.size + 1)) := Lib.hid ⟨by have := HLT.out.1; omega, by have := HLT.out.2.1; omega, fun e => by have := HLT.out.2.2 _ e; omega, by have := HLT.out.1; omega, by have := HLT.out.2.1; omega, fun e => by have := HLT.out.2.2 _ e; omega⟩
  clear h hm
  go_enter Try.func71, Try.ntmps71
  go_upto_region 1 with fail
  generalize World.alloc (World.alloc w _) _ = W at HX HK HM HB HFR HI HS ⊢
  have c0 := HI.out.cell 0 (.int .i64 15) rfl
  have c1 := HI.out.cell 1 (.int .i64 (an : Int)) rfl
  have c2 := HI.out.cell 2 (.int .i64 (bn : Int)) rfl
  have d0 := HS.out.cell 0 (.int .i64 D) rfl
  have d1 := HS.out.cell 1 (.slice mo MN mc) rfl
  by_cases h0 : MN = 0
  · have hn : ms = [] := List.eq_nil_of_length_eq_zero (by rw [hMN.out]; exact h0)
    have t0 : ((MN : Int) == 0) = true := by simp [h0]
    have HRES := Lib.hid (show LeaveRes B p k ov A O ⟨15, an, bn⟩ at_ ⟨D, ms⟩ w (.returned (.bool true)) W from .inl ⟨[], A, O, ov, by rw [leaves_15]; simp [hn], rfl, rfl, HK.out, HFR.out⟩)
    clear h0 hn
    go_wp2_with fail
    go_ret
    exact HRES.out
  · have hn : ms ≠ [] := fun e => h0 (by rw [← hMN.out, e]; rfl)
    have t0 : ((MN : Int) == 0) = false := by simp [h0]
    have HRES := Lib.hid (show LeaveRes B p k ov A O ⟨15, an, bn⟩ at_ ⟨D, ms⟩ w (.returned (.bool false)) W from .inr ⟨.inl (by rw [leaves_15]; simp [hn]), rfl, HB.out⟩)
    clear h0 hn
    go_wp2_with fail
    go_ret
    exact HRES.out
theorem leaves_23 {an bn at_ : Nat} {t : Sx} : leaves ⟨23, (an : Int), (bn : Int)⟩ at_ t = some [] := by simp [leaves]
set_option maxHeartbeats 8000000 in
theorem leave_23 (B : Nat) (w : World) (p : Nat) (k : WC) (ov : Value) (A : Row) (O : List Nat) (at_ : Nat) (an bn : Nat) (D : Int) (ms : List Mk) (mv : Value) (h : WK B w p k ov A O) (hm : RowM TM w (Sm p k.sb ov) mv ms) (hd0 : 0 ≤ D) (hd1 : D ≤ 100000) (hl : ms.length ≤ 900000) (hO : O.length ≤ 90000) (hN : k.N ≤ 1000000) (hat : at_ ≤ 1000000) :
    Calls Try.prog 71 #[.pointer (some ⟨p, 0, none⟩), .int .i64 (at_ : Int), .agg #[.int .i64 23, .int .i64 (an : Int), .int .i64 (bn : Int)], .agg #[.int .i64 D, mv]] w (LeaveRes B p k ov A O ⟨23, an, bn⟩ at_ ⟨D, ms⟩ w) := by
  obtain ⟨mo, mc, rfl, _⟩ := hm.val
  obtain ⟨MN, hMN⟩ : ∃ n, Hid (ms.length = n) := ⟨_, Lib.hid rfl⟩
  have HL := Lib.hid hl
  rw [hMN.out] at hm hl ⊢
  have hz : ((at_ : Int) + 1) = ((at_ + 1 : Nat) : Int) := by omega
  have HZ := Lib.hid hz
  clear hz
  have i0 : (0 : Int) ≤ (at_ : Int) := by omega
  have i1 : (at_ : Int) ≤ 1000000 := by omega
  have HX := Lib.hid (bnext (balloc w (.cells #[.int .i64 23, .int .i64 (an : Int), .int .i64 (bn : Int)] 45)) (balloc _ (.cells #[.int .i64 D, .slice mo MN mc] 72)))
  have HK := Lib.hid (h.keep HX.out)
  have HM := Lib.hid (hm.mv (Mv.low HX.out))
  have HB := Lib.hid (h.bel (Fr.of HX.out))
  have HFR : Hid (Fr p k.sb ov ov w _) := Lib.hid (Fr.of HX.out)
  have HI := Lib.hid ((Bk.new w #[.int .i64 23, .int .i64 (an : Int), .int .i64 (bn : Int)] 45).alloc (.cells #[.int .i64 D, .slice mo MN mc] 72))
  have HS := Lib.hid (Bk.new (w.alloc (.cells #[.int .i64 23, .int .i64 (an : Int), .int .i64 (bn : Int)] 45)) #[.int .i64 D, .slice mo MN mc] 72)
  rw [World.size_alloc] at HS
  have HLT := Lib.hid (And.intro h.blk.lt (And.intro h.sts.lt (fun g (hg : ov.ownBlock = some g) => (h.opn.own hg).2)))
  have HNX : Hid (w.heap.size ≠ p ∧ w.heap.size ≠ k.sb ∧ ov.ownBlock ≠ some w.heap.size ∧ w.heap.size + 1 ≠ p ∧ w.heap.size + 1 ≠ k.sb ∧ ov.ownBlock ≠ some (w.heap.size + 1)) := Lib.hid ⟨by have := HLT.out.1; omega, by have := HLT.out.2.1; omega, fun e => by have := HLT.out.2.2 _ e; omega, by have := HLT.out.1; omega, by have := HLT.out.2.1; omega, fun e => by have := HLT.out.2.2 _ e; omega⟩
  clear h hm
  go_enter Try.func71, Try.ntmps71
  go_upto_region 1 with fail
  generalize World.alloc (World.alloc w _) _ = W at HX HK HM HB HFR HI HS ⊢
  have c0 := HI.out.cell 0 (.int .i64 23) rfl
  have c1 := HI.out.cell 1 (.int .i64 (an : Int)) rfl
  have c2 := HI.out.cell 2 (.int .i64 (bn : Int)) rfl
  have d0 := HS.out.cell 0 (.int .i64 D) rfl
  have d1 := HS.out.cell 1 (.slice mo MN mc) rfl
  have HRES := Lib.hid (show LeaveRes B p k ov A O ⟨23, an, bn⟩ at_ ⟨D, ms⟩ w (.returned (.bool true)) W from .inl ⟨[], A, O, ov, leaves_23, rfl, rfl, HK.out, HFR.out⟩)
  go_wp2_with fail
  go_ret
  exact HRES.out
theorem leaves_30 {an bn at_ : Nat} {t : Sx} : leaves ⟨30, (an : Int), (bn : Int)⟩ at_ t = some [] := by simp [leaves]
set_option maxHeartbeats 8000000 in
theorem leave_30 (B : Nat) (w : World) (p : Nat) (k : WC) (ov : Value) (A : Row) (O : List Nat) (at_ : Nat) (an bn : Nat) (D : Int) (ms : List Mk) (mv : Value) (h : WK B w p k ov A O) (hm : RowM TM w (Sm p k.sb ov) mv ms) (hd0 : 0 ≤ D) (hd1 : D ≤ 100000) (hl : ms.length ≤ 900000) (hO : O.length ≤ 90000) (hN : k.N ≤ 1000000) (hat : at_ ≤ 1000000) :
    Calls Try.prog 71 #[.pointer (some ⟨p, 0, none⟩), .int .i64 (at_ : Int), .agg #[.int .i64 30, .int .i64 (an : Int), .int .i64 (bn : Int)], .agg #[.int .i64 D, mv]] w (LeaveRes B p k ov A O ⟨30, an, bn⟩ at_ ⟨D, ms⟩ w) := by
  obtain ⟨mo, mc, rfl, _⟩ := hm.val
  obtain ⟨MN, hMN⟩ : ∃ n, Hid (ms.length = n) := ⟨_, Lib.hid rfl⟩
  have HL := Lib.hid hl
  rw [hMN.out] at hm hl ⊢
  have hz : ((at_ : Int) + 1) = ((at_ + 1 : Nat) : Int) := by omega
  have HZ := Lib.hid hz
  clear hz
  have i0 : (0 : Int) ≤ (at_ : Int) := by omega
  have i1 : (at_ : Int) ≤ 1000000 := by omega
  have HX := Lib.hid (bnext (balloc w (.cells #[.int .i64 30, .int .i64 (an : Int), .int .i64 (bn : Int)] 45)) (balloc _ (.cells #[.int .i64 D, .slice mo MN mc] 72)))
  have HK := Lib.hid (h.keep HX.out)
  have HM := Lib.hid (hm.mv (Mv.low HX.out))
  have HB := Lib.hid (h.bel (Fr.of HX.out))
  have HFR : Hid (Fr p k.sb ov ov w _) := Lib.hid (Fr.of HX.out)
  have HI := Lib.hid ((Bk.new w #[.int .i64 30, .int .i64 (an : Int), .int .i64 (bn : Int)] 45).alloc (.cells #[.int .i64 D, .slice mo MN mc] 72))
  have HS := Lib.hid (Bk.new (w.alloc (.cells #[.int .i64 30, .int .i64 (an : Int), .int .i64 (bn : Int)] 45)) #[.int .i64 D, .slice mo MN mc] 72)
  rw [World.size_alloc] at HS
  have HLT := Lib.hid (And.intro h.blk.lt (And.intro h.sts.lt (fun g (hg : ov.ownBlock = some g) => (h.opn.own hg).2)))
  have HNX : Hid (w.heap.size ≠ p ∧ w.heap.size ≠ k.sb ∧ ov.ownBlock ≠ some w.heap.size ∧ w.heap.size + 1 ≠ p ∧ w.heap.size + 1 ≠ k.sb ∧ ov.ownBlock ≠ some (w.heap.size + 1)) := Lib.hid ⟨by have := HLT.out.1; omega, by have := HLT.out.2.1; omega, fun e => by have := HLT.out.2.2 _ e; omega, by have := HLT.out.1; omega, by have := HLT.out.2.1; omega, fun e => by have := HLT.out.2.2 _ e; omega⟩
  clear h hm
  go_enter Try.func71, Try.ntmps71
  go_upto_region 1 with fail
  generalize World.alloc (World.alloc w _) _ = W at HX HK HM HB HFR HI HS ⊢
  have c0 := HI.out.cell 0 (.int .i64 30) rfl
  have c1 := HI.out.cell 1 (.int .i64 (an : Int)) rfl
  have c2 := HI.out.cell 2 (.int .i64 (bn : Int)) rfl
  have d0 := HS.out.cell 0 (.int .i64 D) rfl
  have d1 := HS.out.cell 1 (.slice mo MN mc) rfl
  have HRES := Lib.hid (show LeaveRes B p k ov A O ⟨30, an, bn⟩ at_ ⟨D, ms⟩ w (.returned (.bool true)) W from .inl ⟨[], A, O, ov, leaves_30, rfl, rfl, HK.out, HFR.out⟩)
  go_wp2_with fail
  go_ret
  exact HRES.out
theorem leaves_17 {an bn at_ : Nat} {t : Sx} : leaves ⟨17, (an : Int), (bn : Int)⟩ at_ t = some [(at_ + 1, t), (an, t)] := by simp [leaves]
set_option maxHeartbeats 8000000 in
theorem leave_17 (B : Nat) (w : World) (p : Nat) (k : WC) (ov : Value) (A : Row) (O : List Nat) (at_ : Nat) (an bn : Nat) (D : Int) (ms : List Mk) (mv : Value) (h : WK B w p k ov A O) (hm : RowM TM w (Sm p k.sb ov) mv ms) (hd0 : 0 ≤ D) (hd1 : D ≤ 100000) (hl : ms.length ≤ 900000) (hO : O.length ≤ 90000) (hN : k.N ≤ 1000000) (hat : at_ ≤ 1000000) :
    Calls Try.prog 71 #[.pointer (some ⟨p, 0, none⟩), .int .i64 (at_ : Int), .agg #[.int .i64 17, .int .i64 (an : Int), .int .i64 (bn : Int)], .agg #[.int .i64 D, mv]] w (LeaveRes B p k ov A O ⟨17, an, bn⟩ at_ ⟨D, ms⟩ w) := by
  obtain ⟨mo, mc, rfl, _⟩ := hm.val
  obtain ⟨MN, hMN⟩ : ∃ n, Hid (ms.length = n) := ⟨_, Lib.hid rfl⟩
  have HL := Lib.hid hl
  rw [hMN.out] at hm hl ⊢
  have hz : ((at_ : Int) + 1) = ((at_ + 1 : Nat) : Int) := by omega
  have HZ := Lib.hid hz
  clear hz
  have i0 : (0 : Int) ≤ (at_ : Int) := by omega
  have i1 : (at_ : Int) ≤ 1000000 := by omega
  have HX := Lib.hid (bnext (balloc w (.cells #[.int .i64 17, .int .i64 (an : Int), .int .i64 (bn : Int)] 45)) (balloc _ (.cells #[.int .i64 D, .slice mo MN mc] 72)))
  have HK := Lib.hid (h.keep HX.out)
  have HM := Lib.hid (hm.mv (Mv.low HX.out))
  have HB := Lib.hid (h.bel (Fr.of HX.out))
  have HFR : Hid (Fr p k.sb ov ov w _) := Lib.hid (Fr.of HX.out)
  have HI := Lib.hid ((Bk.new w #[.int .i64 17, .int .i64 (an : Int), .int .i64 (bn : Int)] 45).alloc (.cells #[.int .i64 D, .slice mo MN mc] 72))
  have HS := Lib.hid (Bk.new (w.alloc (.cells #[.int .i64 17, .int .i64 (an : Int), .int .i64 (bn : Int)] 45)) #[.int .i64 D, .slice mo MN mc] 72)
  rw [World.size_alloc] at HS
  have HLT := Lib.hid (And.intro h.blk.lt (And.intro h.sts.lt (fun g (hg : ov.ownBlock = some g) => (h.opn.own hg).2)))
  have HNX : Hid (w.heap.size ≠ p ∧ w.heap.size ≠ k.sb ∧ ov.ownBlock ≠ some w.heap.size ∧ w.heap.size + 1 ≠ p ∧ w.heap.size + 1 ≠ k.sb ∧ ov.ownBlock ≠ some (w.heap.size + 1)) := Lib.hid ⟨by have := HLT.out.1; omega, by have := HLT.out.2.1; omega, fun e => by have := HLT.out.2.2 _ e; omega, by have := HLT.out.1; omega, by have := HLT.out.2.1; omega, fun e => by have := HLT.out.2.2 _ e; omega⟩
  clear h hm
  go_enter Try.func71, Try.ntmps71
  go_upto_region 1 with fail
  generalize World.alloc (World.alloc w _) _ = W at HX HK HM HB HFR HI HS ⊢
  have c0 := HI.out.cell 0 (.int .i64 17) rfl
  have c1 := HI.out.cell 1 (.int .i64 (an : Int)) rfl
  have c2 := HI.out.cell 2 (.int .i64 (bn : Int)) rfl
  have d0 := HS.out.cell 0 (.int .i64 D) rfl
  have d1 := HS.out.cell 1 (.slice mo MN mc) rfl
  go_wp2_with fail
  refine (reach_z B W p k ov A O (at_ + 1, ⟨D, ms⟩) (.slice mo MN mc) _ HZ.out HK.out HM.out hd0 (Nat.le_trans HL.out (by decide)) (Nat.le_trans hO (by decide)) hN).mono ?_
  rintro e w2 (⟨A2, ov2, hput, rfl, hk2, hf2⟩ | ⟨hput, rfl, hb2⟩)
  · have HF2 := Lib.hid (HFR.out.trans hf2)
    have HFW := Lib.hid (hf2)
    have HK2 := Lib.hid hk2
    have HB2 := Lib.hid (HB.out.trans (HK.out.bel hf2))
    have HPUT := Lib.hid hput
    have HM2 := Lib.hid (HM.out.mv HFW.out.mv)
    have HI2 := Lib.hid (HFW.out.bk HI.out HNX.out.1 HNX.out.2.1 HNX.out.2.2.1)
    have HS2 := Lib.hid (HFW.out.bk HS.out HNX.out.2.2.2.1 HNX.out.2.2.2.2.1 HNX.out.2.2.2.2.2)
    have HO2 := Lib.hid (addO_len A O (at_ + 1, ⟨D, ms⟩))
    have e0 := HI2.out.cell 0 (.int .i64 17) rfl
    have e1 := HI2.out.cell 1 (.int .i64 (an : Int)) rfl
    have e2 := HI2.out.cell 2 (.int .i64 (bn : Int)) rfl
    have g0 := HS2.out.cell 0 (.int .i64 D) rfl
    have g1 := HS2.out.cell 1 (.slice mo MN mc) rfl
    clear hk2 hf2 hput
    go_wp2_with fail
    refine (reach_z B w2 p k ov2 A2 (addO A O (at_ + 1, ⟨D, ms⟩)) (an, ⟨D, ms⟩) (.slice mo MN mc) _ rfl HK2.out HM2.out hd0 (Nat.le_trans HL.out (by decide)) (by have := HO2.out; omega) hN).mono ?_
    rintro e w4 hres
    have HRES := Lib.hid (show LeaveRes B p k ov A O ⟨17, an, bn⟩ at_ ⟨D, ms⟩ w e w4 from two_yes leaves_17 HPUT.out HF2.out HB2.out hres)
    rcases hres with ⟨A4, ov4, _, rfl, _, _⟩ | ⟨_, rfl, _⟩
    · go_wp2_with fail
      go_ret
      exact HRES.out
    · go_wp2_with fail
      go_ret
      exact HRES.out
  · have HRES := Lib.hid (show LeaveRes B p k ov A O ⟨17, an, bn⟩ at_ ⟨D, ms⟩ w (.returned (.bool false)) w2 from .inr ⟨.inr ⟨_, leaves_17, putsO_bad hput⟩, rfl, HB.out.trans hb2⟩)
    clear hput hb2
    go_wp2_with fail
    go_ret
    exact HRES.out
theorem leaves_18 {an bn at_ : Nat} {t : Sx} : leaves ⟨18, (an : Int), (bn : Int)⟩ at_ t = some [(at_ + 1, t), (bn, t)] := by simp [leaves]
set_option maxHeartbeats 8000000 in
theorem leave_18 (B : Nat) (w : World) (p : Nat) (k : WC) (ov : Value) (A : Row) (O : List Nat) (at_ : Nat) (an bn : Nat) (D : Int) (ms : List Mk) (mv : Value) (h : WK B w p k ov A O) (hm : RowM TM w (Sm p k.sb ov) mv ms) (hd0 : 0 ≤ D) (hd1 : D ≤ 100000) (hl : ms.length ≤ 900000) (hO : O.length ≤ 90000) (hN : k.N ≤ 1000000) (hat : at_ ≤ 1000000) :
    Calls Try.prog 71 #[.pointer (some ⟨p, 0, none⟩), .int .i64 (at_ : Int), .agg #[.int .i64 18, .int .i64 (an : Int), .int .i64 (bn : Int)], .agg #[.int .i64 D, mv]] w (LeaveRes B p k ov A O ⟨18, an, bn⟩ at_ ⟨D, ms⟩ w) := by
  obtain ⟨mo, mc, rfl, _⟩ := hm.val
  obtain ⟨MN, hMN⟩ : ∃ n, Hid (ms.length = n) := ⟨_, Lib.hid rfl⟩
  have HL := Lib.hid hl
  rw [hMN.out] at hm hl ⊢
  have hz : ((at_ : Int) + 1) = ((at_ + 1 : Nat) : Int) := by omega
  have HZ := Lib.hid hz
  clear hz
  have i0 : (0 : Int) ≤ (at_ : Int) := by omega
  have i1 : (at_ : Int) ≤ 1000000 := by omega
  have HX := Lib.hid (bnext (balloc w (.cells #[.int .i64 18, .int .i64 (an : Int), .int .i64 (bn : Int)] 45)) (balloc _ (.cells #[.int .i64 D, .slice mo MN mc] 72)))
  have HK := Lib.hid (h.keep HX.out)
  have HM := Lib.hid (hm.mv (Mv.low HX.out))
  have HB := Lib.hid (h.bel (Fr.of HX.out))
  have HFR : Hid (Fr p k.sb ov ov w _) := Lib.hid (Fr.of HX.out)
  have HI := Lib.hid ((Bk.new w #[.int .i64 18, .int .i64 (an : Int), .int .i64 (bn : Int)] 45).alloc (.cells #[.int .i64 D, .slice mo MN mc] 72))
  have HS := Lib.hid (Bk.new (w.alloc (.cells #[.int .i64 18, .int .i64 (an : Int), .int .i64 (bn : Int)] 45)) #[.int .i64 D, .slice mo MN mc] 72)
  rw [World.size_alloc] at HS
  have HLT := Lib.hid (And.intro h.blk.lt (And.intro h.sts.lt (fun g (hg : ov.ownBlock = some g) => (h.opn.own hg).2)))
  have HNX : Hid (w.heap.size ≠ p ∧ w.heap.size ≠ k.sb ∧ ov.ownBlock ≠ some w.heap.size ∧ w.heap.size + 1 ≠ p ∧ w.heap.size + 1 ≠ k.sb ∧ ov.ownBlock ≠ some (w.heap.size + 1)) := Lib.hid ⟨by have := HLT.out.1; omega, by have := HLT.out.2.1; omega, fun e => by have := HLT.out.2.2 _ e; omega, by have := HLT.out.1; omega, by have := HLT.out.2.1; omega, fun e => by have := HLT.out.2.2 _ e; omega⟩
  clear h hm
  go_enter Try.func71, Try.ntmps71
  go_upto_region 1 with fail
  generalize World.alloc (World.alloc w _) _ = W at HX HK HM HB HFR HI HS ⊢
  have c0 := HI.out.cell 0 (.int .i64 18) rfl
  have c1 := HI.out.cell 1 (.int .i64 (an : Int)) rfl
  have c2 := HI.out.cell 2 (.int .i64 (bn : Int)) rfl
  have d0 := HS.out.cell 0 (.int .i64 D) rfl
  have d1 := HS.out.cell 1 (.slice mo MN mc) rfl
  go_wp2_with fail
  refine (reach_z B W p k ov A O (at_ + 1, ⟨D, ms⟩) (.slice mo MN mc) _ HZ.out HK.out HM.out hd0 (Nat.le_trans HL.out (by decide)) (Nat.le_trans hO (by decide)) hN).mono ?_
  rintro e w2 (⟨A2, ov2, hput, rfl, hk2, hf2⟩ | ⟨hput, rfl, hb2⟩)
  · have HF2 := Lib.hid (HFR.out.trans hf2)
    have HFW := Lib.hid (hf2)
    have HK2 := Lib.hid hk2
    have HB2 := Lib.hid (HB.out.trans (HK.out.bel hf2))
    have HPUT := Lib.hid hput
    have HM2 := Lib.hid (HM.out.mv HFW.out.mv)
    have HI2 := Lib.hid (HFW.out.bk HI.out HNX.out.1 HNX.out.2.1 HNX.out.2.2.1)
    have HS2 := Lib.hid (HFW.out.bk HS.out HNX.out.2.2.2.1 HNX.out.2.2.2.2.1 HNX.out.2.2.2.2.2)
    have HO2 := Lib.hid (addO_len A O (at_ + 1, ⟨D, ms⟩))
    have e0 := HI2.out.cell 0 (.int .i64 18) rfl
    have e1 := HI2.out.cell 1 (.int .i64 (an : Int)) rfl
    have e2 := HI2.out.cell 2 (.int .i64 (bn : Int)) rfl
    have g0 := HS2.out.cell 0 (.int .i64 D) rfl
    have g1 := HS2.out.cell 1 (.slice mo MN mc) rfl
    clear hk2 hf2 hput
    go_wp2_with fail
    refine (reach_z B w2 p k ov2 A2 (addO A O (at_ + 1, ⟨D, ms⟩)) (bn, ⟨D, ms⟩) (.slice mo MN mc) _ rfl HK2.out HM2.out hd0 (Nat.le_trans HL.out (by decide)) (by have := HO2.out; omega) hN).mono ?_
    rintro e w4 hres
    have HRES := Lib.hid (show LeaveRes B p k ov A O ⟨18, an, bn⟩ at_ ⟨D, ms⟩ w e w4 from two_yes leaves_18 HPUT.out HF2.out HB2.out hres)
    rcases hres with ⟨A4, ov4, _, rfl, _, _⟩ | ⟨_, rfl, _⟩
    · go_wp2_with fail
      go_ret
      exact HRES.out
    · go_wp2_with fail
      go_ret
      exact HRES.out
  · have HRES := Lib.hid (show LeaveRes B p k ov A O ⟨18, an, bn⟩ at_ ⟨D, ms⟩ w (.returned (.bool false)) w2 from .inr ⟨.inr ⟨_, leaves_18, putsO_bad hput⟩, rfl, HB.out.trans hb2⟩)
    clear hput hb2
    go_wp2_with fail
    go_ret
    exact HRES.out
theorem leaves_21 {an bn at_ : Nat} {t : Sx} : leaves ⟨21, (an : Int), (bn : Int)⟩ at_ t = some [(at_ + 1, withM 21 t), (an, ⟨t.dep + 1, t.ms⟩)] := by simp [leaves]
set_option maxHeartbeats 8000000 in
theorem leave_21 (B : Nat) (w : World) (p : Nat) (k : WC) (ov : Value) (A : Row) (O : List Nat) (at_ : Nat) (an bn : Nat) (D : Int) (ms : List Mk) (mv : Value) (h : WK B w p k ov A O) (hm : RowM TM w (Sm p k.sb ov) mv ms) (hd0 : 0 ≤ D) (hd1 : D ≤ 100000) (hl : ms.length ≤ 900000) (hO : O.length ≤ 90000) (hN : k.N ≤ 1000000) (hat : at_ ≤ 1000000) :
    Calls Try.prog 71 #[.pointer (some ⟨p, 0, none⟩), .int .i64 (at_ : Int), .agg #[.int .i64 21, .int .i64 (an : Int), .int .i64 (bn : Int)], .agg #[.int .i64 D, mv]] w (LeaveRes B p k ov A O ⟨21, an, bn⟩ at_ ⟨D, ms⟩ w) := by
  obtain ⟨mo, mc, rfl, _⟩ := hm.val
  obtain ⟨MN, hMN⟩ : ∃ n, Hid (ms.length = n) := ⟨_, Lib.hid rfl⟩
  have HL := Lib.hid hl
  rw [hMN.out] at hm hl ⊢
  have hz : ((at_ : Int) + 1) = ((at_ + 1 : Nat) : Int) := by omega
  have HZ := Lib.hid hz
  clear hz
  have i0 : (0 : Int) ≤ (at_ : Int) := by omega
  have i1 : (at_ : Int) ≤ 1000000 := by omega
  have HX := Lib.hid (bnext (balloc w (.cells #[.int .i64 21, .int .i64 (an : Int), .int .i64 (bn : Int)] 45)) (balloc _ (.cells #[.int .i64 D, .slice mo MN mc] 72)))
  have HK := Lib.hid (h.keep HX.out)
  have HM := Lib.hid (hm.mv (Mv.low HX.out))
  have HB := Lib.hid (h.bel (Fr.of HX.out))
  have HFR : Hid (Fr p k.sb ov ov w _) := Lib.hid (Fr.of HX.out)
  have HI := Lib.hid ((Bk.new w #[.int .i64 21, .int .i64 (an : Int), .int .i64 (bn : Int)] 45).alloc (.cells #[.int .i64 D, .slice mo MN mc] 72))
  have HS := Lib.hid (Bk.new (w.alloc (.cells #[.int .i64 21, .int .i64 (an : Int), .int .i64 (bn : Int)] 45)) #[.int .i64 D, .slice mo MN mc] 72)
  rw [World.size_alloc] at HS
  have HLT := Lib.hid (And.intro h.blk.lt (And.intro h.sts.lt (fun g (hg : ov.ownBlock = some g) => (h.opn.own hg).2)))
  have HNX : Hid (w.heap.size ≠ p ∧ w.heap.size ≠ k.sb ∧ ov.ownBlock ≠ some w.heap.size ∧ w.heap.size + 1 ≠ p ∧ w.heap.size + 1 ≠ k.sb ∧ ov.ownBlock ≠ some (w.heap.size + 1)) := Lib.hid ⟨by have := HLT.out.1; omega, by have := HLT.out.2.1; omega, fun e => by have := HLT.out.2.2 _ e; omega, by have := HLT.out.1; omega, by have := HLT.out.2.1; omega, fun e => by have := HLT.out.2.2 _ e; omega⟩
  clear h hm
  go_enter Try.func71, Try.ntmps71
  go_upto_region 1 with fail
  generalize World.alloc (World.alloc w _) _ = W at HX HK HM HB HFR HI HS ⊢
  have c0 := HI.out.cell 0 (.int .i64 21) rfl
  have c1 := HI.out.cell 1 (.int .i64 (an : Int)) rfl
  have c2 := HI.out.cell 2 (.int .i64 (bn : Int)) rfl
  have d0 := HS.out.cell 0 (.int .i64 D) rfl
  have d1 := HS.out.cell 1 (.slice mo MN mc) rfl
  go_wp2_with fail
  refine (with_c ⟨D, ms⟩ 21 (.slice mo MN mc) W _ HM.out (Nat.le_trans HL.out (by decide))).mono ?_
  rintro e w3 ⟨mv3, rfl, hm3, hb3⟩
  obtain ⟨mo3, mc3, ev3, _⟩ := hm3.val
  have HE3 := Lib.hid ev3
  have HM3 := Lib.hid (sm_new (p := p) (sb := k.sb) (ov := ov) hm3 HK.out.blk.lt HK.out.sts.lt (fun g hg => (HK.out.opn.own hg).2))
  have HK3 := Lib.hid (HK.out.keep hb3)
  have HF3 := Lib.hid (HFR.out.trans (Fr.of hb3))
  have HB3 := Lib.hid (HB.out.trans (HK.out.bel (Fr.of hb3)))
  have HFB := Lib.hid (show Fr p k.sb ov ov W w3 from Fr.of hb3)
  clear hm3 hb3 ev3
  go_wp2_with fail
  refine (reach_z B w3 p k ov A O (at_ + 1, (withM 21 ⟨D, ms⟩)) mv3 _ HZ.out HK3.out HM3.out hd0 (by have := HL.out; unfold withM; simp; omega) (Nat.le_trans hO (by decide)) hN).mono ?_
  rintro e w2 (⟨A2, ov2, hput, rfl, hk2, hf2⟩ | ⟨hput, rfl, hb2⟩)
  · have HF2 := Lib.hid (HF3.out.trans hf2)
    have HFW := Lib.hid (HFB.out.trans hf2)
    have HK2 := Lib.hid hk2
    have HB2 := Lib.hid (HB3.out.trans (HK3.out.bel hf2))
    have HPUT := Lib.hid hput
    have HM2 := Lib.hid (HM.out.mv HFW.out.mv)
    have HI2 := Lib.hid (HFW.out.bk HI.out HNX.out.1 HNX.out.2.1 HNX.out.2.2.1)
    have HS2 := Lib.hid (HFW.out.bk HS.out HNX.out.2.2.2.1 HNX.out.2.2.2.2.1 HNX.out.2.2.2.2.2)
    have HO2 := Lib.hid (addO_len A O (at_ + 1, (withM 21 ⟨D, ms⟩)))
    have e0 := HI2.out.cell 0 (.int .i64 21) rfl
    have e1 := HI2.out.cell 1 (.int .i64 (an : Int)) rfl
    have e2 := HI2.out.cell 2 (.int .i64 (bn : Int)) rfl
    have g0 := HS2.out.cell 0 (.int .i64 D) rfl
    have g1 := HS2.out.cell 1 (.slice mo MN mc) rfl
    clear hk2 hf2 hput
    go_wp2_with fail
    refine (reach_z B w2 p k ov2 A2 (addO A O (at_ + 1, (withM 21 ⟨D, ms⟩))) (an, ⟨D + 1, ms⟩) (.slice mo MN mc) _ rfl HK2.out HM2.out (by show 0 ≤ D + 1; omega) (Nat.le_trans HL.out (by decide)) (by have := HO2.out; omega) hN).mono ?_
    rintro e w4 hres
    have HRES := Lib.hid (show LeaveRes B p k ov A O ⟨21, an, bn⟩ at_ ⟨D, ms⟩ w e w4 from two_yes leaves_21 HPUT.out HF2.out HB2.out hres)
    rcases hres with ⟨A4, ov4, _, rfl, _, _⟩ | ⟨_, rfl, _⟩
    · go_wp2_with fail
      go_ret
      exact HRES.out
    · go_wp2_with fail
      go_ret
      exact HRES.out
  · have HRES := Lib.hid (show LeaveRes B p k ov A O ⟨21, an, bn⟩ at_ ⟨D, ms⟩ w (.returned (.bool false)) w2 from .inr ⟨.inr ⟨_, leaves_21, putsO_bad hput⟩, rfl, HB3.out.trans hb2⟩)
    clear hput hb2
    go_wp2_with fail
    go_ret
    exact HRES.out
theorem leaves_28 {an bn at_ : Nat} {t : Sx} : leaves ⟨28, (an : Int), (bn : Int)⟩ at_ t = some [(at_ + 1, withM 28 t), (an, t)] := by simp [leaves]
set_option maxHeartbeats 8000000 in
theorem leave_28 (B : Nat) (w : World) (p : Nat) (k : WC) (ov : Value) (A : Row) (O : List Nat) (at_ : Nat) (an bn : Nat) (D : Int) (ms : List Mk) (mv : Value) (h : WK B w p k ov A O) (hm : RowM TM w (Sm p k.sb ov) mv ms) (hd0 : 0 ≤ D) (hd1 : D ≤ 100000) (hl : ms.length ≤ 900000) (hO : O.length ≤ 90000) (hN : k.N ≤ 1000000) (hat : at_ ≤ 1000000) :
    Calls Try.prog 71 #[.pointer (some ⟨p, 0, none⟩), .int .i64 (at_ : Int), .agg #[.int .i64 28, .int .i64 (an : Int), .int .i64 (bn : Int)], .agg #[.int .i64 D, mv]] w (LeaveRes B p k ov A O ⟨28, an, bn⟩ at_ ⟨D, ms⟩ w) := by
  obtain ⟨mo, mc, rfl, _⟩ := hm.val
  obtain ⟨MN, hMN⟩ : ∃ n, Hid (ms.length = n) := ⟨_, Lib.hid rfl⟩
  have HL := Lib.hid hl
  rw [hMN.out] at hm hl ⊢
  have hz : ((at_ : Int) + 1) = ((at_ + 1 : Nat) : Int) := by omega
  have HZ := Lib.hid hz
  clear hz
  have i0 : (0 : Int) ≤ (at_ : Int) := by omega
  have i1 : (at_ : Int) ≤ 1000000 := by omega
  have HX := Lib.hid (bnext (balloc w (.cells #[.int .i64 28, .int .i64 (an : Int), .int .i64 (bn : Int)] 45)) (balloc _ (.cells #[.int .i64 D, .slice mo MN mc] 72)))
  have HK := Lib.hid (h.keep HX.out)
  have HM := Lib.hid (hm.mv (Mv.low HX.out))
  have HB := Lib.hid (h.bel (Fr.of HX.out))
  have HFR : Hid (Fr p k.sb ov ov w _) := Lib.hid (Fr.of HX.out)
  have HI := Lib.hid ((Bk.new w #[.int .i64 28, .int .i64 (an : Int), .int .i64 (bn : Int)] 45).alloc (.cells #[.int .i64 D, .slice mo MN mc] 72))
  have HS := Lib.hid (Bk.new (w.alloc (.cells #[.int .i64 28, .int .i64 (an : Int), .int .i64 (bn : Int)] 45)) #[.int .i64 D, .slice mo MN mc] 72)
  rw [World.size_alloc] at HS
  have HLT := Lib.hid (And.intro h.blk.lt (And.intro h.sts.lt (fun g (hg : ov.ownBlock = some g) => (h.opn.own hg).2)))
  have HNX : Hid (w.heap.size ≠ p ∧ w.heap.size ≠ k.sb ∧ ov.ownBlock ≠ some w.heap.size ∧ w.heap.size + 1 ≠ p ∧ w.heap.size + 1 ≠ k.sb ∧ ov.ownBlock ≠ some (w.heap.size + 1)) := Lib.hid ⟨by have := HLT.out.1; omega, by have := HLT.out.2.1; omega, fun e => by have := HLT.out.2.2 _ e; omega, by have := HLT.out.1; omega, by have := HLT.out.2.1; omega, fun e => by have := HLT.out.2.2 _ e; omega⟩
  clear h hm
  go_enter Try.func71, Try.ntmps71
  go_upto_region 1 with fail
  generalize World.alloc (World.alloc w _) _ = W at HX HK HM HB HFR HI HS ⊢
  have c0 := HI.out.cell 0 (.int .i64 28) rfl
  have c1 := HI.out.cell 1 (.int .i64 (an : Int)) rfl
  have c2 := HI.out.cell 2 (.int .i64 (bn : Int)) rfl
  have d0 := HS.out.cell 0 (.int .i64 D) rfl
  have d1 := HS.out.cell 1 (.slice mo MN mc) rfl
  go_wp2_with fail
  refine (with_c ⟨D, ms⟩ 28 (.slice mo MN mc) W _ HM.out (Nat.le_trans HL.out (by decide))).mono ?_
  rintro e w3 ⟨mv3, rfl, hm3, hb3⟩
  obtain ⟨mo3, mc3, ev3, _⟩ := hm3.val
  have HE3 := Lib.hid ev3
  have HM3 := Lib.hid (sm_new (p := p) (sb := k.sb) (ov := ov) hm3 HK.out.blk.lt HK.out.sts.lt (fun g hg => (HK.out.opn.own hg).2))
  have HK3 := Lib.hid (HK.out.keep hb3)
  have HF3 := Lib.hid (HFR.out.trans (Fr.of hb3))
  have HB3 := Lib.hid (HB.out.trans (HK.out.bel (Fr.of hb3)))
  have HFB := Lib.hid (show Fr p k.sb ov ov W w3 from Fr.of hb3)
  clear hm3 hb3 ev3
  go_wp2_with fail
  refine (reach_z B w3 p k ov A O (at_ + 1, (withM 28 ⟨D, ms⟩)) mv3 _ HZ.out HK3.out HM3.out hd0 (by have := HL.out; unfold withM; simp; omega) (Nat.le_trans hO (by decide)) hN).mono ?_
  rintro e w2 (⟨A2, ov2, hput, rfl, hk2, hf2⟩ | ⟨hput, rfl, hb2⟩)
  · have HF2 := Lib.hid (HF3.out.trans hf2)
    have HFW := Lib.hid (HFB.out.trans hf2)
    have HK2 := Lib.hid hk2
    have HB2 := Lib.hid (HB3.out.trans (HK3.out.bel hf2))
    have HPUT := Lib.hid hput
    have HM2 := Lib.hid (HM.out.mv HFW.out.mv)
    have HI2 := Lib.hid (HFW.out.bk HI.out HNX.out.1 HNX.out.2.1 HNX.out.2.2.1)
    have HS2 := Lib.hid (HFW.out.bk HS.out HNX.out.2.2.2.1 HNX.out.2.2.2.2.1 HNX.out.2.2.2.2.2)
    have HO2 := Lib.hid (addO_len A O (at_ + 1, (withM 28 ⟨D, ms⟩)))
    have e0 := HI2.out.cell 0 (.int .i64 28) rfl
    have e1 := HI2.out.cell 1 (.int .i64 (an : Int)) rfl
    have e2 := HI2.out.cell 2 (.int .i64 (bn : Int)) rfl
    have g0 := HS2.out.cell 0 (.int .i64 D) rfl
    have g1 := HS2.out.cell 1 (.slice mo MN mc) rfl
    clear hk2 hf2 hput
    go_wp2_with fail
    refine (reach_z B w2 p k ov2 A2 (addO A O (at_ + 1, (withM 28 ⟨D, ms⟩))) (an, ⟨D, ms⟩) (.slice mo MN mc) _ rfl HK2.out HM2.out hd0 (Nat.le_trans HL.out (by decide)) (by have := HO2.out; omega) hN).mono ?_
    rintro e w4 hres
    have HRES := Lib.hid (show LeaveRes B p k ov A O ⟨28, an, bn⟩ at_ ⟨D, ms⟩ w e w4 from two_yes leaves_28 HPUT.out HF2.out HB2.out hres)
    rcases hres with ⟨A4, ov4, _, rfl, _, _⟩ | ⟨_, rfl, _⟩
    · go_wp2_with fail
      go_ret
      exact HRES.out
    · go_wp2_with fail
      go_ret
      exact HRES.out
  · have HRES := Lib.hid (show LeaveRes B p k ov A O ⟨28, an, bn⟩ at_ ⟨D, ms⟩ w (.returned (.bool false)) w2 from .inr ⟨.inr ⟨_, leaves_28, putsO_bad hput⟩, rfl, HB3.out.trans hb2⟩)
    clear hput hb2
    go_wp2_with fail
    go_ret
    exact HRES.out
theorem leaves_26 {an bn at_ : Nat} {t : Sx} : leaves ⟨26, (an : Int), (bn : Int)⟩ at_ t = if t.ms.any (fun m => m.kind == 26) then none else some [(at_ + 1, withM 26 t)] := by simp [leaves]
set_option maxHeartbeats 8000000 in
theorem leave_26 (B : Nat) (w : World) (p : Nat) (k : WC) (ov : Value) (A : Row) (O : List Nat) (at_ : Nat) (an bn : Nat) (D : Int) (ms : List Mk) (mv : Value) (h : WK B w p k ov A O) (hm : RowM TM w (Sm p k.sb ov) mv ms) (hd0 : 0 ≤ D) (hd1 : D ≤ 100000) (hl : ms.length ≤ 900000) (hO : O.length ≤ 90000) (hN : k.N ≤ 1000000) (hat : at_ ≤ 1000000) :
    Calls Try.prog 71 #[.pointer (some ⟨p, 0, none⟩), .int .i64 (at_ : Int), .agg #[.int .i64 26, .int .i64 (an : Int), .int .i64 (bn : Int)], .agg #[.int .i64 D, mv]] w (LeaveRes B p k ov A O ⟨26, an, bn⟩ at_ ⟨D, ms⟩ w) := by
  obtain ⟨mo, mc, rfl, _⟩ := hm.val
  obtain ⟨MN, hMN⟩ : ∃ n, Hid (ms.length = n) := ⟨_, Lib.hid rfl⟩
  have HL := Lib.hid hl
  rw [hMN.out] at hm hl ⊢
  have hz : ((at_ : Int) + 1) = ((at_ + 1 : Nat) : Int) := by omega
  have HZ := Lib.hid hz
  clear hz
  have i0 : (0 : Int) ≤ (at_ : Int) := by omega
  have i1 : (at_ : Int) ≤ 1000000 := by omega
  have HX := Lib.hid (bnext (balloc w (.cells #[.int .i64 26, .int .i64 (an : Int), .int .i64 (bn : Int)] 45)) (balloc _ (.cells #[.int .i64 D, .slice mo MN mc] 72)))
  have HK := Lib.hid (h.keep HX.out)
  have HM := Lib.hid (hm.mv (Mv.low HX.out))
  have HB := Lib.hid (h.bel (Fr.of HX.out))
  have HFR : Hid (Fr p k.sb ov ov w _) := Lib.hid (Fr.of HX.out)
  have HI := Lib.hid ((Bk.new w #[.int .i64 26, .int .i64 (an : Int), .int .i64 (bn : Int)] 45).alloc (.cells #[.int .i64 D, .slice mo MN mc] 72))
  have HS := Lib.hid (Bk.new (w.alloc (.cells #[.int .i64 26, .int .i64 (an : Int), .int .i64 (bn : Int)] 45)) #[.int .i64 D, .slice mo MN mc] 72)
  rw [World.size_alloc] at HS
  have HLT := Lib.hid (And.intro h.blk.lt (And.intro h.sts.lt (fun g (hg : ov.ownBlock = some g) => (h.opn.own hg).2)))
  have HNX : Hid (w.heap.size ≠ p ∧ w.heap.size ≠ k.sb ∧ ov.ownBlock ≠ some w.heap.size ∧ w.heap.size + 1 ≠ p ∧ w.heap.size + 1 ≠ k.sb ∧ ov.ownBlock ≠ some (w.heap.size + 1)) := Lib.hid ⟨by have := HLT.out.1; omega, by have := HLT.out.2.1; omega, fun e => by have := HLT.out.2.2 _ e; omega, by have := HLT.out.1; omega, by have := HLT.out.2.1; omega, fun e => by have := HLT.out.2.2 _ e; omega⟩
  clear h hm
  go_enter Try.func71, Try.ntmps71
  go_upto_region 1 with fail
  generalize World.alloc (World.alloc w _) _ = W at HX HK HM HB HFR HI HS ⊢
  have c0 := HI.out.cell 0 (.int .i64 26) rfl
  have c1 := HI.out.cell 1 (.int .i64 (an : Int)) rfl
  have c2 := HI.out.cell 2 (.int .i64 (bn : Int)) rfl
  have d0 := HS.out.cell 0 (.int .i64 D) rfl
  have d1 := HS.out.cell 1 (.slice mo MN mc) rfl
  have HH := Lib.hid (has_c ⟨D, ms⟩ 26 (.slice mo MN mc) W _ HM.out (Nat.le_trans HL.out (by decide)))
  cases hany : (ms.any (fun m => m.kind == 26))
  · have HLV := Lib.hid (show leaves ⟨26, (an : Int), (bn : Int)⟩ at_ ⟨D, ms⟩ = some [(at_ + 1, withM 26 ⟨D, ms⟩)] by rw [leaves_26]; simp only; rw [hany]; rfl)
    have HHF : Hid (Calls Try.prog 78 #[.agg #[.int .i64 D, .slice mo MN mc], .int .i64 26] W fun e w' => e = .returned (.bool false) ∧ Below W.heap.size W w') := Lib.hid (by have := HH.out; simp only at this; rw [hany] at this; exact this)
    clear hany HH
    go_wp2_with fail
    refine HHF.out.mono ?_
    rintro e w1 ⟨rfl, hb1⟩
    have HFR1 := Lib.hid (HFR.out.trans (Fr.of hb1))
    have HB1 := Lib.hid (HB.out.trans (HK.out.bel (Fr.of hb1)))
    have HK1 := Lib.hid (HK.out.keep hb1)
    have HM1 := Lib.hid (HM.out.mv (Mv.low hb1))
    have HI1 := Lib.hid (HI.out.keep hb1)
    have HS1 := Lib.hid (HS.out.keep hb1)
    clear hb1 c0 c1 c2 d0 d1 HFR HB HK HM HI HS HX
    have c0 := HI1.out.cell 0 (.int .i64 26) rfl
    have d0 := HS1.out.cell 0 (.int .i64 D) rfl
    have d1 := HS1.out.cell 1 (.slice mo MN mc) rfl
    go_wp2_with fail
    refine (with_c ⟨D, ms⟩ 26 (.slice mo MN mc) w1 _ HM1.out (Nat.le_trans HL.out (by decide))).mono ?_
    rintro e w3 ⟨mv3, rfl, hm3, hb3⟩
    have HM3 := Lib.hid (sm_new (p := p) (sb := k.sb) (ov := ov) hm3 HK1.out.blk.lt HK1.out.sts.lt (fun g hg => (HK1.out.opn.own hg).2))
    have HK3 := Lib.hid (HK1.out.keep hb3)
    have HF3 := Lib.hid (HFR1.out.trans (Fr.of hb3))
    have HB3 := Lib.hid (HB1.out.trans (HK1.out.bel (Fr.of hb3)))
    clear hm3 hb3
    go_wp2_with fail
    refine (reach_z B w3 p k ov A O (at_ + 1, (withM 26 ⟨D, ms⟩)) mv3 _ HZ.out HK3.out HM3.out hd0 (by have := HL.out; unfold withM; simp; omega) (Nat.le_trans hO (by decide)) hN).mono ?_
    rintro e w4 hres
    have HRES := Lib.hid (show LeaveRes B p k ov A O ⟨26, an, bn⟩ at_ ⟨D, ms⟩ w e w4 from one_yes HK3.out HLV.out HF3.out HB3.out hres)
    rcases hres with ⟨A2, ov2, _, rfl, _, _⟩ | ⟨_, rfl, _⟩
    · go_wp2_with fail
      go_ret
      exact HRES.out
    · go_wp2_with fail
      go_ret
      exact HRES.out
  · have HLV := Lib.hid (show leaves ⟨26, (an : Int), (bn : Int)⟩ at_ ⟨D, ms⟩ = none by rw [leaves_26]; simp only; rw [hany]; rfl)
    have HHF : Hid (Calls Try.prog 78 #[.agg #[.int .i64 D, .slice mo MN mc], .int .i64 26] W fun e w' => e = .returned (.bool true) ∧ Below W.heap.size W w') := Lib.hid (by have := HH.out; simp only at this; rw [hany] at this; exact this)
    clear hany HH
    go_wp2_with fail
    refine HHF.out.mono ?_
    rintro e w1 ⟨rfl, hb1⟩
    have HRES := Lib.hid (show LeaveRes B p k ov A O ⟨26, an, bn⟩ at_ ⟨D, ms⟩ w (.returned (.bool false)) w1 from .inr ⟨.inl HLV.out, rfl, HB.out.trans (HK.out.bel (Fr.of hb1))⟩)
    clear hb1
    go_wp2_with fail
    go_ret
    exact HRES.out
theorem leaves_22 {an bn at_ : Nat} {t : Sx} : leaves ⟨22, (an : Int), (bn : Int)⟩ at_ t = if lastK 21 t then some [(at_ + 1, ⟨t.dep, t.ms.dropLast⟩)] else none := by simp [leaves]
set_option maxHeartbeats 8000000 in
theorem leave_22 (B : Nat) (w : World) (p : Nat) (k : WC) (ov : Value) (A : Row) (O : List Nat) (at_ : Nat) (an bn : Nat) (D : Int) (ms : List Mk) (mv : Value) (h : WK B w p k ov A O) (hm : RowM TM w (Sm p k.sb ov) mv ms) (hd0 : 0 ≤ D) (hd1 : D ≤ 100000) (hl : ms.length ≤ 900000) (hO : O.length ≤ 90000) (hN : k.N ≤ 1000000) (hat : at_ ≤ 1000000) :
    Calls Try.prog 71 #[.pointer (some ⟨p, 0, none⟩), .int .i64 (at_ : Int), .agg #[.int .i64 22, .int .i64 (an : Int), .int .i64 (bn : Int)], .agg #[.int .i64 D, mv]] w (LeaveRes B p k ov A O ⟨22, an, bn⟩ at_ ⟨D, ms⟩ w) := by
  obtain ⟨mo, mc, rfl, _⟩ := hm.val
  obtain ⟨MN, hMN⟩ : ∃ n, Hid (ms.length = n) := ⟨_, Lib.hid rfl⟩
  have HL := Lib.hid hl
  rw [hMN.out] at hm hl ⊢
  have hz : ((at_ : Int) + 1) = ((at_ + 1 : Nat) : Int) := by omega
  have HZ := Lib.hid hz
  clear hz
  have i0 : (0 : Int) ≤ (at_ : Int) := by omega
  have i1 : (at_ : Int) ≤ 1000000 := by omega
  have HX := Lib.hid (bnext (balloc w (.cells #[.int .i64 22, .int .i64 (an : Int), .int .i64 (bn : Int)] 45)) (balloc _ (.cells #[.int .i64 D, .slice mo MN mc] 72)))
  have HK := Lib.hid (h.keep HX.out)
  have HM := Lib.hid (hm.mv (Mv.low HX.out))
  have HB := Lib.hid (h.bel (Fr.of HX.out))
  have HFR : Hid (Fr p k.sb ov ov w _) := Lib.hid (Fr.of HX.out)
  have HI := Lib.hid ((Bk.new w #[.int .i64 22, .int .i64 (an : Int), .int .i64 (bn : Int)] 45).alloc (.cells #[.int .i64 D, .slice mo MN mc] 72))
  have HS := Lib.hid (Bk.new (w.alloc (.cells #[.int .i64 22, .int .i64 (an : Int), .int .i64 (bn : Int)] 45)) #[.int .i64 D, .slice mo MN mc] 72)
  rw [World.size_alloc] at HS
  have HLT := Lib.hid (And.intro h.blk.lt (And.intro h.sts.lt (fun g (hg : ov.ownBlock = some g) => (h.opn.own hg).2)))
  have HNX : Hid (w.heap.size ≠ p ∧ w.heap.size ≠ k.sb ∧ ov.ownBlock ≠ some w.heap.size ∧ w.heap.size + 1 ≠ p ∧ w.heap.size + 1 ≠ k.sb ∧ ov.ownBlock ≠ some (w.heap.size + 1)) := Lib.hid ⟨by have := HLT.out.1; omega, by have := HLT.out.2.1; omega, fun e => by have := HLT.out.2.2 _ e; omega, by have := HLT.out.1; omega, by have := HLT.out.2.1; omega, fun e => by have := HLT.out.2.2 _ e; omega⟩
  clear h hm
  go_enter Try.func71, Try.ntmps71
  go_upto_region 1 with fail
  generalize World.alloc (World.alloc w _) _ = W at HX HK HM HB HFR HI HS ⊢
  have c0 := HI.out.cell 0 (.int .i64 22) rfl
  have c1 := HI.out.cell 1 (.int .i64 (an : Int)) rfl
  have c2 := HI.out.cell 2 (.int .i64 (bn : Int)) rfl
  have d0 := HS.out.cell 0 (.int .i64 D) rfl
  have d1 := HS.out.cell 1 (.slice mo MN mc) rfl
  have HH := Lib.hid (last_c ⟨D, ms⟩ 21 (.slice mo MN mc) W _ HM.out (Nat.le_trans HL.out (by decide)))
  cases hany : (lastK 21 ⟨D, ms⟩)
  · have HLV := Lib.hid (show leaves ⟨22, (an : Int), (bn : Int)⟩ at_ ⟨D, ms⟩ = none by rw [leaves_22, hany]; rfl)
    rw [hany] at HH
    clear hany
    go_wp2_with fail
    refine HH.out.mono ?_
    rintro e w1 ⟨rfl, hb1⟩
    have HRES := Lib.hid (show LeaveRes B p k ov A O ⟨22, an, bn⟩ at_ ⟨D, ms⟩ w (.returned (.bool false)) w1 from .inr ⟨.inl HLV.out, rfl, HB.out.trans (HK.out.bel (Fr.of hb1))⟩)
    clear hb1
    go_wp2_with fail
    go_ret
    exact HRES.out
  · have HLV := Lib.hid (show leaves ⟨22, (an : Int), (bn : Int)⟩ at_ ⟨D, ms⟩ = some [(at_ + 1, ⟨D, ms.dropLast⟩)] by rw [leaves_22, hany]; rfl)
    have HNE : Hid (ms ≠ []) := Lib.hid (fun e => by rw [e] at hany; unfold lastK at hany; simp at hany)
    rw [hany] at HH
    clear hany
    go_wp2_with fail
    refine HH.out.mono ?_
    rintro e w1 ⟨rfl, hb1⟩
    have HFR1 := Lib.hid (HFR.out.trans (Fr.of hb1))
    have HB1 := Lib.hid (HB.out.trans (HK.out.bel (Fr.of hb1)))
    have HK1 := Lib.hid (HK.out.keep hb1)
    have HM1 := Lib.hid (HM.out.mv (Mv.low hb1))
    have HI1 := Lib.hid (HI.out.keep hb1)
    have HS1 := Lib.hid (HS.out.keep hb1)
    clear hb1 c0 c1 c2 d0 d1 HFR HB HK HM HI HS HX
    have c0 := HI1.out.cell 0 (.int .i64 22) rfl
    have d0 := HS1.out.cell 0 (.int .i64 D) rfl
    have d1 := HS1.out.cell 1 (.slice mo MN mc) rfl
    go_wp2_with fail
    refine (without_c ⟨D, ms⟩ (.slice mo MN mc) w1 _ HM1.out HNE.out (Nat.le_trans HL.out (by decide))).mono ?_
    rintro e w3 ⟨mv3, rfl, hm3, hb3⟩
    have HM3 := Lib.hid hm3
    have HK3 := Lib.hid (HK1.out.keep hb3)
    have HF3 := Lib.hid (HFR1.out.trans (Fr.of hb3))
    have HB3 := Lib.hid (HB1.out.trans (HK1.out.bel (Fr.of hb3)))
    clear hm3 hb3
    go_wp2_with fail
    refine (reach_z B w3 p k ov A O (at_ + 1, ⟨D, ms.dropLast⟩) mv3 _ HZ.out HK3.out HM3.out hd0 (by have := HL.out; simp; omega) (Nat.le_trans hO (by decide)) hN).mono ?_
    rintro e w4 hres
    have HRES := Lib.hid (show LeaveRes B p k ov A O ⟨22, an, bn⟩ at_ ⟨D, ms⟩ w e w4 from one_yes HK3.out HLV.out HF3.out HB3.out hres)
    rcases hres with ⟨A2, ov2, _, rfl, _, _⟩ | ⟨_, rfl, _⟩
    · go_wp2_with fail
      go_ret
      exact HRES.out
    · go_wp2_with fail
      go_ret
      exact HRES.out
theorem leaves_27 {an bn at_ : Nat} {t : Sx} : leaves ⟨27, (an : Int), (bn : Int)⟩ at_ t = if lastK 26 t then some [(at_ + 1, ⟨t.dep, t.ms.dropLast⟩)] else none := by simp [leaves]
set_option maxHeartbeats 8000000 in
theorem leave_27 (B : Nat) (w : World) (p : Nat) (k : WC) (ov : Value) (A : Row) (O : List Nat) (at_ : Nat) (an bn : Nat) (D : Int) (ms : List Mk) (mv : Value) (h : WK B w p k ov A O) (hm : RowM TM w (Sm p k.sb ov) mv ms) (hd0 : 0 ≤ D) (hd1 : D ≤ 100000) (hl : ms.length ≤ 900000) (hO : O.length ≤ 90000) (hN : k.N ≤ 1000000) (hat : at_ ≤ 1000000) :
    Calls Try.prog 71 #[.pointer (some ⟨p, 0, none⟩), .int .i64 (at_ : Int), .agg #[.int .i64 27, .int .i64 (an : Int), .int .i64 (bn : Int)], .agg #[.int .i64 D, mv]] w (LeaveRes B p k ov A O ⟨27, an, bn⟩ at_ ⟨D, ms⟩ w) := by
  obtain ⟨mo, mc, rfl, _⟩ := hm.val
  obtain ⟨MN, hMN⟩ : ∃ n, Hid (ms.length = n) := ⟨_, Lib.hid rfl⟩
  have HL := Lib.hid hl
  rw [hMN.out] at hm hl ⊢
  have hz : ((at_ : Int) + 1) = ((at_ + 1 : Nat) : Int) := by omega
  have HZ := Lib.hid hz
  clear hz
  have i0 : (0 : Int) ≤ (at_ : Int) := by omega
  have i1 : (at_ : Int) ≤ 1000000 := by omega
  have HX := Lib.hid (bnext (balloc w (.cells #[.int .i64 27, .int .i64 (an : Int), .int .i64 (bn : Int)] 45)) (balloc _ (.cells #[.int .i64 D, .slice mo MN mc] 72)))
  have HK := Lib.hid (h.keep HX.out)
  have HM := Lib.hid (hm.mv (Mv.low HX.out))
  have HB := Lib.hid (h.bel (Fr.of HX.out))
  have HFR : Hid (Fr p k.sb ov ov w _) := Lib.hid (Fr.of HX.out)
  have HI := Lib.hid ((Bk.new w #[.int .i64 27, .int .i64 (an : Int), .int .i64 (bn : Int)] 45).alloc (.cells #[.int .i64 D, .slice mo MN mc] 72))
  have HS := Lib.hid (Bk.new (w.alloc (.cells #[.int .i64 27, .int .i64 (an : Int), .int .i64 (bn : Int)] 45)) #[.int .i64 D, .slice mo MN mc] 72)
  rw [World.size_alloc] at HS
  have HLT := Lib.hid (And.intro h.blk.lt (And.intro h.sts.lt (fun g (hg : ov.ownBlock = some g) => (h.opn.own hg).2)))
  have HNX : Hid (w.heap.size ≠ p ∧ w.heap.size ≠ k.sb ∧ ov.ownBlock ≠ some w.heap.size ∧ w.heap.size + 1 ≠ p ∧ w.heap.size + 1 ≠ k.sb ∧ ov.ownBlock ≠ some (w.heap.size + 1)) := Lib.hid ⟨by have := HLT.out.1; omega, by have := HLT.out.2.1; omega, fun e => by have := HLT.out.2.2 _ e; omega, by have := HLT.out.1; omega, by have := HLT.out.2.1; omega, fun e => by have := HLT.out.2.2 _ e; omega⟩
  clear h hm
  go_enter Try.func71, Try.ntmps71
  go_upto_region 1 with fail
  generalize World.alloc (World.alloc w _) _ = W at HX HK HM HB HFR HI HS ⊢
  have c0 := HI.out.cell 0 (.int .i64 27) rfl
  have c1 := HI.out.cell 1 (.int .i64 (an : Int)) rfl
  have c2 := HI.out.cell 2 (.int .i64 (bn : Int)) rfl
  have d0 := HS.out.cell 0 (.int .i64 D) rfl
  have d1 := HS.out.cell 1 (.slice mo MN mc) rfl
  have HH := Lib.hid (last_c ⟨D, ms⟩ 26 (.slice mo MN mc) W _ HM.out (Nat.le_trans HL.out (by decide)))
  cases hany : (lastK 26 ⟨D, ms⟩)
  · have HLV := Lib.hid (show leaves ⟨27, (an : Int), (bn : Int)⟩ at_ ⟨D, ms⟩ = none by rw [leaves_27, hany]; rfl)
    rw [hany] at HH
    clear hany
    go_wp2_with fail
    refine HH.out.mono ?_
    rintro e w1 ⟨rfl, hb1⟩
    have HRES := Lib.hid (show LeaveRes B p k ov A O ⟨27, an, bn⟩ at_ ⟨D, ms⟩ w (.returned (.bool false)) w1 from .inr ⟨.inl HLV.out, rfl, HB.out.trans (HK.out.bel (Fr.of hb1))⟩)
    clear hb1
    go_wp2_with fail
    go_ret
    exact HRES.out
  · have HLV := Lib.hid (show leaves ⟨27, (an : Int), (bn : Int)⟩ at_ ⟨D, ms⟩ = some [(at_ + 1, ⟨D, ms.dropLast⟩)] by rw [leaves_27, hany]; rfl)
    have HNE : Hid (ms ≠ []) := Lib.hid (fun e => by rw [e] at hany; unfold lastK at hany; simp at hany)
    rw [hany] at HH
    clear hany
    go_wp2_with fail
    refine HH.out.mono ?_
    rintro e w1 ⟨rfl, hb1⟩
    have HFR1 := Lib.hid (HFR.out.trans (Fr.of hb1))
    have HB1 := Lib.hid (HB.out.trans (HK.out.bel (Fr.of hb1)))
    have HK1 := Lib.hid (HK.out.keep hb1)
    have HM1 := Lib.hid (HM.out.mv (Mv.low hb1))
    have HI1 := Lib.hid (HI.out.keep hb1)
    have HS1 := Lib.hid (HS.out.keep hb1)
    clear hb1 c0 c1 c2 d0 d1 HFR HB HK HM HI HS HX
    have c0 := HI1.out.cell 0 (.int .i64 27) rfl
    have d0 := HS1.out.cell 0 (.int .i64 D) rfl
    have d1 := HS1.out.cell 1 (.slice mo MN mc) rfl
    go_wp2_with fail
    refine (without_c ⟨D, ms⟩ (.slice mo MN mc) w1 _ HM1.out HNE.out (Nat.le_trans HL.out (by decide))).mono ?_
    rintro e w3 ⟨mv3, rfl, hm3, hb3⟩
    have HM3 := Lib.hid hm3
    have HK3 := Lib.hid (HK1.out.keep hb3)
    have HF3 := Lib.hid (HFR1.out.trans (Fr.of hb3))
    have HB3 := Lib.hid (HB1.out.trans (HK1.out.bel (Fr.of hb3)))
    clear hm3 hb3
    go_wp2_with fail
    refine (reach_z B w3 p k ov A O (at_ + 1, ⟨D, ms.dropLast⟩) mv3 _ HZ.out HK3.out HM3.out hd0 (by have := HL.out; simp; omega) (Nat.le_trans hO (by decide)) hN).mono ?_
    rintro e w4 hres
    have HRES := Lib.hid (show LeaveRes B p k ov A O ⟨27, an, bn⟩ at_ ⟨D, ms⟩ w e w4 from one_yes HK3.out HLV.out HF3.out HB3.out hres)
    rcases hres with ⟨A2, ov2, _, rfl, _, _⟩ | ⟨_, rfl, _⟩
    · go_wp2_with fail
      go_ret
      exact HRES.out
    · go_wp2_with fail
      go_ret
      exact HRES.out
theorem leaves_29 {an bn at_ : Nat} {t : Sx} : leaves ⟨29, (an : Int), (bn : Int)⟩ at_ t = if lastK 28 t then some [(at_ + 1, ⟨t.dep, t.ms.dropLast⟩)] else none := by simp [leaves]
set_option maxHeartbeats 8000000 in
theorem leave_29 (B : Nat) (w : World) (p : Nat) (k : WC) (ov : Value) (A : Row) (O : List Nat) (at_ : Nat) (an bn : Nat) (D : Int) (ms : List Mk) (mv : Value) (h : WK B w p k ov A O) (hm : RowM TM w (Sm p k.sb ov) mv ms) (hd0 : 0 ≤ D) (hd1 : D ≤ 100000) (hl : ms.length ≤ 900000) (hO : O.length ≤ 90000) (hN : k.N ≤ 1000000) (hat : at_ ≤ 1000000) :
    Calls Try.prog 71 #[.pointer (some ⟨p, 0, none⟩), .int .i64 (at_ : Int), .agg #[.int .i64 29, .int .i64 (an : Int), .int .i64 (bn : Int)], .agg #[.int .i64 D, mv]] w (LeaveRes B p k ov A O ⟨29, an, bn⟩ at_ ⟨D, ms⟩ w) := by
  obtain ⟨mo, mc, rfl, _⟩ := hm.val
  obtain ⟨MN, hMN⟩ : ∃ n, Hid (ms.length = n) := ⟨_, Lib.hid rfl⟩
  have HL := Lib.hid hl
  rw [hMN.out] at hm hl ⊢
  have hz : ((at_ : Int) + 1) = ((at_ + 1 : Nat) : Int) := by omega
  have HZ := Lib.hid hz
  clear hz
  have i0 : (0 : Int) ≤ (at_ : Int) := by omega
  have i1 : (at_ : Int) ≤ 1000000 := by omega
  have HX := Lib.hid (bnext (balloc w (.cells #[.int .i64 29, .int .i64 (an : Int), .int .i64 (bn : Int)] 45)) (balloc _ (.cells #[.int .i64 D, .slice mo MN mc] 72)))
  have HK := Lib.hid (h.keep HX.out)
  have HM := Lib.hid (hm.mv (Mv.low HX.out))
  have HB := Lib.hid (h.bel (Fr.of HX.out))
  have HFR : Hid (Fr p k.sb ov ov w _) := Lib.hid (Fr.of HX.out)
  have HI := Lib.hid ((Bk.new w #[.int .i64 29, .int .i64 (an : Int), .int .i64 (bn : Int)] 45).alloc (.cells #[.int .i64 D, .slice mo MN mc] 72))
  have HS := Lib.hid (Bk.new (w.alloc (.cells #[.int .i64 29, .int .i64 (an : Int), .int .i64 (bn : Int)] 45)) #[.int .i64 D, .slice mo MN mc] 72)
  rw [World.size_alloc] at HS
  have HLT := Lib.hid (And.intro h.blk.lt (And.intro h.sts.lt (fun g (hg : ov.ownBlock = some g) => (h.opn.own hg).2)))
  have HNX : Hid (w.heap.size ≠ p ∧ w.heap.size ≠ k.sb ∧ ov.ownBlock ≠ some w.heap.size ∧ w.heap.size + 1 ≠ p ∧ w.heap.size + 1 ≠ k.sb ∧ ov.ownBlock ≠ some (w.heap.size + 1)) := Lib.hid ⟨by have := HLT.out.1; omega, by have := HLT.out.2.1; omega, fun e => by have := HLT.out.2.2 _ e; omega, by have := HLT.out.1; omega, by have := HLT.out.2.1; omega, fun e => by have := HLT.out.2.2 _ e; omega⟩
  clear h hm
  go_enter Try.func71, Try.ntmps71
  go_upto_region 1 with fail
  generalize World.alloc (World.alloc w _) _ = W at HX HK HM HB HFR HI HS ⊢
  have c0 := HI.out.cell 0 (.int .i64 29) rfl
  have c1 := HI.out.cell 1 (.int .i64 (an : Int)) rfl
  have c2 := HI.out.cell 2 (.int .i64 (bn : Int)) rfl
  have d0 := HS.out.cell 0 (.int .i64 D) rfl
  have d1 := HS.out.cell 1 (.slice mo MN mc) rfl
  have HH := Lib.hid (last_c ⟨D, ms⟩ 28 (.slice mo MN mc) W _ HM.out (Nat.le_trans HL.out (by decide)))
  cases hany : (lastK 28 ⟨D, ms⟩)
  · have HLV := Lib.hid (show leaves ⟨29, (an : Int), (bn : Int)⟩ at_ ⟨D, ms⟩ = none by rw [leaves_29, hany]; rfl)
    rw [hany] at HH
    clear hany
    go_wp2_with fail
    refine HH.out.mono ?_
    rintro e w1 ⟨rfl, hb1⟩
    have HRES := Lib.hid (show LeaveRes B p k ov A O ⟨29, an, bn⟩ at_ ⟨D, ms⟩ w (.returned (.bool false)) w1 from .inr ⟨.inl HLV.out, rfl, HB.out.trans (HK.out.bel (Fr.of hb1))⟩)
    clear hb1
    go_wp2_with fail
    go_ret
    exact HRES.out
  · have HLV := Lib.hid (show leaves ⟨29, (an : Int), (bn : Int)⟩ at_ ⟨D, ms⟩ = some [(at_ + 1, ⟨D, ms.dropLast⟩)] by rw [leaves_29, hany]; rfl)
    have HNE : Hid (ms ≠ []) := Lib.hid (fun e => by rw [e] at hany; unfold lastK at hany; simp at hany)
    rw [hany] at HH
    clear hany
    go_wp2_with fail
    refine HH.out.mono ?_
    rintro e w1 ⟨rfl, hb1⟩
    have HFR1 := Lib.hid (HFR.out.trans (Fr.of hb1))
    have HB1 := Lib.hid (HB.out.trans (HK.out.bel (Fr.of hb1)))
    have HK1 := Lib.hid (HK.out.keep hb1)
    have HM1 := Lib.hid (HM.out.mv (Mv.low hb1))
    have HI1 := Lib.hid (HI.out.keep hb1)
    have HS1 := Lib.hid (HS.out.keep hb1)
    clear hb1 c0 c1 c2 d0 d1 HFR HB HK HM HI HS HX
    have c0 := HI1.out.cell 0 (.int .i64 29) rfl
    have d0 := HS1.out.cell 0 (.int .i64 D) rfl
    have d1 := HS1.out.cell 1 (.slice mo MN mc) rfl
    go_wp2_with fail
    refine (without_c ⟨D, ms⟩ (.slice mo MN mc) w1 _ HM1.out HNE.out (Nat.le_trans HL.out (by decide))).mono ?_
    rintro e w3 ⟨mv3, rfl, hm3, hb3⟩
    have HM3 := Lib.hid hm3
    have HK3 := Lib.hid (HK1.out.keep hb3)
    have HF3 := Lib.hid (HFR1.out.trans (Fr.of hb3))
    have HB3 := Lib.hid (HB1.out.trans (HK1.out.bel (Fr.of hb3)))
    clear hm3 hb3
    go_wp2_with fail
    refine (reach_z B w3 p k ov A O (at_ + 1, ⟨D, ms.dropLast⟩) mv3 _ HZ.out HK3.out HM3.out hd0 (by have := HL.out; simp; omega) (Nat.le_trans hO (by decide)) hN).mono ?_
    rintro e w4 hres
    have HRES := Lib.hid (show LeaveRes B p k ov A O ⟨29, an, bn⟩ at_ ⟨D, ms⟩ w e w4 from one_yes HK3.out HLV.out HF3.out HB3.out hres)
    rcases hres with ⟨A2, ov2, _, rfl, _, _⟩ | ⟨_, rfl, _⟩
    · go_wp2_with fail
      go_ret
      exact HRES.out
    · go_wp2_with fail
      go_ret
      exact HRES.out
theorem leaves_else {op : Int} {an bn at_ : Nat} {t : Sx} (hop : op ∉ ([14, 15, 23, 30, 16, 17, 18, 21, 28, 26, 22, 27, 29] : List Int)) : leaves ⟨op, (an : Int), (bn : Int)⟩ at_ t = some [(at_ + 1, t)] := by
  simp only [List.mem_cons, List.not_mem_nil, or_false, not_or] at hop
  simp [leaves, hop]
set_option maxHeartbeats 8000000 in
theorem leave_else (B : Nat) (w : World) (p : Nat) (k : WC) (ov : Value) (A : Row) (O : List Nat) (at_ : Nat) (op : Int) (an bn : Nat) (D : Int) (ms : List Mk) (mv : Value) (h : WK B w p k ov A O) (hm : RowM TM w (Sm p k.sb ov) mv ms) (hd0 : 0 ≤ D) (hd1 : D ≤ 100000) (hl : ms.length ≤ 900000) (hO : O.length ≤ 90000) (hN : k.N ≤ 1000000) (hat : at_ ≤ 1000000) (hop : op ∉ ([14, 15, 23, 30, 16, 17, 18, 21, 28, 26, 22, 27, 29] : List Int)) :
    Calls Try.prog 71 #[.pointer (some ⟨p, 0, none⟩), .int .i64 (at_ : Int), .agg #[.int .i64 op, .int .i64 (an : Int), .int .i64 (bn : Int)], .agg #[.int .i64 D, mv]] w (LeaveRes B p k ov A O ⟨op, an, bn⟩ at_ ⟨D, ms⟩ w) := by
  obtain ⟨mo, mc, rfl, _⟩ := hm.val
  obtain ⟨MN, hMN⟩ : ∃ n, Hid (ms.length = n) := ⟨_, Lib.hid rfl⟩
  have HL := Lib.hid hl
  rw [hMN.out] at hm hl ⊢
  have hz : ((at_ : Int) + 1) = ((at_ + 1 : Nat) : Int) := by omega
  have HZ := Lib.hid hz
  clear hz
  have i0 : (0 : Int) ≤ (at_ : Int) := by omega
  have i1 : (at_ : Int) ≤ 1000000 := by omega
  have HX := Lib.hid (bnext (balloc w (.cells #[.int .i64 op, .int .i64 (an : Int), .int .i64 (bn : Int)] 45)) (balloc _ (.cells #[.int .i64 D, .slice mo MN mc] 72)))
  have HK := Lib.hid (h.keep HX.out)
  have HM := Lib.hid (hm.mv (Mv.low HX.out))
  have HB := Lib.hid (h.bel (Fr.of HX.out))
  have HFR : Hid (Fr p k.sb ov ov w _) := Lib.hid (Fr.of HX.out)
  have HI := Lib.hid ((Bk.new w #[.int .i64 op, .int .i64 (an : Int), .int .i64 (bn : Int)] 45).alloc (.cells #[.int .i64 D, .slice mo MN mc] 72))
  have HS := Lib.hid (Bk.new (w.alloc (.cells #[.int .i64 op, .int .i64 (an : Int), .int .i64 (bn : Int)] 45)) #[.int .i64 D, .slice mo MN mc] 72)
  rw [World.size_alloc] at HS
  have HLT := Lib.hid (And.intro h.blk.lt (And.intro h.sts.lt (fun g (hg : ov.ownBlock = some g) => (h.opn.own hg).2)))
  have HNX : Hid (w.heap.size ≠ p ∧ w.heap.size ≠ k.sb ∧ ov.ownBlock ≠ some w.heap.size ∧ w.heap.size + 1 ≠ p ∧ w.heap.size + 1 ≠ k.sb ∧ ov.ownBlock ≠ some (w.heap.size + 1)) := Lib.hid ⟨by have := HLT.out.1; omega, by have := HLT.out.2.1; omega, fun e => by have := HLT.out.2.2 _ e; omega, by have := HLT.out.1; omega, by have := HLT.out.2.1; omega, fun e => by have := HLT.out.2.2 _ e; omega⟩
  have HLV := Lib.hid (leaves_else (an := an) (bn := bn) (at_ := at_) (t := ⟨D, ms⟩) hop)
  have n14 : (op == 14) = false := by simp only [List.mem_cons, List.not_mem_nil, or_false, not_or] at hop; simp [hop]
  have n15 : (op == 15) = false := by simp only [List.mem_cons, List.not_mem_nil, or_false, not_or] at hop; simp [hop]
  have n23 : (op == 23) = false := by simp only [List.mem_cons, List.not_mem_nil, or_false, not_or] at hop; simp [hop]
  have n30 : (op == 30) = false := by simp only [List.mem_cons, List.not_mem_nil, or_false, not_or] at hop; simp [hop]
  have n16 : (op == 16) = false := by simp only [List.mem_cons, List.not_mem_nil, or_false, not_or] at hop; simp [hop]
  have n17 : (op == 17) = false := by simp only [List.mem_cons, List.not_mem_nil, or_false, not_or] at hop; simp [hop]
  have n18 : (op == 18) = false := by simp only [List.mem_cons, List.not_mem_nil, or_false, not_or] at hop; simp [hop]
  have n21 : (op == 21) = false := by simp only [List.mem_cons, List.not_mem_nil, or_false, not_or] at hop; simp [hop]
  have n28 : (op == 28) = false := by simp only [List.mem_cons, List.not_mem_nil, or_false, not_or] at hop; simp [hop]
  have n26 : (op == 26) = false := by simp only [List.mem_cons, List.not_mem_nil, or_false, not_or] at hop; simp [hop]
  have n22 : (op == 22) = false := by simp only [List.mem_cons, List.not_mem_nil, or_false, not_or] at hop; simp [hop]
  have n27 : (op == 27) = false := by simp only [List.mem_cons, List.not_mem_nil, or_false, not_or] at hop; simp [hop]
  have n29 : (op == 29) = false := by simp only [List.mem_cons, List.not_mem_nil, or_false, not_or] at hop; simp [hop]
  clear h hm hop
  go_enter Try.func71, Try.ntmps71
  go_upto_region 1 with fail
  generalize World.alloc (World.alloc w _) _ = W at HX HK HM HB HFR HI HS ⊢
  have c0 := HI.out.cell 0 (.int .i64 op) rfl
  have c1 := HI.out.cell 1 (.int .i64 (an : Int)) rfl
  have c2 := HI.out.cell 2 (.int .i64 (bn : Int)) rfl
  have d0 := HS.out.cell 0 (.int .i64 D) rfl
  have d1 := HS.out.cell 1 (.slice mo MN mc) rfl
  go_wp2_with fail
  refine (reach_z B W p k ov A O (at_ + 1, ⟨D, ms⟩) (.slice mo MN mc) _ HZ.out HK.out HM.out hd0 (Nat.le_trans HL.out (by decide)) (Nat.le_trans hO (by decide)) hN).mono ?_
  rintro e w2 hres
  have HRES := Lib.hid (show LeaveRes B p k ov A O ⟨op, an, bn⟩ at_ ⟨D, ms⟩ w e w2 from one_yes HK.out HLV.out HFR.out HB.out hres)
  rcases hres with ⟨A2, ov2, _, rfl, _, _⟩ | ⟨_, rfl, _⟩
  · go_wp2_with fail
    go_ret
    exact HRES.out
  · go_wp2_with fail
    go_ret
    exact HRES.out
end Go.Proofs.Ytkhdkepjhifffaa.VF
