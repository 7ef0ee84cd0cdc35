/- A deed of both engines. -/
import Derived.Test.YtjoifodjbdbicaaZG
namespace Go.Proofs.Ytjoifodjbdbicaa.US
open Go.RowKit Go.Proofs.Ytjoifodjbdbicaa.RG Go.Proofs.Ytjoifodjbdbicaa.RB Go.Proofs.Ytjoifodjbdbicaa.RI Go.Proofs.Ytjoifodjbdbicaa.UA Go.Proofs.Ytjoifodjbdbicaa.UB Go.Proofs.Ytjoifodjbdbicaa.UC Go.Proofs.Ytjoifodjbdbicaa.UD Go.Proofs.Ytjoifodjbdbicaa.UE Go.Proofs.Ytjoifodjbdbicaa.UF Go.Proofs.Ytjoifodjbdbicaa.UG Go.Proofs.Ytjoifodjbdbicaa.UH Go.Proofs.Ytjoifodjbdbicaa.UI Go.Proofs.Ytjoifodjbdbicaa.UJ Go.Proofs.Ytjoifodjbdbicaa.UK Go.Proofs.Ytjoifodjbdbicaa.UL Go.Proofs.Ytjoifodjbdbicaa.UM Go.Proofs.Ytjoifodjbdbicaa.UN Go.Proofs.Ytjoifodjbdbicaa.UO Go.Proofs.Ytjoifodjbdbicaa.UP Go.Proofs.Ytjoifodjbdbicaa.UQ Go.Proofs.Ytjoifodjbdbicaa.UR
set_option linter.unusedVariables false
set_option maxRecDepth 100000
set_option maxRecDepth 100000

variable {TP : World → (Nat → Prop) → Nat → Eg → Prop} {w W W' : World} {F0 G0 : Nat → Prop} {C p r X : Nat} {F G : Nat → Prop} {d : Dd} {E E' : Eg} {a0 a1 b0 b1 : Int}
theorem st_fin (hP : PT TP) (S : St TP w W F0 G0 C p r X F G d E E' a0 a1 b0 b1) (ho : OnS (fun b => b = X + 1 ∨ b = X + 2) W W') (xw : w.heap.size ≤ X) : (∃ F' G', TP W' F' p E ∧ DE W' G' r E' ∧ (∀ b, F' b → C ≤ b ∧ ¬ G' b) ∧ (∀ b, G' b → C ≤ b) ∧ Gr w F0 F' ∧ Gr w G0 G') ∧ OnS (fun b => F0 b ∨ G0 b) w W' ∧ Below C w W' := by
  have hsz := S.sz
  have hcx := S.cx
  exact ⟨⟨F, G, hP.on S.tp ho (fun b hb e => by have := S.fx b hb; omega), S.de.on ho (fun b hb e => by have := S.gx b hb; omega), S.ap, S.gc, S.gf, S.gg⟩, S.on.next ho (fun b e => .inr (by rcases e with e | e <;> omega)), S.be.trans (ho.below (by omega) (fun b e => by rcases e with e | e <;> omega))⟩
theorem deed_0 (E : Eg) (t n v : Int) : deedR E ⟨0, t, n, v⟩ = ((beginR E t).1, 0, (beginR E t).2) := by unfold deedR; rw [if_pos rfl]
theorem deed_1 (E : Eg) (t n v : Int) : deedR E ⟨1, t, n, v⟩ = readR E t n := by unfold deedR; rw [if_neg (show ¬ (1 : Int) = 0 by decide)]; rw [if_pos rfl]
theorem deed_2 (E : Eg) (t n v : Int) : deedR E ⟨2, t, n, v⟩ = ((writeR E t n v).1, 0, (writeR E t n v).2) := by unfold deedR; rw [if_neg (show ¬ (2 : Int) = 0 by decide)]; rw [if_neg (show ¬ (2 : Int) = 1 by decide)]; rw [if_pos rfl]
theorem deed_3 (E : Eg) (t n v : Int) : deedR E ⟨3, t, n, v⟩ = stepR E t := by unfold deedR; rw [if_neg (show ¬ (3 : Int) = 0 by decide)]; rw [if_neg (show ¬ (3 : Int) = 1 by decide)]; rw [if_neg (show ¬ (3 : Int) = 2 by decide)]; rw [if_pos rfl]
theorem deed_4 (E : Eg) (t n v : Int) : deedR E ⟨4, t, n, v⟩ = ((partR E t).1, 0, (partR E t).2) := by unfold deedR; rw [if_neg (show ¬ (4 : Int) = 0 by decide)]; rw [if_neg (show ¬ (4 : Int) = 1 by decide)]; rw [if_neg (show ¬ (4 : Int) = 2 by decide)]; rw [if_neg (show ¬ (4 : Int) = 3 by decide)]; rw [if_pos rfl]
theorem deed_5 (E : Eg) (t n v : Int) : deedR E ⟨5, t, n, v⟩ = ((shutR E t true).1, 0, (shutR E t true).2) := by unfold deedR; rw [if_neg (show ¬ (5 : Int) = 0 by decide)]; rw [if_neg (show ¬ (5 : Int) = 1 by decide)]; rw [if_neg (show ¬ (5 : Int) = 2 by decide)]; rw [if_neg (show ¬ (5 : Int) = 3 by decide)]; rw [if_neg (show ¬ (5 : Int) = 4 by decide)]; rw [if_pos rfl]
theorem deed_6 (E : Eg) (t n v : Int) : deedR E ⟨6, t, n, v⟩ = ((shutR E t false).1, 0, (shutR E t false).2) := by unfold deedR; rw [if_neg (show ¬ (6 : Int) = 0 by decide)]; rw [if_neg (show ¬ (6 : Int) = 1 by decide)]; rw [if_neg (show ¬ (6 : Int) = 2 by decide)]; rw [if_neg (show ¬ (6 : Int) = 3 by decide)]; rw [if_neg (show ¬ (6 : Int) = 4 by decide)]; rw [if_neg (show ¬ (6 : Int) = 5 by decide)]; rw [if_pos rfl]
theorem deed_7 (E : Eg) (t n v : Int) : deedR E ⟨7, t, n, v⟩ = ((abortR E t).1, 0, (abortR E t).2) := by unfold deedR; rw [if_neg (show ¬ (7 : Int) = 0 by decide)]; rw [if_neg (show ¬ (7 : Int) = 1 by decide)]; rw [if_neg (show ¬ (7 : Int) = 2 by decide)]; rw [if_neg (show ¬ (7 : Int) = 3 by decide)]; rw [if_neg (show ¬ (7 : Int) = 4 by decide)]; rw [if_neg (show ¬ (7 : Int) = 5 by decide)]; rw [if_neg (show ¬ (7 : Int) = 6 by decide)]; rw [if_pos rfl]
theorem deed_8 (E : Eg) (t n v : Int) : deedR E ⟨8, t, n, v⟩ = makeR E v := by unfold deedR; rw [if_neg (show ¬ (8 : Int) = 0 by decide)]; rw [if_neg (show ¬ (8 : Int) = 1 by decide)]; rw [if_neg (show ¬ (8 : Int) = 2 by decide)]; rw [if_neg (show ¬ (8 : Int) = 3 by decide)]; rw [if_neg (show ¬ (8 : Int) = 4 by decide)]; rw [if_neg (show ¬ (8 : Int) = 5 by decide)]; rw [if_neg (show ¬ (8 : Int) = 6 by decide)]; rw [if_neg (show ¬ (8 : Int) = 7 by decide)]; rw [if_pos rfl]
theorem deed_9 (E : Eg) (t n v : Int) : deedR E ⟨9, t, n, v⟩ = (E, 0, validR E t) := by unfold deedR; rw [if_neg (show ¬ (9 : Int) = 0 by decide)]; rw [if_neg (show ¬ (9 : Int) = 1 by decide)]; rw [if_neg (show ¬ (9 : Int) = 2 by decide)]; rw [if_neg (show ¬ (9 : Int) = 3 by decide)]; rw [if_neg (show ¬ (9 : Int) = 4 by decide)]; rw [if_neg (show ¬ (9 : Int) = 5 by decide)]; rw [if_neg (show ¬ (9 : Int) = 6 by decide)]; rw [if_neg (show ¬ (9 : Int) = 7 by decide)]; rw [if_neg (show ¬ (9 : Int) = 8 by decide)]; rw [if_pos rfl]
set_option maxHeartbeats 12800000 in
theorem does_f (hP : PT TP) (w : World) (C p r : Nat) (E : Eg) (F G : Nat → Prop) (h1 : TP w F p E) (h2 : DE w G r E) (h3 : ∀ b, F b → C ≤ b ∧ ¬ G b) (h4 : ∀ b, G b → C ≤ b) (h5 : C ≤ w.heap.size) (m : Nat) (HW : Wg m E) (hm : m ≤ 1000) (k t n v : Int) (bt : B64 t) (bn : B64 n) (bv : B64 v) :
    Calls Try.prog 11 #[.pointer (some ⟨p, 0, none⟩), .pointer (some ⟨r, 0, none⟩), .agg #[.int .i64 k, .int .i64 t, .int .i64 n, .int .i64 v]] w fun e w' => e = .returned (.tuple #[.agg #[.int .i64 (deedR E ⟨k, t, n, v⟩).2.1, .int .i64 (deedR E ⟨k, t, n, v⟩).2.2], .agg #[.int .i64 (deedR E ⟨k, t, n, v⟩).2.1, .int .i64 (deedR E ⟨k, t, n, v⟩).2.2]]) ∧ (∃ F' G', TP w' F' p (deedR E ⟨k, t, n, v⟩).1 ∧ DE w' G' r (deedR E ⟨k, t, n, v⟩).1 ∧ (∀ b, F' b → C ≤ b ∧ ¬ G' b) ∧ (∀ b, G' b → C ≤ b) ∧ Gr w F F' ∧ Gr w G G') ∧ OnS (fun b => F b ∨ G b) w w' ∧ Below C w w' := by
  have S0 := Lib.hid (st_begin hP h1 h2 h3 h4 h5 ⟨k, t, n, v⟩)
  have HW := Lib.hid HW
  have hm1 := Lib.hid hm
  have hm2 := Lib.hid (show m ≤ 1000000 by omega)
  have HPP := Lib.hid hP
  have hX0 := S0.out.sz
  obtain ⟨X, hX⟩ : ∃ X, Hid (w.heap.size = X) := ⟨_, Lib.hid rfl⟩
  clear h1 h2 h3 h4 h5 hP hm
  go_enter Try.func11, Try.ntmps11
  by_cases k0 : k = 0
  · skip
    subst k0
    have hd0 := deed_0 E t n v
    obtain ⟨⟨M1, M2⟩, hM⟩ : ∃ x, beginR E t = x := ⟨_, rfl⟩
    have HA := Lib.hid (HPP.out.begin_ S0.out.tp HW.out hm1.out t bt)
    have HB := Lib.hid (fun w1 (h : DE w1 G r E) => rbegin_c w1 G r E h HW.out.wf.th t)
    simp only [hM] at HA HB hd0
    have HDD := Lib.hid hd0
    clear hM hd0
    go_wp2_with fail
    refine HA.out.mono ?_
    rintro e w1 ⟨rfl, ho, F', ht, hg⟩
    have S1 := Lib.hid (S0.out.callp ho ht hg)
    clear ho ht hg
    rw [hX.out] at S1
    have S2 := Lib.hid (S1.out.putA1 HPP.out M2)
    have g31 := S1.out.k3.cell 1 _ rfl
    have l31 := S1.out.k3.free 1
    have y1 : (w1.setCell ⟨X + 3, 1, none⟩ (.int .i64 M2)).cell? ⟨X, 1, none⟩ = some (.int .i64 t) := S2.out.kd.cell 1 _ rfl
    have y2 : (w1.setCell ⟨X + 3, 1, none⟩ (.int .i64 M2)).cell? ⟨X, 2, none⟩ = some (.int .i64 n) := S2.out.kd.cell 2 _ rfl
    have y3 : (w1.setCell ⟨X + 3, 1, none⟩ (.int .i64 M2)).cell? ⟨X, 3, none⟩ = some (.int .i64 v) := S2.out.kd.cell 3 _ rfl
    rw [hX.out]
    go_wp2_with fail
    refine (HB.out _ S2.out.de).mono ?_
    rintro e w2 ⟨rfl, ho, hd⟩
    have S3 := Lib.hid (S2.out.callr HPP.out ho hd (Gr.refl _ _))
    clear ho hd
    have S4 := Lib.hid (S3.out.putB1 HPP.out M2)
    have g41 := S3.out.k4.cell 1 _ rfl
    have l41 := S3.out.k4.free 1
    go_wp2_with fail
    obtain ⟨W, hW⟩ : ∃ x, w2.setCell ⟨X + 4, 1, none⟩ (.int .i64 M2) = x := ⟨_, rfl⟩
    have st := S4.out
    rw [hW] at st ⊢
    have HS := Lib.hid st
    have HC0 := Lib.hid (show (W).drew.cell? ⟨X + 3, 0, none⟩ = some (.int .i64 0) ∧ (W).drew.cell? ⟨X + 3, 1, none⟩ = some (.int .i64 M2) ∧ (W).drew.cell? ⟨X + 4, 0, none⟩ = some (.int .i64 0) ∧ (W).drew.cell? ⟨X + 4, 1, none⟩ = some (.int .i64 M2) from ⟨st.k3.drew.cell 0 _ rfl, st.k3.drew.cell 1 _ rfl, st.k4.drew.cell 0 _ rfl, st.k4.drew.cell 1 _ rfl⟩)
    have HC1 := Lib.hid (show (((W).setCell ⟨X + 1, 0, none⟩ (.int .i64 0)).setCell ⟨X + 1, 1, none⟩ (.int .i64 M2)).drew.cell? ⟨X + 3, 0, none⟩ = some (.int .i64 0) ∧ (((W).setCell ⟨X + 1, 0, none⟩ (.int .i64 0)).setCell ⟨X + 1, 1, none⟩ (.int .i64 M2)).drew.cell? ⟨X + 3, 1, none⟩ = some (.int .i64 M2) ∧ (((W).setCell ⟨X + 1, 0, none⟩ (.int .i64 0)).setCell ⟨X + 1, 1, none⟩ (.int .i64 M2)).drew.cell? ⟨X + 4, 0, none⟩ = some (.int .i64 0) ∧ (((W).setCell ⟨X + 1, 0, none⟩ (.int .i64 0)).setCell ⟨X + 1, 1, none⟩ (.int .i64 M2)).drew.cell? ⟨X + 4, 1, none⟩ = some (.int .i64 M2) from ⟨((st.k3.other (by omega) (b' := X + 1) 0 (.int .i64 0)).other (by omega) (b' := X + 1) 1 (.int .i64 M2)).drew.cell 0 _ rfl, ((st.k3.other (by omega) (b' := X + 1) 0 (.int .i64 0)).other (by omega) (b' := X + 1) 1 (.int .i64 M2)).drew.cell 1 _ rfl, ((st.k4.other (by omega) (b' := X + 1) 0 (.int .i64 0)).other (by omega) (b' := X + 1) 1 (.int .i64 M2)).drew.cell 0 _ rfl, ((st.k4.other (by omega) (b' := X + 1) 0 (.int .i64 0)).other (by omega) (b' := X + 1) 1 (.int .i64 M2)).drew.cell 1 _ rfl⟩)
    have HC2 := Lib.hid (show (((W).setCell ⟨X + 2, 0, none⟩ (.int .i64 0)).setCell ⟨X + 2, 1, none⟩ (.int .i64 M2)).drew.cell? ⟨X + 3, 0, none⟩ = some (.int .i64 0) ∧ (((W).setCell ⟨X + 2, 0, none⟩ (.int .i64 0)).setCell ⟨X + 2, 1, none⟩ (.int .i64 M2)).drew.cell? ⟨X + 3, 1, none⟩ = some (.int .i64 M2) ∧ (((W).setCell ⟨X + 2, 0, none⟩ (.int .i64 0)).setCell ⟨X + 2, 1, none⟩ (.int .i64 M2)).drew.cell? ⟨X + 4, 0, none⟩ = some (.int .i64 0) ∧ (((W).setCell ⟨X + 2, 0, none⟩ (.int .i64 0)).setCell ⟨X + 2, 1, none⟩ (.int .i64 M2)).drew.cell? ⟨X + 4, 1, none⟩ = some (.int .i64 M2) from ⟨((st.k3.other (by omega) (b' := X + 2) 0 (.int .i64 0)).other (by omega) (b' := X + 2) 1 (.int .i64 M2)).drew.cell 0 _ rfl, ((st.k3.other (by omega) (b' := X + 2) 0 (.int .i64 0)).other (by omega) (b' := X + 2) 1 (.int .i64 M2)).drew.cell 1 _ rfl, ((st.k4.other (by omega) (b' := X + 2) 0 (.int .i64 0)).other (by omega) (b' := X + 2) 1 (.int .i64 M2)).drew.cell 0 _ rfl, ((st.k4.other (by omega) (b' := X + 2) 0 (.int .i64 0)).other (by omega) (b' := X + 2) 1 (.int .i64 M2)).drew.cell 1 _ rfl⟩)
    have HC3 := Lib.hid (show (((((W).setCell ⟨X + 1, 0, none⟩ (.int .i64 0)).setCell ⟨X + 1, 1, none⟩ (.int .i64 M2)).setCell ⟨X + 2, 0, none⟩ (.int .i64 0)).setCell ⟨X + 2, 1, none⟩ (.int .i64 M2)).drew.cell? ⟨X + 3, 0, none⟩ = some (.int .i64 0) ∧ (((((W).setCell ⟨X + 1, 0, none⟩ (.int .i64 0)).setCell ⟨X + 1, 1, none⟩ (.int .i64 M2)).setCell ⟨X + 2, 0, none⟩ (.int .i64 0)).setCell ⟨X + 2, 1, none⟩ (.int .i64 M2)).drew.cell? ⟨X + 3, 1, none⟩ = some (.int .i64 M2) ∧ (((((W).setCell ⟨X + 1, 0, none⟩ (.int .i64 0)).setCell ⟨X + 1, 1, none⟩ (.int .i64 M2)).setCell ⟨X + 2, 0, none⟩ (.int .i64 0)).setCell ⟨X + 2, 1, none⟩ (.int .i64 M2)).drew.cell? ⟨X + 4, 0, none⟩ = some (.int .i64 0) ∧ (((((W).setCell ⟨X + 1, 0, none⟩ (.int .i64 0)).setCell ⟨X + 1, 1, none⟩ (.int .i64 M2)).setCell ⟨X + 2, 0, none⟩ (.int .i64 0)).setCell ⟨X + 2, 1, none⟩ (.int .i64 M2)).drew.cell? ⟨X + 4, 1, none⟩ = some (.int .i64 M2) from ⟨((((st.k3.other (by omega) (b' := X + 1) 0 (.int .i64 0)).other (by omega) (b' := X + 1) 1 (.int .i64 M2)).other (by omega) (b' := X + 2) 0 (.int .i64 0)).other (by omega) (b' := X + 2) 1 (.int .i64 M2)).drew.cell 0 _ rfl, ((((st.k3.other (by omega) (b' := X + 1) 0 (.int .i64 0)).other (by omega) (b' := X + 1) 1 (.int .i64 M2)).other (by omega) (b' := X + 2) 0 (.int .i64 0)).other (by omega) (b' := X + 2) 1 (.int .i64 M2)).drew.cell 1 _ rfl, ((((st.k4.other (by omega) (b' := X + 1) 0 (.int .i64 0)).other (by omega) (b' := X + 1) 1 (.int .i64 M2)).other (by omega) (b' := X + 2) 0 (.int .i64 0)).other (by omega) (b' := X + 2) 1 (.int .i64 M2)).drew.cell 0 _ rfl, ((((st.k4.other (by omega) (b' := X + 1) 0 (.int .i64 0)).other (by omega) (b' := X + 1) 1 (.int .i64 M2)).other (by omega) (b' := X + 2) 0 (.int .i64 0)).other (by omega) (b' := X + 2) 1 (.int .i64 M2)).drew.cell 1 _ rfl⟩)
    have HC4 := Lib.hid (show (((((W).setCell ⟨X + 2, 0, none⟩ (.int .i64 0)).setCell ⟨X + 2, 1, none⟩ (.int .i64 M2)).setCell ⟨X + 1, 0, none⟩ (.int .i64 0)).setCell ⟨X + 1, 1, none⟩ (.int .i64 M2)).drew.cell? ⟨X + 3, 0, none⟩ = some (.int .i64 0) ∧ (((((W).setCell ⟨X + 2, 0, none⟩ (.int .i64 0)).setCell ⟨X + 2, 1, none⟩ (.int .i64 M2)).setCell ⟨X + 1, 0, none⟩ (.int .i64 0)).setCell ⟨X + 1, 1, none⟩ (.int .i64 M2)).drew.cell? ⟨X + 3, 1, none⟩ = some (.int .i64 M2) ∧ (((((W).setCell ⟨X + 2, 0, none⟩ (.int .i64 0)).setCell ⟨X + 2, 1, none⟩ (.int .i64 M2)).setCell ⟨X + 1, 0, none⟩ (.int .i64 0)).setCell ⟨X + 1, 1, none⟩ (.int .i64 M2)).drew.cell? ⟨X + 4, 0, none⟩ = some (.int .i64 0) ∧ (((((W).setCell ⟨X + 2, 0, none⟩ (.int .i64 0)).setCell ⟨X + 2, 1, none⟩ (.int .i64 M2)).setCell ⟨X + 1, 0, none⟩ (.int .i64 0)).setCell ⟨X + 1, 1, none⟩ (.int .i64 M2)).drew.cell? ⟨X + 4, 1, none⟩ = some (.int .i64 M2) from ⟨((((st.k3.other (by omega) (b' := X + 2) 0 (.int .i64 0)).other (by omega) (b' := X + 2) 1 (.int .i64 M2)).other (by omega) (b' := X + 1) 0 (.int .i64 0)).other (by omega) (b' := X + 1) 1 (.int .i64 M2)).drew.cell 0 _ rfl, ((((st.k3.other (by omega) (b' := X + 2) 0 (.int .i64 0)).other (by omega) (b' := X + 2) 1 (.int .i64 M2)).other (by omega) (b' := X + 1) 0 (.int .i64 0)).other (by omega) (b' := X + 1) 1 (.int .i64 M2)).drew.cell 1 _ rfl, ((((st.k4.other (by omega) (b' := X + 2) 0 (.int .i64 0)).other (by omega) (b' := X + 2) 1 (.int .i64 M2)).other (by omega) (b' := X + 1) 0 (.int .i64 0)).other (by omega) (b' := X + 1) 1 (.int .i64 M2)).drew.cell 0 _ rfl, ((((st.k4.other (by omega) (b' := X + 2) 0 (.int .i64 0)).other (by omega) (b' := X + 2) 1 (.int .i64 M2)).other (by omega) (b' := X + 1) 0 (.int .i64 0)).other (by omega) (b' := X + 1) 1 (.int .i64 M2)).drew.cell 1 _ rfl⟩)
    have u10 := st.k1.cell 0 _ rfl
    have u11 := st.k1.cell 1 _ rfl
    have u20 := st.k2.cell 0 _ rfl
    have u21 := st.k2.cell 1 _ rfl
    have v10 := st.k1.free 0
    have v11 := st.k1.free 1
    have v20 := st.k2.free 0
    have v21 := st.k2.free 1
    have HE1 := Lib.hid (show ∀ a b, OnS (fun x => x = X + 1 ∨ x = X + 2) W (((((W.setCell ⟨X + 1, 0, none⟩ a).setCell ⟨X + 1, 1, none⟩ b).setCell ⟨X + 2, 0, none⟩ a).setCell ⟨X + 2, 1, none⟩ b).drew) from fun a b => (((((OnS.cell _ _ _).weak fun x _ h => .inl h).trans ((OnS.cell _ _ _).weak fun x _ h => .inl h)).trans ((OnS.cell _ _ _).weak fun x _ h => .inr h)).trans ((OnS.cell _ _ _).weak fun x _ h => .inr h)).trans (OnS.of (bdr _)))
    have HE2 := Lib.hid (show ∀ a b, OnS (fun x => x = X + 1 ∨ x = X + 2) W (((((W.setCell ⟨X + 2, 0, none⟩ a).setCell ⟨X + 2, 1, none⟩ b).setCell ⟨X + 1, 0, none⟩ a).setCell ⟨X + 1, 1, none⟩ b).drew) from fun a b => (((((OnS.cell _ _ _).weak fun x _ h => .inr h).trans ((OnS.cell _ _ _).weak fun x _ h => .inr h)).trans ((OnS.cell _ _ _).weak fun x _ h => .inl h)).trans ((OnS.cell _ _ _).weak fun x _ h => .inl h)).trans (OnS.of (bdr _)))
    have q1 := ((((st.k1.set 0 (.int .i64 0)).set 1 (.int .i64 M2)).other (by omega) (b' := X + 2) 0 (.int .i64 0)).other (by omega) (b' := X + 2) 1 (.int .i64 M2))
    have q2 := (((st.k2.other (by omega) (b' := X + 1) 0 (.int .i64 0)).other (by omega) (b' := X + 1) 1 (.int .i64 M2)).set 0 (.int .i64 0)).set 1 (.int .i64 M2)
    have q3 := (((st.k1.other (by omega) (b' := X + 2) 0 (.int .i64 0)).other (by omega) (b' := X + 2) 1 (.int .i64 M2)).set 0 (.int .i64 0)).set 1 (.int .i64 M2)
    have q4 := ((((st.k2.set 0 (.int .i64 0)).set 1 (.int .i64 M2)).other (by omega) (b' := X + 1) 0 (.int .i64 0)).other (by omega) (b' := X + 1) 1 (.int .i64 M2))
    have HQA := Lib.hid (And.intro q1.drew q2.drew)
    have HQB := Lib.hid (And.intro q3.drew q4.drew)
    clear st hW S1 S2 S3 S4 q1 q2 q3 q4
    go_wp2_with fail
    go_region_held3 (fun w' => w'.cell? ⟨X + 3, 0, none⟩ = some (.int .i64 0) ∧ w'.cell? ⟨X + 3, 1, none⟩ = some (.int .i64 M2) ∧ w'.cell? ⟨X + 4, 0, none⟩ = some (.int .i64 0) ∧ w'.cell? ⟨X + 4, 1, none⟩ = some (.int .i64 M2)) (first | with_reducible exact HC0.out | with_reducible exact HC1.out | with_reducible exact HC2.out | with_reducible exact HC3.out | with_reducible exact HC4.out | go_keep) (fail)
    go_wp2_with fail
    have z10 : ((((W.setCell ⟨X + 1, 0, none⟩ (.int .i64 0)).setCell ⟨X + 1, 1, none⟩ (.int .i64 M2)).setCell ⟨X + 1 + 1, 0, none⟩ (.int .i64 0)).setCell ⟨X + 1 + 1, 1, none⟩ (.int .i64 M2)).drew.cell? ⟨X + 1, 0, none⟩ = some (.int .i64 0) := HQA.out.1.cell 0 _ rfl
    have z11 : ((((W.setCell ⟨X + 1, 0, none⟩ (.int .i64 0)).setCell ⟨X + 1, 1, none⟩ (.int .i64 M2)).setCell ⟨X + 1 + 1, 0, none⟩ (.int .i64 0)).setCell ⟨X + 1 + 1, 1, none⟩ (.int .i64 M2)).drew.cell? ⟨X + 1, 1, none⟩ = some (.int .i64 M2) := HQA.out.1.cell 1 _ rfl
    have z20 : ((((W.setCell ⟨X + 1, 0, none⟩ (.int .i64 0)).setCell ⟨X + 1, 1, none⟩ (.int .i64 M2)).setCell ⟨X + 1 + 1, 0, none⟩ (.int .i64 0)).setCell ⟨X + 1 + 1, 1, none⟩ (.int .i64 M2)).drew.cell? ⟨X + 1 + 1, 0, none⟩ = some (.int .i64 0) := HQA.out.2.cell 0 _ rfl
    have z21 : ((((W.setCell ⟨X + 1, 0, none⟩ (.int .i64 0)).setCell ⟨X + 1, 1, none⟩ (.int .i64 M2)).setCell ⟨X + 1 + 1, 0, none⟩ (.int .i64 0)).setCell ⟨X + 1 + 1, 1, none⟩ (.int .i64 M2)).drew.cell? ⟨X + 1 + 1, 1, none⟩ = some (.int .i64 M2) := HQA.out.2.cell 1 _ rfl
    have hf := st_fin HPP.out HS.out (HE1.out (.int .i64 0) (.int .i64 M2)) HS.out.xw
    refine bodyPost_ret (v := .tuple #[.agg #[.int .i64 0, .int .i64 M2], .agg #[.int .i64 0, .int .i64 M2]]) (by simp [results, Try.results11, go_sem, z10, z11, z20, z21]) rfl ?_
    rw [HDD.out]
    exact ⟨rfl, hf⟩
  · skip
    by_cases k1 : k = 1
    · skip
      subst k1
      have hd0 := deed_1 E t n v
      obtain ⟨⟨M1, M2, M3⟩, hM⟩ : ∃ x, readR E t n = x := ⟨_, rfl⟩
      have HA := Lib.hid (HPP.out.read S0.out.tp HW.out hm1.out t n bt bn)
      have HB := Lib.hid (fun w1 (h : DE w1 G r E) => rread_c w1 G r E h m HW.out.wf hm2.out t n)
      simp only [hM] at HA HB hd0
      have HDD := Lib.hid hd0
      clear hM hd0
      go_wp2_with fail
      refine HA.out.mono ?_
      rintro e w1 ⟨rfl, ho, F', ht, hg⟩
      have S1 := Lib.hid (S0.out.callp ho ht hg)
      clear ho ht hg
      rw [hX.out] at S1
      have T1 := Lib.hid (S1.out.putA0 HPP.out M2)
      have S2 := Lib.hid (T1.out.putA1 HPP.out M3)
      have g30 := S1.out.k3.cell 0 _ rfl
      have l30 := S1.out.k3.free 0
      have g31 := T1.out.k3.cell 1 _ rfl
      have l31 := T1.out.k3.free 1
      have y1 : ((w1.setCell ⟨X + 3, 0, none⟩ (.int .i64 M2)).setCell ⟨X + 3, 1, none⟩ (.int .i64 M3)).cell? ⟨X, 1, none⟩ = some (.int .i64 t) := S2.out.kd.cell 1 _ rfl
      have y2 : ((w1.setCell ⟨X + 3, 0, none⟩ (.int .i64 M2)).setCell ⟨X + 3, 1, none⟩ (.int .i64 M3)).cell? ⟨X, 2, none⟩ = some (.int .i64 n) := S2.out.kd.cell 2 _ rfl
      have y3 : ((w1.setCell ⟨X + 3, 0, none⟩ (.int .i64 M2)).setCell ⟨X + 3, 1, none⟩ (.int .i64 M3)).cell? ⟨X, 3, none⟩ = some (.int .i64 v) := S2.out.kd.cell 3 _ rfl
      rw [hX.out]
      go_wp2_with fail
      refine (HB.out _ S2.out.de).mono ?_
      rintro e w2 ⟨rfl, ho, G', hd, hg⟩
      have S3 := Lib.hid (S2.out.callr HPP.out ho hd hg)
      clear ho hd hg
      have T2 := Lib.hid (S3.out.putB0 HPP.out M2)
      have S4 := Lib.hid (T2.out.putB1 HPP.out M3)
      have g40 := S3.out.k4.cell 0 _ rfl
      have l40 := S3.out.k4.free 0
      have g41 := T2.out.k4.cell 1 _ rfl
      have l41 := T2.out.k4.free 1
      go_wp2_with fail
      obtain ⟨W, hW⟩ : ∃ x, (w2.setCell ⟨X + 4, 0, none⟩ (.int .i64 M2)).setCell ⟨X + 4, 1, none⟩ (.int .i64 M3) = x := ⟨_, rfl⟩
      have st := S4.out
      rw [hW] at st ⊢
      have HS := Lib.hid st
      have HC0 := Lib.hid (show (W).drew.cell? ⟨X + 3, 0, none⟩ = some (.int .i64 M2) ∧ (W).drew.cell? ⟨X + 3, 1, none⟩ = some (.int .i64 M3) ∧ (W).drew.cell? ⟨X + 4, 0, none⟩ = some (.int .i64 M2) ∧ (W).drew.cell? ⟨X + 4, 1, none⟩ = some (.int .i64 M3) from ⟨st.k3.drew.cell 0 _ rfl, st.k3.drew.cell 1 _ rfl, st.k4.drew.cell 0 _ rfl, st.k4.drew.cell 1 _ rfl⟩)
      have HC1 := Lib.hid (show (((W).setCell ⟨X + 1, 0, none⟩ (.int .i64 M2)).setCell ⟨X + 1, 1, none⟩ (.int .i64 M3)).drew.cell? ⟨X + 3, 0, none⟩ = some (.int .i64 M2) ∧ (((W).setCell ⟨X + 1, 0, none⟩ (.int .i64 M2)).setCell ⟨X + 1, 1, none⟩ (.int .i64 M3)).drew.cell? ⟨X + 3, 1, none⟩ = some (.int .i64 M3) ∧ (((W).setCell ⟨X + 1, 0, none⟩ (.int .i64 M2)).setCell ⟨X + 1, 1, none⟩ (.int .i64 M3)).drew.cell? ⟨X + 4, 0, none⟩ = some (.int .i64 M2) ∧ (((W).setCell ⟨X + 1, 0, none⟩ (.int .i64 M2)).setCell ⟨X + 1, 1, none⟩ (.int .i64 M3)).drew.cell? ⟨X + 4, 1, none⟩ = some (.int .i64 M3) from ⟨((st.k3.other (by omega) (b' := X + 1) 0 (.int .i64 M2)).other (by omega) (b' := X + 1) 1 (.int .i64 M3)).drew.cell 0 _ rfl, ((st.k3.other (by omega) (b' := X + 1) 0 (.int .i64 M2)).other (by omega) (b' := X + 1) 1 (.int .i64 M3)).drew.cell 1 _ rfl, ((st.k4.other (by omega) (b' := X + 1) 0 (.int .i64 M2)).other (by omega) (b' := X + 1) 1 (.int .i64 M3)).drew.cell 0 _ rfl, ((st.k4.other (by omega) (b' := X + 1) 0 (.int .i64 M2)).other (by omega) (b' := X + 1) 1 (.int .i64 M3)).drew.cell 1 _ rfl⟩)
      have HC2 := Lib.hid (show (((W).setCell ⟨X + 2, 0, none⟩ (.int .i64 M2)).setCell ⟨X + 2, 1, none⟩ (.int .i64 M3)).drew.cell? ⟨X + 3, 0, none⟩ = some (.int .i64 M2) ∧ (((W).setCell ⟨X + 2, 0, none⟩ (.int .i64 M2)).setCell ⟨X + 2, 1, none⟩ (.int .i64 M3)).drew.cell? ⟨X + 3, 1, none⟩ = some (.int .i64 M3) ∧ (((W).setCell ⟨X + 2, 0, none⟩ (.int .i64 M2)).setCell ⟨X + 2, 1, none⟩ (.int .i64 M3)).drew.cell? ⟨X + 4, 0, none⟩ = some (.int .i64 M2) ∧ (((W).setCell ⟨X + 2, 0, none⟩ (.int .i64 M2)).setCell ⟨X + 2, 1, none⟩ (.int .i64 M3)).drew.cell? ⟨X + 4, 1, none⟩ = some (.int .i64 M3) from ⟨((st.k3.other (by omega) (b' := X + 2) 0 (.int .i64 M2)).other (by omega) (b' := X + 2) 1 (.int .i64 M3)).drew.cell 0 _ rfl, ((st.k3.other (by omega) (b' := X + 2) 0 (.int .i64 M2)).other (by omega) (b' := X + 2) 1 (.int .i64 M3)).drew.cell 1 _ rfl, ((st.k4.other (by omega) (b' := X + 2) 0 (.int .i64 M2)).other (by omega) (b' := X + 2) 1 (.int .i64 M3)).drew.cell 0 _ rfl, ((st.k4.other (by omega) (b' := X + 2) 0 (.int .i64 M2)).other (by omega) (b' := X + 2) 1 (.int .i64 M3)).drew.cell 1 _ rfl⟩)
      have HC3 := Lib.hid (show (((((W).setCell ⟨X + 1, 0, none⟩ (.int .i64 M2)).setCell ⟨X + 1, 1, none⟩ (.int .i64 M3)).setCell ⟨X + 2, 0, none⟩ (.int .i64 M2)).setCell ⟨X + 2, 1, none⟩ (.int .i64 M3)).drew.cell? ⟨X + 3, 0, none⟩ = some (.int .i64 M2) ∧ (((((W).setCell ⟨X + 1, 0, none⟩ (.int .i64 M2)).setCell ⟨X + 1, 1, none⟩ (.int .i64 M3)).setCell ⟨X + 2, 0, none⟩ (.int .i64 M2)).setCell ⟨X + 2, 1, none⟩ (.int .i64 M3)).drew.cell? ⟨X + 3, 1, none⟩ = some (.int .i64 M3) ∧ (((((W).setCell ⟨X + 1, 0, none⟩ (.int .i64 M2)).setCell ⟨X + 1, 1, none⟩ (.int .i64 M3)).setCell ⟨X + 2, 0, none⟩ (.int .i64 M2)).setCell ⟨X + 2, 1, none⟩ (.int .i64 M3)).drew.cell? ⟨X + 4, 0, none⟩ = some (.int .i64 M2) ∧ (((((W).setCell ⟨X + 1, 0, none⟩ (.int .i64 M2)).setCell ⟨X + 1, 1, none⟩ (.int .i64 M3)).setCell ⟨X + 2, 0, none⟩ (.int .i64 M2)).setCell ⟨X + 2, 1, none⟩ (.int .i64 M3)).drew.cell? ⟨X + 4, 1, none⟩ = some (.int .i64 M3) from ⟨((((st.k3.other (by omega) (b' := X + 1) 0 (.int .i64 M2)).other (by omega) (b' := X + 1) 1 (.int .i64 M3)).other (by omega) (b' := X + 2) 0 (.int .i64 M2)).other (by omega) (b' := X + 2) 1 (.int .i64 M3)).drew.cell 0 _ rfl, ((((st.k3.other (by omega) (b' := X + 1) 0 (.int .i64 M2)).other (by omega) (b' := X + 1) 1 (.int .i64 M3)).other (by omega) (b' := X + 2) 0 (.int .i64 M2)).other (by omega) (b' := X + 2) 1 (.int .i64 M3)).drew.cell 1 _ rfl, ((((st.k4.other (by omega) (b' := X + 1) 0 (.int .i64 M2)).other (by omega) (b' := X + 1) 1 (.int .i64 M3)).other (by omega) (b' := X + 2) 0 (.int .i64 M2)).other (by omega) (b' := X + 2) 1 (.int .i64 M3)).drew.cell 0 _ rfl, ((((st.k4.other (by omega) (b' := X + 1) 0 (.int .i64 M2)).other (by omega) (b' := X + 1) 1 (.int .i64 M3)).other (by omega) (b' := X + 2) 0 (.int .i64 M2)).other (by omega) (b' := X + 2) 1 (.int .i64 M3)).drew.cell 1 _ rfl⟩)
      have HC4 := Lib.hid (show (((((W).setCell ⟨X + 2, 0, none⟩ (.int .i64 M2)).setCell ⟨X + 2, 1, none⟩ (.int .i64 M3)).setCell ⟨X + 1, 0, none⟩ (.int .i64 M2)).setCell ⟨X + 1, 1, none⟩ (.int .i64 M3)).drew.cell? ⟨X + 3, 0, none⟩ = some (.int .i64 M2) ∧ (((((W).setCell ⟨X + 2, 0, none⟩ (.int .i64 M2)).setCell ⟨X + 2, 1, none⟩ (.int .i64 M3)).setCell ⟨X + 1, 0, none⟩ (.int .i64 M2)).setCell ⟨X + 1, 1, none⟩ (.int .i64 M3)).drew.cell? ⟨X + 3, 1, none⟩ = some (.int .i64 M3) ∧ (((((W).setCell ⟨X + 2, 0, none⟩ (.int .i64 M2)).setCell ⟨X + 2, 1, none⟩ (.int .i64 M3)).setCell ⟨X + 1, 0, none⟩ (.int .i64 M2)).setCell ⟨X + 1, 1, none⟩ (.int .i64 M3)).drew.cell? ⟨X + 4, 0, none⟩ = some (.int .i64 M2) ∧ (((((W).setCell ⟨X + 2, 0, none⟩ (.int .i64 M2)).setCell ⟨X + 2, 1, none⟩ (.int .i64 M3)).setCell ⟨X + 1, 0, none⟩ (.int .i64 M2)).setCell ⟨X + 1, 1, none⟩ (.int .i64 M3)).drew.cell? ⟨X + 4, 1, none⟩ = some (.int .i64 M3) from ⟨((((st.k3.other (by omega) (b' := X + 2) 0 (.int .i64 M2)).other (by omega) (b' := X + 2) 1 (.int .i64 M3)).other (by omega) (b' := X + 1) 0 (.int .i64 M2)).other (by omega) (b' := X + 1) 1 (.int .i64 M3)).drew.cell 0 _ rfl, ((((st.k3.other (by omega) (b' := X + 2) 0 (.int .i64 M2)).other (by omega) (b' := X + 2) 1 (.int .i64 M3)).other (by omega) (b' := X + 1) 0 (.int .i64 M2)).other (by omega) (b' := X + 1) 1 (.int .i64 M3)).drew.cell 1 _ rfl, ((((st.k4.other (by omega) (b' := X + 2) 0 (.int .i64 M2)).other (by omega) (b' := X + 2) 1 (.int .i64 M3)).other (by omega) (b' := X + 1) 0 (.int .i64 M2)).other (by omega) (b' := X + 1) 1 (.int .i64 M3)).drew.cell 0 _ rfl, ((((st.k4.other (by omega) (b' := X + 2) 0 (.int .i64 M2)).other (by omega) (b' := X + 2) 1 (.int .i64 M3)).other (by omega) (b' := X + 1) 0 (.int .i64 M2)).other (by omega) (b' := X + 1) 1 (.int .i64 M3)).drew.cell 1 _ rfl⟩)
      have u10 := st.k1.cell 0 _ rfl
      have u11 := st.k1.cell 1 _ rfl
      have u20 := st.k2.cell 0 _ rfl
      have u21 := st.k2.cell 1 _ rfl
      have v10 := st.k1.free 0
      have v11 := st.k1.free 1
      have v20 := st.k2.free 0
      have v21 := st.k2.free 1
      have HE1 := Lib.hid (show ∀ a b, OnS (fun x => x = X + 1 ∨ x = X + 2) W (((((W.setCell ⟨X + 1, 0, none⟩ a).setCell ⟨X + 1, 1, none⟩ b).setCell ⟨X + 2, 0, none⟩ a).setCell ⟨X + 2, 1, none⟩ b).drew) from fun a b => (((((OnS.cell _ _ _).weak fun x _ h => .inl h).trans ((OnS.cell _ _ _).weak fun x _ h => .inl h)).trans ((OnS.cell _ _ _).weak fun x _ h => .inr h)).trans ((OnS.cell _ _ _).weak fun x _ h => .inr h)).trans (OnS.of (bdr _)))
      have HE2 := Lib.hid (show ∀ a b, OnS (fun x => x = X + 1 ∨ x = X + 2) W (((((W.setCell ⟨X + 2, 0, none⟩ a).setCell ⟨X + 2, 1, none⟩ b).setCell ⟨X + 1, 0, none⟩ a).setCell ⟨X + 1, 1, none⟩ b).drew) from fun a b => (((((OnS.cell _ _ _).weak fun x _ h => .inr h).trans ((OnS.cell _ _ _).weak fun x _ h => .inr h)).trans ((OnS.cell _ _ _).weak fun x _ h => .inl h)).trans ((OnS.cell _ _ _).weak fun x _ h => .inl h)).trans (OnS.of (bdr _)))
      have q1 := ((((st.k1.set 0 (.int .i64 M2)).set 1 (.int .i64 M3)).other (by omega) (b' := X + 2) 0 (.int .i64 M2)).other (by omega) (b' := X + 2) 1 (.int .i64 M3))
      have q2 := (((st.k2.other (by omega) (b' := X + 1) 0 (.int .i64 M2)).other (by omega) (b' := X + 1) 1 (.int .i64 M3)).set 0 (.int .i64 M2)).set 1 (.int .i64 M3)
      have q3 := (((st.k1.other (by omega) (b' := X + 2) 0 (.int .i64 M2)).other (by omega) (b' := X + 2) 1 (.int .i64 M3)).set 0 (.int .i64 M2)).set 1 (.int .i64 M3)
      have q4 := ((((st.k2.set 0 (.int .i64 M2)).set 1 (.int .i64 M3)).other (by omega) (b' := X + 1) 0 (.int .i64 M2)).other (by omega) (b' := X + 1) 1 (.int .i64 M3))
      have HQA := Lib.hid (And.intro q1.drew q2.drew)
      have HQB := Lib.hid (And.intro q3.drew q4.drew)
      clear st hW S1 S2 S3 S4 q1 q2 q3 q4
      go_wp2_with fail
      go_region_held3 (fun w' => w'.cell? ⟨X + 3, 0, none⟩ = some (.int .i64 M2) ∧ w'.cell? ⟨X + 3, 1, none⟩ = some (.int .i64 M3) ∧ w'.cell? ⟨X + 4, 0, none⟩ = some (.int .i64 M2) ∧ w'.cell? ⟨X + 4, 1, none⟩ = some (.int .i64 M3)) (first | with_reducible exact HC0.out | with_reducible exact HC1.out | with_reducible exact HC2.out | with_reducible exact HC3.out | with_reducible exact HC4.out | go_keep) (fail)
      go_wp2_with fail
      have z10 : ((((W.setCell ⟨X + 1, 0, none⟩ (.int .i64 M2)).setCell ⟨X + 1, 1, none⟩ (.int .i64 M3)).setCell ⟨X + 1 + 1, 0, none⟩ (.int .i64 M2)).setCell ⟨X + 1 + 1, 1, none⟩ (.int .i64 M3)).drew.cell? ⟨X + 1, 0, none⟩ = some (.int .i64 M2) := HQA.out.1.cell 0 _ rfl
      have z11 : ((((W.setCell ⟨X + 1, 0, none⟩ (.int .i64 M2)).setCell ⟨X + 1, 1, none⟩ (.int .i64 M3)).setCell ⟨X + 1 + 1, 0, none⟩ (.int .i64 M2)).setCell ⟨X + 1 + 1, 1, none⟩ (.int .i64 M3)).drew.cell? ⟨X + 1, 1, none⟩ = some (.int .i64 M3) := HQA.out.1.cell 1 _ rfl
      have z20 : ((((W.setCell ⟨X + 1, 0, none⟩ (.int .i64 M2)).setCell ⟨X + 1, 1, none⟩ (.int .i64 M3)).setCell ⟨X + 1 + 1, 0, none⟩ (.int .i64 M2)).setCell ⟨X + 1 + 1, 1, none⟩ (.int .i64 M3)).drew.cell? ⟨X + 1 + 1, 0, none⟩ = some (.int .i64 M2) := HQA.out.2.cell 0 _ rfl
      have z21 : ((((W.setCell ⟨X + 1, 0, none⟩ (.int .i64 M2)).setCell ⟨X + 1, 1, none⟩ (.int .i64 M3)).setCell ⟨X + 1 + 1, 0, none⟩ (.int .i64 M2)).setCell ⟨X + 1 + 1, 1, none⟩ (.int .i64 M3)).drew.cell? ⟨X + 1 + 1, 1, none⟩ = some (.int .i64 M3) := HQA.out.2.cell 1 _ rfl
      have hf := st_fin HPP.out HS.out (HE1.out (.int .i64 M2) (.int .i64 M3)) HS.out.xw
      refine bodyPost_ret (v := .tuple #[.agg #[.int .i64 M2, .int .i64 M3], .agg #[.int .i64 M2, .int .i64 M3]]) (by simp [results, Try.results11, go_sem, z10, z11, z20, z21]) rfl ?_
      rw [HDD.out]
      exact ⟨rfl, hf⟩
    · skip
      by_cases k2 : k = 2
      · skip
        subst k2
        have hd0 := deed_2 E t n v
        obtain ⟨⟨M1, M2⟩, hM⟩ : ∃ x, writeR E t n v = x := ⟨_, rfl⟩
        have HA := Lib.hid (HPP.out.write S0.out.tp HW.out hm1.out t n v bt bn bv)
        have HB := Lib.hid (fun w1 (h : DE w1 G r E) => rwrite_c w1 G r E h m HW.out.wf hm2.out t n v)
        simp only [hM] at HA HB hd0
        have HDD := Lib.hid hd0
        clear hM hd0
        go_wp2_with fail
        refine HA.out.mono ?_
        rintro e w1 ⟨rfl, ho, F', ht, hg⟩
        have S1 := Lib.hid (S0.out.callp ho ht hg)
        clear ho ht hg
        rw [hX.out] at S1
        have S2 := Lib.hid (S1.out.putA1 HPP.out M2)
        have g31 := S1.out.k3.cell 1 _ rfl
        have l31 := S1.out.k3.free 1
        have y1 : (w1.setCell ⟨X + 3, 1, none⟩ (.int .i64 M2)).cell? ⟨X, 1, none⟩ = some (.int .i64 t) := S2.out.kd.cell 1 _ rfl
        have y2 : (w1.setCell ⟨X + 3, 1, none⟩ (.int .i64 M2)).cell? ⟨X, 2, none⟩ = some (.int .i64 n) := S2.out.kd.cell 2 _ rfl
        have y3 : (w1.setCell ⟨X + 3, 1, none⟩ (.int .i64 M2)).cell? ⟨X, 3, none⟩ = some (.int .i64 v) := S2.out.kd.cell 3 _ rfl
        rw [hX.out]
        go_wp2_with fail
        refine (HB.out _ S2.out.de).mono ?_
        rintro e w2 ⟨rfl, ho, G', hd, hg⟩
        have S3 := Lib.hid (S2.out.callr HPP.out ho hd hg)
        clear ho hd hg
        have S4 := Lib.hid (S3.out.putB1 HPP.out M2)
        have g41 := S3.out.k4.cell 1 _ rfl
        have l41 := S3.out.k4.free 1
        go_wp2_with fail
        obtain ⟨W, hW⟩ : ∃ x, w2.setCell ⟨X + 4, 1, none⟩ (.int .i64 M2) = x := ⟨_, rfl⟩
        have st := S4.out
        rw [hW] at st ⊢
        have HS := Lib.hid st
        have HC0 := Lib.hid (show (W).drew.cell? ⟨X + 3, 0, none⟩ = some (.int .i64 0) ∧ (W).drew.cell? ⟨X + 3, 1, none⟩ = some (.int .i64 M2) ∧ (W).drew.cell? ⟨X + 4, 0, none⟩ = some (.int .i64 0) ∧ (W).drew.cell? ⟨X + 4, 1, none⟩ = some (.int .i64 M2) from ⟨st.k3.drew.cell 0 _ rfl, st.k3.drew.cell 1 _ rfl, st.k4.drew.cell 0 _ rfl, st.k4.drew.cell 1 _ rfl⟩)
        have HC1 := Lib.hid (show (((W).setCell ⟨X + 1, 0, none⟩ (.int .i64 0)).setCell ⟨X + 1, 1, none⟩ (.int .i64 M2)).drew.cell? ⟨X + 3, 0, none⟩ = some (.int .i64 0) ∧ (((W).setCell ⟨X + 1, 0, none⟩ (.int .i64 0)).setCell ⟨X + 1, 1, none⟩ (.int .i64 M2)).drew.cell? ⟨X + 3, 1, none⟩ = some (.int .i64 M2) ∧ (((W).setCell ⟨X + 1, 0, none⟩ (.int .i64 0)).setCell ⟨X + 1, 1, none⟩ (.int .i64 M2)).drew.cell? ⟨X + 4, 0, none⟩ = some (.int .i64 0) ∧ (((W).setCell ⟨X + 1, 0, none⟩ (.int .i64 0)).setCell ⟨X + 1, 1, none⟩ (.int .i64 M2)).drew.cell? ⟨X + 4, 1, none⟩ = some (.int .i64 M2) from ⟨((st.k3.other (by omega) (b' := X + 1) 0 (.int .i64 0)).other (by omega) (b' := X + 1) 1 (.int .i64 M2)).drew.cell 0 _ rfl, ((st.k3.other (by omega) (b' := X + 1) 0 (.int .i64 0)).other (by omega) (b' := X + 1) 1 (.int .i64 M2)).drew.cell 1 _ rfl, ((st.k4.other (by omega) (b' := X + 1) 0 (.int .i64 0)).other (by omega) (b' := X + 1) 1 (.int .i64 M2)).drew.cell 0 _ rfl, ((st.k4.other (by omega) (b' := X + 1) 0 (.int .i64 0)).other (by omega) (b' := X + 1) 1 (.int .i64 M2)).drew.cell 1 _ rfl⟩)
        have HC2 := Lib.hid (show (((W).setCell ⟨X + 2, 0, none⟩ (.int .i64 0)).setCell ⟨X + 2, 1, none⟩ (.int .i64 M2)).drew.cell? ⟨X + 3, 0, none⟩ = some (.int .i64 0) ∧ (((W).setCell ⟨X + 2, 0, none⟩ (.int .i64 0)).setCell ⟨X + 2, 1, none⟩ (.int .i64 M2)).drew.cell? ⟨X + 3, 1, none⟩ = some (.int .i64 M2) ∧ (((W).setCell ⟨X + 2, 0, none⟩ (.int .i64 0)).setCell ⟨X + 2, 1, none⟩ (.int .i64 M2)).drew.cell? ⟨X + 4, 0, none⟩ = some (.int .i64 0) ∧ (((W).setCell ⟨X + 2, 0, none⟩ (.int .i64 0)).setCell ⟨X + 2, 1, none⟩ (.int .i64 M2)).drew.cell? ⟨X + 4, 1, none⟩ = some (.int .i64 M2) from ⟨((st.k3.other (by omega) (b' := X + 2) 0 (.int .i64 0)).other (by omega) (b' := X + 2) 1 (.int .i64 M2)).drew.cell 0 _ rfl, ((st.k3.other (by omega) (b' := X + 2) 0 (.int .i64 0)).other (by omega) (b' := X + 2) 1 (.int .i64 M2)).drew.cell 1 _ rfl, ((st.k4.other (by omega) (b' := X + 2) 0 (.int .i64 0)).other (by omega) (b' := X + 2) 1 (.int .i64 M2)).drew.cell 0 _ rfl, ((st.k4.other (by omega) (b' := X + 2) 0 (.int .i64 0)).other (by omega) (b' := X + 2) 1 (.int .i64 M2)).drew.cell 1 _ rfl⟩)
        have HC3 := Lib.hid (show (((((W).setCell ⟨X + 1, 0, none⟩ (.int .i64 0)).setCell ⟨X + 1, 1, none⟩ (.int .i64 M2)).setCell ⟨X + 2, 0, none⟩ (.int .i64 0)).setCell ⟨X + 2, 1, none⟩ (.int .i64 M2)).drew.cell? ⟨X + 3, 0, none⟩ = some (.int .i64 0) ∧ (((((W).setCell ⟨X + 1, 0, none⟩ (.int .i64 0)).setCell ⟨X + 1, 1, none⟩ (.int .i64 M2)).setCell ⟨X + 2, 0, none⟩ (.int .i64 0)).setCell ⟨X + 2, 1, none⟩ (.int .i64 M2)).drew.cell? ⟨X + 3, 1, none⟩ = some (.int .i64 M2) ∧ (((((W).setCell ⟨X + 1, 0, none⟩ (.int .i64 0)).setCell ⟨X + 1, 1, none⟩ (.int .i64 M2)).setCell ⟨X + 2, 0, none⟩ (.int .i64 0)).setCell ⟨X + 2, 1, none⟩ (.int .i64 M2)).drew.cell? ⟨X + 4, 0, none⟩ = some (.int .i64 0) ∧ (((((W).setCell ⟨X + 1, 0, none⟩ (.int .i64 0)).setCell ⟨X + 1, 1, none⟩ (.int .i64 M2)).setCell ⟨X + 2, 0, none⟩ (.int .i64 0)).setCell ⟨X + 2, 1, none⟩ (.int .i64 M2)).drew.cell? ⟨X + 4, 1, none⟩ = some (.int .i64 M2) from ⟨((((st.k3.other (by omega) (b' := X + 1) 0 (.int .i64 0)).other (by omega) (b' := X + 1) 1 (.int .i64 M2)).other (by omega) (b' := X + 2) 0 (.int .i64 0)).other (by omega) (b' := X + 2) 1 (.int .i64 M2)).drew.cell 0 _ rfl, ((((st.k3.other (by omega) (b' := X + 1) 0 (.int .i64 0)).other (by omega) (b' := X + 1) 1 (.int .i64 M2)).other (by omega) (b' := X + 2) 0 (.int .i64 0)).other (by omega) (b' := X + 2) 1 (.int .i64 M2)).drew.cell 1 _ rfl, ((((st.k4.other (by omega) (b' := X + 1) 0 (.int .i64 0)).other (by omega) (b' := X + 1) 1 (.int .i64 M2)).other (by omega) (b' := X + 2) 0 (.int .i64 0)).other (by omega) (b' := X + 2) 1 (.int .i64 M2)).drew.cell 0 _ rfl, ((((st.k4.other (by omega) (b' := X + 1) 0 (.int .i64 0)).other (by omega) (b' := X + 1) 1 (.int .i64 M2)).other (by omega) (b' := X + 2) 0 (.int .i64 0)).other (by omega) (b' := X + 2) 1 (.int .i64 M2)).drew.cell 1 _ rfl⟩)
        have HC4 := Lib.hid (show (((((W).setCell ⟨X + 2, 0, none⟩ (.int .i64 0)).setCell ⟨X + 2, 1, none⟩ (.int .i64 M2)).setCell ⟨X + 1, 0, none⟩ (.int .i64 0)).setCell ⟨X + 1, 1, none⟩ (.int .i64 M2)).drew.cell? ⟨X + 3, 0, none⟩ = some (.int .i64 0) ∧ (((((W).setCell ⟨X + 2, 0, none⟩ (.int .i64 0)).setCell ⟨X + 2, 1, none⟩ (.int .i64 M2)).setCell ⟨X + 1, 0, none⟩ (.int .i64 0)).setCell ⟨X + 1, 1, none⟩ (.int .i64 M2)).drew.cell? ⟨X + 3, 1, none⟩ = some (.int .i64 M2) ∧ (((((W).setCell ⟨X + 2, 0, none⟩ (.int .i64 0)).setCell ⟨X + 2, 1, none⟩ (.int .i64 M2)).setCell ⟨X + 1, 0, none⟩ (.int .i64 0)).setCell ⟨X + 1, 1, none⟩ (.int .i64 M2)).drew.cell? ⟨X + 4, 0, none⟩ = some (.int .i64 0) ∧ (((((W).setCell ⟨X + 2, 0, none⟩ (.int .i64 0)).setCell ⟨X + 2, 1, none⟩ (.int .i64 M2)).setCell ⟨X + 1, 0, none⟩ (.int .i64 0)).setCell ⟨X + 1, 1, none⟩ (.int .i64 M2)).drew.cell? ⟨X + 4, 1, none⟩ = some (.int .i64 M2) from ⟨((((st.k3.other (by omega) (b' := X + 2) 0 (.int .i64 0)).other (by omega) (b' := X + 2) 1 (.int .i64 M2)).other (by omega) (b' := X + 1) 0 (.int .i64 0)).other (by omega) (b' := X + 1) 1 (.int .i64 M2)).drew.cell 0 _ rfl, ((((st.k3.other (by omega) (b' := X + 2) 0 (.int .i64 0)).other (by omega) (b' := X + 2) 1 (.int .i64 M2)).other (by omega) (b' := X + 1) 0 (.int .i64 0)).other (by omega) (b' := X + 1) 1 (.int .i64 M2)).drew.cell 1 _ rfl, ((((st.k4.other (by omega) (b' := X + 2) 0 (.int .i64 0)).other (by omega) (b' := X + 2) 1 (.int .i64 M2)).other (by omega) (b' := X + 1) 0 (.int .i64 0)).other (by omega) (b' := X + 1) 1 (.int .i64 M2)).drew.cell 0 _ rfl, ((((st.k4.other (by omega) (b' := X + 2) 0 (.int .i64 0)).other (by omega) (b' := X + 2) 1 (.int .i64 M2)).other (by omega) (b' := X + 1) 0 (.int .i64 0)).other (by omega) (b' := X + 1) 1 (.int .i64 M2)).drew.cell 1 _ rfl⟩)
        have u10 := st.k1.cell 0 _ rfl
        have u11 := st.k1.cell 1 _ rfl
        have u20 := st.k2.cell 0 _ rfl
        have u21 := st.k2.cell 1 _ rfl
        have v10 := st.k1.free 0
        have v11 := st.k1.free 1
        have v20 := st.k2.free 0
        have v21 := st.k2.free 1
        have HE1 := Lib.hid (show ∀ a b, OnS (fun x => x = X + 1 ∨ x = X + 2) W (((((W.setCell ⟨X + 1, 0, none⟩ a).setCell ⟨X + 1, 1, none⟩ b).setCell ⟨X + 2, 0, none⟩ a).setCell ⟨X + 2, 1, none⟩ b).drew) from fun a b => (((((OnS.cell _ _ _).weak fun x _ h => .inl h).trans ((OnS.cell _ _ _).weak fun x _ h => .inl h)).trans ((OnS.cell _ _ _).weak fun x _ h => .inr h)).trans ((OnS.cell _ _ _).weak fun x _ h => .inr h)).trans (OnS.of (bdr _)))
        have HE2 := Lib.hid (show ∀ a b, OnS (fun x => x = X + 1 ∨ x = X + 2) W (((((W.setCell ⟨X + 2, 0, none⟩ a).setCell ⟨X + 2, 1, none⟩ b).setCell ⟨X + 1, 0, none⟩ a).setCell ⟨X + 1, 1, none⟩ b).drew) from fun a b => (((((OnS.cell _ _ _).weak fun x _ h => .inr h).trans ((OnS.cell _ _ _).weak fun x _ h => .inr h)).trans ((OnS.cell _ _ _).weak fun x _ h => .inl h)).trans ((OnS.cell _ _ _).weak fun x _ h => .inl h)).trans (OnS.of (bdr _)))
        have q1 := ((((st.k1.set 0 (.int .i64 0)).set 1 (.int .i64 M2)).other (by omega) (b' := X + 2) 0 (.int .i64 0)).other (by omega) (b' := X + 2) 1 (.int .i64 M2))
        have q2 := (((st.k2.other (by omega) (b' := X + 1) 0 (.int .i64 0)).other (by omega) (b' := X + 1) 1 (.int .i64 M2)).set 0 (.int .i64 0)).set 1 (.int .i64 M2)
        have q3 := (((st.k1.other (by omega) (b' := X + 2) 0 (.int .i64 0)).other (by omega) (b' := X + 2) 1 (.int .i64 M2)).set 0 (.int .i64 0)).set 1 (.int .i64 M2)
        have q4 := ((((st.k2.set 0 (.int .i64 0)).set 1 (.int .i64 M2)).other (by omega) (b' := X + 1) 0 (.int .i64 0)).other (by omega) (b' := X + 1) 1 (.int .i64 M2))
        have HQA := Lib.hid (And.intro q1.drew q2.drew)
        have HQB := Lib.hid (And.intro q3.drew q4.drew)
        clear st hW S1 S2 S3 S4 q1 q2 q3 q4
        go_wp2_with fail
        go_region_held3 (fun w' => w'.cell? ⟨X + 3, 0, none⟩ = some (.int .i64 0) ∧ w'.cell? ⟨X + 3, 1, none⟩ = some (.int .i64 M2) ∧ w'.cell? ⟨X + 4, 0, none⟩ = some (.int .i64 0) ∧ w'.cell? ⟨X + 4, 1, none⟩ = some (.int .i64 M2)) (first | with_reducible exact HC0.out | with_reducible exact HC1.out | with_reducible exact HC2.out | with_reducible exact HC3.out | with_reducible exact HC4.out | go_keep) (fail)
        go_wp2_with fail
        have z10 : ((((W.setCell ⟨X + 1, 0, none⟩ (.int .i64 0)).setCell ⟨X + 1, 1, none⟩ (.int .i64 M2)).setCell ⟨X + 1 + 1, 0, none⟩ (.int .i64 0)).setCell ⟨X + 1 + 1, 1, none⟩ (.int .i64 M2)).drew.cell? ⟨X + 1, 0, none⟩ = some (.int .i64 0) := HQA.out.1.cell 0 _ rfl
        have z11 : ((((W.setCell ⟨X + 1, 0, none⟩ (.int .i64 0)).setCell ⟨X + 1, 1, none⟩ (.int .i64 M2)).setCell ⟨X + 1 + 1, 0, none⟩ (.int .i64 0)).setCell ⟨X + 1 + 1, 1, none⟩ (.int .i64 M2)).drew.cell? ⟨X + 1, 1, none⟩ = some (.int .i64 M2) := HQA.out.1.cell 1 _ rfl
        have z20 : ((((W.setCell ⟨X + 1, 0, none⟩ (.int .i64 0)).setCell ⟨X + 1, 1, none⟩ (.int .i64 M2)).setCell ⟨X + 1 + 1, 0, none⟩ (.int .i64 0)).setCell ⟨X + 1 + 1, 1, none⟩ (.int .i64 M2)).drew.cell? ⟨X + 1 + 1, 0, none⟩ = some (.int .i64 0) := HQA.out.2.cell 0 _ rfl
        have z21 : ((((W.setCell ⟨X + 1, 0, none⟩ (.int .i64 0)).setCell ⟨X + 1, 1, none⟩ (.int .i64 M2)).setCell ⟨X + 1 + 1, 0, none⟩ (.int .i64 0)).setCell ⟨X + 1 + 1, 1, none⟩ (.int .i64 M2)).drew.cell? ⟨X + 1 + 1, 1, none⟩ = some (.int .i64 M2) := HQA.out.2.cell 1 _ rfl
        have hf := st_fin HPP.out HS.out (HE1.out (.int .i64 0) (.int .i64 M2)) HS.out.xw
        refine bodyPost_ret (v := .tuple #[.agg #[.int .i64 0, .int .i64 M2], .agg #[.int .i64 0, .int .i64 M2]]) (by simp [results, Try.results11, go_sem, z10, z11, z20, z21]) rfl ?_
        rw [HDD.out]
        exact ⟨rfl, hf⟩
      · skip
        by_cases k3 : k = 3
        · skip
          subst k3
          have hd0 := deed_3 E t n v
          obtain ⟨⟨M1, M2, M3⟩, hM⟩ : ∃ x, stepR E t = x := ⟨_, rfl⟩
          have HA := Lib.hid (HPP.out.step S0.out.tp HW.out hm1.out t bt)
          have HB := Lib.hid (fun w1 (h : DE w1 G r E) => rstep_c w1 G r E h m HW.out.wf hm2.out t)
          simp only [hM] at HA HB hd0
          have HDD := Lib.hid hd0
          clear hM hd0
          go_wp2_with fail
          refine HA.out.mono ?_
          rintro e w1 ⟨rfl, ho, F', ht, hg⟩
          have S1 := Lib.hid (S0.out.callp ho ht hg)
          clear ho ht hg
          rw [hX.out] at S1
          have T1 := Lib.hid (S1.out.putA0 HPP.out M2)
          have S2 := Lib.hid (T1.out.putA1 HPP.out M3)
          have g30 := S1.out.k3.cell 0 _ rfl
          have l30 := S1.out.k3.free 0
          have g31 := T1.out.k3.cell 1 _ rfl
          have l31 := T1.out.k3.free 1
          have y1 : ((w1.setCell ⟨X + 3, 0, none⟩ (.int .i64 M2)).setCell ⟨X + 3, 1, none⟩ (.int .i64 M3)).cell? ⟨X, 1, none⟩ = some (.int .i64 t) := S2.out.kd.cell 1 _ rfl
          have y2 : ((w1.setCell ⟨X + 3, 0, none⟩ (.int .i64 M2)).setCell ⟨X + 3, 1, none⟩ (.int .i64 M3)).cell? ⟨X, 2, none⟩ = some (.int .i64 n) := S2.out.kd.cell 2 _ rfl
          have y3 : ((w1.setCell ⟨X + 3, 0, none⟩ (.int .i64 M2)).setCell ⟨X + 3, 1, none⟩ (.int .i64 M3)).cell? ⟨X, 3, none⟩ = some (.int .i64 v) := S2.out.kd.cell 3 _ rfl
          rw [hX.out]
          go_wp2_with fail
          refine (HB.out _ S2.out.de).mono ?_
          rintro e w2 ⟨rfl, ho, hd⟩
          have S3 := Lib.hid (S2.out.callr HPP.out ho hd (Gr.refl _ _))
          clear ho hd
          have T2 := Lib.hid (S3.out.putB0 HPP.out M2)
          have S4 := Lib.hid (T2.out.putB1 HPP.out M3)
          have g40 := S3.out.k4.cell 0 _ rfl
          have l40 := S3.out.k4.free 0
          have g41 := T2.out.k4.cell 1 _ rfl
          have l41 := T2.out.k4.free 1
          go_wp2_with fail
          obtain ⟨W, hW⟩ : ∃ x, (w2.setCell ⟨X + 4, 0, none⟩ (.int .i64 M2)).setCell ⟨X + 4, 1, none⟩ (.int .i64 M3) = x := ⟨_, rfl⟩
          have st := S4.out
          rw [hW] at st ⊢
          have HS := Lib.hid st
          have HC0 := Lib.hid (show (W).drew.cell? ⟨X + 3, 0, none⟩ = some (.int .i64 M2) ∧ (W).drew.cell? ⟨X + 3, 1, none⟩ = some (.int .i64 M3) ∧ (W).drew.cell? ⟨X + 4, 0, none⟩ = some (.int .i64 M2) ∧ (W).drew.cell? ⟨X + 4, 1, none⟩ = some (.int .i64 M3) from ⟨st.k3.drew.cell 0 _ rfl, st.k3.drew.cell 1 _ rfl, st.k4.drew.cell 0 _ rfl, st.k4.drew.cell 1 _ rfl⟩)
          have HC1 := Lib.hid (show (((W).setCell ⟨X + 1, 0, none⟩ (.int .i64 M2)).setCell ⟨X + 1, 1, none⟩ (.int .i64 M3)).drew.cell? ⟨X + 3, 0, none⟩ = some (.int .i64 M2) ∧ (((W).setCell ⟨X + 1, 0, none⟩ (.int .i64 M2)).setCell ⟨X + 1, 1, none⟩ (.int .i64 M3)).drew.cell? ⟨X + 3, 1, none⟩ = some (.int .i64 M3) ∧ (((W).setCell ⟨X + 1, 0, none⟩ (.int .i64 M2)).setCell ⟨X + 1, 1, none⟩ (.int .i64 M3)).drew.cell? ⟨X + 4, 0, none⟩ = some (.int .i64 M2) ∧ (((W).setCell ⟨X + 1, 0, none⟩ (.int .i64 M2)).setCell ⟨X + 1, 1, none⟩ (.int .i64 M3)).drew.cell? ⟨X + 4, 1, none⟩ = some (.int .i64 M3) from ⟨((st.k3.other (by omega) (b' := X + 1) 0 (.int .i64 M2)).other (by omega) (b' := X + 1) 1 (.int .i64 M3)).drew.cell 0 _ rfl, ((st.k3.other (by omega) (b' := X + 1) 0 (.int .i64 M2)).other (by omega) (b' := X + 1) 1 (.int .i64 M3)).drew.cell 1 _ rfl, ((st.k4.other (by omega) (b' := X + 1) 0 (.int .i64 M2)).other (by omega) (b' := X + 1) 1 (.int .i64 M3)).drew.cell 0 _ rfl, ((st.k4.other (by omega) (b' := X + 1) 0 (.int .i64 M2)).other (by omega) (b' := X + 1) 1 (.int .i64 M3)).drew.cell 1 _ rfl⟩)
          have HC2 := Lib.hid (show (((W).setCell ⟨X + 2, 0, none⟩ (.int .i64 M2)).setCell ⟨X + 2, 1, none⟩ (.int .i64 M3)).drew.cell? ⟨X + 3, 0, none⟩ = some (.int .i64 M2) ∧ (((W).setCell ⟨X + 2, 0, none⟩ (.int .i64 M2)).setCell ⟨X + 2, 1, none⟩ (.int .i64 M3)).drew.cell? ⟨X + 3, 1, none⟩ = some (.int .i64 M3) ∧ (((W).setCell ⟨X + 2, 0, none⟩ (.int .i64 M2)).setCell ⟨X + 2, 1, none⟩ (.int .i64 M3)).drew.cell? ⟨X + 4, 0, none⟩ = some (.int .i64 M2) ∧ (((W).setCell ⟨X + 2, 0, none⟩ (.int .i64 M2)).setCell ⟨X + 2, 1, none⟩ (.int .i64 M3)).drew.cell? ⟨X + 4, 1, none⟩ = some (.int .i64 M3) from ⟨((st.k3.other (by omega) (b' := X + 2) 0 (.int .i64 M2)).other (by omega) (b' := X + 2) 1 (.int .i64 M3)).drew.cell 0 _ rfl, ((st.k3.other (by omega) (b' := X + 2) 0 (.int .i64 M2)).other (by omega) (b' := X + 2) 1 (.int .i64 M3)).drew.cell 1 _ rfl, ((st.k4.other (by omega) (b' := X + 2) 0 (.int .i64 M2)).other (by omega) (b' := X + 2) 1 (.int .i64 M3)).drew.cell 0 _ rfl, ((st.k4.other (by omega) (b' := X + 2) 0 (.int .i64 M2)).other (by omega) (b' := X + 2) 1 (.int .i64 M3)).drew.cell 1 _ rfl⟩)
          have HC3 := Lib.hid (show (((((W).setCell ⟨X + 1, 0, none⟩ (.int .i64 M2)).setCell ⟨X + 1, 1, none⟩ (.int .i64 M3)).setCell ⟨X + 2, 0, none⟩ (.int .i64 M2)).setCell ⟨X + 2, 1, none⟩ (.int .i64 M3)).drew.cell? ⟨X + 3, 0, none⟩ = some (.int .i64 M2) ∧ (((((W).setCell ⟨X + 1, 0, none⟩ (.int .i64 M2)).setCell ⟨X + 1, 1, none⟩ (.int .i64 M3)).setCell ⟨X + 2, 0, none⟩ (.int .i64 M2)).setCell ⟨X + 2, 1, none⟩ (.int .i64 M3)).drew.cell? ⟨X + 3, 1, none⟩ = some (.int .i64 M3) ∧ (((((W).setCell ⟨X + 1, 0, none⟩ (.int .i64 M2)).setCell ⟨X + 1, 1, none⟩ (.int .i64 M3)).setCell ⟨X + 2, 0, none⟩ (.int .i64 M2)).setCell ⟨X + 2, 1, none⟩ (.int .i64 M3)).drew.cell? ⟨X + 4, 0, none⟩ = some (.int .i64 M2) ∧ (((((W).setCell ⟨X + 1, 0, none⟩ (.int .i64 M2)).setCell ⟨X + 1, 1, none⟩ (.int .i64 M3)).setCell ⟨X + 2, 0, none⟩ (.int .i64 M2)).setCell ⟨X + 2, 1, none⟩ (.int .i64 M3)).drew.cell? ⟨X + 4, 1, none⟩ = some (.int .i64 M3) from ⟨((((st.k3.other (by omega) (b' := X + 1) 0 (.int .i64 M2)).other (by omega) (b' := X + 1) 1 (.int .i64 M3)).other (by omega) (b' := X + 2) 0 (.int .i64 M2)).other (by omega) (b' := X + 2) 1 (.int .i64 M3)).drew.cell 0 _ rfl, ((((st.k3.other (by omega) (b' := X + 1) 0 (.int .i64 M2)).other (by omega) (b' := X + 1) 1 (.int .i64 M3)).other (by omega) (b' := X + 2) 0 (.int .i64 M2)).other (by omega) (b' := X + 2) 1 (.int .i64 M3)).drew.cell 1 _ rfl, ((((st.k4.other (by omega) (b' := X + 1) 0 (.int .i64 M2)).other (by omega) (b' := X + 1) 1 (.int .i64 M3)).other (by omega) (b' := X + 2) 0 (.int .i64 M2)).other (by omega) (b' := X + 2) 1 (.int .i64 M3)).drew.cell 0 _ rfl, ((((st.k4.other (by omega) (b' := X + 1) 0 (.int .i64 M2)).other (by omega) (b' := X + 1) 1 (.int .i64 M3)).other (by omega) (b' := X + 2) 0 (.int .i64 M2)).other (by omega) (b' := X + 2) 1 (.int .i64 M3)).drew.cell 1 _ rfl⟩)
          have HC4 := Lib.hid (show (((((W).setCell ⟨X + 2, 0, none⟩ (.int .i64 M2)).setCell ⟨X + 2, 1, none⟩ (.int .i64 M3)).setCell ⟨X + 1, 0, none⟩ (.int .i64 M2)).setCell ⟨X + 1, 1, none⟩ (.int .i64 M3)).drew.cell? ⟨X + 3, 0, none⟩ = some (.int .i64 M2) ∧ (((((W).setCell ⟨X + 2, 0, none⟩ (.int .i64 M2)).setCell ⟨X + 2, 1, none⟩ (.int .i64 M3)).setCell ⟨X + 1, 0, none⟩ (.int .i64 M2)).setCell ⟨X + 1, 1, none⟩ (.int .i64 M3)).drew.cell? ⟨X + 3, 1, none⟩ = some (.int .i64 M3) ∧ (((((W).setCell ⟨X + 2, 0, none⟩ (.int .i64 M2)).setCell ⟨X + 2, 1, none⟩ (.int .i64 M3)).setCell ⟨X + 1, 0, none⟩ (.int .i64 M2)).setCell ⟨X + 1, 1, none⟩ (.int .i64 M3)).drew.cell? ⟨X + 4, 0, none⟩ = some (.int .i64 M2) ∧ (((((W).setCell ⟨X + 2, 0, none⟩ (.int .i64 M2)).setCell ⟨X + 2, 1, none⟩ (.int .i64 M3)).setCell ⟨X + 1, 0, none⟩ (.int .i64 M2)).setCell ⟨X + 1, 1, none⟩ (.int .i64 M3)).drew.cell? ⟨X + 4, 1, none⟩ = some (.int .i64 M3) from ⟨((((st.k3.other (by omega) (b' := X + 2) 0 (.int .i64 M2)).other (by omega) (b' := X + 2) 1 (.int .i64 M3)).other (by omega) (b' := X + 1) 0 (.int .i64 M2)).other (by omega) (b' := X + 1) 1 (.int .i64 M3)).drew.cell 0 _ rfl, ((((st.k3.other (by omega) (b' := X + 2) 0 (.int .i64 M2)).other (by omega) (b' := X + 2) 1 (.int .i64 M3)).other (by omega) (b' := X + 1) 0 (.int .i64 M2)).other (by omega) (b' := X + 1) 1 (.int .i64 M3)).drew.cell 1 _ rfl, ((((st.k4.other (by omega) (b' := X + 2) 0 (.int .i64 M2)).other (by omega) (b' := X + 2) 1 (.int .i64 M3)).other (by omega) (b' := X + 1) 0 (.int .i64 M2)).other (by omega) (b' := X + 1) 1 (.int .i64 M3)).drew.cell 0 _ rfl, ((((st.k4.other (by omega) (b' := X + 2) 0 (.int .i64 M2)).other (by omega) (b' := X + 2) 1 (.int .i64 M3)).other (by omega) (b' := X + 1) 0 (.int .i64 M2)).other (by omega) (b' := X + 1) 1 (.int .i64 M3)).drew.cell 1 _ rfl⟩)
          have u10 := st.k1.cell 0 _ rfl
          have u11 := st.k1.cell 1 _ rfl
          have u20 := st.k2.cell 0 _ rfl
          have u21 := st.k2.cell 1 _ rfl
          have v10 := st.k1.free 0
          have v11 := st.k1.free 1
          have v20 := st.k2.free 0
          have v21 := st.k2.free 1
          have HE1 := Lib.hid (show ∀ a b, OnS (fun x => x = X + 1 ∨ x = X + 2) W (((((W.setCell ⟨X + 1, 0, none⟩ a).setCell ⟨X + 1, 1, none⟩ b).setCell ⟨X + 2, 0, none⟩ a).setCell ⟨X + 2, 1, none⟩ b).drew) from fun a b => (((((OnS.cell _ _ _).weak fun x _ h => .inl h).trans ((OnS.cell _ _ _).weak fun x _ h => .inl h)).trans ((OnS.cell _ _ _).weak fun x _ h => .inr h)).trans ((OnS.cell _ _ _).weak fun x _ h => .inr h)).trans (OnS.of (bdr _)))
          have HE2 := Lib.hid (show ∀ a b, OnS (fun x => x = X + 1 ∨ x = X + 2) W (((((W.setCell ⟨X + 2, 0, none⟩ a).setCell ⟨X + 2, 1, none⟩ b).setCell ⟨X + 1, 0, none⟩ a).setCell ⟨X + 1, 1, none⟩ b).drew) from fun a b => (((((OnS.cell _ _ _).weak fun x _ h => .inr h).trans ((OnS.cell _ _ _).weak fun x _ h => .inr h)).trans ((OnS.cell _ _ _).weak fun x _ h => .inl h)).trans ((OnS.cell _ _ _).weak fun x _ h => .inl h)).trans (OnS.of (bdr _)))
          have q1 := ((((st.k1.set 0 (.int .i64 M2)).set 1 (.int .i64 M3)).other (by omega) (b' := X + 2) 0 (.int .i64 M2)).other (by omega) (b' := X + 2) 1 (.int .i64 M3))
          have q2 := (((st.k2.other (by omega) (b' := X + 1) 0 (.int .i64 M2)).other (by omega) (b' := X + 1) 1 (.int .i64 M3)).set 0 (.int .i64 M2)).set 1 (.int .i64 M3)
          have q3 := (((st.k1.other (by omega) (b' := X + 2) 0 (.int .i64 M2)).other (by omega) (b' := X + 2) 1 (.int .i64 M3)).set 0 (.int .i64 M2)).set 1 (.int .i64 M3)
          have q4 := ((((st.k2.set 0 (.int .i64 M2)).set 1 (.int .i64 M3)).other (by omega) (b' := X + 1) 0 (.int .i64 M2)).other (by omega) (b' := X + 1) 1 (.int .i64 M3))
          have HQA := Lib.hid (And.intro q1.drew q2.drew)
          have HQB := Lib.hid (And.intro q3.drew q4.drew)
          clear st hW S1 S2 S3 S4 q1 q2 q3 q4
          go_wp2_with fail
          go_region_held3 (fun w' => w'.cell? ⟨X + 3, 0, none⟩ = some (.int .i64 M2) ∧ w'.cell? ⟨X + 3, 1, none⟩ = some (.int .i64 M3) ∧ w'.cell? ⟨X + 4, 0, none⟩ = some (.int .i64 M2) ∧ w'.cell? ⟨X + 4, 1, none⟩ = some (.int .i64 M3)) (first | with_reducible exact HC0.out | with_reducible exact HC1.out | with_reducible exact HC2.out | with_reducible exact HC3.out | with_reducible exact HC4.out | go_keep) (fail)
          go_wp2_with fail
          have z10 : ((((W.setCell ⟨X + 1, 0, none⟩ (.int .i64 M2)).setCell ⟨X + 1, 1, none⟩ (.int .i64 M3)).setCell ⟨X + 1 + 1, 0, none⟩ (.int .i64 M2)).setCell ⟨X + 1 + 1, 1, none⟩ (.int .i64 M3)).drew.cell? ⟨X + 1, 0, none⟩ = some (.int .i64 M2) := HQA.out.1.cell 0 _ rfl
          have z11 : ((((W.setCell ⟨X + 1, 0, none⟩ (.int .i64 M2)).setCell ⟨X + 1, 1, none⟩ (.int .i64 M3)).setCell ⟨X + 1 + 1, 0, none⟩ (.int .i64 M2)).setCell ⟨X + 1 + 1, 1, none⟩ (.int .i64 M3)).drew.cell? ⟨X + 1, 1, none⟩ = some (.int .i64 M3) := HQA.out.1.cell 1 _ rfl
          have z20 : ((((W.setCell ⟨X + 1, 0, none⟩ (.int .i64 M2)).setCell ⟨X + 1, 1, none⟩ (.int .i64 M3)).setCell ⟨X + 1 + 1, 0, none⟩ (.int .i64 M2)).setCell ⟨X + 1 + 1, 1, none⟩ (.int .i64 M3)).drew.cell? ⟨X + 1 + 1, 0, none⟩ = some (.int .i64 M2) := HQA.out.2.cell 0 _ rfl
          have z21 : ((((W.setCell ⟨X + 1, 0, none⟩ (.int .i64 M2)).setCell ⟨X + 1, 1, none⟩ (.int .i64 M3)).setCell ⟨X + 1 + 1, 0, none⟩ (.int .i64 M2)).setCell ⟨X + 1 + 1, 1, none⟩ (.int .i64 M3)).drew.cell? ⟨X + 1 + 1, 1, none⟩ = some (.int .i64 M3) := HQA.out.2.cell 1 _ rfl
          have hf := st_fin HPP.out HS.out (HE1.out (.int .i64 M2) (.int .i64 M3)) HS.out.xw
          refine bodyPost_ret (v := .tuple #[.agg #[.int .i64 M2, .int .i64 M3], .agg #[.int .i64 M2, .int .i64 M3]]) (by simp [results, Try.results11, go_sem, z10, z11, z20, z21]) rfl ?_
          rw [HDD.out]
          exact ⟨rfl, hf⟩
        · skip
          by_cases k4 : k = 4
          · skip
            subst k4
            have hd0 := deed_4 E t n v
            obtain ⟨⟨M1, M2⟩, hM⟩ : ∃ x, partR E t = x := ⟨_, rfl⟩
            have HA := Lib.hid (HPP.out.part S0.out.tp HW.out hm1.out t bt)
            have HB := Lib.hid (fun w1 (h : DE w1 G r E) => rpart_c w1 G r E h m HW.out.wf hm2.out t)
            simp only [hM] at HA HB hd0
            have HDD := Lib.hid hd0
            clear hM hd0
            go_wp2_with fail
            refine HA.out.mono ?_
            rintro e w1 ⟨rfl, ho, F', ht, hg⟩
            have S1 := Lib.hid (S0.out.callp ho ht hg)
            clear ho ht hg
            rw [hX.out] at S1
            have S2 := Lib.hid (S1.out.putA1 HPP.out M2)
            have g31 := S1.out.k3.cell 1 _ rfl
            have l31 := S1.out.k3.free 1
            have y1 : (w1.setCell ⟨X + 3, 1, none⟩ (.int .i64 M2)).cell? ⟨X, 1, none⟩ = some (.int .i64 t) := S2.out.kd.cell 1 _ rfl
            have y2 : (w1.setCell ⟨X + 3, 1, none⟩ (.int .i64 M2)).cell? ⟨X, 2, none⟩ = some (.int .i64 n) := S2.out.kd.cell 2 _ rfl
            have y3 : (w1.setCell ⟨X + 3, 1, none⟩ (.int .i64 M2)).cell? ⟨X, 3, none⟩ = some (.int .i64 v) := S2.out.kd.cell 3 _ rfl
            rw [hX.out]
            go_wp2_with fail
            refine (HB.out _ S2.out.de).mono ?_
            rintro e w2 ⟨rfl, ho, hd⟩
            have S3 := Lib.hid (S2.out.callr HPP.out ho hd (Gr.refl _ _))
            clear ho hd
            have S4 := Lib.hid (S3.out.putB1 HPP.out M2)
            have g41 := S3.out.k4.cell 1 _ rfl
            have l41 := S3.out.k4.free 1
            go_wp2_with fail
            obtain ⟨W, hW⟩ : ∃ x, w2.setCell ⟨X + 4, 1, none⟩ (.int .i64 M2) = x := ⟨_, rfl⟩
            have st := S4.out
            rw [hW] at st ⊢
            have HS := Lib.hid st
            have HC0 := Lib.hid (show (W).drew.cell? ⟨X + 3, 0, none⟩ = some (.int .i64 0) ∧ (W).drew.cell? ⟨X + 3, 1, none⟩ = some (.int .i64 M2) ∧ (W).drew.cell? ⟨X + 4, 0, none⟩ = some (.int .i64 0) ∧ (W).drew.cell? ⟨X + 4, 1, none⟩ = some (.int .i64 M2) from ⟨st.k3.drew.cell 0 _ rfl, st.k3.drew.cell 1 _ rfl, st.k4.drew.cell 0 _ rfl, st.k4.drew.cell 1 _ rfl⟩)
            have HC1 := Lib.hid (show (((W).setCell ⟨X + 1, 0, none⟩ (.int .i64 0)).setCell ⟨X + 1, 1, none⟩ (.int .i64 M2)).drew.cell? ⟨X + 3, 0, none⟩ = some (.int .i64 0) ∧ (((W).setCell ⟨X + 1, 0, none⟩ (.int .i64 0)).setCell ⟨X + 1, 1, none⟩ (.int .i64 M2)).drew.cell? ⟨X + 3, 1, none⟩ = some (.int .i64 M2) ∧ (((W).setCell ⟨X + 1, 0, none⟩ (.int .i64 0)).setCell ⟨X + 1, 1, none⟩ (.int .i64 M2)).drew.cell? ⟨X + 4, 0, none⟩ = some (.int .i64 0) ∧ (((W).setCell ⟨X + 1, 0, none⟩ (.int .i64 0)).setCell ⟨X + 1, 1, none⟩ (.int .i64 M2)).drew.cell? ⟨X + 4, 1, none⟩ = some (.int .i64 M2) from ⟨((st.k3.other (by omega) (b' := X + 1) 0 (.int .i64 0)).other (by omega) (b' := X + 1) 1 (.int .i64 M2)).drew.cell 0 _ rfl, ((st.k3.other (by omega) (b' := X + 1) 0 (.int .i64 0)).other (by omega) (b' := X + 1) 1 (.int .i64 M2)).drew.cell 1 _ rfl, ((st.k4.other (by omega) (b' := X + 1) 0 (.int .i64 0)).other (by omega) (b' := X + 1) 1 (.int .i64 M2)).drew.cell 0 _ rfl, ((st.k4.other (by omega) (b' := X + 1) 0 (.int .i64 0)).other (by omega) (b' := X + 1) 1 (.int .i64 M2)).drew.cell 1 _ rfl⟩)
            have HC2 := Lib.hid (show (((W).setCell ⟨X + 2, 0, none⟩ (.int .i64 0)).setCell ⟨X + 2, 1, none⟩ (.int .i64 M2)).drew.cell? ⟨X + 3, 0, none⟩ = some (.int .i64 0) ∧ (((W).setCell ⟨X + 2, 0, none⟩ (.int .i64 0)).setCell ⟨X + 2, 1, none⟩ (.int .i64 M2)).drew.cell? ⟨X + 3, 1, none⟩ = some (.int .i64 M2) ∧ (((W).setCell ⟨X + 2, 0, none⟩ (.int .i64 0)).setCell ⟨X + 2, 1, none⟩ (.int .i64 M2)).drew.cell? ⟨X + 4, 0, none⟩ = some (.int .i64 0) ∧ (((W).setCell ⟨X + 2, 0, none⟩ (.int .i64 0)).setCell ⟨X + 2, 1, none⟩ (.int .i64 M2)).drew.cell? ⟨X + 4, 1, none⟩ = some (.int .i64 M2) from ⟨((st.k3.other (by omega) (b' := X + 2) 0 (.int .i64 0)).other (by omega) (b' := X + 2) 1 (.int .i64 M2)).drew.cell 0 _ rfl, ((st.k3.other (by omega) (b' := X + 2) 0 (.int .i64 0)).other (by omega) (b' := X + 2) 1 (.int .i64 M2)).drew.cell 1 _ rfl, ((st.k4.other (by omega) (b' := X + 2) 0 (.int .i64 0)).other (by omega) (b' := X + 2) 1 (.int .i64 M2)).drew.cell 0 _ rfl, ((st.k4.other (by omega) (b' := X + 2) 0 (.int .i64 0)).other (by omega) (b' := X + 2) 1 (.int .i64 M2)).drew.cell 1 _ rfl⟩)
            have HC3 := Lib.hid (show (((((W).setCell ⟨X + 1, 0, none⟩ (.int .i64 0)).setCell ⟨X + 1, 1, none⟩ (.int .i64 M2)).setCell ⟨X + 2, 0, none⟩ (.int .i64 0)).setCell ⟨X + 2, 1, none⟩ (.int .i64 M2)).drew.cell? ⟨X + 3, 0, none⟩ = some (.int .i64 0) ∧ (((((W).setCell ⟨X + 1, 0, none⟩ (.int .i64 0)).setCell ⟨X + 1, 1, none⟩ (.int .i64 M2)).setCell ⟨X + 2, 0, none⟩ (.int .i64 0)).setCell ⟨X + 2, 1, none⟩ (.int .i64 M2)).drew.cell? ⟨X + 3, 1, none⟩ = some (.int .i64 M2) ∧ (((((W).setCell ⟨X + 1, 0, none⟩ (.int .i64 0)).setCell ⟨X + 1, 1, none⟩ (.int .i64 M2)).setCell ⟨X + 2, 0, none⟩ (.int .i64 0)).setCell ⟨X + 2, 1, none⟩ (.int .i64 M2)).drew.cell? ⟨X + 4, 0, none⟩ = some (.int .i64 0) ∧ (((((W).setCell ⟨X + 1, 0, none⟩ (.int .i64 0)).setCell ⟨X + 1, 1, none⟩ (.int .i64 M2)).setCell ⟨X + 2, 0, none⟩ (.int .i64 0)).setCell ⟨X + 2, 1, none⟩ (.int .i64 M2)).drew.cell? ⟨X + 4, 1, none⟩ = some (.int .i64 M2) from ⟨((((st.k3.other (by omega) (b' := X + 1) 0 (.int .i64 0)).other (by omega) (b' := X + 1) 1 (.int .i64 M2)).other (by omega) (b' := X + 2) 0 (.int .i64 0)).other (by omega) (b' := X + 2) 1 (.int .i64 M2)).drew.cell 0 _ rfl, ((((st.k3.other (by omega) (b' := X + 1) 0 (.int .i64 0)).other (by omega) (b' := X + 1) 1 (.int .i64 M2)).other (by omega) (b' := X + 2) 0 (.int .i64 0)).other (by omega) (b' := X + 2) 1 (.int .i64 M2)).drew.cell 1 _ rfl, ((((st.k4.other (by omega) (b' := X + 1) 0 (.int .i64 0)).other (by omega) (b' := X + 1) 1 (.int .i64 M2)).other (by omega) (b' := X + 2) 0 (.int .i64 0)).other (by omega) (b' := X + 2) 1 (.int .i64 M2)).drew.cell 0 _ rfl, ((((st.k4.other (by omega) (b' := X + 1) 0 (.int .i64 0)).other (by omega) (b' := X + 1) 1 (.int .i64 M2)).other (by omega) (b' := X + 2) 0 (.int .i64 0)).other (by omega) (b' := X + 2) 1 (.int .i64 M2)).drew.cell 1 _ rfl⟩)
            have HC4 := Lib.hid (show (((((W).setCell ⟨X + 2, 0, none⟩ (.int .i64 0)).setCell ⟨X + 2, 1, none⟩ (.int .i64 M2)).setCell ⟨X + 1, 0, none⟩ (.int .i64 0)).setCell ⟨X + 1, 1, none⟩ (.int .i64 M2)).drew.cell? ⟨X + 3, 0, none⟩ = some (.int .i64 0) ∧ (((((W).setCell ⟨X + 2, 0, none⟩ (.int .i64 0)).setCell ⟨X + 2, 1, none⟩ (.int .i64 M2)).setCell ⟨X + 1, 0, none⟩ (.int .i64 0)).setCell ⟨X + 1, 1, none⟩ (.int .i64 M2)).drew.cell? ⟨X + 3, 1, none⟩ = some (.int .i64 M2) ∧ (((((W).setCell ⟨X + 2, 0, none⟩ (.int .i64 0)).setCell ⟨X + 2, 1, none⟩ (.int .i64 M2)).setCell ⟨X + 1, 0, none⟩ (.int .i64 0)).setCell ⟨X + 1, 1, none⟩ (.int .i64 M2)).drew.cell? ⟨X + 4, 0, none⟩ = some (.int .i64 0) ∧ (((((W).setCell ⟨X + 2, 0, none⟩ (.int .i64 0)).setCell ⟨X + 2, 1, none⟩ (.int .i64 M2)).setCell ⟨X + 1, 0, none⟩ (.int .i64 0)).setCell ⟨X + 1, 1, none⟩ (.int .i64 M2)).drew.cell? ⟨X + 4, 1, none⟩ = some (.int .i64 M2) from ⟨((((st.k3.other (by omega) (b' := X + 2) 0 (.int .i64 0)).other (by omega) (b' := X + 2) 1 (.int .i64 M2)).other (by omega) (b' := X + 1) 0 (.int .i64 0)).other (by omega) (b' := X + 1) 1 (.int .i64 M2)).drew.cell 0 _ rfl, ((((st.k3.other (by omega) (b' := X + 2) 0 (.int .i64 0)).other (by omega) (b' := X + 2) 1 (.int .i64 M2)).other (by omega) (b' := X + 1) 0 (.int .i64 0)).other (by omega) (b' := X + 1) 1 (.int .i64 M2)).drew.cell 1 _ rfl, ((((st.k4.other (by omega) (b' := X + 2) 0 (.int .i64 0)).other (by omega) (b' := X + 2) 1 (.int .i64 M2)).other (by omega) (b' := X + 1) 0 (.int .i64 0)).other (by omega) (b' := X + 1) 1 (.int .i64 M2)).drew.cell 0 _ rfl, ((((st.k4.other (by omega) (b' := X + 2) 0 (.int .i64 0)).other (by omega) (b' := X + 2) 1 (.int .i64 M2)).other (by omega) (b' := X + 1) 0 (.int .i64 0)).other (by omega) (b' := X + 1) 1 (.int .i64 M2)).drew.cell 1 _ rfl⟩)
            have u10 := st.k1.cell 0 _ rfl
            have u11 := st.k1.cell 1 _ rfl
            have u20 := st.k2.cell 0 _ rfl
            have u21 := st.k2.cell 1 _ rfl
            have v10 := st.k1.free 0
            have v11 := st.k1.free 1
            have v20 := st.k2.free 0
            have v21 := st.k2.free 1
            have HE1 := Lib.hid (show ∀ a b, OnS (fun x => x = X + 1 ∨ x = X + 2) W (((((W.setCell ⟨X + 1, 0, none⟩ a).setCell ⟨X + 1, 1, none⟩ b).setCell ⟨X + 2, 0, none⟩ a).setCell ⟨X + 2, 1, none⟩ b).drew) from fun a b => (((((OnS.cell _ _ _).weak fun x _ h => .inl h).trans ((OnS.cell _ _ _).weak fun x _ h => .inl h)).trans ((OnS.cell _ _ _).weak fun x _ h => .inr h)).trans ((OnS.cell _ _ _).weak fun x _ h => .inr h)).trans (OnS.of (bdr _)))
            have HE2 := Lib.hid (show ∀ a b, OnS (fun x => x = X + 1 ∨ x = X + 2) W (((((W.setCell ⟨X + 2, 0, none⟩ a).setCell ⟨X + 2, 1, none⟩ b).setCell ⟨X + 1, 0, none⟩ a).setCell ⟨X + 1, 1, none⟩ b).drew) from fun a b => (((((OnS.cell _ _ _).weak fun x _ h => .inr h).trans ((OnS.cell _ _ _).weak fun x _ h => .inr h)).trans ((OnS.cell _ _ _).weak fun x _ h => .inl h)).trans ((OnS.cell _ _ _).weak fun x _ h => .inl h)).trans (OnS.of (bdr _)))
            have q1 := ((((st.k1.set 0 (.int .i64 0)).set 1 (.int .i64 M2)).other (by omega) (b' := X + 2) 0 (.int .i64 0)).other (by omega) (b' := X + 2) 1 (.int .i64 M2))
            have q2 := (((st.k2.other (by omega) (b' := X + 1) 0 (.int .i64 0)).other (by omega) (b' := X + 1) 1 (.int .i64 M2)).set 0 (.int .i64 0)).set 1 (.int .i64 M2)
            have q3 := (((st.k1.other (by omega) (b' := X + 2) 0 (.int .i64 0)).other (by omega) (b' := X + 2) 1 (.int .i64 M2)).set 0 (.int .i64 0)).set 1 (.int .i64 M2)
            have q4 := ((((st.k2.set 0 (.int .i64 0)).set 1 (.int .i64 M2)).other (by omega) (b' := X + 1) 0 (.int .i64 0)).other (by omega) (b' := X + 1) 1 (.int .i64 M2))
            have HQA := Lib.hid (And.intro q1.drew q2.drew)
            have HQB := Lib.hid (And.intro q3.drew q4.drew)
            clear st hW S1 S2 S3 S4 q1 q2 q3 q4
            go_wp2_with fail
            go_region_held3 (fun w' => w'.cell? ⟨X + 3, 0, none⟩ = some (.int .i64 0) ∧ w'.cell? ⟨X + 3, 1, none⟩ = some (.int .i64 M2) ∧ w'.cell? ⟨X + 4, 0, none⟩ = some (.int .i64 0) ∧ w'.cell? ⟨X + 4, 1, none⟩ = some (.int .i64 M2)) (first | with_reducible exact HC0.out | with_reducible exact HC1.out | with_reducible exact HC2.out | with_reducible exact HC3.out | with_reducible exact HC4.out | go_keep) (fail)
            go_wp2_with fail
            have z10 : ((((W.setCell ⟨X + 1, 0, none⟩ (.int .i64 0)).setCell ⟨X + 1, 1, none⟩ (.int .i64 M2)).setCell ⟨X + 1 + 1, 0, none⟩ (.int .i64 0)).setCell ⟨X + 1 + 1, 1, none⟩ (.int .i64 M2)).drew.cell? ⟨X + 1, 0, none⟩ = some (.int .i64 0) := HQA.out.1.cell 0 _ rfl
            have z11 : ((((W.setCell ⟨X + 1, 0, none⟩ (.int .i64 0)).setCell ⟨X + 1, 1, none⟩ (.int .i64 M2)).setCell ⟨X + 1 + 1, 0, none⟩ (.int .i64 0)).setCell ⟨X + 1 + 1, 1, none⟩ (.int .i64 M2)).drew.cell? ⟨X + 1, 1, none⟩ = some (.int .i64 M2) := HQA.out.1.cell 1 _ rfl
            have z20 : ((((W.setCell ⟨X + 1, 0, none⟩ (.int .i64 0)).setCell ⟨X + 1, 1, none⟩ (.int .i64 M2)).setCell ⟨X + 1 + 1, 0, none⟩ (.int .i64 0)).setCell ⟨X + 1 + 1, 1, none⟩ (.int .i64 M2)).drew.cell? ⟨X + 1 + 1, 0, none⟩ = some (.int .i64 0) := HQA.out.2.cell 0 _ rfl
            have z21 : ((((W.setCell ⟨X + 1, 0, none⟩ (.int .i64 0)).setCell ⟨X + 1, 1, none⟩ (.int .i64 M2)).setCell ⟨X + 1 + 1, 0, none⟩ (.int .i64 0)).setCell ⟨X + 1 + 1, 1, none⟩ (.int .i64 M2)).drew.cell? ⟨X + 1 + 1, 1, none⟩ = some (.int .i64 M2) := HQA.out.2.cell 1 _ rfl
            have hf := st_fin HPP.out HS.out (HE1.out (.int .i64 0) (.int .i64 M2)) HS.out.xw
            refine bodyPost_ret (v := .tuple #[.agg #[.int .i64 0, .int .i64 M2], .agg #[.int .i64 0, .int .i64 M2]]) (by simp [results, Try.results11, go_sem, z10, z11, z20, z21]) rfl ?_
            rw [HDD.out]
            exact ⟨rfl, hf⟩
          · skip
            by_cases k5 : k = 5
            · skip
              subst k5
              have hd0 := deed_5 E t n v
              obtain ⟨⟨M1, M2⟩, hM⟩ : ∃ x, shutR E t true = x := ⟨_, rfl⟩
              have HA := Lib.hid (HPP.out.join S0.out.tp HW.out hm1.out t bt)
              have HB := Lib.hid (fun w1 (h : DE w1 G r E) => rshut_c w1 G r E h m HW.out.wf hm2.out t true)
              simp only [hM] at HA HB hd0
              have HDD := Lib.hid hd0
              clear hM hd0
              go_wp2_with fail
              refine HA.out.mono ?_
              rintro e w1 ⟨rfl, ho, F', ht, hg⟩
              have S1 := Lib.hid (S0.out.callp ho ht hg)
              clear ho ht hg
              rw [hX.out] at S1
              have S2 := Lib.hid (S1.out.putA1 HPP.out M2)
              have g31 := S1.out.k3.cell 1 _ rfl
              have l31 := S1.out.k3.free 1
              have y1 : (w1.setCell ⟨X + 3, 1, none⟩ (.int .i64 M2)).cell? ⟨X, 1, none⟩ = some (.int .i64 t) := S2.out.kd.cell 1 _ rfl
              have y2 : (w1.setCell ⟨X + 3, 1, none⟩ (.int .i64 M2)).cell? ⟨X, 2, none⟩ = some (.int .i64 n) := S2.out.kd.cell 2 _ rfl
              have y3 : (w1.setCell ⟨X + 3, 1, none⟩ (.int .i64 M2)).cell? ⟨X, 3, none⟩ = some (.int .i64 v) := S2.out.kd.cell 3 _ rfl
              rw [hX.out]
              go_wp2_with fail
              refine (HB.out _ S2.out.de).mono ?_
              rintro e w2 ⟨rfl, ho, G', hd, hg⟩
              have S3 := Lib.hid (S2.out.callr HPP.out ho hd hg)
              clear ho hd hg
              have S4 := Lib.hid (S3.out.putB1 HPP.out M2)
              have g41 := S3.out.k4.cell 1 _ rfl
              have l41 := S3.out.k4.free 1
              go_wp2_with fail
              obtain ⟨W, hW⟩ : ∃ x, w2.setCell ⟨X + 4, 1, none⟩ (.int .i64 M2) = x := ⟨_, rfl⟩
              have st := S4.out
              rw [hW] at st ⊢
              have HS := Lib.hid st
              have HC0 := Lib.hid (show (W).drew.cell? ⟨X + 3, 0, none⟩ = some (.int .i64 0) ∧ (W).drew.cell? ⟨X + 3, 1, none⟩ = some (.int .i64 M2) ∧ (W).drew.cell? ⟨X + 4, 0, none⟩ = some (.int .i64 0) ∧ (W).drew.cell? ⟨X + 4, 1, none⟩ = some (.int .i64 M2) from ⟨st.k3.drew.cell 0 _ rfl, st.k3.drew.cell 1 _ rfl, st.k4.drew.cell 0 _ rfl, st.k4.drew.cell 1 _ rfl⟩)
              have HC1 := Lib.hid (show (((W).setCell ⟨X + 1, 0, none⟩ (.int .i64 0)).setCell ⟨X + 1, 1, none⟩ (.int .i64 M2)).drew.cell? ⟨X + 3, 0, none⟩ = some (.int .i64 0) ∧ (((W).setCell ⟨X + 1, 0, none⟩ (.int .i64 0)).setCell ⟨X + 1, 1, none⟩ (.int .i64 M2)).drew.cell? ⟨X + 3, 1, none⟩ = some (.int .i64 M2) ∧ (((W).setCell ⟨X + 1, 0, none⟩ (.int .i64 0)).setCell ⟨X + 1, 1, none⟩ (.int .i64 M2)).drew.cell? ⟨X + 4, 0, none⟩ = some (.int .i64 0) ∧ (((W).setCell ⟨X + 1, 0, none⟩ (.int .i64 0)).setCell ⟨X + 1, 1, none⟩ (.int .i64 M2)).drew.cell? ⟨X + 4, 1, none⟩ = some (.int .i64 M2) from ⟨((st.k3.other (by omega) (b' := X + 1) 0 (.int .i64 0)).other (by omega) (b' := X + 1) 1 (.int .i64 M2)).drew.cell 0 _ rfl, ((st.k3.other (by omega) (b' := X + 1) 0 (.int .i64 0)).other (by omega) (b' := X + 1) 1 (.int .i64 M2)).drew.cell 1 _ rfl, ((st.k4.other (by omega) (b' := X + 1) 0 (.int .i64 0)).other (by omega) (b' := X + 1) 1 (.int .i64 M2)).drew.cell 0 _ rfl, ((st.k4.other (by omega) (b' := X + 1) 0 (.int .i64 0)).other (by omega) (b' := X + 1) 1 (.int .i64 M2)).drew.cell 1 _ rfl⟩)
              have HC2 := Lib.hid (show (((W).setCell ⟨X + 2, 0, none⟩ (.int .i64 0)).setCell ⟨X + 2, 1, none⟩ (.int .i64 M2)).drew.cell? ⟨X + 3, 0, none⟩ = some (.int .i64 0) ∧ (((W).setCell ⟨X + 2, 0, none⟩ (.int .i64 0)).setCell ⟨X + 2, 1, none⟩ (.int .i64 M2)).drew.cell? ⟨X + 3, 1, none⟩ = some (.int .i64 M2) ∧ (((W).setCell ⟨X + 2, 0, none⟩ (.int .i64 0)).setCell ⟨X + 2, 1, none⟩ (.int .i64 M2)).drew.cell? ⟨X + 4, 0, none⟩ = some (.int .i64 0) ∧ (((W).setCell ⟨X + 2, 0, none⟩ (.int .i64 0)).setCell ⟨X + 2, 1, none⟩ (.int .i64 M2)).drew.cell? ⟨X + 4, 1, none⟩ = some (.int .i64 M2) from ⟨((st.k3.other (by omega) (b' := X + 2) 0 (.int .i64 0)).other (by omega) (b' := X + 2) 1 (.int .i64 M2)).drew.cell 0 _ rfl, ((st.k3.other (by omega) (b' := X + 2) 0 (.int .i64 0)).other (by omega) (b' := X + 2) 1 (.int .i64 M2)).drew.cell 1 _ rfl, ((st.k4.other (by omega) (b' := X + 2) 0 (.int .i64 0)).other (by omega) (b' := X + 2) 1 (.int .i64 M2)).drew.cell 0 _ rfl, ((st.k4.other (by omega) (b' := X + 2) 0 (.int .i64 0)).other (by omega) (b' := X + 2) 1 (.int .i64 M2)).drew.cell 1 _ rfl⟩)
              have HC3 := Lib.hid (show (((((W).setCell ⟨X + 1, 0, none⟩ (.int .i64 0)).setCell ⟨X + 1, 1, none⟩ (.int .i64 M2)).setCell ⟨X + 2, 0, none⟩ (.int .i64 0)).setCell ⟨X + 2, 1, none⟩ (.int .i64 M2)).drew.cell? ⟨X + 3, 0, none⟩ = some (.int .i64 0) ∧ (((((W).setCell ⟨X + 1, 0, none⟩ (.int .i64 0)).setCell ⟨X + 1, 1, none⟩ (.int .i64 M2)).setCell ⟨X + 2, 0, none⟩ (.int .i64 0)).setCell ⟨X + 2, 1, none⟩ (.int .i64 M2)).drew.cell? ⟨X + 3, 1, none⟩ = some (.int .i64 M2) ∧ (((((W).setCell ⟨X + 1, 0, none⟩ (.int .i64 0)).setCell ⟨X + 1, 1, none⟩ (.int .i64 M2)).setCell ⟨X + 2, 0, none⟩ (.int .i64 0)).setCell ⟨X + 2, 1, none⟩ (.int .i64 M2)).drew.cell? ⟨X + 4, 0, none⟩ = some (.int .i64 0) ∧ (((((W).setCell ⟨X + 1, 0, none⟩ (.int .i64 0)).setCell ⟨X + 1, 1, none⟩ (.int .i64 M2)).setCell ⟨X + 2, 0, none⟩ (.int .i64 0)).setCell ⟨X + 2, 1, none⟩ (.int .i64 M2)).drew.cell? ⟨X + 4, 1, none⟩ = some (.int .i64 M2) from ⟨((((st.k3.other (by omega) (b' := X + 1) 0 (.int .i64 0)).other (by omega) (b' := X + 1) 1 (.int .i64 M2)).other (by omega) (b' := X + 2) 0 (.int .i64 0)).other (by omega) (b' := X + 2) 1 (.int .i64 M2)).drew.cell 0 _ rfl, ((((st.k3.other (by omega) (b' := X + 1) 0 (.int .i64 0)).other (by omega) (b' := X + 1) 1 (.int .i64 M2)).other (by omega) (b' := X + 2) 0 (.int .i64 0)).other (by omega) (b' := X + 2) 1 (.int .i64 M2)).drew.cell 1 _ rfl, ((((st.k4.other (by omega) (b' := X + 1) 0 (.int .i64 0)).other (by omega) (b' := X + 1) 1 (.int .i64 M2)).other (by omega) (b' := X + 2) 0 (.int .i64 0)).other (by omega) (b' := X + 2) 1 (.int .i64 M2)).drew.cell 0 _ rfl, ((((st.k4.other (by omega) (b' := X + 1) 0 (.int .i64 0)).other (by omega) (b' := X + 1) 1 (.int .i64 M2)).other (by omega) (b' := X + 2) 0 (.int .i64 0)).other (by omega) (b' := X + 2) 1 (.int .i64 M2)).drew.cell 1 _ rfl⟩)
              have HC4 := Lib.hid (show (((((W).setCell ⟨X + 2, 0, none⟩ (.int .i64 0)).setCell ⟨X + 2, 1, none⟩ (.int .i64 M2)).setCell ⟨X + 1, 0, none⟩ (.int .i64 0)).setCell ⟨X + 1, 1, none⟩ (.int .i64 M2)).drew.cell? ⟨X + 3, 0, none⟩ = some (.int .i64 0) ∧ (((((W).setCell ⟨X + 2, 0, none⟩ (.int .i64 0)).setCell ⟨X + 2, 1, none⟩ (.int .i64 M2)).setCell ⟨X + 1, 0, none⟩ (.int .i64 0)).setCell ⟨X + 1, 1, none⟩ (.int .i64 M2)).drew.cell? ⟨X + 3, 1, none⟩ = some (.int .i64 M2) ∧ (((((W).setCell ⟨X + 2, 0, none⟩ (.int .i64 0)).setCell ⟨X + 2, 1, none⟩ (.int .i64 M2)).setCell ⟨X + 1, 0, none⟩ (.int .i64 0)).setCell ⟨X + 1, 1, none⟩ (.int .i64 M2)).drew.cell? ⟨X + 4, 0, none⟩ = some (.int .i64 0) ∧ (((((W).setCell ⟨X + 2, 0, none⟩ (.int .i64 0)).setCell ⟨X + 2, 1, none⟩ (.int .i64 M2)).setCell ⟨X + 1, 0, none⟩ (.int .i64 0)).setCell ⟨X + 1, 1, none⟩ (.int .i64 M2)).drew.cell? ⟨X + 4, 1, none⟩ = some (.int .i64 M2) from ⟨((((st.k3.other (by omega) (b' := X + 2) 0 (.int .i64 0)).other (by omega) (b' := X + 2) 1 (.int .i64 M2)).other (by omega) (b' := X + 1) 0 (.int .i64 0)).other (by omega) (b' := X + 1) 1 (.int .i64 M2)).drew.cell 0 _ rfl, ((((st.k3.other (by omega) (b' := X + 2) 0 (.int .i64 0)).other (by omega) (b' := X + 2) 1 (.int .i64 M2)).other (by omega) (b' := X + 1) 0 (.int .i64 0)).other (by omega) (b' := X + 1) 1 (.int .i64 M2)).drew.cell 1 _ rfl, ((((st.k4.other (by omega) (b' := X + 2) 0 (.int .i64 0)).other (by omega) (b' := X + 2) 1 (.int .i64 M2)).other (by omega) (b' := X + 1) 0 (.int .i64 0)).other (by omega) (b' := X + 1) 1 (.int .i64 M2)).drew.cell 0 _ rfl, ((((st.k4.other (by omega) (b' := X + 2) 0 (.int .i64 0)).other (by omega) (b' := X + 2) 1 (.int .i64 M2)).other (by omega) (b' := X + 1) 0 (.int .i64 0)).other (by omega) (b' := X + 1) 1 (.int .i64 M2)).drew.cell 1 _ rfl⟩)
              have u10 := st.k1.cell 0 _ rfl
              have u11 := st.k1.cell 1 _ rfl
              have u20 := st.k2.cell 0 _ rfl
              have u21 := st.k2.cell 1 _ rfl
              have v10 := st.k1.free 0
              have v11 := st.k1.free 1
              have v20 := st.k2.free 0
              have v21 := st.k2.free 1
              have HE1 := Lib.hid (show ∀ a b, OnS (fun x => x = X + 1 ∨ x = X + 2) W (((((W.setCell ⟨X + 1, 0, none⟩ a).setCell ⟨X + 1, 1, none⟩ b).setCell ⟨X + 2, 0, none⟩ a).setCell ⟨X + 2, 1, none⟩ b).drew) from fun a b => (((((OnS.cell _ _ _).weak fun x _ h => .inl h).trans ((OnS.cell _ _ _).weak fun x _ h => .inl h)).trans ((OnS.cell _ _ _).weak fun x _ h => .inr h)).trans ((OnS.cell _ _ _).weak fun x _ h => .inr h)).trans (OnS.of (bdr _)))
              have HE2 := Lib.hid (show ∀ a b, OnS (fun x => x = X + 1 ∨ x = X + 2) W (((((W.setCell ⟨X + 2, 0, none⟩ a).setCell ⟨X + 2, 1, none⟩ b).setCell ⟨X + 1, 0, none⟩ a).setCell ⟨X + 1, 1, none⟩ b).drew) from fun a b => (((((OnS.cell _ _ _).weak fun x _ h => .inr h).trans ((OnS.cell _ _ _).weak fun x _ h => .inr h)).trans ((OnS.cell _ _ _).weak fun x _ h => .inl h)).trans ((OnS.cell _ _ _).weak fun x _ h => .inl h)).trans (OnS.of (bdr _)))
              have q1 := ((((st.k1.set 0 (.int .i64 0)).set 1 (.int .i64 M2)).other (by omega) (b' := X + 2) 0 (.int .i64 0)).other (by omega) (b' := X + 2) 1 (.int .i64 M2))
              have q2 := (((st.k2.other (by omega) (b' := X + 1) 0 (.int .i64 0)).other (by omega) (b' := X + 1) 1 (.int .i64 M2)).set 0 (.int .i64 0)).set 1 (.int .i64 M2)
              have q3 := (((st.k1.other (by omega) (b' := X + 2) 0 (.int .i64 0)).other (by omega) (b' := X + 2) 1 (.int .i64 M2)).set 0 (.int .i64 0)).set 1 (.int .i64 M2)
              have q4 := ((((st.k2.set 0 (.int .i64 0)).set 1 (.int .i64 M2)).other (by omega) (b' := X + 1) 0 (.int .i64 0)).other (by omega) (b' := X + 1) 1 (.int .i64 M2))
              have HQA := Lib.hid (And.intro q1.drew q2.drew)
              have HQB := Lib.hid (And.intro q3.drew q4.drew)
              clear st hW S1 S2 S3 S4 q1 q2 q3 q4
              go_wp2_with fail
              go_region_held3 (fun w' => w'.cell? ⟨X + 3, 0, none⟩ = some (.int .i64 0) ∧ w'.cell? ⟨X + 3, 1, none⟩ = some (.int .i64 M2) ∧ w'.cell? ⟨X + 4, 0, none⟩ = some (.int .i64 0) ∧ w'.cell? ⟨X + 4, 1, none⟩ = some (.int .i64 M2)) (first | with_reducible exact HC0.out | with_reducible exact HC1.out | with_reducible exact HC2.out | with_reducible exact HC3.out | with_reducible exact HC4.out | go_keep) (fail)
              go_wp2_with fail
              have z10 : ((((W.setCell ⟨X + 1, 0, none⟩ (.int .i64 0)).setCell ⟨X + 1, 1, none⟩ (.int .i64 M2)).setCell ⟨X + 1 + 1, 0, none⟩ (.int .i64 0)).setCell ⟨X + 1 + 1, 1, none⟩ (.int .i64 M2)).drew.cell? ⟨X + 1, 0, none⟩ = some (.int .i64 0) := HQA.out.1.cell 0 _ rfl
              have z11 : ((((W.setCell ⟨X + 1, 0, none⟩ (.int .i64 0)).setCell ⟨X + 1, 1, none⟩ (.int .i64 M2)).setCell ⟨X + 1 + 1, 0, none⟩ (.int .i64 0)).setCell ⟨X + 1 + 1, 1, none⟩ (.int .i64 M2)).drew.cell? ⟨X + 1, 1, none⟩ = some (.int .i64 M2) := HQA.out.1.cell 1 _ rfl
              have z20 : ((((W.setCell ⟨X + 1, 0, none⟩ (.int .i64 0)).setCell ⟨X + 1, 1, none⟩ (.int .i64 M2)).setCell ⟨X + 1 + 1, 0, none⟩ (.int .i64 0)).setCell ⟨X + 1 + 1, 1, none⟩ (.int .i64 M2)).drew.cell? ⟨X + 1 + 1, 0, none⟩ = some (.int .i64 0) := HQA.out.2.cell 0 _ rfl
              have z21 : ((((W.setCell ⟨X + 1, 0, none⟩ (.int .i64 0)).setCell ⟨X + 1, 1, none⟩ (.int .i64 M2)).setCell ⟨X + 1 + 1, 0, none⟩ (.int .i64 0)).setCell ⟨X + 1 + 1, 1, none⟩ (.int .i64 M2)).drew.cell? ⟨X + 1 + 1, 1, none⟩ = some (.int .i64 M2) := HQA.out.2.cell 1 _ rfl
              have hf := st_fin HPP.out HS.out (HE1.out (.int .i64 0) (.int .i64 M2)) HS.out.xw
              refine bodyPost_ret (v := .tuple #[.agg #[.int .i64 0, .int .i64 M2], .agg #[.int .i64 0, .int .i64 M2]]) (by simp [results, Try.results11, go_sem, z10, z11, z20, z21]) rfl ?_
              rw [HDD.out]
              exact ⟨rfl, hf⟩
            · skip
              by_cases k6 : k = 6
              · skip
                subst k6
                have hd0 := deed_6 E t n v
                obtain ⟨⟨M1, M2⟩, hM⟩ : ∃ x, shutR E t false = x := ⟨_, rfl⟩
                have HA := Lib.hid (HPP.out.undo S0.out.tp HW.out hm1.out t bt)
                have HB := Lib.hid (fun w1 (h : DE w1 G r E) => rshut_c w1 G r E h m HW.out.wf hm2.out t false)
                simp only [hM] at HA HB hd0
                have HDD := Lib.hid hd0
                clear hM hd0
                go_wp2_with fail
                refine HA.out.mono ?_
                rintro e w1 ⟨rfl, ho, F', ht, hg⟩
                have S1 := Lib.hid (S0.out.callp ho ht hg)
                clear ho ht hg
                rw [hX.out] at S1
                have S2 := Lib.hid (S1.out.putA1 HPP.out M2)
                have g31 := S1.out.k3.cell 1 _ rfl
                have l31 := S1.out.k3.free 1
                have y1 : (w1.setCell ⟨X + 3, 1, none⟩ (.int .i64 M2)).cell? ⟨X, 1, none⟩ = some (.int .i64 t) := S2.out.kd.cell 1 _ rfl
                have y2 : (w1.setCell ⟨X + 3, 1, none⟩ (.int .i64 M2)).cell? ⟨X, 2, none⟩ = some (.int .i64 n) := S2.out.kd.cell 2 _ rfl
                have y3 : (w1.setCell ⟨X + 3, 1, none⟩ (.int .i64 M2)).cell? ⟨X, 3, none⟩ = some (.int .i64 v) := S2.out.kd.cell 3 _ rfl
                rw [hX.out]
                go_wp2_with fail
                refine (HB.out _ S2.out.de).mono ?_
                rintro e w2 ⟨rfl, ho, G', hd, hg⟩
                have S3 := Lib.hid (S2.out.callr HPP.out ho hd hg)
                clear ho hd hg
                have S4 := Lib.hid (S3.out.putB1 HPP.out M2)
                have g41 := S3.out.k4.cell 1 _ rfl
                have l41 := S3.out.k4.free 1
                go_wp2_with fail
                obtain ⟨W, hW⟩ : ∃ x, w2.setCell ⟨X + 4, 1, none⟩ (.int .i64 M2) = x := ⟨_, rfl⟩
                have st := S4.out
                rw [hW] at st ⊢
                have HS := Lib.hid st
                have HC0 := Lib.hid (show (W).drew.cell? ⟨X + 3, 0, none⟩ = some (.int .i64 0) ∧ (W).drew.cell? ⟨X + 3, 1, none⟩ = some (.int .i64 M2) ∧ (W).drew.cell? ⟨X + 4, 0, none⟩ = some (.int .i64 0) ∧ (W).drew.cell? ⟨X + 4, 1, none⟩ = some (.int .i64 M2) from ⟨st.k3.drew.cell 0 _ rfl, st.k3.drew.cell 1 _ rfl, st.k4.drew.cell 0 _ rfl, st.k4.drew.cell 1 _ rfl⟩)
                have HC1 := Lib.hid (show (((W).setCell ⟨X + 1, 0, none⟩ (.int .i64 0)).setCell ⟨X + 1, 1, none⟩ (.int .i64 M2)).drew.cell? ⟨X + 3, 0, none⟩ = some (.int .i64 0) ∧ (((W).setCell ⟨X + 1, 0, none⟩ (.int .i64 0)).setCell ⟨X + 1, 1, none⟩ (.int .i64 M2)).drew.cell? ⟨X + 3, 1, none⟩ = some (.int .i64 M2) ∧ (((W).setCell ⟨X + 1, 0, none⟩ (.int .i64 0)).setCell ⟨X + 1, 1, none⟩ (.int .i64 M2)).drew.cell? ⟨X + 4, 0, none⟩ = some (.int .i64 0) ∧ (((W).setCell ⟨X + 1, 0, none⟩ (.int .i64 0)).setCell ⟨X + 1, 1, none⟩ (.int .i64 M2)).drew.cell? ⟨X + 4, 1, none⟩ = some (.int .i64 M2) from ⟨((st.k3.other (by omega) (b' := X + 1) 0 (.int .i64 0)).other (by omega) (b' := X + 1) 1 (.int .i64 M2)).drew.cell 0 _ rfl, ((st.k3.other (by omega) (b' := X + 1) 0 (.int .i64 0)).other (by omega) (b' := X + 1) 1 (.int .i64 M2)).drew.cell 1 _ rfl, ((st.k4.other (by omega) (b' := X + 1) 0 (.int .i64 0)).other (by omega) (b' := X + 1) 1 (.int .i64 M2)).drew.cell 0 _ rfl, ((st.k4.other (by omega) (b' := X + 1) 0 (.int .i64 0)).other (by omega) (b' := X + 1) 1 (.int .i64 M2)).drew.cell 1 _ rfl⟩)
                have HC2 := Lib.hid (show (((W).setCell ⟨X + 2, 0, none⟩ (.int .i64 0)).setCell ⟨X + 2, 1, none⟩ (.int .i64 M2)).drew.cell? ⟨X + 3, 0, none⟩ = some (.int .i64 0) ∧ (((W).setCell ⟨X + 2, 0, none⟩ (.int .i64 0)).setCell ⟨X + 2, 1, none⟩ (.int .i64 M2)).drew.cell? ⟨X + 3, 1, none⟩ = some (.int .i64 M2) ∧ (((W).setCell ⟨X + 2, 0, none⟩ (.int .i64 0)).setCell ⟨X + 2, 1, none⟩ (.int .i64 M2)).drew.cell? ⟨X + 4, 0, none⟩ = some (.int .i64 0) ∧ (((W).setCell ⟨X + 2, 0, none⟩ (.int .i64 0)).setCell ⟨X + 2, 1, none⟩ (.int .i64 M2)).drew.cell? ⟨X + 4, 1, none⟩ = some (.int .i64 M2) from ⟨((st.k3.other (by omega) (b' := X + 2) 0 (.int .i64 0)).other (by omega) (b' := X + 2) 1 (.int .i64 M2)).drew.cell 0 _ rfl, ((st.k3.other (by omega) (b' := X + 2) 0 (.int .i64 0)).other (by omega) (b' := X + 2) 1 (.int .i64 M2)).drew.cell 1 _ rfl, ((st.k4.other (by omega) (b' := X + 2) 0 (.int .i64 0)).other (by omega) (b' := X + 2) 1 (.int .i64 M2)).drew.cell 0 _ rfl, ((st.k4.other (by omega) (b' := X + 2) 0 (.int .i64 0)).other (by omega) (b' := X + 2) 1 (.int .i64 M2)).drew.cell 1 _ rfl⟩)
                have HC3 := Lib.hid (show (((((W).setCell ⟨X + 1, 0, none⟩ (.int .i64 0)).setCell ⟨X + 1, 1, none⟩ (.int .i64 M2)).setCell ⟨X + 2, 0, none⟩ (.int .i64 0)).setCell ⟨X + 2, 1, none⟩ (.int .i64 M2)).drew.cell? ⟨X + 3, 0, none⟩ = some (.int .i64 0) ∧ (((((W).setCell ⟨X + 1, 0, none⟩ (.int .i64 0)).setCell ⟨X + 1, 1, none⟩ (.int .i64 M2)).setCell ⟨X + 2, 0, none⟩ (.int .i64 0)).setCell ⟨X + 2, 1, none⟩ (.int .i64 M2)).drew.cell? ⟨X + 3, 1, none⟩ = some (.int .i64 M2) ∧ (((((W).setCell ⟨X + 1, 0, none⟩ (.int .i64 0)).setCell ⟨X + 1, 1, none⟩ (.int .i64 M2)).setCell ⟨X + 2, 0, none⟩ (.int .i64 0)).setCell ⟨X + 2, 1, none⟩ (.int .i64 M2)).drew.cell? ⟨X + 4, 0, none⟩ = some (.int .i64 0) ∧ (((((W).setCell ⟨X + 1, 0, none⟩ (.int .i64 0)).setCell ⟨X + 1, 1, none⟩ (.int .i64 M2)).setCell ⟨X + 2, 0, none⟩ (.int .i64 0)).setCell ⟨X + 2, 1, none⟩ (.int .i64 M2)).drew.cell? ⟨X + 4, 1, none⟩ = some (.int .i64 M2) from ⟨((((st.k3.other (by omega) (b' := X + 1) 0 (.int .i64 0)).other (by omega) (b' := X + 1) 1 (.int .i64 M2)).other (by omega) (b' := X + 2) 0 (.int .i64 0)).other (by omega) (b' := X + 2) 1 (.int .i64 M2)).drew.cell 0 _ rfl, ((((st.k3.other (by omega) (b' := X + 1) 0 (.int .i64 0)).other (by omega) (b' := X + 1) 1 (.int .i64 M2)).other (by omega) (b' := X + 2) 0 (.int .i64 0)).other (by omega) (b' := X + 2) 1 (.int .i64 M2)).drew.cell 1 _ rfl, ((((st.k4.other (by omega) (b' := X + 1) 0 (.int .i64 0)).other (by omega) (b' := X + 1) 1 (.int .i64 M2)).other (by omega) (b' := X + 2) 0 (.int .i64 0)).other (by omega) (b' := X + 2) 1 (.int .i64 M2)).drew.cell 0 _ rfl, ((((st.k4.other (by omega) (b' := X + 1) 0 (.int .i64 0)).other (by omega) (b' := X + 1) 1 (.int .i64 M2)).other (by omega) (b' := X + 2) 0 (.int .i64 0)).other (by omega) (b' := X + 2) 1 (.int .i64 M2)).drew.cell 1 _ rfl⟩)
                have HC4 := Lib.hid (show (((((W).setCell ⟨X + 2, 0, none⟩ (.int .i64 0)).setCell ⟨X + 2, 1, none⟩ (.int .i64 M2)).setCell ⟨X + 1, 0, none⟩ (.int .i64 0)).setCell ⟨X + 1, 1, none⟩ (.int .i64 M2)).drew.cell? ⟨X + 3, 0, none⟩ = some (.int .i64 0) ∧ (((((W).setCell ⟨X + 2, 0, none⟩ (.int .i64 0)).setCell ⟨X + 2, 1, none⟩ (.int .i64 M2)).setCell ⟨X + 1, 0, none⟩ (.int .i64 0)).setCell ⟨X + 1, 1, none⟩ (.int .i64 M2)).drew.cell? ⟨X + 3, 1, none⟩ = some (.int .i64 M2) ∧ (((((W).setCell ⟨X + 2, 0, none⟩ (.int .i64 0)).setCell ⟨X + 2, 1, none⟩ (.int .i64 M2)).setCell ⟨X + 1, 0, none⟩ (.int .i64 0)).setCell ⟨X + 1, 1, none⟩ (.int .i64 M2)).drew.cell? ⟨X + 4, 0, none⟩ = some (.int .i64 0) ∧ (((((W).setCell ⟨X + 2, 0, none⟩ (.int .i64 0)).setCell ⟨X + 2, 1, none⟩ (.int .i64 M2)).setCell ⟨X + 1, 0, none⟩ (.int .i64 0)).setCell ⟨X + 1, 1, none⟩ (.int .i64 M2)).drew.cell? ⟨X + 4, 1, none⟩ = some (.int .i64 M2) from ⟨((((st.k3.other (by omega) (b' := X + 2) 0 (.int .i64 0)).other (by omega) (b' := X + 2) 1 (.int .i64 M2)).other (by omega) (b' := X + 1) 0 (.int .i64 0)).other (by omega) (b' := X + 1) 1 (.int .i64 M2)).drew.cell 0 _ rfl, ((((st.k3.other (by omega) (b' := X + 2) 0 (.int .i64 0)).other (by omega) (b' := X + 2) 1 (.int .i64 M2)).other (by omega) (b' := X + 1) 0 (.int .i64 0)).other (by omega) (b' := X + 1) 1 (.int .i64 M2)).drew.cell 1 _ rfl, ((((st.k4.other (by omega) (b' := X + 2) 0 (.int .i64 0)).other (by omega) (b' := X + 2) 1 (.int .i64 M2)).other (by omega) (b' := X + 1) 0 (.int .i64 0)).other (by omega) (b' := X + 1) 1 (.int .i64 M2)).drew.cell 0 _ rfl, ((((st.k4.other (by omega) (b' := X + 2) 0 (.int .i64 0)).other (by omega) (b' := X + 2) 1 (.int .i64 M2)).other (by omega) (b' := X + 1) 0 (.int .i64 0)).other (by omega) (b' := X + 1) 1 (.int .i64 M2)).drew.cell 1 _ rfl⟩)
                have u10 := st.k1.cell 0 _ rfl
                have u11 := st.k1.cell 1 _ rfl
                have u20 := st.k2.cell 0 _ rfl
                have u21 := st.k2.cell 1 _ rfl
                have v10 := st.k1.free 0
                have v11 := st.k1.free 1
                have v20 := st.k2.free 0
                have v21 := st.k2.free 1
                have HE1 := Lib.hid (show ∀ a b, OnS (fun x => x = X + 1 ∨ x = X + 2) W (((((W.setCell ⟨X + 1, 0, none⟩ a).setCell ⟨X + 1, 1, none⟩ b).setCell ⟨X + 2, 0, none⟩ a).setCell ⟨X + 2, 1, none⟩ b).drew) from fun a b => (((((OnS.cell _ _ _).weak fun x _ h => .inl h).trans ((OnS.cell _ _ _).weak fun x _ h => .inl h)).trans ((OnS.cell _ _ _).weak fun x _ h => .inr h)).trans ((OnS.cell _ _ _).weak fun x _ h => .inr h)).trans (OnS.of (bdr _)))
                have HE2 := Lib.hid (show ∀ a b, OnS (fun x => x = X + 1 ∨ x = X + 2) W (((((W.setCell ⟨X + 2, 0, none⟩ a).setCell ⟨X + 2, 1, none⟩ b).setCell ⟨X + 1, 0, none⟩ a).setCell ⟨X + 1, 1, none⟩ b).drew) from fun a b => (((((OnS.cell _ _ _).weak fun x _ h => .inr h).trans ((OnS.cell _ _ _).weak fun x _ h => .inr h)).trans ((OnS.cell _ _ _).weak fun x _ h => .inl h)).trans ((OnS.cell _ _ _).weak fun x _ h => .inl h)).trans (OnS.of (bdr _)))
                have q1 := ((((st.k1.set 0 (.int .i64 0)).set 1 (.int .i64 M2)).other (by omega) (b' := X + 2) 0 (.int .i64 0)).other (by omega) (b' := X + 2) 1 (.int .i64 M2))
                have q2 := (((st.k2.other (by omega) (b' := X + 1) 0 (.int .i64 0)).other (by omega) (b' := X + 1) 1 (.int .i64 M2)).set 0 (.int .i64 0)).set 1 (.int .i64 M2)
                have q3 := (((st.k1.other (by omega) (b' := X + 2) 0 (.int .i64 0)).other (by omega) (b' := X + 2) 1 (.int .i64 M2)).set 0 (.int .i64 0)).set 1 (.int .i64 M2)
                have q4 := ((((st.k2.set 0 (.int .i64 0)).set 1 (.int .i64 M2)).other (by omega) (b' := X + 1) 0 (.int .i64 0)).other (by omega) (b' := X + 1) 1 (.int .i64 M2))
                have HQA := Lib.hid (And.intro q1.drew q2.drew)
                have HQB := Lib.hid (And.intro q3.drew q4.drew)
                clear st hW S1 S2 S3 S4 q1 q2 q3 q4
                go_wp2_with fail
                go_region_held3 (fun w' => w'.cell? ⟨X + 3, 0, none⟩ = some (.int .i64 0) ∧ w'.cell? ⟨X + 3, 1, none⟩ = some (.int .i64 M2) ∧ w'.cell? ⟨X + 4, 0, none⟩ = some (.int .i64 0) ∧ w'.cell? ⟨X + 4, 1, none⟩ = some (.int .i64 M2)) (first | with_reducible exact HC0.out | with_reducible exact HC1.out | with_reducible exact HC2.out | with_reducible exact HC3.out | with_reducible exact HC4.out | go_keep) (fail)
                go_wp2_with fail
                have z10 : ((((W.setCell ⟨X + 1, 0, none⟩ (.int .i64 0)).setCell ⟨X + 1, 1, none⟩ (.int .i64 M2)).setCell ⟨X + 1 + 1, 0, none⟩ (.int .i64 0)).setCell ⟨X + 1 + 1, 1, none⟩ (.int .i64 M2)).drew.cell? ⟨X + 1, 0, none⟩ = some (.int .i64 0) := HQA.out.1.cell 0 _ rfl
                have z11 : ((((W.setCell ⟨X + 1, 0, none⟩ (.int .i64 0)).setCell ⟨X + 1, 1, none⟩ (.int .i64 M2)).setCell ⟨X + 1 + 1, 0, none⟩ (.int .i64 0)).setCell ⟨X + 1 + 1, 1, none⟩ (.int .i64 M2)).drew.cell? ⟨X + 1, 1, none⟩ = some (.int .i64 M2) := HQA.out.1.cell 1 _ rfl
                have z20 : ((((W.setCell ⟨X + 1, 0, none⟩ (.int .i64 0)).setCell ⟨X + 1, 1, none⟩ (.int .i64 M2)).setCell ⟨X + 1 + 1, 0, none⟩ (.int .i64 0)).setCell ⟨X + 1 + 1, 1, none⟩ (.int .i64 M2)).drew.cell? ⟨X + 1 + 1, 0, none⟩ = some (.int .i64 0) := HQA.out.2.cell 0 _ rfl
                have z21 : ((((W.setCell ⟨X + 1, 0, none⟩ (.int .i64 0)).setCell ⟨X + 1, 1, none⟩ (.int .i64 M2)).setCell ⟨X + 1 + 1, 0, none⟩ (.int .i64 0)).setCell ⟨X + 1 + 1, 1, none⟩ (.int .i64 M2)).drew.cell? ⟨X + 1 + 1, 1, none⟩ = some (.int .i64 M2) := HQA.out.2.cell 1 _ rfl
                have hf := st_fin HPP.out HS.out (HE1.out (.int .i64 0) (.int .i64 M2)) HS.out.xw
                refine bodyPost_ret (v := .tuple #[.agg #[.int .i64 0, .int .i64 M2], .agg #[.int .i64 0, .int .i64 M2]]) (by simp [results, Try.results11, go_sem, z10, z11, z20, z21]) rfl ?_
                rw [HDD.out]
                exact ⟨rfl, hf⟩
              · skip
                by_cases k7 : k = 7
                · skip
                  subst k7
                  have hd0 := deed_7 E t n v
                  obtain ⟨⟨M1, M2⟩, hM⟩ : ∃ x, abortR E t = x := ⟨_, rfl⟩
                  have HA := Lib.hid (HPP.out.abort S0.out.tp HW.out hm1.out t bt)
                  have HB := Lib.hid (fun w1 (h : DE w1 G r E) => rabort_c w1 G r E h m HW.out.wf t)
                  simp only [hM] at HA HB hd0
                  have HDD := Lib.hid hd0
                  clear hM hd0
                  go_wp2_with fail
                  refine HA.out.mono ?_
                  rintro e w1 ⟨rfl, ho, F', ht, hg⟩
                  have S1 := Lib.hid (S0.out.callp ho ht hg)
                  clear ho ht hg
                  rw [hX.out] at S1
                  have S2 := Lib.hid (S1.out.putA1 HPP.out M2)
                  have g31 := S1.out.k3.cell 1 _ rfl
                  have l31 := S1.out.k3.free 1
                  have y1 : (w1.setCell ⟨X + 3, 1, none⟩ (.int .i64 M2)).cell? ⟨X, 1, none⟩ = some (.int .i64 t) := S2.out.kd.cell 1 _ rfl
                  have y2 : (w1.setCell ⟨X + 3, 1, none⟩ (.int .i64 M2)).cell? ⟨X, 2, none⟩ = some (.int .i64 n) := S2.out.kd.cell 2 _ rfl
                  have y3 : (w1.setCell ⟨X + 3, 1, none⟩ (.int .i64 M2)).cell? ⟨X, 3, none⟩ = some (.int .i64 v) := S2.out.kd.cell 3 _ rfl
                  rw [hX.out]
                  go_wp2_with fail
                  refine (HB.out _ S2.out.de).mono ?_
                  rintro e w2 ⟨rfl, ho, hd⟩
                  have S3 := Lib.hid (S2.out.callr HPP.out ho hd (Gr.refl _ _))
                  clear ho hd
                  have S4 := Lib.hid (S3.out.putB1 HPP.out M2)
                  have g41 := S3.out.k4.cell 1 _ rfl
                  have l41 := S3.out.k4.free 1
                  go_wp2_with fail
                  obtain ⟨W, hW⟩ : ∃ x, w2.setCell ⟨X + 4, 1, none⟩ (.int .i64 M2) = x := ⟨_, rfl⟩
                  have st := S4.out
                  rw [hW] at st ⊢
                  have HS := Lib.hid st
                  have HC0 := Lib.hid (show (W).drew.cell? ⟨X + 3, 0, none⟩ = some (.int .i64 0) ∧ (W).drew.cell? ⟨X + 3, 1, none⟩ = some (.int .i64 M2) ∧ (W).drew.cell? ⟨X + 4, 0, none⟩ = some (.int .i64 0) ∧ (W).drew.cell? ⟨X + 4, 1, none⟩ = some (.int .i64 M2) from ⟨st.k3.drew.cell 0 _ rfl, st.k3.drew.cell 1 _ rfl, st.k4.drew.cell 0 _ rfl, st.k4.drew.cell 1 _ rfl⟩)
                  have HC1 := Lib.hid (show (((W).setCell ⟨X + 1, 0, none⟩ (.int .i64 0)).setCell ⟨X + 1, 1, none⟩ (.int .i64 M2)).drew.cell? ⟨X + 3, 0, none⟩ = some (.int .i64 0) ∧ (((W).setCell ⟨X + 1, 0, none⟩ (.int .i64 0)).setCell ⟨X + 1, 1, none⟩ (.int .i64 M2)).drew.cell? ⟨X + 3, 1, none⟩ = some (.int .i64 M2) ∧ (((W).setCell ⟨X + 1, 0, none⟩ (.int .i64 0)).setCell ⟨X + 1, 1, none⟩ (.int .i64 M2)).drew.cell? ⟨X + 4, 0, none⟩ = some (.int .i64 0) ∧ (((W).setCell ⟨X + 1, 0, none⟩ (.int .i64 0)).setCell ⟨X + 1, 1, none⟩ (.int .i64 M2)).drew.cell? ⟨X + 4, 1, none⟩ = some (.int .i64 M2) from ⟨((st.k3.other (by omega) (b' := X + 1) 0 (.int .i64 0)).other (by omega) (b' := X + 1) 1 (.int .i64 M2)).drew.cell 0 _ rfl, ((st.k3.other (by omega) (b' := X + 1) 0 (.int .i64 0)).other (by omega) (b' := X + 1) 1 (.int .i64 M2)).drew.cell 1 _ rfl, ((st.k4.other (by omega) (b' := X + 1) 0 (.int .i64 0)).other (by omega) (b' := X + 1) 1 (.int .i64 M2)).drew.cell 0 _ rfl, ((st.k4.other (by omega) (b' := X + 1) 0 (.int .i64 0)).other (by omega) (b' := X + 1) 1 (.int .i64 M2)).drew.cell 1 _ rfl⟩)
                  have HC2 := Lib.hid (show (((W).setCell ⟨X + 2, 0, none⟩ (.int .i64 0)).setCell ⟨X + 2, 1, none⟩ (.int .i64 M2)).drew.cell? ⟨X + 3, 0, none⟩ = some (.int .i64 0) ∧ (((W).setCell ⟨X + 2, 0, none⟩ (.int .i64 0)).setCell ⟨X + 2, 1, none⟩ (.int .i64 M2)).drew.cell? ⟨X + 3, 1, none⟩ = some (.int .i64 M2) ∧ (((W).setCell ⟨X + 2, 0, none⟩ (.int .i64 0)).setCell ⟨X + 2, 1, none⟩ (.int .i64 M2)).drew.cell? ⟨X + 4, 0, none⟩ = some (.int .i64 0) ∧ (((W).setCell ⟨X + 2, 0, none⟩ (.int .i64 0)).setCell ⟨X + 2, 1, none⟩ (.int .i64 M2)).drew.cell? ⟨X + 4, 1, none⟩ = some (.int .i64 M2) from ⟨((st.k3.other (by omega) (b' := X + 2) 0 (.int .i64 0)).other (by omega) (b' := X + 2) 1 (.int .i64 M2)).drew.cell 0 _ rfl, ((st.k3.other (by omega) (b' := X + 2) 0 (.int .i64 0)).other (by omega) (b' := X + 2) 1 (.int .i64 M2)).drew.cell 1 _ rfl, ((st.k4.other (by omega) (b' := X + 2) 0 (.int .i64 0)).other (by omega) (b' := X + 2) 1 (.int .i64 M2)).drew.cell 0 _ rfl, ((st.k4.other (by omega) (b' := X + 2) 0 (.int .i64 0)).other (by omega) (b' := X + 2) 1 (.int .i64 M2)).drew.cell 1 _ rfl⟩)
                  have HC3 := Lib.hid (show (((((W).setCell ⟨X + 1, 0, none⟩ (.int .i64 0)).setCell ⟨X + 1, 1, none⟩ (.int .i64 M2)).setCell ⟨X + 2, 0, none⟩ (.int .i64 0)).setCell ⟨X + 2, 1, none⟩ (.int .i64 M2)).drew.cell? ⟨X + 3, 0, none⟩ = some (.int .i64 0) ∧ (((((W).setCell ⟨X + 1, 0, none⟩ (.int .i64 0)).setCell ⟨X + 1, 1, none⟩ (.int .i64 M2)).setCell ⟨X + 2, 0, none⟩ (.int .i64 0)).setCell ⟨X + 2, 1, none⟩ (.int .i64 M2)).drew.cell? ⟨X + 3, 1, none⟩ = some (.int .i64 M2) ∧ (((((W).setCell ⟨X + 1, 0, none⟩ (.int .i64 0)).setCell ⟨X + 1, 1, none⟩ (.int .i64 M2)).setCell ⟨X + 2, 0, none⟩ (.int .i64 0)).setCell ⟨X + 2, 1, none⟩ (.int .i64 M2)).drew.cell? ⟨X + 4, 0, none⟩ = some (.int .i64 0) ∧ (((((W).setCell ⟨X + 1, 0, none⟩ (.int .i64 0)).setCell ⟨X + 1, 1, none⟩ (.int .i64 M2)).setCell ⟨X + 2, 0, none⟩ (.int .i64 0)).setCell ⟨X + 2, 1, none⟩ (.int .i64 M2)).drew.cell? ⟨X + 4, 1, none⟩ = some (.int .i64 M2) from ⟨((((st.k3.other (by omega) (b' := X + 1) 0 (.int .i64 0)).other (by omega) (b' := X + 1) 1 (.int .i64 M2)).other (by omega) (b' := X + 2) 0 (.int .i64 0)).other (by omega) (b' := X + 2) 1 (.int .i64 M2)).drew.cell 0 _ rfl, ((((st.k3.other (by omega) (b' := X + 1) 0 (.int .i64 0)).other (by omega) (b' := X + 1) 1 (.int .i64 M2)).other (by omega) (b' := X + 2) 0 (.int .i64 0)).other (by omega) (b' := X + 2) 1 (.int .i64 M2)).drew.cell 1 _ rfl, ((((st.k4.other (by omega) (b' := X + 1) 0 (.int .i64 0)).other (by omega) (b' := X + 1) 1 (.int .i64 M2)).other (by omega) (b' := X + 2) 0 (.int .i64 0)).other (by omega) (b' := X + 2) 1 (.int .i64 M2)).drew.cell 0 _ rfl, ((((st.k4.other (by omega) (b' := X + 1) 0 (.int .i64 0)).other (by omega) (b' := X + 1) 1 (.int .i64 M2)).other (by omega) (b' := X + 2) 0 (.int .i64 0)).other (by omega) (b' := X + 2) 1 (.int .i64 M2)).drew.cell 1 _ rfl⟩)
                  have HC4 := Lib.hid (show (((((W).setCell ⟨X + 2, 0, none⟩ (.int .i64 0)).setCell ⟨X + 2, 1, none⟩ (.int .i64 M2)).setCell ⟨X + 1, 0, none⟩ (.int .i64 0)).setCell ⟨X + 1, 1, none⟩ (.int .i64 M2)).drew.cell? ⟨X + 3, 0, none⟩ = some (.int .i64 0) ∧ (((((W).setCell ⟨X + 2, 0, none⟩ (.int .i64 0)).setCell ⟨X + 2, 1, none⟩ (.int .i64 M2)).setCell ⟨X + 1, 0, none⟩ (.int .i64 0)).setCell ⟨X + 1, 1, none⟩ (.int .i64 M2)).drew.cell? ⟨X + 3, 1, none⟩ = some (.int .i64 M2) ∧ (((((W).setCell ⟨X + 2, 0, none⟩ (.int .i64 0)).setCell ⟨X + 2, 1, none⟩ (.int .i64 M2)).setCell ⟨X + 1, 0, none⟩ (.int .i64 0)).setCell ⟨X + 1, 1, none⟩ (.int .i64 M2)).drew.cell? ⟨X + 4, 0, none⟩ = some (.int .i64 0) ∧ (((((W).setCell ⟨X + 2, 0, none⟩ (.int .i64 0)).setCell ⟨X + 2, 1, none⟩ (.int .i64 M2)).setCell ⟨X + 1, 0, none⟩ (.int .i64 0)).setCell ⟨X + 1, 1, none⟩ (.int .i64 M2)).drew.cell? ⟨X + 4, 1, none⟩ = some (.int .i64 M2) from ⟨((((st.k3.other (by omega) (b' := X + 2) 0 (.int .i64 0)).other (by omega) (b' := X + 2) 1 (.int .i64 M2)).other (by omega) (b' := X + 1) 0 (.int .i64 0)).other (by omega) (b' := X + 1) 1 (.int .i64 M2)).drew.cell 0 _ rfl, ((((st.k3.other (by omega) (b' := X + 2) 0 (.int .i64 0)).other (by omega) (b' := X + 2) 1 (.int .i64 M2)).other (by omega) (b' := X + 1) 0 (.int .i64 0)).other (by omega) (b' := X + 1) 1 (.int .i64 M2)).drew.cell 1 _ rfl, ((((st.k4.other (by omega) (b' := X + 2) 0 (.int .i64 0)).other (by omega) (b' := X + 2) 1 (.int .i64 M2)).other (by omega) (b' := X + 1) 0 (.int .i64 0)).other (by omega) (b' := X + 1) 1 (.int .i64 M2)).drew.cell 0 _ rfl, ((((st.k4.other (by omega) (b' := X + 2) 0 (.int .i64 0)).other (by omega) (b' := X + 2) 1 (.int .i64 M2)).other (by omega) (b' := X + 1) 0 (.int .i64 0)).other (by omega) (b' := X + 1) 1 (.int .i64 M2)).drew.cell 1 _ rfl⟩)
                  have u10 := st.k1.cell 0 _ rfl
                  have u11 := st.k1.cell 1 _ rfl
                  have u20 := st.k2.cell 0 _ rfl
                  have u21 := st.k2.cell 1 _ rfl
                  have v10 := st.k1.free 0
                  have v11 := st.k1.free 1
                  have v20 := st.k2.free 0
                  have v21 := st.k2.free 1
                  have HE1 := Lib.hid (show ∀ a b, OnS (fun x => x = X + 1 ∨ x = X + 2) W (((((W.setCell ⟨X + 1, 0, none⟩ a).setCell ⟨X + 1, 1, none⟩ b).setCell ⟨X + 2, 0, none⟩ a).setCell ⟨X + 2, 1, none⟩ b).drew) from fun a b => (((((OnS.cell _ _ _).weak fun x _ h => .inl h).trans ((OnS.cell _ _ _).weak fun x _ h => .inl h)).trans ((OnS.cell _ _ _).weak fun x _ h => .inr h)).trans ((OnS.cell _ _ _).weak fun x _ h => .inr h)).trans (OnS.of (bdr _)))
                  have HE2 := Lib.hid (show ∀ a b, OnS (fun x => x = X + 1 ∨ x = X + 2) W (((((W.setCell ⟨X + 2, 0, none⟩ a).setCell ⟨X + 2, 1, none⟩ b).setCell ⟨X + 1, 0, none⟩ a).setCell ⟨X + 1, 1, none⟩ b).drew) from fun a b => (((((OnS.cell _ _ _).weak fun x _ h => .inr h).trans ((OnS.cell _ _ _).weak fun x _ h => .inr h)).trans ((OnS.cell _ _ _).weak fun x _ h => .inl h)).trans ((OnS.cell _ _ _).weak fun x _ h => .inl h)).trans (OnS.of (bdr _)))
                  have q1 := ((((st.k1.set 0 (.int .i64 0)).set 1 (.int .i64 M2)).other (by omega) (b' := X + 2) 0 (.int .i64 0)).other (by omega) (b' := X + 2) 1 (.int .i64 M2))
                  have q2 := (((st.k2.other (by omega) (b' := X + 1) 0 (.int .i64 0)).other (by omega) (b' := X + 1) 1 (.int .i64 M2)).set 0 (.int .i64 0)).set 1 (.int .i64 M2)
                  have q3 := (((st.k1.other (by omega) (b' := X + 2) 0 (.int .i64 0)).other (by omega) (b' := X + 2) 1 (.int .i64 M2)).set 0 (.int .i64 0)).set 1 (.int .i64 M2)
                  have q4 := ((((st.k2.set 0 (.int .i64 0)).set 1 (.int .i64 M2)).other (by omega) (b' := X + 1) 0 (.int .i64 0)).other (by omega) (b' := X + 1) 1 (.int .i64 M2))
                  have HQA := Lib.hid (And.intro q1.drew q2.drew)
                  have HQB := Lib.hid (And.intro q3.drew q4.drew)
                  clear st hW S1 S2 S3 S4 q1 q2 q3 q4
                  go_wp2_with fail
                  go_region_held3 (fun w' => w'.cell? ⟨X + 3, 0, none⟩ = some (.int .i64 0) ∧ w'.cell? ⟨X + 3, 1, none⟩ = some (.int .i64 M2) ∧ w'.cell? ⟨X + 4, 0, none⟩ = some (.int .i64 0) ∧ w'.cell? ⟨X + 4, 1, none⟩ = some (.int .i64 M2)) (first | with_reducible exact HC0.out | with_reducible exact HC1.out | with_reducible exact HC2.out | with_reducible exact HC3.out | with_reducible exact HC4.out | go_keep) (fail)
                  go_wp2_with fail
                  have z10 : ((((W.setCell ⟨X + 1, 0, none⟩ (.int .i64 0)).setCell ⟨X + 1, 1, none⟩ (.int .i64 M2)).setCell ⟨X + 1 + 1, 0, none⟩ (.int .i64 0)).setCell ⟨X + 1 + 1, 1, none⟩ (.int .i64 M2)).drew.cell? ⟨X + 1, 0, none⟩ = some (.int .i64 0) := HQA.out.1.cell 0 _ rfl
                  have z11 : ((((W.setCell ⟨X + 1, 0, none⟩ (.int .i64 0)).setCell ⟨X + 1, 1, none⟩ (.int .i64 M2)).setCell ⟨X + 1 + 1, 0, none⟩ (.int .i64 0)).setCell ⟨X + 1 + 1, 1, none⟩ (.int .i64 M2)).drew.cell? ⟨X + 1, 1, none⟩ = some (.int .i64 M2) := HQA.out.1.cell 1 _ rfl
                  have z20 : ((((W.setCell ⟨X + 1, 0, none⟩ (.int .i64 0)).setCell ⟨X + 1, 1, none⟩ (.int .i64 M2)).setCell ⟨X + 1 + 1, 0, none⟩ (.int .i64 0)).setCell ⟨X + 1 + 1, 1, none⟩ (.int .i64 M2)).drew.cell? ⟨X + 1 + 1, 0, none⟩ = some (.int .i64 0) := HQA.out.2.cell 0 _ rfl
                  have z21 : ((((W.setCell ⟨X + 1, 0, none⟩ (.int .i64 0)).setCell ⟨X + 1, 1, none⟩ (.int .i64 M2)).setCell ⟨X + 1 + 1, 0, none⟩ (.int .i64 0)).setCell ⟨X + 1 + 1, 1, none⟩ (.int .i64 M2)).drew.cell? ⟨X + 1 + 1, 1, none⟩ = some (.int .i64 M2) := HQA.out.2.cell 1 _ rfl
                  have hf := st_fin HPP.out HS.out (HE1.out (.int .i64 0) (.int .i64 M2)) HS.out.xw
                  refine bodyPost_ret (v := .tuple #[.agg #[.int .i64 0, .int .i64 M2], .agg #[.int .i64 0, .int .i64 M2]]) (by simp [results, Try.results11, go_sem, z10, z11, z20, z21]) rfl ?_
                  rw [HDD.out]
                  exact ⟨rfl, hf⟩
                · skip
                  by_cases k8 : k = 8
                  · skip
                    subst k8
                    have hd0 := deed_8 E t n v
                    obtain ⟨⟨M1, M2, M3⟩, hM⟩ : ∃ x, makeR E v = x := ⟨_, rfl⟩
                    have HA := Lib.hid (HPP.out.make S0.out.tp HW.out hm1.out v bv)
                    have HB := Lib.hid (fun w1 (h : DE w1 G r E) => rmake_c w1 G r E h m HW.out.wf v)
                    simp only [hM] at HA HB hd0
                    have HDD := Lib.hid hd0
                    clear hM hd0
                    go_wp2_with fail
                    refine HA.out.mono ?_
                    rintro e w1 ⟨rfl, ho, F', ht, hg⟩
                    have S1 := Lib.hid (S0.out.callp ho ht hg)
                    clear ho ht hg
                    rw [hX.out] at S1
                    have T1 := Lib.hid (S1.out.putA0 HPP.out M2)
                    have S2 := Lib.hid (T1.out.putA1 HPP.out M3)
                    have g30 := S1.out.k3.cell 0 _ rfl
                    have l30 := S1.out.k3.free 0
                    have g31 := T1.out.k3.cell 1 _ rfl
                    have l31 := T1.out.k3.free 1
                    have y1 : ((w1.setCell ⟨X + 3, 0, none⟩ (.int .i64 M2)).setCell ⟨X + 3, 1, none⟩ (.int .i64 M3)).cell? ⟨X, 1, none⟩ = some (.int .i64 t) := S2.out.kd.cell 1 _ rfl
                    have y2 : ((w1.setCell ⟨X + 3, 0, none⟩ (.int .i64 M2)).setCell ⟨X + 3, 1, none⟩ (.int .i64 M3)).cell? ⟨X, 2, none⟩ = some (.int .i64 n) := S2.out.kd.cell 2 _ rfl
                    have y3 : ((w1.setCell ⟨X + 3, 0, none⟩ (.int .i64 M2)).setCell ⟨X + 3, 1, none⟩ (.int .i64 M3)).cell? ⟨X, 3, none⟩ = some (.int .i64 v) := S2.out.kd.cell 3 _ rfl
                    rw [hX.out]
                    go_wp2_with fail
                    refine (HB.out _ S2.out.de).mono ?_
                    rintro e w2 ⟨rfl, ho, G', hd, hg⟩
                    have S3 := Lib.hid (S2.out.callr HPP.out ho hd hg)
                    clear ho hd hg
                    have T2 := Lib.hid (S3.out.putB0 HPP.out M2)
                    have S4 := Lib.hid (T2.out.putB1 HPP.out M3)
                    have g40 := S3.out.k4.cell 0 _ rfl
                    have l40 := S3.out.k4.free 0
                    have g41 := T2.out.k4.cell 1 _ rfl
                    have l41 := T2.out.k4.free 1
                    go_wp2_with fail
                    obtain ⟨W, hW⟩ : ∃ x, (w2.setCell ⟨X + 4, 0, none⟩ (.int .i64 M2)).setCell ⟨X + 4, 1, none⟩ (.int .i64 M3) = x := ⟨_, rfl⟩
                    have st := S4.out
                    rw [hW] at st ⊢
                    have HS := Lib.hid st
                    have HC0 := Lib.hid (show (W).drew.cell? ⟨X + 3, 0, none⟩ = some (.int .i64 M2) ∧ (W).drew.cell? ⟨X + 3, 1, none⟩ = some (.int .i64 M3) ∧ (W).drew.cell? ⟨X + 4, 0, none⟩ = some (.int .i64 M2) ∧ (W).drew.cell? ⟨X + 4, 1, none⟩ = some (.int .i64 M3) from ⟨st.k3.drew.cell 0 _ rfl, st.k3.drew.cell 1 _ rfl, st.k4.drew.cell 0 _ rfl, st.k4.drew.cell 1 _ rfl⟩)
                    have HC1 := Lib.hid (show (((W).setCell ⟨X + 1, 0, none⟩ (.int .i64 M2)).setCell ⟨X + 1, 1, none⟩ (.int .i64 M3)).drew.cell? ⟨X + 3, 0, none⟩ = some (.int .i64 M2) ∧ (((W).setCell ⟨X + 1, 0, none⟩ (.int .i64 M2)).setCell ⟨X + 1, 1, none⟩ (.int .i64 M3)).drew.cell? ⟨X + 3, 1, none⟩ = some (.int .i64 M3) ∧ (((W).setCell ⟨X + 1, 0, none⟩ (.int .i64 M2)).setCell ⟨X + 1, 1, none⟩ (.int .i64 M3)).drew.cell? ⟨X + 4, 0, none⟩ = some (.int .i64 M2) ∧ (((W).setCell ⟨X + 1, 0, none⟩ (.int .i64 M2)).setCell ⟨X + 1, 1, none⟩ (.int .i64 M3)).drew.cell? ⟨X + 4, 1, none⟩ = some (.int .i64 M3) from ⟨((st.k3.other (by omega) (b' := X + 1) 0 (.int .i64 M2)).other (by omega) (b' := X + 1) 1 (.int .i64 M3)).drew.cell 0 _ rfl, ((st.k3.other (by omega) (b' := X + 1) 0 (.int .i64 M2)).other (by omega) (b' := X + 1) 1 (.int .i64 M3)).drew.cell 1 _ rfl, ((st.k4.other (by omega) (b' := X + 1) 0 (.int .i64 M2)).other (by omega) (b' := X + 1) 1 (.int .i64 M3)).drew.cell 0 _ rfl, ((st.k4.other (by omega) (b' := X + 1) 0 (.int .i64 M2)).other (by omega) (b' := X + 1) 1 (.int .i64 M3)).drew.cell 1 _ rfl⟩)
                    have HC2 := Lib.hid (show (((W).setCell ⟨X + 2, 0, none⟩ (.int .i64 M2)).setCell ⟨X + 2, 1, none⟩ (.int .i64 M3)).drew.cell? ⟨X + 3, 0, none⟩ = some (.int .i64 M2) ∧ (((W).setCell ⟨X + 2, 0, none⟩ (.int .i64 M2)).setCell ⟨X + 2, 1, none⟩ (.int .i64 M3)).drew.cell? ⟨X + 3, 1, none⟩ = some (.int .i64 M3) ∧ (((W).setCell ⟨X + 2, 0, none⟩ (.int .i64 M2)).setCell ⟨X + 2, 1, none⟩ (.int .i64 M3)).drew.cell? ⟨X + 4, 0, none⟩ = some (.int .i64 M2) ∧ (((W).setCell ⟨X + 2, 0, none⟩ (.int .i64 M2)).setCell ⟨X + 2, 1, none⟩ (.int .i64 M3)).drew.cell? ⟨X + 4, 1, none⟩ = some (.int .i64 M3) from ⟨((st.k3.other (by omega) (b' := X + 2) 0 (.int .i64 M2)).other (by omega) (b' := X + 2) 1 (.int .i64 M3)).drew.cell 0 _ rfl, ((st.k3.other (by omega) (b' := X + 2) 0 (.int .i64 M2)).other (by omega) (b' := X + 2) 1 (.int .i64 M3)).drew.cell 1 _ rfl, ((st.k4.other (by omega) (b' := X + 2) 0 (.int .i64 M2)).other (by omega) (b' := X + 2) 1 (.int .i64 M3)).drew.cell 0 _ rfl, ((st.k4.other (by omega) (b' := X + 2) 0 (.int .i64 M2)).other (by omega) (b' := X + 2) 1 (.int .i64 M3)).drew.cell 1 _ rfl⟩)
                    have HC3 := Lib.hid (show (((((W).setCell ⟨X + 1, 0, none⟩ (.int .i64 M2)).setCell ⟨X + 1, 1, none⟩ (.int .i64 M3)).setCell ⟨X + 2, 0, none⟩ (.int .i64 M2)).setCell ⟨X + 2, 1, none⟩ (.int .i64 M3)).drew.cell? ⟨X + 3, 0, none⟩ = some (.int .i64 M2) ∧ (((((W).setCell ⟨X + 1, 0, none⟩ (.int .i64 M2)).setCell ⟨X + 1, 1, none⟩ (.int .i64 M3)).setCell ⟨X + 2, 0, none⟩ (.int .i64 M2)).setCell ⟨X + 2, 1, none⟩ (.int .i64 M3)).drew.cell? ⟨X + 3, 1, none⟩ = some (.int .i64 M3) ∧ (((((W).setCell ⟨X + 1, 0, none⟩ (.int .i64 M2)).setCell ⟨X + 1, 1, none⟩ (.int .i64 M3)).setCell ⟨X + 2, 0, none⟩ (.int .i64 M2)).setCell ⟨X + 2, 1, none⟩ (.int .i64 M3)).drew.cell? ⟨X + 4, 0, none⟩ = some (.int .i64 M2) ∧ (((((W).setCell ⟨X + 1, 0, none⟩ (.int .i64 M2)).setCell ⟨X + 1, 1, none⟩ (.int .i64 M3)).setCell ⟨X + 2, 0, none⟩ (.int .i64 M2)).setCell ⟨X + 2, 1, none⟩ (.int .i64 M3)).drew.cell? ⟨X + 4, 1, none⟩ = some (.int .i64 M3) from ⟨((((st.k3.other (by omega) (b' := X + 1) 0 (.int .i64 M2)).other (by omega) (b' := X + 1) 1 (.int .i64 M3)).other (by omega) (b' := X + 2) 0 (.int .i64 M2)).other (by omega) (b' := X + 2) 1 (.int .i64 M3)).drew.cell 0 _ rfl, ((((st.k3.other (by omega) (b' := X + 1) 0 (.int .i64 M2)).other (by omega) (b' := X + 1) 1 (.int .i64 M3)).other (by omega) (b' := X + 2) 0 (.int .i64 M2)).other (by omega) (b' := X + 2) 1 (.int .i64 M3)).drew.cell 1 _ rfl, ((((st.k4.other (by omega) (b' := X + 1) 0 (.int .i64 M2)).other (by omega) (b' := X + 1) 1 (.int .i64 M3)).other (by omega) (b' := X + 2) 0 (.int .i64 M2)).other (by omega) (b' := X + 2) 1 (.int .i64 M3)).drew.cell 0 _ rfl, ((((st.k4.other (by omega) (b' := X + 1) 0 (.int .i64 M2)).other (by omega) (b' := X + 1) 1 (.int .i64 M3)).other (by omega) (b' := X + 2) 0 (.int .i64 M2)).other (by omega) (b' := X + 2) 1 (.int .i64 M3)).drew.cell 1 _ rfl⟩)
                    have HC4 := Lib.hid (show (((((W).setCell ⟨X + 2, 0, none⟩ (.int .i64 M2)).setCell ⟨X + 2, 1, none⟩ (.int .i64 M3)).setCell ⟨X + 1, 0, none⟩ (.int .i64 M2)).setCell ⟨X + 1, 1, none⟩ (.int .i64 M3)).drew.cell? ⟨X + 3, 0, none⟩ = some (.int .i64 M2) ∧ (((((W).setCell ⟨X + 2, 0, none⟩ (.int .i64 M2)).setCell ⟨X + 2, 1, none⟩ (.int .i64 M3)).setCell ⟨X + 1, 0, none⟩ (.int .i64 M2)).setCell ⟨X + 1, 1, none⟩ (.int .i64 M3)).drew.cell? ⟨X + 3, 1, none⟩ = some (.int .i64 M3) ∧ (((((W).setCell ⟨X + 2, 0, none⟩ (.int .i64 M2)).setCell ⟨X + 2, 1, none⟩ (.int .i64 M3)).setCell ⟨X + 1, 0, none⟩ (.int .i64 M2)).setCell ⟨X + 1, 1, none⟩ (.int .i64 M3)).drew.cell? ⟨X + 4, 0, none⟩ = some (.int .i64 M2) ∧ (((((W).setCell ⟨X + 2, 0, none⟩ (.int .i64 M2)).setCell ⟨X + 2, 1, none⟩ (.int .i64 M3)).setCell ⟨X + 1, 0, none⟩ (.int .i64 M2)).setCell ⟨X + 1, 1, none⟩ (.int .i64 M3)).drew.cell? ⟨X + 4, 1, none⟩ = some (.int .i64 M3) from ⟨((((st.k3.other (by omega) (b' := X + 2) 0 (.int .i64 M2)).other (by omega) (b' := X + 2) 1 (.int .i64 M3)).other (by omega) (b' := X + 1) 0 (.int .i64 M2)).other (by omega) (b' := X + 1) 1 (.int .i64 M3)).drew.cell 0 _ rfl, ((((st.k3.other (by omega) (b' := X + 2) 0 (.int .i64 M2)).other (by omega) (b' := X + 2) 1 (.int .i64 M3)).other (by omega) (b' := X + 1) 0 (.int .i64 M2)).other (by omega) (b' := X + 1) 1 (.int .i64 M3)).drew.cell 1 _ rfl, ((((st.k4.other (by omega) (b' := X + 2) 0 (.int .i64 M2)).other (by omega) (b' := X + 2) 1 (.int .i64 M3)).other (by omega) (b' := X + 1) 0 (.int .i64 M2)).other (by omega) (b' := X + 1) 1 (.int .i64 M3)).drew.cell 0 _ rfl, ((((st.k4.other (by omega) (b' := X + 2) 0 (.int .i64 M2)).other (by omega) (b' := X + 2) 1 (.int .i64 M3)).other (by omega) (b' := X + 1) 0 (.int .i64 M2)).other (by omega) (b' := X + 1) 1 (.int .i64 M3)).drew.cell 1 _ rfl⟩)
                    have u10 := st.k1.cell 0 _ rfl
                    have u11 := st.k1.cell 1 _ rfl
                    have u20 := st.k2.cell 0 _ rfl
                    have u21 := st.k2.cell 1 _ rfl
                    have v10 := st.k1.free 0
                    have v11 := st.k1.free 1
                    have v20 := st.k2.free 0
                    have v21 := st.k2.free 1
                    have HE1 := Lib.hid (show ∀ a b, OnS (fun x => x = X + 1 ∨ x = X + 2) W (((((W.setCell ⟨X + 1, 0, none⟩ a).setCell ⟨X + 1, 1, none⟩ b).setCell ⟨X + 2, 0, none⟩ a).setCell ⟨X + 2, 1, none⟩ b).drew) from fun a b => (((((OnS.cell _ _ _).weak fun x _ h => .inl h).trans ((OnS.cell _ _ _).weak fun x _ h => .inl h)).trans ((OnS.cell _ _ _).weak fun x _ h => .inr h)).trans ((OnS.cell _ _ _).weak fun x _ h => .inr h)).trans (OnS.of (bdr _)))
                    have HE2 := Lib.hid (show ∀ a b, OnS (fun x => x = X + 1 ∨ x = X + 2) W (((((W.setCell ⟨X + 2, 0, none⟩ a).setCell ⟨X + 2, 1, none⟩ b).setCell ⟨X + 1, 0, none⟩ a).setCell ⟨X + 1, 1, none⟩ b).drew) from fun a b => (((((OnS.cell _ _ _).weak fun x _ h => .inr h).trans ((OnS.cell _ _ _).weak fun x _ h => .inr h)).trans ((OnS.cell _ _ _).weak fun x _ h => .inl h)).trans ((OnS.cell _ _ _).weak fun x _ h => .inl h)).trans (OnS.of (bdr _)))
                    have q1 := ((((st.k1.set 0 (.int .i64 M2)).set 1 (.int .i64 M3)).other (by omega) (b' := X + 2) 0 (.int .i64 M2)).other (by omega) (b' := X + 2) 1 (.int .i64 M3))
                    have q2 := (((st.k2.other (by omega) (b' := X + 1) 0 (.int .i64 M2)).other (by omega) (b' := X + 1) 1 (.int .i64 M3)).set 0 (.int .i64 M2)).set 1 (.int .i64 M3)
                    have q3 := (((st.k1.other (by omega) (b' := X + 2) 0 (.int .i64 M2)).other (by omega) (b' := X + 2) 1 (.int .i64 M3)).set 0 (.int .i64 M2)).set 1 (.int .i64 M3)
                    have q4 := ((((st.k2.set 0 (.int .i64 M2)).set 1 (.int .i64 M3)).other (by omega) (b' := X + 1) 0 (.int .i64 M2)).other (by omega) (b' := X + 1) 1 (.int .i64 M3))
                    have HQA := Lib.hid (And.intro q1.drew q2.drew)
                    have HQB := Lib.hid (And.intro q3.drew q4.drew)
                    clear st hW S1 S2 S3 S4 q1 q2 q3 q4
                    go_wp2_with fail
                    go_region_held3 (fun w' => w'.cell? ⟨X + 3, 0, none⟩ = some (.int .i64 M2) ∧ w'.cell? ⟨X + 3, 1, none⟩ = some (.int .i64 M3) ∧ w'.cell? ⟨X + 4, 0, none⟩ = some (.int .i64 M2) ∧ w'.cell? ⟨X + 4, 1, none⟩ = some (.int .i64 M3)) (first | with_reducible exact HC0.out | with_reducible exact HC1.out | with_reducible exact HC2.out | with_reducible exact HC3.out | with_reducible exact HC4.out | go_keep) (fail)
                    go_wp2_with fail
                    have z10 : ((((W.setCell ⟨X + 1, 0, none⟩ (.int .i64 M2)).setCell ⟨X + 1, 1, none⟩ (.int .i64 M3)).setCell ⟨X + 1 + 1, 0, none⟩ (.int .i64 M2)).setCell ⟨X + 1 + 1, 1, none⟩ (.int .i64 M3)).drew.cell? ⟨X + 1, 0, none⟩ = some (.int .i64 M2) := HQA.out.1.cell 0 _ rfl
                    have z11 : ((((W.setCell ⟨X + 1, 0, none⟩ (.int .i64 M2)).setCell ⟨X + 1, 1, none⟩ (.int .i64 M3)).setCell ⟨X + 1 + 1, 0, none⟩ (.int .i64 M2)).setCell ⟨X + 1 + 1, 1, none⟩ (.int .i64 M3)).drew.cell? ⟨X + 1, 1, none⟩ = some (.int .i64 M3) := HQA.out.1.cell 1 _ rfl
                    have z20 : ((((W.setCell ⟨X + 1, 0, none⟩ (.int .i64 M2)).setCell ⟨X + 1, 1, none⟩ (.int .i64 M3)).setCell ⟨X + 1 + 1, 0, none⟩ (.int .i64 M2)).setCell ⟨X + 1 + 1, 1, none⟩ (.int .i64 M3)).drew.cell? ⟨X + 1 + 1, 0, none⟩ = some (.int .i64 M2) := HQA.out.2.cell 0 _ rfl
                    have z21 : ((((W.setCell ⟨X + 1, 0, none⟩ (.int .i64 M2)).setCell ⟨X + 1, 1, none⟩ (.int .i64 M3)).setCell ⟨X + 1 + 1, 0, none⟩ (.int .i64 M2)).setCell ⟨X + 1 + 1, 1, none⟩ (.int .i64 M3)).drew.cell? ⟨X + 1 + 1, 1, none⟩ = some (.int .i64 M3) := HQA.out.2.cell 1 _ rfl
                    have hf := st_fin HPP.out HS.out (HE1.out (.int .i64 M2) (.int .i64 M3)) HS.out.xw
                    refine bodyPost_ret (v := .tuple #[.agg #[.int .i64 M2, .int .i64 M3], .agg #[.int .i64 M2, .int .i64 M3]]) (by simp [results, Try.results11, go_sem, z10, z11, z20, z21]) rfl ?_
                    rw [HDD.out]
                    exact ⟨rfl, hf⟩
                  · skip
                    by_cases k9 : k = 9
                    · skip
                      subst k9
                      have hd0 := deed_9 E t n v
                      obtain ⟨M2, hM⟩ : ∃ x, validR E t = x := ⟨_, rfl⟩
                      have HA := Lib.hid (HPP.out.valid S0.out.tp HW.out hm1.out t bt)
                      have HB := Lib.hid (fun w1 (h : DE w1 G r E) => rvalid_c w1 G r E h m HW.out.wf hm2.out t)
                      simp only [hM] at HA HB hd0
                      have HDD := Lib.hid hd0
                      clear hM hd0
                      go_wp2_with fail
                      refine HA.out.mono ?_
                      rintro e w1 ⟨rfl, hb⟩
                      have S1 := Lib.hid (S0.out.callp (OnS.of hb) (HPP.out.on S0.out.tp (OnS.none hb) (fun _ _ h => h)) (Gr.refl _ _))
                      clear hb
                      rw [hX.out] at S1
                      have S2 := Lib.hid (S1.out.putA1 HPP.out M2)
                      have g31 := S1.out.k3.cell 1 _ rfl
                      have l31 := S1.out.k3.free 1
                      have y1 : (w1.setCell ⟨X + 3, 1, none⟩ (.int .i64 M2)).cell? ⟨X, 1, none⟩ = some (.int .i64 t) := S2.out.kd.cell 1 _ rfl
                      have y2 : (w1.setCell ⟨X + 3, 1, none⟩ (.int .i64 M2)).cell? ⟨X, 2, none⟩ = some (.int .i64 n) := S2.out.kd.cell 2 _ rfl
                      have y3 : (w1.setCell ⟨X + 3, 1, none⟩ (.int .i64 M2)).cell? ⟨X, 3, none⟩ = some (.int .i64 v) := S2.out.kd.cell 3 _ rfl
                      rw [hX.out]
                      go_wp2_with fail
                      refine (HB.out _ S2.out.de).mono ?_
                      rintro e w2 ⟨rfl, hb⟩
                      have S3 := Lib.hid (S2.out.callr HPP.out (OnS.of hb) (S2.out.de.keep hb) (Gr.refl _ _))
                      clear hb
                      have S4 := Lib.hid (S3.out.putB1 HPP.out M2)
                      have g41 := S3.out.k4.cell 1 _ rfl
                      have l41 := S3.out.k4.free 1
                      go_wp2_with fail
                      obtain ⟨W, hW⟩ : ∃ x, w2.setCell ⟨X + 4, 1, none⟩ (.int .i64 M2) = x := ⟨_, rfl⟩
                      have st := S4.out
                      rw [hW] at st ⊢
                      have HS := Lib.hid st
                      have HC0 := Lib.hid (show (W).drew.cell? ⟨X + 3, 0, none⟩ = some (.int .i64 0) ∧ (W).drew.cell? ⟨X + 3, 1, none⟩ = some (.int .i64 M2) ∧ (W).drew.cell? ⟨X + 4, 0, none⟩ = some (.int .i64 0) ∧ (W).drew.cell? ⟨X + 4, 1, none⟩ = some (.int .i64 M2) from ⟨st.k3.drew.cell 0 _ rfl, st.k3.drew.cell 1 _ rfl, st.k4.drew.cell 0 _ rfl, st.k4.drew.cell 1 _ rfl⟩)
                      have HC1 := Lib.hid (show (((W).setCell ⟨X + 1, 0, none⟩ (.int .i64 0)).setCell ⟨X + 1, 1, none⟩ (.int .i64 M2)).drew.cell? ⟨X + 3, 0, none⟩ = some (.int .i64 0) ∧ (((W).setCell ⟨X + 1, 0, none⟩ (.int .i64 0)).setCell ⟨X + 1, 1, none⟩ (.int .i64 M2)).drew.cell? ⟨X + 3, 1, none⟩ = some (.int .i64 M2) ∧ (((W).setCell ⟨X + 1, 0, none⟩ (.int .i64 0)).setCell ⟨X + 1, 1, none⟩ (.int .i64 M2)).drew.cell? ⟨X + 4, 0, none⟩ = some (.int .i64 0) ∧ (((W).setCell ⟨X + 1, 0, none⟩ (.int .i64 0)).setCell ⟨X + 1, 1, none⟩ (.int .i64 M2)).drew.cell? ⟨X + 4, 1, none⟩ = some (.int .i64 M2) from ⟨((st.k3.other (by omega) (b' := X + 1) 0 (.int .i64 0)).other (by omega) (b' := X + 1) 1 (.int .i64 M2)).drew.cell 0 _ rfl, ((st.k3.other (by omega) (b' := X + 1) 0 (.int .i64 0)).other (by omega) (b' := X + 1) 1 (.int .i64 M2)).drew.cell 1 _ rfl, ((st.k4.other (by omega) (b' := X + 1) 0 (.int .i64 0)).other (by omega) (b' := X + 1) 1 (.int .i64 M2)).drew.cell 0 _ rfl, ((st.k4.other (by omega) (b' := X + 1) 0 (.int .i64 0)).other (by omega) (b' := X + 1) 1 (.int .i64 M2)).drew.cell 1 _ rfl⟩)
                      have HC2 := Lib.hid (show (((W).setCell ⟨X + 2, 0, none⟩ (.int .i64 0)).setCell ⟨X + 2, 1, none⟩ (.int .i64 M2)).drew.cell? ⟨X + 3, 0, none⟩ = some (.int .i64 0) ∧ (((W).setCell ⟨X + 2, 0, none⟩ (.int .i64 0)).setCell ⟨X + 2, 1, none⟩ (.int .i64 M2)).drew.cell? ⟨X + 3, 1, none⟩ = some (.int .i64 M2) ∧ (((W).setCell ⟨X + 2, 0, none⟩ (.int .i64 0)).setCell ⟨X + 2, 1, none⟩ (.int .i64 M2)).drew.cell? ⟨X + 4, 0, none⟩ = some (.int .i64 0) ∧ (((W).setCell ⟨X + 2, 0, none⟩ (.int .i64 0)).setCell ⟨X + 2, 1, none⟩ (.int .i64 M2)).drew.cell? ⟨X + 4, 1, none⟩ = some (.int .i64 M2) from ⟨((st.k3.other (by omega) (b' := X + 2) 0 (.int .i64 0)).other (by omega) (b' := X + 2) 1 (.int .i64 M2)).drew.cell 0 _ rfl, ((st.k3.other (by omega) (b' := X + 2) 0 (.int .i64 0)).other (by omega) (b' := X + 2) 1 (.int .i64 M2)).drew.cell 1 _ rfl, ((st.k4.other (by omega) (b' := X + 2) 0 (.int .i64 0)).other (by omega) (b' := X + 2) 1 (.int .i64 M2)).drew.cell 0 _ rfl, ((st.k4.other (by omega) (b' := X + 2) 0 (.int .i64 0)).other (by omega) (b' := X + 2) 1 (.int .i64 M2)).drew.cell 1 _ rfl⟩)
                      have HC3 := Lib.hid (show (((((W).setCell ⟨X + 1, 0, none⟩ (.int .i64 0)).setCell ⟨X + 1, 1, none⟩ (.int .i64 M2)).setCell ⟨X + 2, 0, none⟩ (.int .i64 0)).setCell ⟨X + 2, 1, none⟩ (.int .i64 M2)).drew.cell? ⟨X + 3, 0, none⟩ = some (.int .i64 0) ∧ (((((W).setCell ⟨X + 1, 0, none⟩ (.int .i64 0)).setCell ⟨X + 1, 1, none⟩ (.int .i64 M2)).setCell ⟨X + 2, 0, none⟩ (.int .i64 0)).setCell ⟨X + 2, 1, none⟩ (.int .i64 M2)).drew.cell? ⟨X + 3, 1, none⟩ = some (.int .i64 M2) ∧ (((((W).setCell ⟨X + 1, 0, none⟩ (.int .i64 0)).setCell ⟨X + 1, 1, none⟩ (.int .i64 M2)).setCell ⟨X + 2, 0, none⟩ (.int .i64 0)).setCell ⟨X + 2, 1, none⟩ (.int .i64 M2)).drew.cell? ⟨X + 4, 0, none⟩ = some (.int .i64 0) ∧ (((((W).setCell ⟨X + 1, 0, none⟩ (.int .i64 0)).setCell ⟨X + 1, 1, none⟩ (.int .i64 M2)).setCell ⟨X + 2, 0, none⟩ (.int .i64 0)).setCell ⟨X + 2, 1, none⟩ (.int .i64 M2)).drew.cell? ⟨X + 4, 1, none⟩ = some (.int .i64 M2) from ⟨((((st.k3.other (by omega) (b' := X + 1) 0 (.int .i64 0)).other (by omega) (b' := X + 1) 1 (.int .i64 M2)).other (by omega) (b' := X + 2) 0 (.int .i64 0)).other (by omega) (b' := X + 2) 1 (.int .i64 M2)).drew.cell 0 _ rfl, ((((st.k3.other (by omega) (b' := X + 1) 0 (.int .i64 0)).other (by omega) (b' := X + 1) 1 (.int .i64 M2)).other (by omega) (b' := X + 2) 0 (.int .i64 0)).other (by omega) (b' := X + 2) 1 (.int .i64 M2)).drew.cell 1 _ rfl, ((((st.k4.other (by omega) (b' := X + 1) 0 (.int .i64 0)).other (by omega) (b' := X + 1) 1 (.int .i64 M2)).other (by omega) (b' := X + 2) 0 (.int .i64 0)).other (by omega) (b' := X + 2) 1 (.int .i64 M2)).drew.cell 0 _ rfl, ((((st.k4.other (by omega) (b' := X + 1) 0 (.int .i64 0)).other (by omega) (b' := X + 1) 1 (.int .i64 M2)).other (by omega) (b' := X + 2) 0 (.int .i64 0)).other (by omega) (b' := X + 2) 1 (.int .i64 M2)).drew.cell 1 _ rfl⟩)
                      have HC4 := Lib.hid (show (((((W).setCell ⟨X + 2, 0, none⟩ (.int .i64 0)).setCell ⟨X + 2, 1, none⟩ (.int .i64 M2)).setCell ⟨X + 1, 0, none⟩ (.int .i64 0)).setCell ⟨X + 1, 1, none⟩ (.int .i64 M2)).drew.cell? ⟨X + 3, 0, none⟩ = some (.int .i64 0) ∧ (((((W).setCell ⟨X + 2, 0, none⟩ (.int .i64 0)).setCell ⟨X + 2, 1, none⟩ (.int .i64 M2)).setCell ⟨X + 1, 0, none⟩ (.int .i64 0)).setCell ⟨X + 1, 1, none⟩ (.int .i64 M2)).drew.cell? ⟨X + 3, 1, none⟩ = some (.int .i64 M2) ∧ (((((W).setCell ⟨X + 2, 0, none⟩ (.int .i64 0)).setCell ⟨X + 2, 1, none⟩ (.int .i64 M2)).setCell ⟨X + 1, 0, none⟩ (.int .i64 0)).setCell ⟨X + 1, 1, none⟩ (.int .i64 M2)).drew.cell? ⟨X + 4, 0, none⟩ = some (.int .i64 0) ∧ (((((W).setCell ⟨X + 2, 0, none⟩ (.int .i64 0)).setCell ⟨X + 2, 1, none⟩ (.int .i64 M2)).setCell ⟨X + 1, 0, none⟩ (.int .i64 0)).setCell ⟨X + 1, 1, none⟩ (.int .i64 M2)).drew.cell? ⟨X + 4, 1, none⟩ = some (.int .i64 M2) from ⟨((((st.k3.other (by omega) (b' := X + 2) 0 (.int .i64 0)).other (by omega) (b' := X + 2) 1 (.int .i64 M2)).other (by omega) (b' := X + 1) 0 (.int .i64 0)).other (by omega) (b' := X + 1) 1 (.int .i64 M2)).drew.cell 0 _ rfl, ((((st.k3.other (by omega) (b' := X + 2) 0 (.int .i64 0)).other (by omega) (b' := X + 2) 1 (.int .i64 M2)).other (by omega) (b' := X + 1) 0 (.int .i64 0)).other (by omega) (b' := X + 1) 1 (.int .i64 M2)).drew.cell 1 _ rfl, ((((st.k4.other (by omega) (b' := X + 2) 0 (.int .i64 0)).other (by omega) (b' := X + 2) 1 (.int .i64 M2)).other (by omega) (b' := X + 1) 0 (.int .i64 0)).other (by omega) (b' := X + 1) 1 (.int .i64 M2)).drew.cell 0 _ rfl, ((((st.k4.other (by omega) (b' := X + 2) 0 (.int .i64 0)).other (by omega) (b' := X + 2) 1 (.int .i64 M2)).other (by omega) (b' := X + 1) 0 (.int .i64 0)).other (by omega) (b' := X + 1) 1 (.int .i64 M2)).drew.cell 1 _ rfl⟩)
                      have u10 := st.k1.cell 0 _ rfl
                      have u11 := st.k1.cell 1 _ rfl
                      have u20 := st.k2.cell 0 _ rfl
                      have u21 := st.k2.cell 1 _ rfl
                      have v10 := st.k1.free 0
                      have v11 := st.k1.free 1
                      have v20 := st.k2.free 0
                      have v21 := st.k2.free 1
                      have HE1 := Lib.hid (show ∀ a b, OnS (fun x => x = X + 1 ∨ x = X + 2) W (((((W.setCell ⟨X + 1, 0, none⟩ a).setCell ⟨X + 1, 1, none⟩ b).setCell ⟨X + 2, 0, none⟩ a).setCell ⟨X + 2, 1, none⟩ b).drew) from fun a b => (((((OnS.cell _ _ _).weak fun x _ h => .inl h).trans ((OnS.cell _ _ _).weak fun x _ h => .inl h)).trans ((OnS.cell _ _ _).weak fun x _ h => .inr h)).trans ((OnS.cell _ _ _).weak fun x _ h => .inr h)).trans (OnS.of (bdr _)))
                      have HE2 := Lib.hid (show ∀ a b, OnS (fun x => x = X + 1 ∨ x = X + 2) W (((((W.setCell ⟨X + 2, 0, none⟩ a).setCell ⟨X + 2, 1, none⟩ b).setCell ⟨X + 1, 0, none⟩ a).setCell ⟨X + 1, 1, none⟩ b).drew) from fun a b => (((((OnS.cell _ _ _).weak fun x _ h => .inr h).trans ((OnS.cell _ _ _).weak fun x _ h => .inr h)).trans ((OnS.cell _ _ _).weak fun x _ h => .inl h)).trans ((OnS.cell _ _ _).weak fun x _ h => .inl h)).trans (OnS.of (bdr _)))
                      have q1 := ((((st.k1.set 0 (.int .i64 0)).set 1 (.int .i64 M2)).other (by omega) (b' := X + 2) 0 (.int .i64 0)).other (by omega) (b' := X + 2) 1 (.int .i64 M2))
                      have q2 := (((st.k2.other (by omega) (b' := X + 1) 0 (.int .i64 0)).other (by omega) (b' := X + 1) 1 (.int .i64 M2)).set 0 (.int .i64 0)).set 1 (.int .i64 M2)
                      have q3 := (((st.k1.other (by omega) (b' := X + 2) 0 (.int .i64 0)).other (by omega) (b' := X + 2) 1 (.int .i64 M2)).set 0 (.int .i64 0)).set 1 (.int .i64 M2)
                      have q4 := ((((st.k2.set 0 (.int .i64 0)).set 1 (.int .i64 M2)).other (by omega) (b' := X + 1) 0 (.int .i64 0)).other (by omega) (b' := X + 1) 1 (.int .i64 M2))
                      have HQA := Lib.hid (And.intro q1.drew q2.drew)
                      have HQB := Lib.hid (And.intro q3.drew q4.drew)
                      clear st hW S1 S2 S3 S4 q1 q2 q3 q4
                      go_wp2_with fail
                      go_region_held3 (fun w' => w'.cell? ⟨X + 3, 0, none⟩ = some (.int .i64 0) ∧ w'.cell? ⟨X + 3, 1, none⟩ = some (.int .i64 M2) ∧ w'.cell? ⟨X + 4, 0, none⟩ = some (.int .i64 0) ∧ w'.cell? ⟨X + 4, 1, none⟩ = some (.int .i64 M2)) (first | with_reducible exact HC0.out | with_reducible exact HC1.out | with_reducible exact HC2.out | with_reducible exact HC3.out | with_reducible exact HC4.out | go_keep) (fail)
                      go_wp2_with fail
                      have z10 : ((((W.setCell ⟨X + 1, 0, none⟩ (.int .i64 0)).setCell ⟨X + 1, 1, none⟩ (.int .i64 M2)).setCell ⟨X + 1 + 1, 0, none⟩ (.int .i64 0)).setCell ⟨X + 1 + 1, 1, none⟩ (.int .i64 M2)).drew.cell? ⟨X + 1, 0, none⟩ = some (.int .i64 0) := HQA.out.1.cell 0 _ rfl
                      have z11 : ((((W.setCell ⟨X + 1, 0, none⟩ (.int .i64 0)).setCell ⟨X + 1, 1, none⟩ (.int .i64 M2)).setCell ⟨X + 1 + 1, 0, none⟩ (.int .i64 0)).setCell ⟨X + 1 + 1, 1, none⟩ (.int .i64 M2)).drew.cell? ⟨X + 1, 1, none⟩ = some (.int .i64 M2) := HQA.out.1.cell 1 _ rfl
                      have z20 : ((((W.setCell ⟨X + 1, 0, none⟩ (.int .i64 0)).setCell ⟨X + 1, 1, none⟩ (.int .i64 M2)).setCell ⟨X + 1 + 1, 0, none⟩ (.int .i64 0)).setCell ⟨X + 1 + 1, 1, none⟩ (.int .i64 M2)).drew.cell? ⟨X + 1 + 1, 0, none⟩ = some (.int .i64 0) := HQA.out.2.cell 0 _ rfl
                      have z21 : ((((W.setCell ⟨X + 1, 0, none⟩ (.int .i64 0)).setCell ⟨X + 1, 1, none⟩ (.int .i64 M2)).setCell ⟨X + 1 + 1, 0, none⟩ (.int .i64 0)).setCell ⟨X + 1 + 1, 1, none⟩ (.int .i64 M2)).drew.cell? ⟨X + 1 + 1, 1, none⟩ = some (.int .i64 M2) := HQA.out.2.cell 1 _ rfl
                      have hf := st_fin HPP.out HS.out (HE1.out (.int .i64 0) (.int .i64 M2)) HS.out.xw
                      refine bodyPost_ret (v := .tuple #[.agg #[.int .i64 0, .int .i64 M2], .agg #[.int .i64 0, .int .i64 M2]]) (by simp [results, Try.results11, go_sem, z10, z11, z20, z21]) rfl ?_
                      rw [HDD.out]
                      exact ⟨rfl, hf⟩
                    · skip
                      have HDD := Lib.hid (show deedR E ⟨k, t, n, v⟩ = (E, 0, 0) from by unfold deedR; rw [if_neg k0, if_neg k1, if_neg k2, if_neg k3, if_neg k4, if_neg k5, if_neg k6, if_neg k7, if_neg k8, if_neg k9])
                      have S4 := Lib.hid (show St TP w (((((w.alloc (.cells #[.int .i64 k, .int .i64 t, .int .i64 n, .int .i64 v] 33)).alloc (.cells #[.int .i64 0, .int .i64 0] 29)).alloc (.cells #[.int .i64 0, .int .i64 0] 29)).alloc (.cells #[.int .i64 0, .int .i64 0] 29)).alloc (.cells #[.int .i64 0, .int .i64 0] 29)) F G C p r X F G ⟨k, t, n, v⟩ E E 0 0 0 0 from by have h := S0.out; rw [hX.out] at h; exact h)
                      go_wp2_with fail
                      rw [hX.out]
                      obtain ⟨W, hW⟩ : ∃ x, ((((w.alloc (.cells #[.int .i64 k, .int .i64 t, .int .i64 n, .int .i64 v] 33)).alloc (.cells #[.int .i64 0, .int .i64 0] 29)).alloc (.cells #[.int .i64 0, .int .i64 0] 29)).alloc (.cells #[.int .i64 0, .int .i64 0] 29)).alloc (.cells #[.int .i64 0, .int .i64 0] 29) = x := ⟨_, rfl⟩
                      have st := S4.out
                      rw [hW] at st ⊢
                      have HS := Lib.hid st
                      have HC0 := Lib.hid (show (W).drew.cell? ⟨X + 3, 0, none⟩ = some (.int .i64 0) ∧ (W).drew.cell? ⟨X + 3, 1, none⟩ = some (.int .i64 0) ∧ (W).drew.cell? ⟨X + 4, 0, none⟩ = some (.int .i64 0) ∧ (W).drew.cell? ⟨X + 4, 1, none⟩ = some (.int .i64 0) from ⟨st.k3.drew.cell 0 _ rfl, st.k3.drew.cell 1 _ rfl, st.k4.drew.cell 0 _ rfl, st.k4.drew.cell 1 _ rfl⟩)
                      have HC1 := Lib.hid (show (((W).setCell ⟨X + 1, 0, none⟩ (.int .i64 0)).setCell ⟨X + 1, 1, none⟩ (.int .i64 0)).drew.cell? ⟨X + 3, 0, none⟩ = some (.int .i64 0) ∧ (((W).setCell ⟨X + 1, 0, none⟩ (.int .i64 0)).setCell ⟨X + 1, 1, none⟩ (.int .i64 0)).drew.cell? ⟨X + 3, 1, none⟩ = some (.int .i64 0) ∧ (((W).setCell ⟨X + 1, 0, none⟩ (.int .i64 0)).setCell ⟨X + 1, 1, none⟩ (.int .i64 0)).drew.cell? ⟨X + 4, 0, none⟩ = some (.int .i64 0) ∧ (((W).setCell ⟨X + 1, 0, none⟩ (.int .i64 0)).setCell ⟨X + 1, 1, none⟩ (.int .i64 0)).drew.cell? ⟨X + 4, 1, none⟩ = some (.int .i64 0) from ⟨((st.k3.other (by omega) (b' := X + 1) 0 (.int .i64 0)).other (by omega) (b' := X + 1) 1 (.int .i64 0)).drew.cell 0 _ rfl, ((st.k3.other (by omega) (b' := X + 1) 0 (.int .i64 0)).other (by omega) (b' := X + 1) 1 (.int .i64 0)).drew.cell 1 _ rfl, ((st.k4.other (by omega) (b' := X + 1) 0 (.int .i64 0)).other (by omega) (b' := X + 1) 1 (.int .i64 0)).drew.cell 0 _ rfl, ((st.k4.other (by omega) (b' := X + 1) 0 (.int .i64 0)).other (by omega) (b' := X + 1) 1 (.int .i64 0)).drew.cell 1 _ rfl⟩)
                      have HC2 := Lib.hid (show (((W).setCell ⟨X + 2, 0, none⟩ (.int .i64 0)).setCell ⟨X + 2, 1, none⟩ (.int .i64 0)).drew.cell? ⟨X + 3, 0, none⟩ = some (.int .i64 0) ∧ (((W).setCell ⟨X + 2, 0, none⟩ (.int .i64 0)).setCell ⟨X + 2, 1, none⟩ (.int .i64 0)).drew.cell? ⟨X + 3, 1, none⟩ = some (.int .i64 0) ∧ (((W).setCell ⟨X + 2, 0, none⟩ (.int .i64 0)).setCell ⟨X + 2, 1, none⟩ (.int .i64 0)).drew.cell? ⟨X + 4, 0, none⟩ = some (.int .i64 0) ∧ (((W).setCell ⟨X + 2, 0, none⟩ (.int .i64 0)).setCell ⟨X + 2, 1, none⟩ (.int .i64 0)).drew.cell? ⟨X + 4, 1, none⟩ = some (.int .i64 0) from ⟨((st.k3.other (by omega) (b' := X + 2) 0 (.int .i64 0)).other (by omega) (b' := X + 2) 1 (.int .i64 0)).drew.cell 0 _ rfl, ((st.k3.other (by omega) (b' := X + 2) 0 (.int .i64 0)).other (by omega) (b' := X + 2) 1 (.int .i64 0)).drew.cell 1 _ rfl, ((st.k4.other (by omega) (b' := X + 2) 0 (.int .i64 0)).other (by omega) (b' := X + 2) 1 (.int .i64 0)).drew.cell 0 _ rfl, ((st.k4.other (by omega) (b' := X + 2) 0 (.int .i64 0)).other (by omega) (b' := X + 2) 1 (.int .i64 0)).drew.cell 1 _ rfl⟩)
                      have HC3 := Lib.hid (show (((((W).setCell ⟨X + 1, 0, none⟩ (.int .i64 0)).setCell ⟨X + 1, 1, none⟩ (.int .i64 0)).setCell ⟨X + 2, 0, none⟩ (.int .i64 0)).setCell ⟨X + 2, 1, none⟩ (.int .i64 0)).drew.cell? ⟨X + 3, 0, none⟩ = some (.int .i64 0) ∧ (((((W).setCell ⟨X + 1, 0, none⟩ (.int .i64 0)).setCell ⟨X + 1, 1, none⟩ (.int .i64 0)).setCell ⟨X + 2, 0, none⟩ (.int .i64 0)).setCell ⟨X + 2, 1, none⟩ (.int .i64 0)).drew.cell? ⟨X + 3, 1, none⟩ = some (.int .i64 0) ∧ (((((W).setCell ⟨X + 1, 0, none⟩ (.int .i64 0)).setCell ⟨X + 1, 1, none⟩ (.int .i64 0)).setCell ⟨X + 2, 0, none⟩ (.int .i64 0)).setCell ⟨X + 2, 1, none⟩ (.int .i64 0)).drew.cell? ⟨X + 4, 0, none⟩ = some (.int .i64 0) ∧ (((((W).setCell ⟨X + 1, 0, none⟩ (.int .i64 0)).setCell ⟨X + 1, 1, none⟩ (.int .i64 0)).setCell ⟨X + 2, 0, none⟩ (.int .i64 0)).setCell ⟨X + 2, 1, none⟩ (.int .i64 0)).drew.cell? ⟨X + 4, 1, none⟩ = some (.int .i64 0) from ⟨((((st.k3.other (by omega) (b' := X + 1) 0 (.int .i64 0)).other (by omega) (b' := X + 1) 1 (.int .i64 0)).other (by omega) (b' := X + 2) 0 (.int .i64 0)).other (by omega) (b' := X + 2) 1 (.int .i64 0)).drew.cell 0 _ rfl, ((((st.k3.other (by omega) (b' := X + 1) 0 (.int .i64 0)).other (by omega) (b' := X + 1) 1 (.int .i64 0)).other (by omega) (b' := X + 2) 0 (.int .i64 0)).other (by omega) (b' := X + 2) 1 (.int .i64 0)).drew.cell 1 _ rfl, ((((st.k4.other (by omega) (b' := X + 1) 0 (.int .i64 0)).other (by omega) (b' := X + 1) 1 (.int .i64 0)).other (by omega) (b' := X + 2) 0 (.int .i64 0)).other (by omega) (b' := X + 2) 1 (.int .i64 0)).drew.cell 0 _ rfl, ((((st.k4.other (by omega) (b' := X + 1) 0 (.int .i64 0)).other (by omega) (b' := X + 1) 1 (.int .i64 0)).other (by omega) (b' := X + 2) 0 (.int .i64 0)).other (by omega) (b' := X + 2) 1 (.int .i64 0)).drew.cell 1 _ rfl⟩)
                      have HC4 := Lib.hid (show (((((W).setCell ⟨X + 2, 0, none⟩ (.int .i64 0)).setCell ⟨X + 2, 1, none⟩ (.int .i64 0)).setCell ⟨X + 1, 0, none⟩ (.int .i64 0)).setCell ⟨X + 1, 1, none⟩ (.int .i64 0)).drew.cell? ⟨X + 3, 0, none⟩ = some (.int .i64 0) ∧ (((((W).setCell ⟨X + 2, 0, none⟩ (.int .i64 0)).setCell ⟨X + 2, 1, none⟩ (.int .i64 0)).setCell ⟨X + 1, 0, none⟩ (.int .i64 0)).setCell ⟨X + 1, 1, none⟩ (.int .i64 0)).drew.cell? ⟨X + 3, 1, none⟩ = some (.int .i64 0) ∧ (((((W).setCell ⟨X + 2, 0, none⟩ (.int .i64 0)).setCell ⟨X + 2, 1, none⟩ (.int .i64 0)).setCell ⟨X + 1, 0, none⟩ (.int .i64 0)).setCell ⟨X + 1, 1, none⟩ (.int .i64 0)).drew.cell? ⟨X + 4, 0, none⟩ = some (.int .i64 0) ∧ (((((W).setCell ⟨X + 2, 0, none⟩ (.int .i64 0)).setCell ⟨X + 2, 1, none⟩ (.int .i64 0)).setCell ⟨X + 1, 0, none⟩ (.int .i64 0)).setCell ⟨X + 1, 1, none⟩ (.int .i64 0)).drew.cell? ⟨X + 4, 1, none⟩ = some (.int .i64 0) from ⟨((((st.k3.other (by omega) (b' := X + 2) 0 (.int .i64 0)).other (by omega) (b' := X + 2) 1 (.int .i64 0)).other (by omega) (b' := X + 1) 0 (.int .i64 0)).other (by omega) (b' := X + 1) 1 (.int .i64 0)).drew.cell 0 _ rfl, ((((st.k3.other (by omega) (b' := X + 2) 0 (.int .i64 0)).other (by omega) (b' := X + 2) 1 (.int .i64 0)).other (by omega) (b' := X + 1) 0 (.int .i64 0)).other (by omega) (b' := X + 1) 1 (.int .i64 0)).drew.cell 1 _ rfl, ((((st.k4.other (by omega) (b' := X + 2) 0 (.int .i64 0)).other (by omega) (b' := X + 2) 1 (.int .i64 0)).other (by omega) (b' := X + 1) 0 (.int .i64 0)).other (by omega) (b' := X + 1) 1 (.int .i64 0)).drew.cell 0 _ rfl, ((((st.k4.other (by omega) (b' := X + 2) 0 (.int .i64 0)).other (by omega) (b' := X + 2) 1 (.int .i64 0)).other (by omega) (b' := X + 1) 0 (.int .i64 0)).other (by omega) (b' := X + 1) 1 (.int .i64 0)).drew.cell 1 _ rfl⟩)
                      have u10 := st.k1.cell 0 _ rfl
                      have u11 := st.k1.cell 1 _ rfl
                      have u20 := st.k2.cell 0 _ rfl
                      have u21 := st.k2.cell 1 _ rfl
                      have v10 := st.k1.free 0
                      have v11 := st.k1.free 1
                      have v20 := st.k2.free 0
                      have v21 := st.k2.free 1
                      have HE1 := Lib.hid (show ∀ a b, OnS (fun x => x = X + 1 ∨ x = X + 2) W (((((W.setCell ⟨X + 1, 0, none⟩ a).setCell ⟨X + 1, 1, none⟩ b).setCell ⟨X + 2, 0, none⟩ a).setCell ⟨X + 2, 1, none⟩ b).drew) from fun a b => (((((OnS.cell _ _ _).weak fun x _ h => .inl h).trans ((OnS.cell _ _ _).weak fun x _ h => .inl h)).trans ((OnS.cell _ _ _).weak fun x _ h => .inr h)).trans ((OnS.cell _ _ _).weak fun x _ h => .inr h)).trans (OnS.of (bdr _)))
                      have HE2 := Lib.hid (show ∀ a b, OnS (fun x => x = X + 1 ∨ x = X + 2) W (((((W.setCell ⟨X + 2, 0, none⟩ a).setCell ⟨X + 2, 1, none⟩ b).setCell ⟨X + 1, 0, none⟩ a).setCell ⟨X + 1, 1, none⟩ b).drew) from fun a b => (((((OnS.cell _ _ _).weak fun x _ h => .inr h).trans ((OnS.cell _ _ _).weak fun x _ h => .inr h)).trans ((OnS.cell _ _ _).weak fun x _ h => .inl h)).trans ((OnS.cell _ _ _).weak fun x _ h => .inl h)).trans (OnS.of (bdr _)))
                      have q1 := ((((st.k1.set 0 (.int .i64 0)).set 1 (.int .i64 0)).other (by omega) (b' := X + 2) 0 (.int .i64 0)).other (by omega) (b' := X + 2) 1 (.int .i64 0))
                      have q2 := (((st.k2.other (by omega) (b' := X + 1) 0 (.int .i64 0)).other (by omega) (b' := X + 1) 1 (.int .i64 0)).set 0 (.int .i64 0)).set 1 (.int .i64 0)
                      have q3 := (((st.k1.other (by omega) (b' := X + 2) 0 (.int .i64 0)).other (by omega) (b' := X + 2) 1 (.int .i64 0)).set 0 (.int .i64 0)).set 1 (.int .i64 0)
                      have q4 := ((((st.k2.set 0 (.int .i64 0)).set 1 (.int .i64 0)).other (by omega) (b' := X + 1) 0 (.int .i64 0)).other (by omega) (b' := X + 1) 1 (.int .i64 0))
                      have HQA := Lib.hid (And.intro q1.drew q2.drew)
                      have HQB := Lib.hid (And.intro q3.drew q4.drew)
                      clear st hW S4 q1 q2 q3 q4
                      go_wp2_with fail
                      go_region_held3 (fun w' => w'.cell? ⟨X + 3, 0, none⟩ = some (.int .i64 0) ∧ w'.cell? ⟨X + 3, 1, none⟩ = some (.int .i64 0) ∧ w'.cell? ⟨X + 4, 0, none⟩ = some (.int .i64 0) ∧ w'.cell? ⟨X + 4, 1, none⟩ = some (.int .i64 0)) (first | with_reducible exact HC0.out | with_reducible exact HC1.out | with_reducible exact HC2.out | with_reducible exact HC3.out | with_reducible exact HC4.out | go_keep) (fail)
                      go_wp2_with fail
                      have z10 : ((((W.setCell ⟨X + 1, 0, none⟩ (.int .i64 0)).setCell ⟨X + 1, 1, none⟩ (.int .i64 0)).setCell ⟨X + 1 + 1, 0, none⟩ (.int .i64 0)).setCell ⟨X + 1 + 1, 1, none⟩ (.int .i64 0)).drew.cell? ⟨X + 1, 0, none⟩ = some (.int .i64 0) := HQA.out.1.cell 0 _ rfl
                      have z11 : ((((W.setCell ⟨X + 1, 0, none⟩ (.int .i64 0)).setCell ⟨X + 1, 1, none⟩ (.int .i64 0)).setCell ⟨X + 1 + 1, 0, none⟩ (.int .i64 0)).setCell ⟨X + 1 + 1, 1, none⟩ (.int .i64 0)).drew.cell? ⟨X + 1, 1, none⟩ = some (.int .i64 0) := HQA.out.1.cell 1 _ rfl
                      have z20 : ((((W.setCell ⟨X + 1, 0, none⟩ (.int .i64 0)).setCell ⟨X + 1, 1, none⟩ (.int .i64 0)).setCell ⟨X + 1 + 1, 0, none⟩ (.int .i64 0)).setCell ⟨X + 1 + 1, 1, none⟩ (.int .i64 0)).drew.cell? ⟨X + 1 + 1, 0, none⟩ = some (.int .i64 0) := HQA.out.2.cell 0 _ rfl
                      have z21 : ((((W.setCell ⟨X + 1, 0, none⟩ (.int .i64 0)).setCell ⟨X + 1, 1, none⟩ (.int .i64 0)).setCell ⟨X + 1 + 1, 0, none⟩ (.int .i64 0)).setCell ⟨X + 1 + 1, 1, none⟩ (.int .i64 0)).drew.cell? ⟨X + 1 + 1, 1, none⟩ = some (.int .i64 0) := HQA.out.2.cell 1 _ rfl
                      have hf := st_fin HPP.out HS.out (HE1.out (.int .i64 0) (.int .i64 0)) HS.out.xw
                      refine bodyPost_ret (v := .tuple #[.agg #[.int .i64 0, .int .i64 0], .agg #[.int .i64 0, .int .i64 0]]) (by simp [results, Try.results11, go_sem, z10, z11, z20, z21]) rfl ?_
                      rw [HDD.out]
                      exact ⟨rfl, hf⟩
/-- A deed, whatever the blocks are. -/
theorem does_c (hP : PT TP) (w : World) (C p r : Nat) (E : Eg) (H : Two TP w C p r E E) (m : Nat) (HW : Wg m E) (hm : m ≤ 1000) (k t n v : Int) (bt : B64 t) (bn : B64 n) (bv : B64 v) :
    Calls Try.prog 11 #[.pointer (some ⟨p, 0, none⟩), .pointer (some ⟨r, 0, none⟩), .agg #[.int .i64 k, .int .i64 t, .int .i64 n, .int .i64 v]] w fun e w' => e = .returned (.tuple #[.agg #[.int .i64 (deedR E ⟨k, t, n, v⟩).2.1, .int .i64 (deedR E ⟨k, t, n, v⟩).2.2], .agg #[.int .i64 (deedR E ⟨k, t, n, v⟩).2.1, .int .i64 (deedR E ⟨k, t, n, v⟩).2.2]]) ∧ Two TP w' C p r (deedR E ⟨k, t, n, v⟩).1 (deedR E ⟨k, t, n, v⟩).1 ∧ Below C w w' := by
  obtain ⟨F, G, h1, h2, h3, h4, h5⟩ := H
  refine (does_f hP w C p r E F G h1 h2 h3 h4 h5 m HW hm k t n v bt bn bv).mono ?_
  rintro e w' ⟨he, ⟨F', G', q1, q2, q3, q4, q5, q6⟩, ho, hb⟩
  exact ⟨he, ⟨F', G', q1, q2, q3, q4, Nat.le_trans h5 ho.size⟩, hb⟩
/-- A deed leaves new blocks as they were. -/
theorem does_n (hP : PT TP) (w : World) (C p r : Nat) (E : Eg) (H : Two TP w C p r E E) (w0 : World) (hw : Below w.heap.size w w0) (m : Nat) (HW : Wg m E) (hm : m ≤ 1000) (k t n v : Int) (bt : B64 t) (bn : B64 n) (bv : B64 v) :
    Calls Try.prog 11 #[.pointer (some ⟨p, 0, none⟩), .pointer (some ⟨r, 0, none⟩), .agg #[.int .i64 k, .int .i64 t, .int .i64 n, .int .i64 v]] w0 fun e w' => e = .returned (.tuple #[.agg #[.int .i64 (deedR E ⟨k, t, n, v⟩).2.1, .int .i64 (deedR E ⟨k, t, n, v⟩).2.2], .agg #[.int .i64 (deedR E ⟨k, t, n, v⟩).2.1, .int .i64 (deedR E ⟨k, t, n, v⟩).2.2]]) ∧ Two TP w' C p r (deedR E ⟨k, t, n, v⟩).1 (deedR E ⟨k, t, n, v⟩).1 ∧ Below C w0 w' ∧ ∀ b, w.heap.size ≤ b → b < w0.heap.size → w'.heap[b]? = w0.heap[b]? := by
  obtain ⟨F, G, h1, h2, h3, h4, h5⟩ := H
  refine (does_f hP w0 C p r E F G (hP.on h1 (OnS.none hw) (fun _ _ h => h)) (h2.keep hw) h3 h4 (Nat.le_trans h5 hw.size) m HW hm k t n v bt bn bv).mono ?_
  rintro e w' ⟨he, ⟨F', G', q1, q2, q3, q4, q5, q6⟩, ho, hb⟩
  exact ⟨he, ⟨F', G', q1, q2, q3, q4, Nat.le_trans (Nat.le_trans h5 hw.size) ho.size⟩, hb, fun b h1' h2' => ho.block b h2' (fun e => by
    rcases e with e | e
    · have := hP.low h1 b e; omega
    · have := h2.lt b e; omega)⟩
end Go.Proofs.Ytjoifodjbdbicaa.US
