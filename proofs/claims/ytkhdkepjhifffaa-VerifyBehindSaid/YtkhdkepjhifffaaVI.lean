/- The document's step: an instruction is gone through. -/
import Derived.Test.YtkhdkepjhifffaaVF
import Derived.Test.YtkhdkepjhifffaaVG
import Derived.Test.YtkhdkepjhifffaaVH
import Derived.Deep.Cut
import Derived.Deep.DeepCutAuto
namespace Go.Proofs.Ytkhdkepjhifffaa.VI
open Go.RowKit Go.Proofs.Ytkhdkepjhifffaa.RG Go.Proofs.Ytkhdkepjhifffaa.RB Go.Proofs.Ytkhdkepjhifffaa.KA Go.Proofs.Ytkhdkepjhifffaa.KB Go.Proofs.Ytkhdkepjhifffaa.KH Go.Proofs.Ytkhdkepjhifffaa.VA Go.Proofs.Ytkhdkepjhifffaa.VB Go.Proofs.Ytkhdkepjhifffaa.VC Go.Proofs.Ytkhdkepjhifffaa.VD Go.Proofs.Ytkhdkepjhifffaa.VE Go.Proofs.Ytkhdkepjhifffaa.VF Go.Proofs.Ytkhdkepjhifffaa.VG Go.Proofs.Ytkhdkepjhifffaa.VH
set_option linter.unusedVariables false
set_option maxRecDepth 100000
set_option maxRecDepth 100000

def StepRes (K : Int) (g : Option (List (Nat × Sx))) (A : Row) (S : Nat → Prop) (b : Nat) (w : World) (e : Ending) (w' : World) : Prop :=
  (∃ l A', g = some l ∧ puts K A l.reverse = some A' ∧ e = .returned (.bool true) ∧ RowB TZ w' S b (A'.map rawD) ∧ Bo w.heap.size b w w') ∨ ((g = none ∨ ∃ l, g = some l ∧ puts K A l.reverse = none) ∧ e = .returned (.bool false) ∧ Bo w.heap.size b w w')
theorem puts_one {K : Int} {A : Row} {x : Nat × Sx} : puts K A [x] = put K A x := by
  unfold puts
  cases put K A x <;> rfl
theorem puts_two {K : Int} {A A1 : Row} {x y : Nat × Sx} (h : put K A y = some A1) : puts K A [y, x] = put K A1 x := by
  conv => lhs; unfold puts
  rw [h]
  exact puts_one
theorem puts_bad {K : Int} {A : Row} {x y : Nat × Sx} (h : put K A y = none) : puts K A [y, x] = none := by
  unfold puts
  rw [h]
  rfl
theorem sone {K : Int} {g : Option (List (Nat × Sx))} {A : Row} {S : Nat → Prop} {b : Nat} {x : Nat × Sx} {w w5 : World} {e : Ending} {w' : World} (hg : g = some [x]) (hb : Bo w.heap.size b w w5) (h : HandRes K A x S b w5 e w') : StepRes K g A S b w e w' := by
  rcases h with ⟨A', h1, h2, h3, h4⟩ | ⟨h1, h2, h3⟩
  · exact .inl ⟨_, A', hg, puts_one.trans h1, h2, h3, hb.trans (h4.mono hb.size)⟩
  · exact .inr ⟨.inr ⟨_, hg, puts_one.trans h1⟩, h2, hb.trans (h3.mono hb.size)⟩
theorem stwo {K : Int} {g : Option (List (Nat × Sx))} {A A1 : Row} {S : Nat → Prop} {b : Nat} {x y : Nat × Sx} {w w5 : World} {e : Ending} {w' : World} (hg : g = some [x, y]) (hp : put K A y = some A1) (hb : Bo w.heap.size b w w5) (h : HandRes K A1 x S b w5 e w') : StepRes K g A S b w e w' := by
  rcases h with ⟨A', h1, h2, h3, h4⟩ | ⟨h1, h2, h3⟩
  · exact .inl ⟨_, A', hg, (puts_two hp).trans h1, h2, h3, hb.trans (h4.mono hb.size)⟩
  · exact .inr ⟨.inr ⟨_, hg, (puts_two hp).trans h1⟩, h2, hb.trans (h3.mono hb.size)⟩
theorem goes_good {c : Cd} {n : Nat} {f : Bd} {at_ : Nat} {i : In} {D TK PT : Int} {ms : List Mk} (hi : f.code[at_]? = some i) (hr : rightB c n f i = true) (hg : base ⟨D, ms⟩ ≤ D - TK) (hTK : takesN i = TK) (hPT : putsN i.op = PT) : goes c n f at_ ⟨D, ms⟩ = leaves i at_ ⟨D - TK + PT, ms⟩ := by
  subst hTK hPT
  unfold goes
  rw [hi]
  simp only
  rw [if_pos ⟨hr, hg⟩]
  rfl
theorem takes_le (i : In) (h : 0 ≤ i.b ∧ i.b ≤ 65535) : 0 ≤ takesN i ∧ takesN i ≤ 65535 := by
  unfold takesN; split
  · exact h
  · split
    · decide
    · split <;> decide
theorem puts_le (op : Int) : 0 ≤ putsN op ∧ putsN op ≤ 1 := by unfold putsN; split <;> decide
/-- Marks of the call's own lie in their own block. -/
theorem own2 {w : World} {B : Nat} {v : Value} {ms : List Mk} (h : OwnR TD w B (fun _ => False) v ms) : RowM TD w (fun y => v.ownBlock = some y) v ms := by
  obtain ⟨qs, h1, h2⟩ := h
  have hrw := rw_own h1
  obtain ⟨ao, cap, e, hc, hr⟩ := hrw
  subst e
  refine ⟨_, qs, rfl, ⟨ao, cap, rfl, hc, ?_⟩, Hs.mv (Mv.weak w fun b hb _ => hb.1.elim) _ _ h2⟩
  rcases hr with hr | ⟨b, off, hb, hS, hcell⟩
  · exact .inl hr
  · exact .inr ⟨b, off, hb, ⟨by rw [hb]; rfl, hS.2⟩, hcell⟩
theorem own_some {w : World} {B n cap : Nat} {ao : Option Addr} {ms : List Mk} (h : OwnR TD w B (fun _ => False) (.slice ao n cap) ms) (h0 : 0 < ms.length) : (∃ g, ao = some ⟨g, 0, none⟩) ∧ n = ms.length ∧ n ≤ cap := by
  obtain ⟨qs, ⟨h1, h2⟩, h3⟩ := h
  rcases h2 with ⟨_, h2⟩ | ⟨g, cap', cur, hv, hg, hh, hn, _⟩
  · omega
  · cases hv
    exact ⟨⟨g, rfl⟩, rfl, hn⟩
theorem app_bo {w7 w9 : World} {o : Obj} {B b T : Nat} {v u : Value} (hg : (w7.alloc o).grownBy w9 v.ownBlock) (hown : ∀ g, v.ownBlock = some g → B ≤ g) (hT : B ≤ T) (hB : B ≤ w7.heap.size) : Bo B b w7 (w9.setCell ⟨T, 2, none⟩ u) :=
  Bo.of ((((balloc w7 o).mono hB).trans (bgrown hg hown (Nat.le_trans hB (balloc w7 o).size))).setCell (p := ⟨T, 2, none⟩) hT u)
theorem app_mv {w7 w9 : World} {o : Obj} {T : Nat} {v u : Value} {S S7 : Nat → Prop} (hg : (w7.alloc o).grownBy w9 v.ownBlock) (hs : ∀ y, S7 y → S y) (hno : ∀ y, S7 y → y ≠ T ∧ v.ownBlock ≠ some y) : Mv w7 (w9.setCell ⟨T, 2, none⟩ u) S7 S :=
  ⟨by have := hg.size; simp at this ⊢; omega, fun y hy hlt => ⟨hs y hy, ((Below.heap_setCell _ _ _ _ (hno y hy).1).trans (hg.block y (by simp; omega) fun e => (hno y hy).2 e.symm)).trans ((balloc w7 o).block y hlt)⟩⟩
theorem app_rb {w7 w9 : World} {o : Obj} {T b : Nat} {v u : Value} {S S7 : Nat → Prop} {L : List (Bool × Sx)} (h : RowB TZ w7 S7 b L) (hg : (w7.alloc o).grownBy w9 v.ownBlock) (hs : ∀ y, S7 y → S y) (hno : ∀ y, S7 y → y ≠ T ∧ v.ownBlock ≠ some y) (hb : b ≠ T) (hvb : v.ownBlock ≠ some b) : RowB TZ (w9.setCell ⟨T, 2, none⟩ u) S b L :=
  h.mv (app_mv hg hs hno) (((Below.heap_setCell _ _ _ _ hb).trans (hg.block b (by have := h.lt; simp; omega) fun e => hvb e.symm)).trans ((balloc w7 o).block b h.lt))
theorem app_rm {w9 : World} {B T : Nat} {v9 u : Value} {S : Nat → Prop} {L : List Mk} (h : OwnR TD w9 B (fun _ => False) v9 L) (hT : v9.ownBlock ≠ some T) (hS : ∀ y, B ≤ y → S y) : RowM TD (w9.setCell ⟨T, 2, none⟩ u) S v9 L :=
  (own2 h).mv ⟨by simp, fun y hy hlt => ⟨hS y (h.own hy).1, Below.heap_setCell _ _ _ _ (show y ≠ T from fun e => hT (by rw [← e]; exact hy))⟩⟩
theorem HandRes.weak {K : Int} {A : Row} {x : Nat × Sx} {S S' : Nat → Prop} {b : Nat} {w : World} {e : Ending} {w' : World} (h : HandRes K A x S b w e w') (hs : ∀ y, S y → S' y) : HandRes K A x S' b w e w' := by
  rcases h with ⟨A', h1, h2, h3, h4⟩ | h
  · exact .inl ⟨A', h1, h2, h3.mv (Mv.weak w' fun y hy _ => hs y hy) rfl, h4⟩
  · exact .inr h
/-- The state that is left, in memory of its own. -/
def CutT (w4 : World) (dep : Int) (ms : List Mk) (s16 : Value) (wc : World) : Prop := ∃ T ao n cap, s16 = .pointer (some ⟨T, 0, none⟩) ∧ Bk wc T #[.bool false, .int .i64 dep, .slice ao n cap] 75 ∧ Below w4.heap.size w4 wc ∧ w4.heap.size ≤ T ∧ OwnR TD wc w4.heap.size (fun _ => False) (.slice ao n cap) ms ∧ ∀ g, (Value.slice ao n cap).ownBlock = some g → g ≠ T
theorem cutT_set {w4 w5 : World} {dep : Int} {ms : List Mk} {ao : Option Addr} {n cap : Nat} {o : Obj} (hT : Bk w5 w4.heap.size #[.bool false, .int .i64 0, .slice none 0 0] 75) (hb : Below w4.heap.size w4 w5) (hO : OwnR TD w5 (w4.alloc o).drew.heap.size (fun _ => False) (.slice ao n cap) ms) :
    CutT w4 dep ms (.pointer (some ⟨w4.heap.size, 0, none⟩)) (((w5.setCell ⟨w4.heap.size, 0, none⟩ (.bool false)).setCell ⟨w4.heap.size, 1, none⟩ (.int .i64 dep)).setCell ⟨w4.heap.size, 2, none⟩ (.slice ao n cap)) := by
  have hs : (w4.alloc o).drew.heap.size = w4.heap.size + 1 := by show (w4.alloc o).heap.size = _; simp
  have hg : ∀ g, (Value.slice ao n cap).ownBlock = some g → w4.heap.size < g := fun g e => by have := (hO.own e).1; omega
  have lt : w4.heap.size < (w4.alloc o).drew.heap.size := by omega
  refine ⟨_, ao, n, cap, rfl, ((hT.set 0 (.bool false)).set 1 (.int .i64 dep)).set 2 (.slice ao n cap), ((hb.setCell (p := ⟨w4.heap.size, 0, none⟩) (Nat.le_refl _) _).setCell (p := ⟨w4.heap.size, 1, none⟩) (Nat.le_refl _) _).setCell (p := ⟨w4.heap.size, 2, none⟩) (Nat.le_refl _) _, Nat.le_refl _, ownR_low (((hO.other (fun b h => h.elim) lt 0 _).other (fun b h => h.elim) lt 1 _).other (fun b h => h.elim) lt 2 _) (Nat.le_of_lt lt) (fun _ h => h), fun g e => by have := hg g e; omega⟩
theorem put_gd {K : Int} {A A1 : Row} {x : Nat × Sx} {M : Nat} (h : put K A x = some A1) (gd : ∀ (a : Nat) (s : Sx), A[a]? = some (some s) → s.ms.length ≤ M) (hx : x.2.ms.length ≤ M) : ∀ (a : Nat) (s : Sx), A1[a]? = some (some s) → s.ms.length ≤ M := fun a s e => by
  rcases (put_some h).2.2.2 a s e with e | e
  · exact gd a s e
  · rw [← e] at hx; exact hx
theorem _root_.Go.Proofs.Ytkhdkepjhifffaa.KH.Bo.bk {B x b : Nat} {w w' : World} {c : Array Value} {t : TypeId} (h : Bo B x w w') (hk : Bk w b c t) (hB : b < B) (hx : b ≠ x) : Bk w' b c t := (h.block b hB hx).trans hk
theorem _root_.Go.Proofs.Ytkhdkepjhifffaa.KH.Bo.mv {x : Nat} {w w' : World} {S : Nat → Prop} (h : Bo w.heap.size x w w') (hS : ∀ y, S y → y ≠ x) : Mv w w' S S := ⟨h.size, fun y hy hlt => ⟨hy, h.block y hlt (hS y hy)⟩⟩
end Go.Proofs.Ytkhdkepjhifffaa.VI
