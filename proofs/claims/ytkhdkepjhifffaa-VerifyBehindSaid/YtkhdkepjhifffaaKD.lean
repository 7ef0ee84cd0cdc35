/- A code's bytes, plainly; numbers put behind bytes: the walks of the document's answers. -/
import Derived.Test.YtkhdkepjhifffaaKC
import Derived.Lib.AppendStr
namespace Go.Proofs.Ytkhdkepjhifffaa.KD
open Go.RowKit Go.Proofs.Ytkhdkepjhifffaa.RG Go.Proofs.Ytkhdkepjhifffaa.KA Go.Proofs.Ytkhdkepjhifffaa.KB
set_option linter.unusedVariables false
set_option maxRecDepth 100000
set_option maxRecDepth 100000

/-! ## Plainly -/
def by1 (n : Int) : UInt8 := UInt8.ofNat n.toNat
theorem by1_nat {n : Int} (h0 : 0 ≤ n) (h1 : n < 256) : ((by1 n).toNat : Int) = n := by
  unfold by1
  rw [UInt8.toNat_ofNat']
  omega
def leK : Nat → Int → By
  | 0, _ => []
  | k + 1, n => by1 (n % 256) :: leK k (n / 256)
def encIn (i : In) : By := by1 i.op :: (leK 2 i.a ++ leK 2 i.b)
def encBd (f : Bd) : By := [by1 f.kept, by1 f.locals, by1 f.stack] ++ leK 2 (f.code.length : Int) ++ f.code.flatMap encIn
def encTx (s : By) : By := by1 (s.length : Int) :: s
def enc (c : Cd) : By := [83, 77, 49, by1 c.lets, by1 (c.ints.length : Int)] ++ c.ints.flatMap (leK 8) ++ [by1 (c.texts.length : Int)] ++ c.texts.flatMap encTx ++ [by1 (c.funs.length : Int)] ++ c.funs.flatMap encBd
theorem leK_len : ∀ (k : Nat) (n : Int), (leK k n).length = k
  | 0, _ => rfl
  | k + 1, n => by simp [leK, leK_len k]

/-! ## Bytes that the call owns -/
def bvs (l : By) : List Value := l.map fun b => Value.int .u8 (b.toNat : Int)
theorem rowB (l : By) : rowOf TB l (l.map fun _ => []) = bvs l := by
  induction l with
  | nil => rfl
  | cons a l ih => show TB.enc a [] ++ rowOf TB l (l.map fun _ => []) = _; rw [ih]; rfl
theorem hsB {w : World} {S : Nat → Prop} (l : By) : Hs TB w S l (l.map fun _ => []) := by
  induction l with
  | nil => trivial
  | cons a l ih => exact ⟨rfl, ih⟩
theorem hsB_eq {w : World} {S : Nat → Prop} : ∀ {l : By} {qs : List (List Value)}, Hs TB w S l qs → qs = l.map fun _ => []
  | [], [], _ => rfl
  | a :: l, q :: qs, h => by
    have h1 : q = [] := h.1
    rw [hsB_eq h.2, h1]; rfl
  | [], _ :: _, h => h.elim
  | _ :: _, [], h => h.elim
abbrev OwnB (w : World) (B : Nat) (v : Value) (l : By) : Prop := OwnR TB w B Any v l
theorem ownB_row {w : World} {B : Nat} {v : Value} {l : By} (h : OwnB w B v l) : w.ownsRow B 5 1 v l.length (bvs l) := by
  obtain ⟨qs, h1, h2⟩ := h
  rw [hsB_eq h2, rowB] at h1
  exact h1
theorem ownB_of {w : World} {B n : Nat} {v : Value} {l : By} (h : w.ownsRow B 5 1 v n (bvs l)) (hn : n = l.length) : OwnB w B v l := by
  subst hn
  exact ⟨_, by rw [rowB]; exact h, hsB l⟩
/-- A new block of bytes. -/
theorem ownB_new {w : World} {B : Nat} (l : By) (c : Array Value) (hc : c.toList = bvs l) (hB : B ≤ w.heap.size) (hl : l.length ≤ 1000) : OwnB (w.alloc (.cells c 5)) B (.slice (some ⟨w.heap.size, 0, none⟩) l.length l.length) l := by
  have hlen : (bvs l).length = l.length := by unfold bvs; simp
  have hsz : c.size = l.length := by rw [← Array.length_toList, hc, hlen]
  refine ownB_of ⟨by rw [hlen]; omega, .inr ⟨w.heap.size, l.length, c, rfl, hB, heap_alloc_new w _, Nat.le_refl _, by unfold maxLen; omega, by omega, ?_⟩⟩ rfl
  rw [hc]
  exact List.take_of_length_le (by rw [hlen]; omega)
/-- Bytes put behind bytes: from one world to another. -/
structure AppB (w w' : World) (B : Nat) (v v' : Value) (l : By) : Prop where
  own : OwnB w' B v' l
  gr : w.grownBy w' v.ownBlock
  at_ : v'.ownBlock = v.ownBlock ∨ ∃ g, v'.ownBlock = some g ∧ w.heap.size ≤ g
theorem AppB.refl {w : World} {B : Nat} {v : Value} {l : By} (h : OwnB w B v l) : AppB w w B v v l := ⟨h, ⟨rfl, rfl, rfl, Nat.le_refl _, fun _ _ _ => rfl⟩, .inl rfl⟩
theorem AppB.trans {w w1 w2 : World} {B : Nat} {v v1 v2 : Value} {l1 l2 : By} (h : AppB w w1 B v v1 l1) (k : AppB w1 w2 B v1 v2 l2) : AppB w w2 B v v2 l2 := by
  refine ⟨k.own, ⟨k.gr.os.trans h.gr.os, k.gr.tape.trans h.gr.tape, k.gr.output.trans h.gr.output, Nat.le_trans h.gr.size k.gr.size, fun b hb hn => ?_⟩, ?_⟩
  · have h1 := h.gr.block b hb hn
    refine (k.gr.block b (Nat.lt_of_lt_of_le hb h.gr.size) fun e => ?_).trans h1
    rcases h.at_ with h2 | ⟨g, h2, h3⟩
    · exact hn (by rw [← h2, ← e])
    · rw [h2] at e
      have : b = g := Option.some.inj e
      omega
  · rcases k.at_ with h1 | ⟨g, h1, h2⟩
    · rcases h.at_ with h3 | ⟨g, h3, h4⟩
      · exact .inl (h1.trans h3)
      · exact .inr ⟨g, h1.trans h3, h4⟩
    · exact .inr ⟨g, h1, Nat.le_trans h.gr.size h2⟩
/-- Something happens that turns no old block. -/
theorem AppB.step {w w1 w2 : World} {B : Nat} {v v1 : Value} {l : By} (h : AppB w w1 B v v1 l) (hb : Below w1.heap.size w1 w2) : AppB w w2 B v v1 l :=
  h.trans ⟨h.own.keep hb, ⟨hb.os, hb.tape, hb.output, hb.size, fun b hlt _ => hb.block b hlt⟩, .inl rfl⟩
theorem AppB.below {w w' : World} {B : Nat} {v v' : Value} {l l0 : By} (h : AppB w w' B v v' l) (h0 : OwnB w B v l0) (hB : B ≤ w.heap.size) : Below B w w' :=
  bgrown h.gr (fun b hb => (h0.own hb).1) hB
theorem AppB.grown {w w1 w2 : World} {B : Nat} {v v1 v2 : Value} {l1 l2 : By} (h : AppB w w1 B v v1 l1) (hO : OwnB w2 B v2 l2) (hg : w1.grownBy w2 v1.ownBlock) (ha : v2.ownBlock = v1.ownBlock ∨ v2.ownBlock = some w1.heap.size) : AppB w w2 B v v2 l2 :=
  h.trans ⟨hO, hg, ha.imp id fun h => ⟨_, h, Nat.le_refl _⟩⟩
theorem AppB.bk {w w' : World} {B b : Nat} {v v' : Value} {l : By} {c : Array Value} {t : TypeId} (h : AppB w w' B v v' l) (hk : Bk w b c t) (hn : v.ownBlock ≠ some b) : Bk w' b c t := hk.grown h.gr hn
theorem AppB.far {w w' : World} {B b : Nat} {v v' : Value} {l : By} (h : AppB w w' B v v' l) (hb : b < w.heap.size) (hn : v.ownBlock ≠ some b) : v'.ownBlock ≠ some b := by
  intro e
  rcases h.at_ with h1 | ⟨g, h1, h2⟩
  · exact hn (by rw [← h1, e])
  · rw [h1] at e
    have : g = b := Option.some.inj e
    omega
def PutRes (w : World) (B : Nat) (v : Value) (l : By) (e : Ending) (w' : World) : Prop := ∃ v', e = .returned v' ∧ AppB w w' B v v' l

/-! ## The walks -/
end Go.Proofs.Ytkhdkepjhifffaa.KD