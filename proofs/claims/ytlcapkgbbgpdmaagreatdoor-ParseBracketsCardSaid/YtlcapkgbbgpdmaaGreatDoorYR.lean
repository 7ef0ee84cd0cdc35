/- The reader behind its pointer: two cells, the source and the place; taking bytes. -/
import Derived.Test.YtlcapkgbbgpdmaaGreatDoorYL
import Derived.Test.YtlcapkgbbgpdmaaGreatDoorYK
import Derived.OneCell
import Derived.OwnWalk
import Derived.StillTailTactics
import Derived.Deep.QuietTactic
import Derived.BigQuiet
import Derived.Outline
namespace Go.Proofs.YtlcapkgbbgpdmaaGreatDoor.YR
open Go.RowKit Go.Proofs.YtlcapkgbbgpdmaaGreatDoor.P Go.Proofs.YtlcapkgbbgpdmaaGreatDoor.A Go.Proofs.YtlcapkgbbgpdmaaGreatDoor.TK Go.Proofs.YtlcapkgbbgpdmaaGreatDoor.YC Go.Proofs.YtlcapkgbbgpdmaaGreatDoor.YL Go.Proofs.YtlcapkgbbgpdmaaGreatDoor.U
set_option linter.unusedVariables false
set_option maxRecDepth 100000

/-- The reader at block r: its source, and how far it has read. -/
def RD (w : World) (r : Nat) (s : ByteArray) (i : Nat) : Prop := w.heap[r]? = some (.cells #[.string s, .int .i64 (i : Int)] 86 (0, 0))
theorem RD.lt {w : World} {r : Nat} {s : ByteArray} {i : Nat} (h : RD w r s i) : r < w.heap.size := lt_of_block h
theorem RD.c0 {w : World} {r : Nat} {s : ByteArray} {i : Nat} (h : RD w r s i) : w.cell? ⟨r, 0, none⟩ = some (.string s) := by
  unfold RD at h; simp [World.cell?, h]
theorem RD.c1 {w : World} {r : Nat} {s : ByteArray} {i : Nat} (h : RD w r s i) : w.cell? ⟨r, 1, none⟩ = some (.int .i64 (i : Int)) := by
  unfold RD at h; simp [World.cell?, h]
theorem RD.f1 {w : World} {r : Nat} {s : ByteArray} {i : Nat} (h : RD w r s i) : w.frozen? ⟨r, 1, none⟩ = false := by
  unfold RD at h; simp [World.frozen?, h]
theorem RD.set {w : World} {r : Nat} {s : ByteArray} {i : Nat} (h : RD w r s i) (j : Nat) : RD (w.setCell ⟨r, 1, none⟩ (.int .i64 (j : Int))) r s j := by
  have hlt := h.lt
  unfold RD at h ⊢
  have h' : w.heap[r] = .cells #[.string s, .int .i64 (i : Int)] 86 (0, 0) := by simpa [Array.getElem?_eq_getElem hlt] using h
  show (w.heap.modify r _)[r]? = _
  rw [Array.getElem?_eq_getElem (by simpa using hlt), Array.getElem_modify_self, h']
  rfl
theorem RD.of_block {w w' : World} {r : Nat} {s : ByteArray} {i : Nat} (h : RD w r s i) (e : w'.heap[r]? = w.heap[r]?) : RD w' r s i := e.trans h
theorem RD.below {w w' : World} {r : Nat} {s : ByteArray} {i : Nat} (h : RD w r s i) (hb : Below w.heap.size w w') : RD w' r s i := h.of_block (hb.block r h.lt)
theorem RD.drew {w : World} {r : Nat} {s : ByteArray} {i : Nat} (h : RD w r s i) (n : Nat) : RD (w.drewN n) r s i := h

/-- New blocks, and nothing that was there turned but block r. -/
abbrev Gr (r : Nat) (w w' : World) : Prop := w.grownBy w' (some r)
theorem Gr.refl (r : Nat) (w : World) : Gr r w w := World.grownBy.refl _ _
theorem Gr.trans {r : Nat} {a b c : World} (h : Gr r a b) (k : Gr r b c) : Gr r a c :=
  ⟨k.os.trans h.os, k.tape.trans h.tape, k.output.trans h.output, Nat.le_trans h.size k.size, fun i hi hn => (k.block i (Nat.lt_of_lt_of_le hi h.size) hn).trans (h.block i hi hn)⟩
theorem Gr.setCell {r : Nat} {a w : World} (h : Gr r a w) (o : Nat) (v : Value) : Gr r a (w.setCell ⟨r, o, none⟩ v) :=
  h.trans ⟨rfl, rfl, rfl, by simp [World.setCell], fun k hk hn => Below.heap_setCell _ _ _ _ (fun e => hn (by simp [e]))⟩
theorem Gr.below {r : Nat} {a w w' : World} (h : Gr r a w) (hb : Below w.heap.size w w') : Gr r a w' :=
  h.trans ⟨hb.os, hb.tape, hb.output, hb.size, fun k hk _ => hb.block k hk⟩
theorem Gr.drew {r : Nat} {a w : World} (h : Gr r a w) (n : Nat) : Gr r a (w.drewN n) := h.trans ⟨rfl, rfl, rfl, Nat.le_refl _, fun _ _ _ => rfl⟩
theorem Gr.drew1 {r : Nat} {a w : World} (h : Gr r a w) : Gr r a w.drew := h.trans ⟨rfl, rfl, rfl, Nat.le_refl _, fun _ _ _ => rfl⟩
theorem Gr.alloc {r : Nat} {a w : World} (h : Gr r a w) (o : Obj) : Gr r a (w.alloc o) := h.below ((Below.refl _ _).alloc (Nat.le_refl _) o)

theorem take_any (w : World) (r : Nat) (s : ByteArray) (i n : Nat) (h : RD w r s i) (hs : s.size ≤ 2100) (hi : i + n ≤ s.size) :
    Calls Tryz.prog 128 #[.pointer (some ⟨r, 0, none⟩), .int .i64 (n : Int)] w fun e w' => e = .returned (.string (s.extract i (i + n))) ∧ RD w' r s (i + n) ∧ Gr r w w' := by
  have h0 := h.c0
  have h1 := h.c1
  have f1 := h.f1
  have h2 := h.set (i + n)
  have g2 := (Gr.refl r w).setCell 1 (.int .i64 ((i + n : Nat) : Int))
  simp only [Int.natCast_add] at h2 g2
  have hsz : (s.extract i (i + n)).size ≤ 2100 := by simp; omega
  go_enter Tryz.func128, Tryz.ntmps128
  go_wp2
  generalize w.setCell ⟨r, 1, none⟩ (.int .i64 ((i : Int) + (n : Int))) = w1 at h2 g2 ⊢
  have k0 := h2.c0
  have k1 := h2.c1
  have H2 := Lib.hid h2
  have G2 := Lib.hid g2
  clear h h0 h1 f1 h2 g2
  have a1 : (0 : Int) ≤ (i : Int) + (n : Int) := by omega
  have a2 : (i : Int) + (n : Int) ≤ (s.size : Int) := by omega
  have a3 : (i : Int) ≤ (i : Int) + (n : Int) := by omega
  have a4 : ((i : Int) + (n : Int)).toNat = i + n := by omega
  go_still_tail 10, (by kernel_rfl)
  clear a1 a2 a3 a4
  change wpList _ _ _ _ _ w1.drew
  have H3 : Hid (RD w1.drew r s (i + n)) := H2.out
  have G3 : Hid (Gr r w w1.drew) := G2.out.drew1
  generalize w1.drew = w2 at H3 G3 ⊢
  go_wp2_with (first | (go_at_call 160; refine (sclone_any (s.extract i (i + n)) _ hsz).mono ?_; rintro e w3 ⟨rfl, hb⟩))
  go_ret
  exact ⟨rfl, H3.out.below hb, G3.out.below hb⟩
theorem take_as (w : World) (r : Nat) (s : ByteArray) (i n : Nat) (m : Int) (h : RD w r s i) (hs : s.size ≤ 2100) (hi : i + n ≤ s.size) (hm : m = (n : Int)) :
    Calls Tryz.prog 128 #[.pointer (some ⟨r, 0, none⟩), .int .i64 m] w fun e w' => e = .returned (.string (s.extract i (i + n))) ∧ RD w' r s (i + n) ∧ Gr r w w' := by
  subst hm; exact take_any w r s i n h hs hi
end Go.Proofs.YtlcapkgbbgpdmaaGreatDoor.YR
