/- More on rows that may be nil, and on a round of reading. -/
import Derived.Test.YtlcapkgbbgpdmaaGreatDoorV
namespace Go.Proofs.YtlcapkgbbgpdmaaGreatDoor.S2
open Go.RowKit Go.Maps Go.Proofs.YtlcapkgbbgpdmaaGreatDoor.P Go.Proofs.YtlcapkgbbgpdmaaGreatDoor.A Go.Proofs.YtlcapkgbbgpdmaaGreatDoor.Q Go.Proofs.YtlcapkgbbgpdmaaGreatDoor.U
set_option linter.unusedVariables false
set_option maxRecDepth 100000

theorem step_below2 {w wr w1 : World} {B0 : Nat} {v : Value} {o : Obj} (hnx : Below B0 w wr) (hg : (wr.alloc o).grownBy w1 v.ownBlock) (h0 : ∀ j, v.ownBlock = some j → B0 ≤ j) (hs : B0 ≤ wr.heap.size) : Below B0 w w1 :=
  (hnx.alloc hs _).grown hg (by simp; omega) h0

/-- Behind an append to a row that may be nil. -/
theorem own_snoc2 {w : World} {base g cap n : Nat} {a l c : List UInt8} (h : w.ownsRow base 5 1 (.slice (some ⟨g, 0, none⟩) (a.length + n) cap) (a.length + n) (bvs a ++ bvs l)) (hn : l.length = n) (hc : c = a ++ l) :
    (.slice (some ⟨g, 0, none⟩) (a.length + n) cap : Value) = .slice (some ⟨g, 0, none⟩) c.length cap ∧ OwnB w base (.slice (some ⟨g, 0, none⟩) c.length cap) c := own_snoc h hn hc

theorem conv_any {w : World} {base n cap : Nat} {ao : Option Addr} {l : List UInt8} (h : w.ownsRow base 5 1 (.slice ao n cap) n (bvs l)) (hn : n = l.length) :
    (convert 100 9 (.slice ao n cap)).run Tryz.prog w = .ok (.string ⟨l.toArray⟩) w := by
  rcases h.2 with ⟨hv, h0⟩ | ⟨g, cap', cur, hv, _⟩
  · injection hv with e1 e2 e3
    subst e1; subst e2; subst e3
    obtain rfl : l = [] := List.eq_nil_of_length_eq_zero hn.symm
    kernel_rfl
  · injection hv with e1 e2 e3
    subst e1
    exact conv_own h hn

theorem drop_cons (s : ByteArray) (k : Nat) (h : k < s.size) : s.data.toList.drop k = s[k] :: s.data.toList.drop (k + 1) := by
  have hl : k < s.data.toList.length := by simpa using h
  exact List.drop_eq_getElem_cons hl
theorem drop_end (s : ByteArray) (k : Nat) (h : s.size ≤ k) : s.data.toList.drop k = [] := List.drop_eq_nil_of_le (by simpa using h)

theorem step_ok {s : ByteArray} {k f : Nat} {acc : List UInt8} {R : List UInt8 × Nat × Nat} {r : UInt8 × Nat × Nat} (h : k < s.size) (hc : s[k] ≠ 34) (hr : fs (s.data.toList.drop k) = r) (he : r.2.2 = 0)
    (HF : Hid (rl (f + 1) (s.data.toList.drop k) k acc = R)) : Hid (rl f (s.data.toList.drop (k + r.2.1)) (k + r.2.1) (acc ++ [r.1]) = R) := by
  have := rl_next (f := f) (acc := acc) (show k < s.data.toList.length by simpa using h) hc (by rw [hr]; exact he)
  rw [hr] at this
  exact this.symm.trans HF.out
theorem step_err {s : ByteArray} {k f : Nat} {acc : List UInt8} {R : List UInt8 × Nat × Nat} {r : UInt8 × Nat × Nat} (h : k < s.size) (hc : s[k] ≠ 34) (hr : fs (s.data.toList.drop k) = r) (he : r.2.2 ≠ 0)
    (HF : Hid (rl (f + 1) (s.data.toList.drop k) k acc = R)) : Hid (([], 0, r.2.2) = R) := by
  have := rl_err (f := f) (acc := acc) (show k < s.data.toList.length by simpa using h) hc (by rw [hr]; exact he)
  rw [hr] at this
  exact this.symm.trans HF.out

/-- What a backslash with x behind it says. -/
theorem td_none {s : ByteArray} {k : Nat} (h : s.size ≤ k) : td (s.data.toList.drop k) = (0, 11) := by rw [drop_end s k h]; rfl
theorem td_bad {s : ByteArray} {k : Nat} (h : k < s.size) (h1 : ¬ dn s[k] < 16) : td (s.data.toList.drop k) = (0, 10) := by
  rw [drop_cons s k h]
  by_cases h2 : k + 1 < s.size
  · rw [drop_cons s (k + 1) h2]; simp [td, h1]
  · rw [drop_end s (k + 1) (by omega)]; simp [td, h1]
theorem td_short {s : ByteArray} {k : Nat} (h : k < s.size) (h1 : dn s[k] < 16) (h2 : s.size ≤ k + 1) : td (s.data.toList.drop k) = (0, 11) := by
  rw [drop_cons s k h, drop_end s (k + 1) h2]; simp [td, h1]
theorem td_bad1 {s : ByteArray} {k : Nat} (h : k + 1 < s.size) (h1 : dn s[k] < 16) (h2 : ¬ dn s[k + 1] < 16) : td (s.data.toList.drop k) = (0, 10) := by
  rw [drop_cons s k (by omega), drop_cons s (k + 1) h]; simp [td, h1, h2]
theorem td_good {s : ByteArray} {k : Nat} (h : k + 1 < s.size) (h1 : dn s[k] < 16) (h2 : dn s[k + 1] < 16) : td (s.data.toList.drop k) = (UInt8.ofNat (16 * dn s[k] + dn s[k + 1]), 0) := by
  rw [drop_cons s k (by omega), drop_cons s (k + 1) h]; simp [td, h1, h2]
theorem fs_bh {s : ByteArray} {k : Nat} (h : k < s.size) (hc : s[k] = 92) : fs (s.data.toList.drop k) = bh (s.data.toList.drop (k + 1)) := by
  rw [drop_cons s k h, hc, fs_cons, if_pos rfl]
theorem bh_x {s : ByteArray} {k : Nat} (h : k < s.size) (hc : s[k] = 120) : bh (s.data.toList.drop k) = ((td (s.data.toList.drop (k + 1))).1, 4, (td (s.data.toList.drop (k + 1))).2) := by
  rw [drop_cons s k h, hc, bh_cons, if_pos rfl]
end Go.Proofs.YtlcapkgbbgpdmaaGreatDoor.S2
