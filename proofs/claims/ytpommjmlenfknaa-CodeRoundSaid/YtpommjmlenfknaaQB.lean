/- Bytes read as a code, plainly: the two ways answer alike. -/
import Derived.Test.YtpommjmlenfknaaQA
namespace Go.Proofs.Ytpommjmlenfknaa.QB
open Go.Proofs.Ytpommjmlenfknaa.KA Go.Proofs.Ytpommjmlenfknaa.KD Go.Proofs.Ytpommjmlenfknaa.KF Go.Proofs.Ytpommjmlenfknaa.QA
set_option linter.unusedVariables false
set_option maxRecDepth 100000
set_option maxRecDepth 100000

/-! ## Readers put together -/
def seqP {α β : Type} (p : St → α × St) (q : St → β × St) (s : St) : (α × β) × St := (((p s).1, (q (p s).2).1), (q (p s).2).2)
def mapP {α β : Type} (f : α → β) (p : St → α × St) (s : St) : β × St := (f (p s).1, (p s).2)
theorem _root_.Go.Proofs.Ytpommjmlenfknaa.QA.Rd.seq {α β : Type} {p : St → α × St} {q : St → β × St} {e1 : α → By} {e2 : β → By} {k1 : α → Prop} {k2 : β → Prop} (h : Rd p e1 k1) (k : Rd q e2 k2) : Rd (seqP p q) (fun x => e1 x.1 ++ e2 x.2) (fun x => k1 x.1 ∧ k2 x.2) where
  mono s hs := h.mono s (k.mono _ hs)
  sound s hs hk := by
    have h1 := h.sound s (k.mono _ hs) hk.1
    have h2 := k.sound _ hs hk.2
    show s.rest = (e1 (p s).1 ++ e2 (q (p s).2).1) ++ (q (p s).2).2.rest
    rw [List.append_assoc, ← h2, ← h1]
  full x t hk := by
    obtain ⟨x, y⟩ := x
    have h1 := h.full x (e2 y ++ t) hk.1
    have h2 := k.full y t hk.2
    unfold seqP
    show ((_, _), _) = _
    simp only [List.append_assoc, h1, h2]
theorem _root_.Go.Proofs.Ytpommjmlenfknaa.QA.Rd.map {α β : Type} {p : St → α × St} {e : α → By} {ok : α → Prop} (h : Rd p e ok) (f : α → β) (g : β → α) (hfg : ∀ y, f (g y) = y) (hgf : ∀ x, g (f x) = x) : Rd (mapP f p) (fun y => e (g y)) (fun y => ok (g y)) where
  mono s hs := h.mono s hs
  sound s hs hk := by
    have hk' : ok (g (f (p s).1)) := hk
    rw [hgf] at hk'
    show s.rest = e (g (f (p s).1)) ++ (p s).2.rest
    rw [hgf]
    exact h.sound s hs hk'
  full y t hk := by
    unfold mapP
    rw [h.full (g y) t hk, hfg]
theorem _root_.Go.Proofs.Ytpommjmlenfknaa.QA.Rd.congr {α : Type} {p : St → α × St} {e e' : α → By} {ok ok' : α → Prop} (h : Rd p e ok) (hk : ∀ x, ok' x → ok x) (he : ∀ x, ok' x → e x = e' x) : Rd p e' ok' where
  mono := h.mono
  sound s hs hx := by rw [← he _ hx]; exact h.sound s hs (hk _ hx)
  full x t hx := by rw [← he _ hx]; exact h.full x t (hk _ hx)

/-! ## The program's way -/
def numP (k : Nat) (s : St) : Int × St := (num (nx k s).1, (nx k s).2)
theorem num_le {b : By} (h : b.length ≤ 7) : num b = (le b : Int) := by
  have h1 := le_lt b
  have h2 : 256 ^ b.length ≤ 256 ^ 7 := Nat.pow_le_pow_right (by decide) h
  unfold num sg
  rw [if_pos (by omega)]
theorem num_good (k : Nat) (hk : k ≤ 7) : Rd (numP k) (leK k) (fun n => 0 ≤ n ∧ n < (256 ^ k : Nat)) where
  mono s hs := (nx_mono k s hs).1
  sound s hs _ := by
    obtain ⟨_, h2, h3⟩ := nx_mono k s hs
    have h4 : leK k (num (nx k s).1) = (nx k s).1 := by
      have := leK_le (nx k s).1 (num (nx k s).1) (by rw [num_le (by omega)]; simp)
      rw [h2] at this
      exact this
    show s.rest = leK k (num (nx k s).1) ++ (nx k s).2.rest
    rw [h4]; exact h3
  full n t hn := by
    unfold numP
    have h1 := nx_full (leK k n) t
    rw [leK_len] at h1
    rw [h1, num_le (by rw [leK_len]; exact hk), le_leK, Int.emod_eq_of_lt hn.1 hn.2]
theorem int_good : Rd (numP 8) (leK 8) (fun n => -9223372036854775808 ≤ n ∧ n ≤ 9223372036854775807) where
  mono s hs := (nx_mono 8 s hs).1
  sound s hs _ := by
    obtain ⟨_, h2, h3⟩ := nx_mono 8 s hs
    have h4 : leK 8 (num (nx 8 s).1) = (nx 8 s).1 := by
      have := leK_le (nx 8 s).1 (num (nx 8 s).1) (by
        rw [h2]
        have h5 := le_lt (nx 8 s).1
        rw [h2] at h5
        unfold num sg
        split <;> omega)
      rw [h2] at this
      exact this
    show s.rest = leK 8 (num (nx 8 s).1) ++ (nx 8 s).2.rest
    rw [h4]; exact h3
  full n t hn := by
    unfold numP
    have h1 := nx_full (leK 8 n) t
    rw [leK_len] at h1
    rw [h1]
    have h2 := le_leK 8 n
    have h3 : num (leK 8 n) = n := by
      unfold num sg
      split <;> omega
    rw [h3]
def listP {α : Type} (size most : Nat) (p : St → α × St) (s : St) : List α × St := many p (min (numP size s).1 ((most : Int) + 1)).toNat (numP size s).2
theorem list_good {α : Type} {p : St → α × St} {e : α → By} {ok : α → Prop} (h : Rd p e ok) (size most : Nat) (hs : size ≤ 2) (hm : most < 256 ^ size) : Rd (listP size most p) (fun l => leK size (l.length : Int) ++ l.flatMap e) (fun l => l.length ≤ most ∧ ∀ x, x ∈ l → ok x) where
  mono s hx := (num_good size (by omega)).mono s (many_mono h _ _ hx)
  sound s hx hk := by
    have g := num_good size (by omega)
    have h1 := many_mono h _ _ hx
    have h2 := many_sound h _ _ hx hk.2
    have hl : (listP size most p s).1.length = (min (numP size s).1 ((most : Int) + 1)).toNat := many_len _ _
    have hlm := hk.1
    rw [hl] at hlm
    have hr : 0 ≤ (numP size s).1 := by
      show 0 ≤ num (nx size s).1
      rw [num_le (by have := nx_len size s; omega)]; omega
    have hb : (numP size s).1 < (256 ^ size : Nat) := by
      show num (nx size s).1 < _
      have h5 := nx_len size s
      have h6 := le_lt (nx size s).1
      have h7 : 256 ^ (nx size s).1.length ≤ 256 ^ size := Nat.pow_le_pow_right (by decide) h5
      rw [num_le (by omega)]; omega
    have h3 := g.sound s h1 ⟨hr, hb⟩
    have e1 : ((listP size most p s).1.length : Int) = (numP size s).1 := by rw [hl]; omega
    show s.rest = (leK size ((listP size most p s).1.length : Int) ++ (listP size most p s).1.flatMap e) ++ _
    rw [e1, h3, List.append_assoc]
    congr 1
  full l t hk := by
    have g := num_good size (by omega)
    unfold listP
    show many p (min (numP size ⟨(leK size (l.length : Int) ++ l.flatMap e) ++ t, false⟩).1 _).toNat (numP size ⟨(leK size (l.length : Int) ++ l.flatMap e) ++ t, false⟩).2 = _
    have hkl := hk.1
    rw [List.append_assoc, g.full (l.length : Int) (l.flatMap e ++ t) ⟨by omega, by omega⟩]
    show many p (min (l.length : Int) ((most : Int) + 1)).toNat ⟨l.flatMap e ++ t, false⟩ = _
    rw [show (min (l.length : Int) ((most : Int) + 1)).toNat = l.length by omega]
    exact many_full h l t hk.2
def textP (s : St) : By × St := nx (numP 1 s).1.toNat (numP 1 s).2
theorem leK1 {n : Int} (h : 0 ≤ n ∧ n < 256) : leK 1 n = [by1 n] := by
  show [by1 (n % 256)] = _
  rw [show n % 256 = n by omega]
theorem text_good : Rd textP encTx (fun s => s.length ≤ 60) where
  mono s hs := (num_good 1 (by decide)).mono s (nx_mono _ _ hs).1
  sound s hs hk := by
    obtain ⟨h1, h2, h3⟩ := nx_mono _ _ hs
    have hr : 0 ≤ (numP 1 s).1 := by
      show 0 ≤ num (nx 1 s).1
      rw [num_le (by have := nx_len 1 s; omega)]; omega
    have hlk : (textP s).1.length ≤ 60 := hk
    have hl : ((textP s).1.length : Int) = (numP 1 s).1 := by
      show ((nx (numP 1 s).1.toNat (numP 1 s).2).1.length : Int) = _
      rw [h2]; omega
    have h4 := (num_good 1 (by decide)).sound s h1 ⟨hr, by have : ((256 ^ 1 : Nat) : Int) = 256 := rfl; omega⟩
    show s.rest = (by1 ((textP s).1.length : Int) :: (textP s).1) ++ _
    rw [h4, ← hl, leK1 ⟨by omega, by omega⟩, h3]
    rfl
  full x t hk := by
    unfold textP
    have h1 := (num_good 1 (by decide)).full (x.length : Int) (x ++ t) ⟨by omega, by have : ((256 ^ 1 : Nat) : Int) = 256 := rfl; omega⟩
    rw [leK1 ⟨by omega, by omega⟩] at h1
    show nx (numP 1 ⟨[by1 (x.length : Int)] ++ (x ++ t), false⟩).1.toNat (numP 1 ⟨[by1 (x.length : Int)] ++ (x ++ t), false⟩).2 = _
    rw [h1]
    exact nx_full x t
end Go.Proofs.Ytpommjmlenfknaa.QB
