/- Plain words on texts and numbers: what is written, what is packed. Nothing of the program is in sight. -/
import Derived.Maps.Views
import Derived.RowKit
namespace Go.Proofs.YtlcapkgbbgpdmaaGreatDoor.P
open Go.Maps

/-- A byte as a value, a list of bytes, a list of numbers. -/
def bv (b : UInt8) : Value := .int .u8 (b.toNat : Int)
def bvs (l : List UInt8) : List Value := l.map bv
def ivs (l : List Int) : List Value := l.map (Value.int .i64)
theorem bvs_length (l : List UInt8) : (bvs l).length = l.length := by simp [bvs]
theorem ivs_length (l : List Int) : (ivs l).length = l.length := by simp [ivs]
theorem bvs_append (l r : List UInt8) : bvs (l ++ r) = bvs l ++ bvs r := by simp [bvs]
theorem ivs_append (l r : List Int) : ivs (l ++ r) = ivs l ++ ivs r := by simp [ivs]

/-- The sixteen digits. -/
def dg : List Int := [48, 49, 50, 51, 52, 53, 54, 55, 56, 57, 97, 98, 99, 100, 101, 102]
def hx (n : Nat) : UInt8 := UInt8.ofNat (dg.getD n 0).toNat
theorem dg_hx : ∀ n, n < 16 → dg.getD n 0 = ((hx n).toNat : Int) := by decide
theorem dg_hx' (n : Nat) (h : n < 16) : dg[n]?.getD 0 = ((hx n).toNat : Int) := by rw [← dg_hx n h]; simp

/-- The letters behind a backslash, as the program lays them. -/
abbrev kb (b : Int) : Lit := .int .u8 b
def D0 : DataW Unit := .map []
def D1 : DataW Unit := D0.put (kb 34) (.lit (kb 34))
def D2 : DataW Unit := D1.put (kb 92) (.lit (kb 92))
def D3 : DataW Unit := D2.put (kb 10) (.lit (kb 110))
theorem D3_eq : D3 = .map [(kb 10, .lit (kb 110)), (kb 34, .lit (kb 34)), (kb 92, .lit (kb 92))] := by rfl
theorem dec_comm (x b : Int) : decide (x = b) = decide (b = x) := decide_eq_decide.2 eq_comm
theorem has_D3 (b : Int) : Maps.has D3 (kb b) = (decide (b = 10) || (decide (b = 34) || decide (b = 92))) := by
  rw [D3_eq]
  simp only [Maps.has, List.any_cons, List.any_nil, Lit.sameKey, Bool.or_false]
  simp [dec_comm 10 b, dec_comm 34 b, dec_comm 92 b]
theorem at_10 (z : DataW Unit) : D3.atKey (kb 10) z = .lit (kb 110) := by rw [D3_eq]; rfl
theorem at_34 (z : DataW Unit) : D3.atKey (kb 34) z = .lit (kb 34) := by rw [D3_eq]; rfl
theorem at_92 (z : DataW Unit) : D3.atKey (kb 92) z = .lit (kb 92) := by rw [D3_eq]; rfl

/-- The letters turned round. -/
def IsMeant (D : DataW Unit) : Prop :=
  (∀ b : Int, Maps.has D (kb b) = (decide (b = 34) || (decide (b = 92) || decide (b = 110)))) ∧ (∀ z, D.atKey (kb 34) z = .lit (kb 34)) ∧ (∀ z, D.atKey (kb 92) z = .lit (kb 92)) ∧ (∀ z, D.atKey (kb 110) z = .lit (kb 10))

theorem meant_hit {D : DataW Unit} (hD : IsMeant D) {b c : Int} (h : Maps.has D (kb b) = true) (hat : D.atKey (kb b) (.lit (kb 0)) = .lit (kb c)) : (b = 34 ∧ c = 34) ∨ (b = 92 ∧ c = 92) ∨ (b = 110 ∧ c = 10) := by
  obtain ⟨h1, h2, h3, h4⟩ := hD
  rw [h1] at h
  rcases (by simpa using h : b = 34 ∨ b = 92 ∨ b = 110) with rfl | rfl | rfl
  · rw [h2] at hat; injection hat with hat; injection hat with _ hat; exact .inl ⟨rfl, hat.symm⟩
  · rw [h3] at hat; injection hat with hat; injection hat with _ hat; exact .inr (.inl ⟨rfl, hat.symm⟩)
  · rw [h4] at hat; injection hat with hat; injection hat with _ hat; exact .inr (.inr ⟨rfl, hat.symm⟩)
theorem meant_miss {D : DataW Unit} (hD : IsMeant D) {b : Int} (h : Maps.has D (kb b) = false) : b ≠ 34 ∧ b ≠ 92 ∧ b ≠ 110 := by
  rw [hD.1] at h
  simpa using h

/-- What has been turned round so far: those that are no longer to come. -/
def Turned (D : DataW Unit) (left : Lit → Bool) : Prop :=
  (∀ b : Int, Maps.has D (kb b) = ((decide (b = 34) && !left (kb 34)) || ((decide (b = 92) && !left (kb 92)) || (decide (b = 110) && !left (kb 10))))) ∧
  (left (kb 34) = false → ∀ z, D.atKey (kb 34) z = .lit (kb 34)) ∧ (left (kb 92) = false → ∀ z, D.atKey (kb 92) z = .lit (kb 92)) ∧ (left (kb 10) = false → ∀ z, D.atKey (kb 110) z = .lit (kb 10))

theorem turned_start : Turned D0 (Maps.has D3) := by
  refine ⟨fun b => ?_, fun h => ?_, fun h => ?_, fun h => ?_⟩
  · rw [has_D3, has_D3, has_D3]; simp [D0, Maps.has]
  · rw [has_D3] at h; simp at h
  · rw [has_D3] at h; simp at h
  · rw [has_D3] at h; simp at h

theorem turned_end {D : DataW Unit} {left : Lit → Bool} (h : Turned D left) (hl : ∀ kl, left kl = false) : IsMeant D := by
  obtain ⟨h1, h2, h3, h4⟩ := h
  exact ⟨fun b => by rw [h1, hl, hl, hl]; simp, h2 (hl _), h3 (hl _), h4 (hl _)⟩

theorem kb_ne {a b : Int} (h : a ≠ b) : kb a ≠ kb b := fun e => h (by injection e)

theorem isKeyLit_kb (b : Int) : WideAt.IsKeyLit (kb b) := by
  first | trivial | simp [WideAt.IsKeyLit] | exact True.intro

theorem same_kb (a b : Int) : (kb a).sameKey (kb b) = decide (a = b) := by
  simp [Lit.sameKey]

theorem turned_step {D : DataW Unit} {left : Lit → Bool} {x c : Int} (h : Turned D left) (hm : IsMap D) (hx : left (kb x) = true) (hle : ∀ kl, left kl = true → Maps.has D3 kl = true)
    (hat : ∀ zd, D3.atKey (kb x) zd = .lit (kb c)) : Turned (D.put (kb c) (.lit (kb x))) (fun z => left z && !z.sameKey (kb x)) := by
  obtain ⟨h1, h2, h3, h4⟩ := h
  have hx3 := hle _ hx
  rw [has_D3] at hx3
  have hc : (x = 10 ∧ c = 110) ∨ (x = 34 ∧ c = 34) ∨ (x = 92 ∧ c = 92) := by
    rcases (by simpa using hx3 : x = 10 ∨ x = 34 ∨ x = 92) with rfl | rfl | rfl
    · left; have := (at_10 .nil).symm.trans (hat .nil); simp at this; exact ⟨rfl, this.symm⟩
    · right; left; have := (at_34 .nil).symm.trans (hat .nil); simp at this; exact ⟨rfl, this.symm⟩
    · right; right; have := (at_92 .nil).symm.trans (hat .nil); simp at this; exact ⟨rfl, this.symm⟩
  clear hat hle hx3
  rcases hc with ⟨rfl, rfl⟩ | ⟨rfl, rfl⟩ | ⟨rfl, rfl⟩
  · refine ⟨fun b => ?_, fun hl z => ?_, fun hl z => ?_, fun hl z => ?_⟩
    · by_cases hb : b = 110
      · subst hb; rw [has_put_same hm (isKeyLit_kb _)]; simp [same_kb]
      · rw [has_put_other (kb_ne hb), h1]; simp [same_kb, hb]
    · rw [atKey_put_other (kb_ne (by decide))]; exact h2 (by simpa [same_kb] using hl) z
    · rw [atKey_put_other (kb_ne (by decide))]; exact h3 (by simpa [same_kb] using hl) z
    · rw [atKey_put_same hm (isKeyLit_kb _)]
  · refine ⟨fun b => ?_, fun hl z => ?_, fun hl z => ?_, fun hl z => ?_⟩
    · by_cases hb : b = 34
      · subst hb; rw [has_put_same hm (isKeyLit_kb _)]; simp [same_kb]
      · rw [has_put_other (kb_ne hb), h1]; simp [same_kb, hb]
    · rw [atKey_put_same hm (isKeyLit_kb _)]
    · rw [atKey_put_other (kb_ne (by decide))]; exact h3 (by simpa [same_kb] using hl) z
    · rw [atKey_put_other (kb_ne (by decide))]; exact h4 (by simpa [same_kb] using hl) z
  · refine ⟨fun b => ?_, fun hl z => ?_, fun hl z => ?_, fun hl z => ?_⟩
    · by_cases hb : b = 92
      · subst hb; rw [has_put_same hm (isKeyLit_kb _)]; simp [same_kb]
      · rw [has_put_other (kb_ne hb), h1]; simp [same_kb, hb]
    · rw [atKey_put_other (kb_ne (by decide))]; exact h2 (by simpa [same_kb] using hl) z
    · rw [atKey_put_same hm (isKeyLit_kb _)]
    · rw [atKey_put_other (kb_ne (by decide))]; exact h4 (by simpa [same_kb] using hl) z

theorem byte_wf (b : UInt8) : (Lit.int .u8 (b.toNat : Int)).wf = true := by
  have := b.toNat_lt
  simp [Lit.wf, IntKind.min, IntKind.max, IntKind.signed, IntKind.bits]
  omega
theorem byte_ofNat (n : Nat) (h : n < 256) : ((UInt8.ofNat n).toNat : Int) = n := by
  simp [UInt8.toNat_ofNat']; omega

theorem ret_two {k : IntKind} {a b : Int} {v : Value} (h : a = b) : Ending.returned (.tuple #[.int k a, v]) = .returned (.tuple #[.int k b, v]) := by rw [h]
theorem ret_text {a b : List UInt8} (h : a = b) : Ending.returned (.string ⟨a.toArray⟩) = .returned (.string ⟨b.toArray⟩) := by rw [h]

/-- A byte as it is written. -/
def q1 (b : UInt8) : List UInt8 :=
  if b.toNat = 10 then [92, 110] else if b.toNat = 34 then [92, 34] else if b.toNat = 92 then [92, 92] else if 32 ≤ b.toNat ∧ b.toNat ≤ 126 then [b] else [92, 120, hx (b.toNat / 16), hx (b.toNat % 16)]
def qs (l : List UInt8) : List UInt8 := l.flatMap q1
def quoteL (l : List UInt8) : List UInt8 := 34 :: (qs l ++ [34])
/-- A byte that has a letter. -/
theorem q1_hit {b : UInt8} {c : Int} (h : Maps.has D3 (kb (b.toNat : Int)) = true) (hat : D3.atKey (kb (b.toNat : Int)) (.lit (kb 0)) = .lit (kb c)) : ∃ d : UInt8, c = (d.toNat : Int) ∧ q1 b = [92, d] := by
  rw [has_D3] at h
  rcases (by simpa using h : (b.toNat : Int) = 10 ∨ (b.toNat : Int) = 34 ∨ (b.toNat : Int) = 92) with e | e | e
  · rw [e, at_10] at hat
    injection hat with hat; injection hat with _ hat
    exact ⟨110, by rw [← hat]; rfl, by unfold q1; rw [if_pos (by omega)]⟩
  · rw [e, at_34] at hat
    injection hat with hat; injection hat with _ hat
    exact ⟨34, by rw [← hat]; rfl, by unfold q1; rw [if_neg (by omega), if_pos (by omega)]⟩
  · rw [e, at_92] at hat
    injection hat with hat; injection hat with _ hat
    exact ⟨92, by rw [← hat]; rfl, by unfold q1; rw [if_neg (by omega), if_neg (by omega), if_pos (by omega)]⟩
theorem q1_stands {b : UInt8} (h : Maps.has D3 (kb (b.toNat : Int)) = false) (hs : decide (32 ≤ b.toNat ∧ b.toNat ≤ 126) = true) : q1 b = [b] := by
  rw [has_D3] at h
  simp only [Bool.or_eq_false_iff, decide_eq_false_iff_not] at h
  unfold q1
  rw [if_neg (by omega), if_neg (by omega), if_neg (by omega), if_pos (of_decide_eq_true hs)]
theorem q1_hex {b : UInt8} (h : Maps.has D3 (kb (b.toNat : Int)) = false) (hs : decide (32 ≤ b.toNat ∧ b.toNat ≤ 126) = false) : q1 b = [92, 120, hx (b.toNat / 16), hx (b.toNat % 16)] := by
  rw [has_D3] at h
  simp only [Bool.or_eq_false_iff, decide_eq_false_iff_not] at h
  unfold q1
  rw [if_neg (by omega), if_neg (by omega), if_neg (by omega), if_neg (of_decide_eq_false hs)]
theorem q1_len (b : UInt8) : 1 ≤ (q1 b).length ∧ (q1 b).length ≤ 4 := by
  unfold q1; repeat' split
  all_goals simp
theorem qs_snoc (l : List UInt8) (b : UInt8) : qs (l ++ [b]) = qs l ++ q1 b := by simp [qs]
theorem take_next (s : ByteArray) (k : Nat) (h : k < s.size) : s.data.toList.take (k + 1) = s.data.toList.take k ++ [s[k]] := by
  have hl : k < s.data.toList.length := by simpa using h
  rw [List.take_add_one, List.getElem?_eq_getElem hl]; rfl
theorem take_all (s : ByteArray) (k : Nat) (h : s.size ≤ k) : s.data.toList.take k = s.data.toList := List.take_of_length_le (by simpa using h)
/-- What is written of the first k bytes, with the sign ahead. -/
def qt (s : ByteArray) (k : Nat) : List UInt8 := 34 :: qs (s.data.toList.take k)
theorem qt_next (s : ByteArray) (k : Nat) (h : k < s.size) : qt s (k + 1) = qt s k ++ q1 s[k] := by
  unfold qt; rw [take_next s k h, qs_snoc]; rfl
theorem qt_end (s : ByteArray) (k : Nat) (h : s.size ≤ k) : qt s k ++ [34] = quoteL s.data.toList := by
  unfold qt quoteL; rw [take_all s k h]; rfl
theorem qs_len (l : List UInt8) : l.length ≤ (qs l).length ∧ (qs l).length ≤ 4 * l.length := by
  induction l with
  | nil => simp [qs]
  | cons b l ih => have := q1_len b; simp only [qs, List.flatMap_cons, List.length_append, List.length_cons] at ih ⊢; omega
theorem qt_len (s : ByteArray) (k : Nat) : 1 ≤ (qt s k).length ∧ (qt s k).length ≤ 4 * k + 1 := by
  have := (qs_len (s.data.toList.take k)).2
  have h : (s.data.toList.take k).length ≤ k := by simp; omega
  unfold qt
  simp only [List.length_cons]
  omega
end Go.Proofs.YtlcapkgbbgpdmaaGreatDoor.P
