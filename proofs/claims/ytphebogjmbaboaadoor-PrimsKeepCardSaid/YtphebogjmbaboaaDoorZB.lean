/- ZB: several texts in one (P Q O N M2 A C D W D2 U V S2 UN UA RN K RP). -/
import Derived.Maps.Views
import Derived.RowKit
import Derived.Laws.Bits64b
import Derived.Test.YtphebogjmbaboaaDoorChecked
import Derived.WalkKit
import Derived.WalkSpells
import Derived.WalkSmall
import Derived.Maps.RangeWalk
import Derived.Deep.AppendLies
import Derived.Laws.IdiomStrings
import Derived.Lib.BufferWrite
import Derived.Lib.UnsafeStr
import Derived.Lib.Hide
import Derived.OwnWalk
import Derived.BigRegion
import Derived.Deep.RegionWith
import Derived.StillTailTactics

/- Plain words on texts and numbers: what is written, what is packed. Nothing of the program is in sight. -/
namespace Go.Proofs.YtphebogjmbaboaaDoor.P
open Go.Maps

/-- A byte as a value, a list of bytes, a list of numbers. -/
def bv (b : UInt8) : Value := .int .u8 (b.toNat : Int)
def bvs (l : List UInt8) : List Value := l.map bv
def ivs (l : List Int) : List Value := l.map (Value.int .i64)
theorem bvs_length (l : List UInt8) : (bvs l).length = l.length := by simp [bvs]
theorem ivs_length (l : List Int) : (ivs l).length = l.length := by simp [ivs]
theorem bvs_append (l r : List UInt8) : bvs (l ++ r) = bvs l ++ bvs r := by simp [bvs]
theorem ivs_append (l r : List Int) : ivs (l ++ r) = ivs l ++ ivs r := by simp [ivs]

/-- The sixteen digits. -/
def dg : List Int := [48, 49, 50, 51, 52, 53, 54, 55, 56, 57, 97, 98, 99, 100, 101, 102]
def hx (n : Nat) : UInt8 := UInt8.ofNat (dg.getD n 0).toNat
theorem dg_hx : ∀ n, n < 16 → dg.getD n 0 = ((hx n).toNat : Int) := by decide
theorem dg_hx' (n : Nat) (h : n < 16) : dg[n]?.getD 0 = ((hx n).toNat : Int) := by rw [← dg_hx n h]; simp

/-- The letters behind a backslash, as the program lays them. -/
abbrev kb (b : Int) : Lit := .int .u8 b
def D0 : DataW Unit := .map []
def D1 : DataW Unit := D0.put (kb 34) (.lit (kb 34))
def D2 : DataW Unit := D1.put (kb 92) (.lit (kb 92))
def D3 : DataW Unit := D2.put (kb 10) (.lit (kb 110))
theorem D3_eq : D3 = .map [(kb 10, .lit (kb 110)), (kb 34, .lit (kb 34)), (kb 92, .lit (kb 92))] := by rfl
theorem dec_comm (x b : Int) : decide (x = b) = decide (b = x) := decide_eq_decide.2 eq_comm
theorem has_D3 (b : Int) : Maps.has D3 (kb b) = (decide (b = 10) || (decide (b = 34) || decide (b = 92))) := by
  rw [D3_eq]
  simp only [Maps.has, List.any_cons, List.any_nil, Lit.sameKey, Bool.or_false]
  simp [dec_comm 10 b, dec_comm 34 b, dec_comm 92 b]
theorem at_10 (z : DataW Unit) : D3.atKey (kb 10) z = .lit (kb 110) := by rw [D3_eq]; rfl
theorem at_34 (z : DataW Unit) : D3.atKey (kb 34) z = .lit (kb 34) := by rw [D3_eq]; rfl
theorem at_92 (z : DataW Unit) : D3.atKey (kb 92) z = .lit (kb 92) := by rw [D3_eq]; rfl

/-- The letters turned round. -/
def IsMeant (D : DataW Unit) : Prop :=
  (∀ b : Int, Maps.has D (kb b) = (decide (b = 34) || (decide (b = 92) || decide (b = 110)))) ∧ (∀ z, D.atKey (kb 34) z = .lit (kb 34)) ∧ (∀ z, D.atKey (kb 92) z = .lit (kb 92)) ∧ (∀ z, D.atKey (kb 110) z = .lit (kb 10))

theorem meant_hit {D : DataW Unit} (hD : IsMeant D) {b c : Int} (h : Maps.has D (kb b) = true) (hat : D.atKey (kb b) (.lit (kb 0)) = .lit (kb c)) : (b = 34 ∧ c = 34) ∨ (b = 92 ∧ c = 92) ∨ (b = 110 ∧ c = 10) := by
  obtain ⟨h1, h2, h3, h4⟩ := hD
  rw [h1] at h
  rcases (by simpa using h : b = 34 ∨ b = 92 ∨ b = 110) with rfl | rfl | rfl
  · rw [h2] at hat; injection hat with hat; injection hat with _ hat; exact .inl ⟨rfl, hat.symm⟩
  · rw [h3] at hat; injection hat with hat; injection hat with _ hat; exact .inr (.inl ⟨rfl, hat.symm⟩)
  · rw [h4] at hat; injection hat with hat; injection hat with _ hat; exact .inr (.inr ⟨rfl, hat.symm⟩)
theorem meant_miss {D : DataW Unit} (hD : IsMeant D) {b : Int} (h : Maps.has D (kb b) = false) : b ≠ 34 ∧ b ≠ 92 ∧ b ≠ 110 := by
  rw [hD.1] at h
  simpa using h

/-- What has been turned round so far: those that are no longer to come. -/
def Turned (D : DataW Unit) (left : Lit → Bool) : Prop :=
  (∀ b : Int, Maps.has D (kb b) = ((decide (b = 34) && !left (kb 34)) || ((decide (b = 92) && !left (kb 92)) || (decide (b = 110) && !left (kb 10))))) ∧
  (left (kb 34) = false → ∀ z, D.atKey (kb 34) z = .lit (kb 34)) ∧ (left (kb 92) = false → ∀ z, D.atKey (kb 92) z = .lit (kb 92)) ∧ (left (kb 10) = false → ∀ z, D.atKey (kb 110) z = .lit (kb 10))

theorem turned_start : Turned D0 (Maps.has D3) := by
  refine ⟨fun b => ?_, fun h => ?_, fun h => ?_, fun h => ?_⟩
  · rw [has_D3, has_D3, has_D3]; simp [D0, Maps.has]
  · rw [has_D3] at h; simp at h
  · rw [has_D3] at h; simp at h
  · rw [has_D3] at h; simp at h

theorem turned_end {D : DataW Unit} {left : Lit → Bool} (h : Turned D left) (hl : ∀ kl, left kl = false) : IsMeant D := by
  obtain ⟨h1, h2, h3, h4⟩ := h
  exact ⟨fun b => by rw [h1, hl, hl, hl]; simp, h2 (hl _), h3 (hl _), h4 (hl _)⟩

theorem kb_ne {a b : Int} (h : a ≠ b) : kb a ≠ kb b := fun e => h (by injection e)

theorem isKeyLit_kb (b : Int) : WideAt.IsKeyLit (kb b) := by
  first | trivial | simp [WideAt.IsKeyLit] | exact True.intro

theorem same_kb (a b : Int) : (kb a).sameKey (kb b) = decide (a = b) := by
  simp [Lit.sameKey]

theorem turned_step {D : DataW Unit} {left : Lit → Bool} {x c : Int} (h : Turned D left) (hm : IsMap D) (hx : left (kb x) = true) (hle : ∀ kl, left kl = true → Maps.has D3 kl = true)
    (hat : ∀ zd, D3.atKey (kb x) zd = .lit (kb c)) : Turned (D.put (kb c) (.lit (kb x))) (fun z => left z && !z.sameKey (kb x)) := by
  obtain ⟨h1, h2, h3, h4⟩ := h
  have hx3 := hle _ hx
  rw [has_D3] at hx3
  have hc : (x = 10 ∧ c = 110) ∨ (x = 34 ∧ c = 34) ∨ (x = 92 ∧ c = 92) := by
    rcases (by simpa using hx3 : x = 10 ∨ x = 34 ∨ x = 92) with rfl | rfl | rfl
    · left; have := (at_10 .nil).symm.trans (hat .nil); simp at this; exact ⟨rfl, this.symm⟩
    · right; left; have := (at_34 .nil).symm.trans (hat .nil); simp at this; exact ⟨rfl, this.symm⟩
    · right; right; have := (at_92 .nil).symm.trans (hat .nil); simp at this; exact ⟨rfl, this.symm⟩
  clear hat hle hx3
  rcases hc with ⟨rfl, rfl⟩ | ⟨rfl, rfl⟩ | ⟨rfl, rfl⟩
  · refine ⟨fun b => ?_, fun hl z => ?_, fun hl z => ?_, fun hl z => ?_⟩
    · by_cases hb : b = 110
      · subst hb; rw [has_put_same hm (isKeyLit_kb _)]; simp [same_kb]
      · rw [has_put_other (kb_ne hb), h1]; simp [same_kb, hb]
    · rw [atKey_put_other (kb_ne (by decide))]; exact h2 (by simpa [same_kb] using hl) z
    · rw [atKey_put_other (kb_ne (by decide))]; exact h3 (by simpa [same_kb] using hl) z
    · rw [atKey_put_same hm (isKeyLit_kb _)]
  · refine ⟨fun b => ?_, fun hl z => ?_, fun hl z => ?_, fun hl z => ?_⟩
    · by_cases hb : b = 34
      · subst hb; rw [has_put_same hm (isKeyLit_kb _)]; simp [same_kb]
      · rw [has_put_other (kb_ne hb), h1]; simp [same_kb, hb]
    · rw [atKey_put_same hm (isKeyLit_kb _)]
    · rw [atKey_put_other (kb_ne (by decide))]; exact h3 (by simpa [same_kb] using hl) z
    · rw [atKey_put_other (kb_ne (by decide))]; exact h4 (by simpa [same_kb] using hl) z
  · refine ⟨fun b => ?_, fun hl z => ?_, fun hl z => ?_, fun hl z => ?_⟩
    · by_cases hb : b = 92
      · subst hb; rw [has_put_same hm (isKeyLit_kb _)]; simp [same_kb]
      · rw [has_put_other (kb_ne hb), h1]; simp [same_kb, hb]
    · rw [atKey_put_other (kb_ne (by decide))]; exact h2 (by simpa [same_kb] using hl) z
    · rw [atKey_put_same hm (isKeyLit_kb _)]
    · rw [atKey_put_other (kb_ne (by decide))]; exact h4 (by simpa [same_kb] using hl) z

theorem byte_wf (b : UInt8) : (Lit.int .u8 (b.toNat : Int)).wf = true := by
  have := b.toNat_lt
  simp [Lit.wf, IntKind.min, IntKind.max, IntKind.signed, IntKind.bits]
  omega
theorem byte_ofNat (n : Nat) (h : n < 256) : ((UInt8.ofNat n).toNat : Int) = n := by
  simp [UInt8.toNat_ofNat']; omega

theorem ret_two {k : IntKind} {a b : Int} {v : Value} (h : a = b) : Ending.returned (.tuple #[.int k a, v]) = .returned (.tuple #[.int k b, v]) := by rw [h]
theorem ret_text {a b : List UInt8} (h : a = b) : Ending.returned (.string ⟨a.toArray⟩) = .returned (.string ⟨b.toArray⟩) := by rw [h]

/-- A byte as it is written. -/
def q1 (b : UInt8) : List UInt8 :=
  if b.toNat = 10 then [92, 110] else if b.toNat = 34 then [92, 34] else if b.toNat = 92 then [92, 92] else if 32 ≤ b.toNat ∧ b.toNat ≤ 126 then [b] else [92, 120, hx (b.toNat / 16), hx (b.toNat % 16)]
def qs (l : List UInt8) : List UInt8 := l.flatMap q1
def quoteL (l : List UInt8) : List UInt8 := 34 :: (qs l ++ [34])
/-- A byte that has a letter. -/
theorem q1_hit {b : UInt8} {c : Int} (h : Maps.has D3 (kb (b.toNat : Int)) = true) (hat : D3.atKey (kb (b.toNat : Int)) (.lit (kb 0)) = .lit (kb c)) : ∃ d : UInt8, c = (d.toNat : Int) ∧ q1 b = [92, d] := by
  rw [has_D3] at h
  rcases (by simpa using h : (b.toNat : Int) = 10 ∨ (b.toNat : Int) = 34 ∨ (b.toNat : Int) = 92) with e | e | e
  · rw [e, at_10] at hat
    injection hat with hat; injection hat with _ hat
    exact ⟨110, by rw [← hat]; rfl, by unfold q1; rw [if_pos (by omega)]⟩
  · rw [e, at_34] at hat
    injection hat with hat; injection hat with _ hat
    exact ⟨34, by rw [← hat]; rfl, by unfold q1; rw [if_neg (by omega), if_pos (by omega)]⟩
  · rw [e, at_92] at hat
    injection hat with hat; injection hat with _ hat
    exact ⟨92, by rw [← hat]; rfl, by unfold q1; rw [if_neg (by omega), if_neg (by omega), if_pos (by omega)]⟩
theorem q1_stands {b : UInt8} (h : Maps.has D3 (kb (b.toNat : Int)) = false) (hs : decide (32 ≤ b.toNat ∧ b.toNat ≤ 126) = true) : q1 b = [b] := by
  rw [has_D3] at h
  simp only [Bool.or_eq_false_iff, decide_eq_false_iff_not] at h
  unfold q1
  rw [if_neg (by omega), if_neg (by omega), if_neg (by omega), if_pos (of_decide_eq_true hs)]
theorem q1_hex {b : UInt8} (h : Maps.has D3 (kb (b.toNat : Int)) = false) (hs : decide (32 ≤ b.toNat ∧ b.toNat ≤ 126) = false) : q1 b = [92, 120, hx (b.toNat / 16), hx (b.toNat % 16)] := by
  rw [has_D3] at h
  simp only [Bool.or_eq_false_iff, decide_eq_false_iff_not] at h
  unfold q1
  rw [if_neg (by omega), if_neg (by omega), if_neg (by omega), if_neg (of_decide_eq_false hs)]
theorem q1_len (b : UInt8) : 1 ≤ (q1 b).length ∧ (q1 b).length ≤ 4 := by
  unfold q1; repeat' split
  all_goals simp
theorem qs_snoc (l : List UInt8) (b : UInt8) : qs (l ++ [b]) = qs l ++ q1 b := by simp [qs]
theorem take_next (s : ByteArray) (k : Nat) (h : k < s.size) : s.data.toList.take (k + 1) = s.data.toList.take k ++ [s[k]] := by
  have hl : k < s.data.toList.length := by simpa using h
  rw [List.take_add_one, List.getElem?_eq_getElem hl]; rfl
theorem take_all (s : ByteArray) (k : Nat) (h : s.size ≤ k) : s.data.toList.take k = s.data.toList := List.take_of_length_le (by simpa using h)
/-- What is written of the first k bytes, with the sign ahead. -/
def qt (s : ByteArray) (k : Nat) : List UInt8 := 34 :: qs (s.data.toList.take k)
theorem qt_next (s : ByteArray) (k : Nat) (h : k < s.size) : qt s (k + 1) = qt s k ++ q1 s[k] := by
  unfold qt; rw [take_next s k h, qs_snoc]; rfl
theorem qt_end (s : ByteArray) (k : Nat) (h : s.size ≤ k) : qt s k ++ [34] = quoteL s.data.toList := by
  unfold qt quoteL; rw [take_all s k h]; rfl
theorem qs_len (l : List UInt8) : l.length ≤ (qs l).length ∧ (qs l).length ≤ 4 * l.length := by
  induction l with
  | nil => simp [qs]
  | cons b l ih => have := q1_len b; simp only [qs, List.flatMap_cons, List.length_append, List.length_cons] at ih ⊢; omega
theorem qt_len (s : ByteArray) (k : Nat) : 1 ≤ (qt s k).length ∧ (qt s k).length ≤ 4 * k + 1 := by
  have := (qs_len (s.data.toList.take k)).2
  have h : (s.data.toList.take k).length ≤ k := by simp; omega
  unfold qt
  simp only [List.length_cons]
  omega
end Go.Proofs.YtphebogjmbaboaaDoor.P

/- How a written text is read, byte by byte: plain words. Nothing of the program is in sight. -/
namespace Go.Proofs.YtphebogjmbaboaaDoor.Q
open Go.Proofs.YtphebogjmbaboaaDoor.P

/-- What a digit counts; 16 where it is none. -/
def dn (b : UInt8) : Nat := if 48 ≤ b.toNat ∧ b.toNat ≤ 57 then b.toNat - 48 else if 97 ≤ b.toNat ∧ b.toNat ≤ 102 then b.toNat - 87 else 16
/-- Two digits: the byte and the error. -/
def td : List UInt8 → UInt8 × Nat
  | [] => (0, 11)
  | [d] => if dn d < 16 then (0, 11) else (0, 10)
  | d :: f :: _ => if dn d < 16 then if dn f < 16 then (UInt8.ofNat (16 * dn d + dn f), 0) else (0, 10) else (0, 10)
/-- What stands behind a backslash: the byte, how many bytes it takes, the error. -/
def bh : List UInt8 → UInt8 × Nat × Nat
  | [] => (0, 0, 11)
  | c :: t => if c = 120 then ((td t).1, 4, (td t).2) else if c = 34 then (34, 2, 0) else if c = 92 then (92, 2, 0) else if c = 110 then (10, 2, 0) else (0, 0, 10)
/-- The first byte of a text that is written. -/
def fs : List UInt8 → UInt8 × Nat × Nat
  | [] => (0, 0, 11)
  | c :: t => if c = 92 then bh t else if c = 10 then (0, 0, 11) else if 32 ≤ c.toNat ∧ c.toNat ≤ 126 then (c, 1, 0) else (0, 0, 10)
/-- All of it: behind 'at' bytes, with acc read so far. -/
def rl : Nat → List UInt8 → Nat → List UInt8 → List UInt8 × Nat × Nat
  | 0, _, _, _ => ([], 0, 11)
  | f + 1, l, i, acc => match l with
    | [] => ([], 0, 11)
    | c :: t => if c = 34 then (if acc.length ≤ 60 then (acc, i + 1, 0) else ([], 0, 12)) else
      if (fs (c :: t)).2.2 = 0 then rl f (t.drop ((fs (c :: t)).2.1 - 1)) (i + (fs (c :: t)).2.1) (acc ++ [(fs (c :: t)).1]) else ([], 0, (fs (c :: t)).2.2)
def unq (l : List UInt8) : List UInt8 × Nat × Nat := match l with
  | [] => ([], 0, 14)
  | c :: t => if c = 34 then rl (t.length + 1) t 1 [] else ([], 0, 14)

theorem bh_cons (c : UInt8) (t : List UInt8) : bh (c :: t) = if c = 120 then ((td t).1, 4, (td t).2) else if c = 34 then (34, 2, 0) else if c = 92 then (92, 2, 0) else if c = 110 then (10, 2, 0) else (0, 0, 10) := rfl
theorem fs_cons (c : UInt8) (t : List UInt8) : fs (c :: t) = if c = 92 then bh t else if c = 10 then (0, 0, 11) else if 32 ≤ c.toNat ∧ c.toNat ≤ 126 then (c, 1, 0) else (0, 0, 10) := rfl
theorem td_ok {l : List UInt8} (h : (td l).2 = 0) : 2 ≤ l.length := by
  match l with
  | [] => simp [td] at h
  | [d] => exfalso; simp only [td] at h; by_cases hd : dn d < 16 <;> simp [hd] at h
  | d :: f :: t => simp
theorem bh_ok {l : List UInt8} (h : (bh l).2.2 = 0) : 1 ≤ (bh l).2.1 ∧ (bh l).2.1 ≤ l.length + 1 := by
  match l with
  | [] => simp [bh] at h
  | c :: t =>
    rw [bh_cons] at h ⊢
    by_cases h1 : c = 120
    · rw [if_pos h1] at h ⊢
      have := td_ok h
      simp; omega
    · rw [if_neg h1] at h ⊢
      by_cases h2 : c = 34
      · rw [if_pos h2]; simp
      · rw [if_neg h2] at h ⊢
        by_cases h3 : c = 92
        · rw [if_pos h3]; simp
        · rw [if_neg h3] at h ⊢
          by_cases h4 : c = 110
          · rw [if_pos h4]; simp
          · rw [if_neg h4] at h; simp at h
theorem fs_ok {l : List UInt8} (h : (fs l).2.2 = 0) : 1 ≤ (fs l).2.1 ∧ (fs l).2.1 ≤ l.length := by
  match l with
  | [] => simp [fs] at h
  | c :: t =>
    rw [fs_cons] at h ⊢
    by_cases h1 : c = 92
    · rw [if_pos h1] at h ⊢
      simpa using bh_ok h
    · rw [if_neg h1] at h ⊢
      by_cases h2 : c = 10
      · rw [if_pos h2] at h; simp at h
      · rw [if_neg h2] at h ⊢
        by_cases h3 : 32 ≤ c.toNat ∧ c.toNat ≤ 126
        · rw [if_pos h3]; simp
        · rw [if_neg h3] at h; simp at h

/-- One round, at place i of the text. -/
theorem rl_end {f i : Nat} {l acc : List UInt8} (h : l.length ≤ i) : rl (f + 1) (l.drop i) i acc = ([], 0, 11) := by
  rw [List.drop_eq_nil_of_le h]; rfl
theorem rl_quote {f i : Nat} {l acc : List UInt8} (h : i < l.length) (hc : l[i] = 34) : rl (f + 1) (l.drop i) i acc = if acc.length ≤ 60 then (acc, i + 1, 0) else ([], 0, 12) := by
  rw [List.drop_eq_getElem_cons h, hc]; rfl
theorem rl_err {f i : Nat} {l acc : List UInt8} (h : i < l.length) (hc : l[i] ≠ 34) (he : (fs (l.drop i)).2.2 ≠ 0) : rl (f + 1) (l.drop i) i acc = ([], 0, (fs (l.drop i)).2.2) := by
  rw [List.drop_eq_getElem_cons h] at he ⊢
  show (if _ then _ else _) = _
  rw [if_neg hc, if_neg he]
theorem rl_next {f i : Nat} {l acc : List UInt8} (h : i < l.length) (hc : l[i] ≠ 34) (he : (fs (l.drop i)).2.2 = 0) :
    rl (f + 1) (l.drop i) i acc = rl f (l.drop (i + (fs (l.drop i)).2.1)) (i + (fs (l.drop i)).2.1) (acc ++ [(fs (l.drop i)).1]) := by
  have hn := fs_ok he
  have e : l.drop (i + (fs (l.drop i)).2.1) = (l.drop (i + 1)).drop ((fs (l.drop i)).2.1 - 1) := by rw [List.drop_drop]; congr 1; omega
  rw [e]
  clear e
  rw [List.drop_eq_getElem_cons h] at he ⊢
  show (if _ then _ else _) = _
  rw [if_neg hc, if_pos he]
end Go.Proofs.YtphebogjmbaboaaDoor.Q

/- Texts as numbers, seven bytes at a time. Nothing of the program is in sight. -/
namespace Go.Proofs.YtphebogjmbaboaaDoor.O
open Go.Proofs.YtphebogjmbaboaaDoor.P

def le : List UInt8 → Nat
  | [] => 0
  | b :: t => b.toNat + 256 * le t
theorem le_lt : ∀ l : List UInt8, le l < 256 ^ l.length
  | [] => by simp [le]
  | b :: t => by
    have := le_lt t
    have := b.toNat_lt
    simp only [le, List.length_cons, Nat.pow_succ]
    omega
theorem le_snoc : ∀ (l : List UInt8) (b : UInt8), le (l ++ [b]) = le l + b.toNat * 256 ^ l.length
  | [], b => by simp [le]
  | c :: t, b => by
    have e := le_snoc t b
    simp only [le, List.cons_append, e, List.length_cons, Nat.pow_succ]
    have : b.toNat * (256 ^ t.length * 256) = 256 * (b.toNat * 256 ^ t.length) := by rw [Nat.mul_comm (256 ^ t.length) 256, Nat.mul_left_comm]
    omega
/-- The seven bytes of group j. -/
def grp (l : List UInt8) (j : Nat) : List UInt8 := (l.drop (7 * j)).take 7
def pk (m n : Nat) (l : List UInt8) : List Int := (n : Int) :: (List.range m).map fun j => ((le (grp l j) : Nat) : Int)
def packL (l : List UInt8) : List Int := pk ((l.length + 6) / 7) l.length l
theorem pk_len (m n : Nat) (l : List UInt8) : (pk m n l).length = m + 1 := by simp [pk]
theorem pk_at (m n : Nat) (l : List UInt8) (j : Nat) (h : j < m) : (pk m n l)[1 + j]'(by rw [pk_len]; omega) = ((le (grp l j) : Nat) : Int) := by
  simp only [pk]
  rw [List.getElem_cons]
  rw [dif_neg (by omega)]
  simp
theorem grp_self (l : List UInt8) (b : UInt8) : grp (l ++ [b]) (l.length / 7) = grp l (l.length / 7) ++ [b] := by
  unfold grp
  rw [List.drop_append_of_le_length (by omega)]
  have hl : (l.drop (7 * (l.length / 7))).length < 7 := by simp; omega
  rw [List.take_of_length_le (by simp; omega), List.take_of_length_le (by omega)]
theorem grp_other (l : List UInt8) (b : UInt8) (j : Nat) (h : j ≠ l.length / 7) : grp (l ++ [b]) j = grp l j := by
  unfold grp
  by_cases h1 : 7 * j ≤ l.length
  · rw [List.drop_append_of_le_length h1, List.take_append_of_le_length (by simp; omega)]
  · rw [List.drop_eq_nil_of_le (by simp; omega), List.drop_eq_nil_of_le (by omega)]
theorem grp_len (l : List UInt8) : (grp l (l.length / 7)).length = l.length % 7 := by
  unfold grp; simp; omega
theorem grp_lt (l : List UInt8) (j : Nat) : le (grp l j) < 72057594037927936 := by
  have h := le_lt (grp l j)
  have h2 : (grp l j).length ≤ 7 := by unfold grp; simp; omega
  have : 256 ^ (grp l j).length ≤ 256 ^ 7 := Nat.pow_le_pow_right (by decide) h2
  have e : (256 : Nat) ^ 7 = 72057594037927936 := by decide
  omega
theorem grp_lt_self (l : List UInt8) : le (grp l (l.length / 7)) < 256 ^ (l.length % 7) := by
  have := le_lt (grp l (l.length / 7))
  rwa [grp_len] at this
theorem pk_step (m n : Nat) (l : List UInt8) (b : UInt8) :
    pk m n (l ++ [b]) = (pk m n l).set (1 + l.length / 7) ((le (grp l (l.length / 7)) + b.toNat * 256 ^ (l.length % 7) : Nat) : Int) := by
  apply List.ext_getElem
  · simp [pk_len]
  · intro i h1 h2
    rw [List.getElem_set]
    rcases i with _ | j
    · rw [if_neg (by omega)]; rfl
    · have hj : j < m := by rw [pk_len] at h1; omega
      have e1 : (pk m n (l ++ [b]))[j + 1]'h1 = ((le (grp (l ++ [b]) j) : Nat) : Int) := by
        have := pk_at m n (l ++ [b]) j hj
        simpa only [Nat.add_comm 1 j] using this
      have e2 : (pk m n l)[j + 1]'(by rw [pk_len]; omega) = ((le (grp l j) : Nat) : Int) := by
        have := pk_at m n l j hj
        simpa only [Nat.add_comm 1 j] using this
      rw [e1]
      by_cases hji : j = l.length / 7
      · subst hji
        rw [if_pos (by omega), grp_self, le_snoc, grp_len]
      · rw [if_neg (by omega), e2, grp_other l b j hji]
theorem pow_eq (r : Nat) : 2 ^ (8 * r) = 256 ^ r := by rw [Nat.pow_mul]
/-- What is set into a number's free bits is added. -/
theorem or_add (a b r : Nat) (h : a < 256 ^ r) : a ||| (b * 256 ^ r) = a + b * 256 ^ r := by
  rw [← pow_eq] at h ⊢
  have := Nat.two_pow_add_eq_or_of_lt h b
  rw [Nat.mul_comm b, Nat.or_comm, ← this]
  omega
theorem byte_fits (b : UInt8) (r : Nat) (h : r < 7) : b.toNat * 256 ^ r < 72057594037927936 := by
  have h1 := b.toNat_lt
  have h2 : 256 ^ r ≤ 256 ^ 6 := Nat.pow_le_pow_right (by decide) (by omega)
  have e : (256 : Nat) ^ 6 = 281474976710656 := by decide
  have : b.toNat * 256 ^ r ≤ 255 * 281474976710656 := Nat.mul_le_mul (by omega) (by omega)
  omega
theorem bits_or_i64_nat (a b : Nat) (ha : a < 9223372036854775808) (hb : b < 9223372036854775808) : bits .or .i64 (a : Int) (b : Int) = ((a ||| b : Nat) : Int) := by
  have hab : a ||| b < 2 ^ 63 := Nat.or_lt_two_pow (by omega) (by omega)
  have key : (BitVec.ofInt 64 (a : Int) ||| BitVec.ofInt 64 (b : Int)).toNat = a ||| b := by
    rw [BitVec.toNat_or, BitVec.toNat_ofInt, BitVec.toNat_ofInt]
    congr 1 <;> omega
  show IntKind.i64.wrap ((BitVec.ofInt 64 (a : Int) ||| BitVec.ofInt 64 (b : Int)).toNat : Nat) = _
  rw [key, IntKind.wrap_i64]
  omega
end Go.Proofs.YtphebogjmbaboaaDoor.O

/- Numbers as texts. Nothing of the program is in sight. -/
namespace Go.Proofs.YtphebogjmbaboaaDoor.N
open Go.Proofs.YtphebogjmbaboaaDoor.P Go.Proofs.YtphebogjmbaboaaDoor.O

/-- What is left of a number behind k bytes, and its bytes. -/
def hi (z : Int) (k : Nat) : Int := z / 256 ^ k
def by8 (z : Int) (k : Nat) : UInt8 := UInt8.ofNat (hi z k % 256).toNat
def byts (z : Int) (m : Nat) : List UInt8 := (List.range m).map (by8 z)
theorem hi_zero (z : Int) : hi z 0 = z := by simp [hi]
theorem hi_succ (z : Int) (k : Nat) : hi z (k + 1) = hi z k / 256 := by
  unfold hi
  rw [Int.pow_succ, Int.ediv_ediv_of_nonneg (by exact Int.pow_nonneg (by decide))]
theorem byts_succ (z : Int) (m : Nat) : byts z (m + 1) = byts z m ++ [by8 z m] := by simp [byts, List.range_succ]
theorem byts_len (z : Int) (m : Nat) : (byts z m).length = m := by simp [byts]
theorem by8_val (z : Int) (k : Nat) : ((by8 z k).toNat : Int) = hi z k % 256 := by
  unfold by8
  rw [byte_ofNat _ (by omega)]
  omega

def ul (n : Nat) : List Int → List UInt8 → List UInt8 × Nat
  | [], acc => (acc, 0)
  | z :: r, acc => if hi z (min (n - acc.length) 7) = 0 then ul n r (acc ++ byts z (min (n - acc.length) 7)) else ([], 1)
def up : List Int → List UInt8 × Nat
  | [] => ([], 1)
  | z :: r => if 0 ≤ z ∧ z ≤ 60 ∧ r.length = (z.toNat + 6) / 7 then ul z.toNat r [] else ([], 1)

theorem ul_end {n k : Nat} {r : List Int} {acc : List UInt8} (h : r.length ≤ k) : ul n (r.drop k) acc = (acc, 0) := by
  rw [List.drop_eq_nil_of_le h]; rfl
theorem ul_next {n k m : Nat} {r : List Int} {acc : List UInt8} {z : Int} (h : k < r.length) (hz : r[k] = z) (hm : m = min (n - acc.length) 7) (h0 : hi z m = 0) : ul n (r.drop k) acc = ul n (r.drop (k + 1)) (acc ++ byts z m) := by
  rw [List.drop_eq_getElem_cons h, hz]
  show (if _ then _ else _) = _
  rw [← hm, if_pos h0]
theorem ul_bad {n k m : Nat} {r : List Int} {acc : List UInt8} {z : Int} (h : k < r.length) (hz : r[k] = z) (hm : m = min (n - acc.length) 7) (h0 : hi z m ≠ 0) : ul n (r.drop k) acc = ([], 1) := by
  rw [List.drop_eq_getElem_cons h, hz]
  show (if _ then _ else _) = _
  rw [← hm, if_neg h0]
theorem hi_neg {z : Int} (h : z < 0) (k : Nat) : hi z k < 0 := by
  unfold hi
  exact Int.ediv_neg_of_neg_of_pos h (Int.pow_pos (by decide))
theorem hi_pos {z : Int} (h : 0 ≤ z) (k : Nat) : 0 ≤ hi z k := Int.ediv_nonneg h (Int.pow_nonneg (by decide))

/-- The bytes of a number together are it again. -/
theorem le_byts (z : Int) (hz : 0 ≤ z) : ∀ m, (le (byts z m) : Int) + hi z m * 256 ^ m = z
  | 0 => by simp [byts, le, hi_zero]
  | m + 1 => by
    have ih := le_byts z hz m
    rw [byts_succ, le_snoc, byts_len, hi_succ]
    have e := by8_val z m
    rw [Int.natCast_add, Int.natCast_mul, e, Int.natCast_pow, Int.pow_succ]
    have : hi z m = hi z m / 256 * 256 + hi z m % 256 := by omega
    have h2 : hi z m * 256 ^ m = hi z m / 256 * (256 ^ m * 256) + hi z m % 256 * 256 ^ m := by
      conv => lhs; rw [this]
      rw [Int.add_mul, Int.mul_assoc, Int.mul_comm 256]
    have h3 : ((256 : Nat) : Int) ^ m = (256 : Int) ^ m := rfl
    rw [h3]
    omega
theorem byts_le : ∀ (l : List UInt8), byts (le l : Int) l.length = l ∧ hi (le l : Int) l.length = 0 := by
  intro l
  have key : ∀ (l : List UInt8) (k : Nat) (h : k < l.length), by8 (le l : Int) k = l[k] := by
    intro l
    induction l with
    | nil => intro k h; simp at h
    | cons b t ih =>
      intro k h
      have hb := b.toNat_lt
      rcases k with _ | k
      · apply UInt8.toNat_inj.1
        have := by8_val (le (b :: t) : Int) 0
        rw [hi_zero] at this
        simp only [le, List.getElem_cons_zero] at this ⊢
        omega
      · have e : by8 (le (b :: t) : Int) (k + 1) = by8 (le t : Int) k := by
          unfold by8 hi
          congr 3
          have e1 : ((le (b :: t) : Nat) : Int) / 256 = (le t : Int) := by simp only [le]; omega
          rw [Int.pow_succ, Int.mul_comm, ← Int.ediv_ediv_of_nonneg (by decide), e1]
        rw [e]
        exact ih k (by simpa using h)
  constructor
  · apply List.ext_getElem
    · exact byts_len _ _
    · intro i h1 h2
      simp only [byts, List.getElem_map, List.getElem_range]
      exact key l i h2
  · have h1 := le_byts (le l : Int) (by omega) l.length
    have h2 := le_lt l
    unfold hi
    apply Int.ediv_eq_zero_of_lt (by omega)
    have : ((256 ^ l.length : Nat) : Int) = (256 : Int) ^ l.length := by rw [Int.natCast_pow]; rfl
    omega
end Go.Proofs.YtphebogjmbaboaaDoor.N

/- What is packed is unpacked, and no other numbers are a text's. Nothing of the program is in sight. -/
namespace Go.Proofs.YtphebogjmbaboaaDoor.M2
open Go.Proofs.YtphebogjmbaboaaDoor.P Go.Proofs.YtphebogjmbaboaaDoor.O Go.Proofs.YtphebogjmbaboaaDoor.N

theorem ul_inv (n : Nat) (s : List UInt8) : ∀ (r : List Int) (acc : List UInt8), ul n r acc = (s, 0) → acc.length ≤ n →
    s.length = min n (acc.length + 7 * r.length) ∧ s.take acc.length = acc ∧ ∀ j (h : j < r.length), ((le ((s.drop (acc.length + 7 * j)).take 7) : Nat) : Int) = r[j]
  | [], acc, h, hl => by
    have e : acc = s := congrArg Prod.fst h
    subst e
    exact ⟨by simp; omega, by simp, fun j h => by simp at h⟩
  | z :: r, acc, h, hl => by
    obtain ⟨m, hm⟩ : ∃ m, m = min (n - acc.length) 7 := ⟨_, rfl⟩
    have h' : (if hi z (min (n - acc.length) 7) = 0 then ul n r (acc ++ byts z (min (n - acc.length) 7)) else ([], 1)) = (s, 0) := h
    rw [← hm] at h'
    by_cases h0 : hi z m = 0
    · rw [if_pos h0] at h'
      have hal : (acc ++ byts z m).length = acc.length + m := by rw [List.length_append, byts_len]
      obtain ⟨i1, i2, i3⟩ := ul_inv n s r (acc ++ byts z m) h' (by rw [hal]; omega)
      rw [hal] at i1 i2 i3
      have hz : 0 ≤ z := by
        by_cases hz : 0 ≤ z
        · exact hz
        · have := hi_neg (show z < 0 by omega) m; omega
      have hchunk : (s.drop acc.length).take 7 = byts z m := by
        have e1 : (s.drop acc.length).take m = byts z m := by
          have := congrArg (List.drop acc.length) i2
          rw [List.drop_take, List.drop_left] at this
          rw [← this]
          congr 1
          omega
        by_cases h7 : m = 7
        · rw [← h7]; exact e1
        · have hsl : (s.drop acc.length).length ≤ m := by simp; omega
          rw [List.take_of_length_le (by omega), ← e1, List.take_of_length_le hsl]
      refine ⟨by simp only [List.length_cons]; omega, ?_, ?_⟩
      · have := congrArg (List.take acc.length) i2
        rw [List.take_take, Nat.min_eq_left (by omega)] at this
        simpa using this
      · intro j hj
        rcases j with _ | j
        · rw [Nat.mul_zero, Nat.add_zero, hchunk]
          have := le_byts z hz m
          rw [h0] at this
          simp only [List.getElem_cons_zero]
          omega
        · rw [List.getElem_cons_succ, ← i3 j (by simpa using hj)]
          by_cases h7 : m = 7
          · rw [show acc.length + 7 * (j + 1) = acc.length + m + 7 * j from by omega]
          · have d1 : s.drop (acc.length + 7 * (j + 1)) = [] := List.drop_eq_nil_of_le (by omega)
            have d2 : s.drop (acc.length + m + 7 * j) = [] := List.drop_eq_nil_of_le (by omega)
            rw [d1, d2]
    · rw [if_neg h0] at h'
      have := congrArg Prod.snd h'
      simp at this

theorem up_pack {zs : List Int} {s : List UInt8} (h : up zs = (s, 0)) : packL s = zs ∧ s.length ≤ 60 := by
  match zs, h with
  | [], h =>
    have := congrArg Prod.snd h
    simp [up] at this
  | z :: r, h =>
    have h' : (if 0 ≤ z ∧ z ≤ 60 ∧ r.length = (z.toNat + 6) / 7 then ul z.toNat r [] else ([], 1)) = (s, 0) := h
    by_cases hc : 0 ≤ z ∧ z ≤ 60 ∧ r.length = (z.toNat + 6) / 7
    · rw [if_pos hc] at h'
      obtain ⟨c1, c2, c3⟩ := hc
      obtain ⟨i1, _, i3⟩ := ul_inv z.toNat s r [] h' (Nat.zero_le _)
      simp only [List.length_nil, Nat.zero_add] at i1 i3
      have hs : s.length = z.toNat := by omega
      refine ⟨?_, by omega⟩
      unfold packL pk
      rw [hs, ← c3]
      have e1 : ((z.toNat : Nat) : Int) = z := by omega
      rw [e1]
      congr 1
      apply List.ext_getElem
      · simp
      · intro j h1 h2
        rw [← i3 j h2]
        simp [grp]
    · rw [if_neg hc] at h'
      have := congrArg Prod.snd h'
      simp at this

theorem ul_groups (l : List UInt8) (q : Nat) (hq : l.length ≤ 7 * q) : ∀ (i k : Nat), k + i = q → ul l.length (((List.range q).map fun j => ((le (grp l j) : Nat) : Int)).drop k) (l.take (7 * k)) = (l, 0)
  | 0, k, h => by
    rw [List.drop_eq_nil_of_le (by simp; omega), List.take_of_length_le (by omega)]
    rfl
  | i + 1, k, h => by
    have hk : k < ((List.range q).map fun j => ((le (grp l j) : Nat) : Int)).length := by simp; omega
    have hz : ((List.range q).map fun j => ((le (grp l j) : Nat) : Int))[k] = ((le (grp l k) : Nat) : Int) := by simp
    have hg : (grp l k).length = min (l.length - (l.take (7 * k)).length) 7 := by
      unfold grp; simp; omega
    obtain ⟨b1, b2⟩ := byts_le (grp l k)
    rw [ul_next hk hz hg b2, b1]
    have e : l.take (7 * k) ++ grp l k = l.take (7 * (k + 1)) := by
      unfold grp
      rw [show 7 * (k + 1) = 7 * k + 7 from by omega, List.take_add]
    rw [e]
    exact ul_groups l q hq i (k + 1) (by omega)

theorem pack_up {l : List UInt8} (h : l.length ≤ 60) : up (packL l) = (l, 0) := by
  unfold packL pk
  show (if 0 ≤ ((l.length : Nat) : Int) ∧ ((l.length : Nat) : Int) ≤ 60 ∧ _ = _ then _ else _) = _
  rw [if_pos ⟨by omega, by omega, by simp⟩, Int.toNat_natCast]
  have := ul_groups l ((l.length + 6) / 7) (by omega) ((l.length + 6) / 7) 0 (by omega)
  simpa using this
theorem pack_inj {l r : List UInt8} (hl : l.length ≤ 60) (hr : r.length ≤ 60) (h : packL l = packL r) : l = r := by
  have := (pack_up hl).symm.trans ((congrArg up h).trans (pack_up hr))
  exact congrArg Prod.fst this
theorem pack_wf (l : List UInt8) (h : l.length ≤ 60) : ∀ z ∈ packL l, z ≤ 9223372036854775807 := by
  intro z hz
  unfold packL pk at hz
  rcases List.mem_cons.1 hz with rfl | hz
  · omega
  · obtain ⟨j, _, rfl⟩ := List.mem_map.1 hz
    have := grp_lt l j
    omega
end Go.Proofs.YtphebogjmbaboaaDoor.M2

/- What is owned, and what it is good for: rows of bytes and of numbers, the table of digits, the letters. -/
namespace Go.Proofs.YtphebogjmbaboaaDoor.A
open Go.RowKit Go.Maps Go.Proofs.YtphebogjmbaboaaDoor.P
set_option linter.unusedVariables false
set_option maxRecDepth 100000

theorem lawB : Keyed Tryd.prog 5 := int_keyed Tryd.underlying5
theorem zeroB (w : World) : (zeroValue 5).run Tryd.prog w = .ok (.int .u8 0) w := by kernel_rfl
theorem infoB : (Tryd.prog.info? 5).map (fun i => (i.zero, i.size, i.bytes)) = some (some (.int .u8 0), 1, 1) := by kernel_rfl
theorem infoI : (Tryd.prog.info? 3).map (fun i => (i.zero, i.size, i.bytes)) = some (some (.int .i64 0), 1, 8) := by kernel_rfl

theorem bvs_one (l : List UInt8) : ∀ u ∈ bvs l, u.oneCell' = true := by
  intro u hu
  obtain ⟨_, _, rfl⟩ := List.mem_map.1 hu
  rfl

theorem bnext {w a b : World} (h : Below w.heap.size w a) (k : Below a.heap.size a b) : Below w.heap.size w b := h.trans (k.mono h.size)

/-- The map at block b reads as D. -/
abbrev Map (w : World) (b : Nat) (D : DataW Unit) : Prop := w.ownsMap Tryd.prog 5 (plainElem Tryd.prog 5) b 3 D

/-- A row of bytes, of numbers, that the call owns. -/
abbrev OwnB (w : World) (base : Nat) (v : Value) (l : List UInt8) : Prop := w.ownsRow base 5 1 v l.length (bvs l)
abbrev OwnI (w : World) (base : Nat) (v : Value) (l : List Int) : Prop := w.ownsRow base 3 1 v l.length (ivs l)

/-- What is owned below the mark of a 'Below' stays owned. -/
theorem own_below {w w' : World} {B base : Nat} {e : TypeId} {size : Nat} {v : Value} {n : Nat} {xs : List Value} (h : w.ownsRow base e size v n xs) (hb : Below B w w') (hB : w.heap.size ≤ B) : w'.ownsRow base e size v n xs := by
  refine ⟨h.1, ?_⟩
  rcases h.2 with h2 | ⟨g, cap, cur, hv, hg, hh, r⟩
  · exact .inl h2
  · exact .inr ⟨g, cap, cur, hv, hg, by rw [hb.block g (by have := (Array.getElem?_eq_some_iff.1 hh).1; omega)]; exact hh, r⟩

/-- A map that is owned stays, likewise. -/
theorem map_below {w w' : World} {B b : Nat} {n : Nat} {D : DataW Unit} (h : w.ownsMap Tryd.prog 5 (plainElem Tryd.prog 5) b n D) (hb : Below B w w') (hB : w.heap.size ≤ B) : w'.ownsMap Tryd.prog 5 (plainElem Tryd.prog 5) b n D := by
  have hl := h.lt
  refine h.kept (w' := w') (row := none) ?_ (by simp) |>.mono (Nat.le_refl _)
  exact ⟨hb.os, hb.tape, hb.output, hb.size, fun k hk _ => hb.block k (by omega)⟩

/-- Numbers that lie somewhere, whoever owns them. -/
def HasI (w : World) (v : Value) (zs : List Int) : Prop :=
  ∃ ao cap, v = .slice ao zs.length cap ∧ zs.length ≤ cap ∧ (zs = [] ∨ ∃ b off, ao = some ⟨b, off, none⟩ ∧ b < w.heap.size ∧ ∀ j (h : j < zs.length), w.cell? ⟨b, off + j, none⟩ = some (.int .i64 zs[j]))
theorem HasI.below {w w' : World} {B : Nat} {v : Value} {zs : List Int} (h : HasI w v zs) (hb : Below B w w') (hB : w.heap.size ≤ B) : HasI w' v zs := by
  obtain ⟨ao, cap, hv, hc, h⟩ := h
  refine ⟨ao, cap, hv, hc, ?_⟩
  rcases h with h | ⟨b, off, ha, hlt, hcell⟩
  · exact .inl h
  · exact .inr ⟨b, off, ha, Nat.lt_of_lt_of_le hlt hb.size, fun j hj => (hb.cell (by show b < B; omega)).trans (hcell j hj)⟩
theorem own_has {w : World} {base : Nat} {v : Value} {zs : List Int} (h : OwnI w base v zs) : HasI w v zs := by
  rcases h.2 with ⟨hv, hn⟩ | ⟨g, cap, cur, hv, hb, hg, hn, hcm, hcs, htake⟩
  · have : zs = [] := List.eq_nil_of_length_eq_zero hn
    subst this
    exact ⟨none, 0, hv, Nat.le_refl _, .inl rfl⟩
  · refine ⟨_, cap, hv, hn, .inr ⟨g, 0, rfl, (Array.getElem?_eq_some_iff.1 hg).1, fun j hj => ?_⟩⟩
    rw [cell_of_row w g (0 + j) cur 3 (0, 0) hg]
    have e : (ivs zs)[j]? = some (.int .i64 zs[j]) := by simp [ivs, hj]
    rw [← htake, List.getElem?_take, if_pos (by omega)] at e
    simpa using e

/-- 'm[k] = v' in a map that is written out where it is made. -/
theorem wpList_insert_own {H : Type} {P : Program} (w : World) {ops : Array Oper} {rest : List Oper} {o : Oper} {a : Act} {Q : Exit → Act → World → Prop}
    (hg : o.guard = none) (m x v : Operand) (t : TypeId) (hop : o.op = Op.insert t m x v)
    (k e : TypeId) (K : Keyed P k) (ht : P.underlying t = some (.map k e)) (R : Value → Option (DataW H × List MemPlace)) (b n : Nat) (D : DataW H)
    (hm : a.eval m = .map (some b)) (hown : w.ownsMap P k R b n D) (hn : n < maxLen) (key val : Value) (kl : Lit) (hx : a.eval x = key) (hv : a.eval v = val) (hkey : keyOf P k key = some kl)
    (d : DataW H) (ps : List MemPlace) (hval : R val = some (d, ps))
    (hK : ∀ w', w'.ownsMap P k R b (n + 1) (D.put kl d) → w.grownBy w' (some b) → wpList P ops Q rest (a.put o.dst undef) w') :
    wpList P ops Q (o :: rest) a w := by
  refine wpList_plain hg fun K' hK' => ?_
  obtain ⟨w', hrun, r1, r2⟩ := hown.update K ht hn hkey hval
  unfold Oper.wp
  simp [execOp, hop, hm, hx, hv, hrun, Result.andThen]
  exact hK' _ _ (hK w' r1 r2)

/-- Four cells of a block that has just been laid. -/
theorem cell_four_new (w : World) (a b c d : Value) (t : TypeId) : ∀ j u, [a, b, c, d][j]? = some u → (w.alloc (.cells #[a, b, c, d] t)).cell? ((⟨w.heap.size, 0, none⟩ : Addr).add j) = some u := by
  intro j u hj
  match j, hj with
  | 0, hj => simp at hj; subst hj; simp [Addr.add]
  | 1, hj => simp at hj; subst hj; simp [Addr.add]
  | 2, hj => simp at hj; subst hj; simp [Addr.add]
  | 3, hj => simp at hj; subst hj; simp [Addr.add]
  | j + 4, hj => simp at hj

/-- Behind an append: the bytes together. -/
theorem own_snoc {w : World} {base g cap n : Nat} {a l c : List UInt8} (h : w.ownsRow base 5 1 (.slice (some ⟨g, 0, none⟩) (a.length + n) cap) (a.length + n) (bvs a ++ bvs l)) (hn : l.length = n) (hc : c = a ++ l) :
    (.slice (some ⟨g, 0, none⟩) (a.length + n) cap : Value) = .slice (some ⟨g, 0, none⟩) c.length cap ∧ OwnB w base (.slice (some ⟨g, 0, none⟩) c.length cap) c := by
  subst hc
  subst hn
  refine ⟨by rw [List.length_append], ?_⟩
  unfold OwnB
  rw [List.length_append, bvs_append]
  exact h

theorem grown_drew {w w' : World} {r : Option Nat} (h : w.drew.grownBy w' r) : w.grownBy w' r := ⟨h.os, h.tape, h.output, h.size, h.block⟩

/-- A row of bytes as a text. -/
theorem conv_own {w : World} {base g cap n : Nat} {l : List UInt8} (h : w.ownsRow base 5 1 (.slice (some ⟨g, 0, none⟩) n cap) n (bvs l)) (hn : n = l.length) :
    (convert 99 9 (.slice (some ⟨g, 0, none⟩) n cap)).run Tryd.prog w = .ok (.string ⟨l.toArray⟩) w := by
  subst hn
  refine run_convert_bytes_back (P := Tryd.prog) _ 99 9 5 _ _ l Tryd.underlying99 Tryd.underlying5 Tryd.underlying9 ?_
  intro j hj
  have e : (⟨g, 0, none⟩ : Addr).add j = ⟨g, j, none⟩ := by unfold Addr.add; split <;> simp_all
  rw [e, h.cellAt j (by omega)]
  simp [bvs, bv, hj]

/-- What an append of a new block's bytes turns. -/
theorem step_map {wr w1 : World} {B g n cap : Nat} {o : Obj} {D : DataW Unit} (hmap : Map wr B D) (hg : (wr.alloc o).grownBy w1 (Value.ownBlock (.slice (some ⟨g, 0, none⟩) n cap))) (hB : B < g) : Map w1 B D :=
  (hmap.alloc _).kept hg (by simp [Value.ownBlock]; omega)
theorem step_below {w wr w1 : World} {B0 g n cap : Nat} {o : Obj} (hnx : Below B0 w wr) (hg : (wr.alloc o).grownBy w1 (Value.ownBlock (.slice (some ⟨g, 0, none⟩) n cap))) (h0 : B0 ≤ g) (hs : B0 ≤ wr.heap.size) : Below B0 w w1 :=
  (hnx.alloc hs _).grown hg (by simp; omega) (fun j hj => by cases hj; exact h0)
end Go.Proofs.YtphebogjmbaboaaDoor.A

/- A copy of a text, and two texts joined. -/
namespace Go.Proofs.YtphebogjmbaboaaDoor.C
open Go.RowKit Go.Maps Go.Proofs.YtphebogjmbaboaaDoor.P Go.Proofs.YtphebogjmbaboaaDoor.A
set_option linter.unusedVariables false
set_option maxRecDepth 100000

theorem copied (w : World) (s : ByteArray) (M : Array Value) (hM : M.size = s.size) (h0 : s.size ≠ 0) (hs : s.size ≤ 2100) :
    ∃ w', (Builtin.copy_ #[99, 9] 3 #[.slice (some ⟨w.heap.size, 0, none⟩) s.size s.size, .string s]).run Tryd.prog (w.alloc (.cells M 5)) = .ok (goInt s.size) w' ∧
      Below w.heap.size w w' ∧
      (Builtin.unsafeString_ #[107, 3] 9 #[.pointer (some ⟨w.heap.size, 0, none⟩), .int .i64 (s.size : Int)]).run Tryd.prog w' = .ok (.string s) (w'.freeze ⟨w.heap.size, 0, none⟩ s.size) := by
  have hinfo : (Tryd.prog.info? 5).map (·.size) = some 1 := by kernel_rfl
  have hco : Tryd.prog.cellsOf 5 = 1 := by kernel_rfl
  have hcp := Lib.run_copy_row_string (P := Tryd.prog) (w.alloc (.cells M 5)) 99 9 3 5 w.heap.size 0 s.size s.size s M 5 Tryd.underlying99 hinfo (heap_alloc_new w _) (Nat.le_refl _) (by omega)
  refine ⟨_, hcp, ?_, ?_⟩
  · exact ((Below.refl _ w).alloc (Nat.le_refl _) _).trans ⟨rfl, rfl, rfl, by simp, fun k hk => setRow_other _ _ _ _ (by omega)⟩
  · have hl : s.data.toList.length = s.size := by simp
    generalize hY : (M.toList.take 0 ++ Lib.byteCells s.data.toList ++ M.toList.drop (0 + s.size)).toArray = Y
    have hYl : Y.toList = Lib.byteCells s.data.toList := by
      rw [← hY, List.toList_toArray, List.take_zero, List.nil_append, List.drop_of_length_le (by rw [Array.length_toList]; omega), List.append_nil]
    have hYs : Y.size = s.size := by rw [← Array.length_toList, hYl, Lib.byteCells_length, hl]
    have hgY : ((w.alloc (.cells M 5)).setRow w.heap.size Y).heap[w.heap.size]? = some (.cells Y 5 (0, 0)) := setRow_heap _ _ M _ 5 (0, 0) (heap_alloc_new w _)
    have hne : s.data.toList ≠ [] := fun e => h0 (by rw [← hl, e]; rfl)
    have hUS := Lib.run_unsafeString_row (P := Tryd.prog) ((w.alloc (.cells M 5)).setRow w.heap.size Y) 107 3 9 5 Tryd.underlying107 hco w.heap.size Y.size (by unfold World.shape?; rw [hgY]) s.data.toList hne (by omega) (by omega)
      (fun j x hx => Lib.cells_of_row hgY Y.size j _ (by rw [List.take_of_length_le (by rw [Array.length_toList]; exact Nat.le_refl _), hYl]; simp [Lib.byteCells, hx]))
    rw [hl] at hUS
    exact hUS

theorem clone_any (s : ByteArray) (w : World) (hs : s.size ≤ 2100) :
    Calls Tryd.prog 78 #[.string s] w fun e w' => e = .returned (.string s) ∧ Below w.heap.size w w' := by
  by_cases h0 : s.size = 0
  · have hs : s = ⟨#[]⟩ := by
      apply ByteArray.ext
      exact Array.eq_empty_of_size_eq_zero h0
    subst hs
    go_enter Tryd.func78, Tryd.ntmps78
    go_wp2
    go_ret
    exact ⟨rfl, Below.refl _ _⟩
  · obtain ⟨i0, hi, hz0, hz1, hz2⟩ := info_parts infoB
    obtain ⟨M, hM⟩ : ∃ M, M = madeCells (Value.int .u8 0).cells (((s.size : Nat) : Int).toNat * i0.size) := ⟨_, rfl⟩
    have hMs : M.size = s.size := by rw [hM, size_madeCells, hz1]; simp
    have hmk : ∀ W : World, (Instr.makeSlice 99 (.int .i64 (s.size : Int)) (.int .i64 (s.size : Int))).run Tryd.prog W = .ok (.slice (some ⟨W.heap.size, 0, none⟩) s.size s.size) (W.alloc (.cells M 5)) := fun W => by
      have h := run_make (P := Tryd.prog) W 99 5 i0 (.int .u8 0) Tryd.underlying99 hi hz0 .i64 .i64 (s.size : Int) (s.size : Int) (by omega) (by omega) (by rw [hz2]; omega) (by omega)
      rw [← hM] at h
      simpa using h
    clear hM
    obtain ⟨w1, hcp, hb, hus⟩ := copied w s M hMs h0 hs
    go_enter Tryd.func78, Tryd.ntmps78
    go_wp2
    go_ret
    exact ⟨rfl, Lib.below_freeze hb (p := ⟨w.heap.size, 0, none⟩) (Nat.le_refl _) _⟩

theorem join_long (a b : ByteArray) (w : World) (h : 60 < a.size + b.size) (ha : a.size ≤ 1000) (hb : b.size ≤ 1000) :
    Calls Tryd.prog 56 #[.string a, .string b] w fun e w' => e = .returned (.tuple #[.string ⟨#[]⟩, .int .i64 12]) ∧ w = w' := by
  go_enter Tryd.func56, Tryd.ntmps56
  go_wp2
  go_ret2
  exact ⟨rfl, rfl⟩

theorem join_short (a b : ByteArray) (w : World) (h : a.size + b.size ≤ 60) :
    Calls Tryd.prog 56 #[.string a, .string b] w fun e w' => e = .returned (.tuple #[.string (a ++ b), .int .i64 0]) ∧ Below w.heap.size w w' := by
  go_enter Tryd.func56, Tryd.ntmps56
  go_wp2_with (first
    | (go_at_call 78; refine (clone_any (a ++ b) _ (by simp; omega)).mono ?_; rintro e w1 ⟨rfl, hb1⟩)
    | go_in)
  go_ret2
  exact ⟨rfl, hb1⟩
end Go.Proofs.YtphebogjmbaboaaDoor.C

/- Small functions: what stands for itself, how many numbers, digits, the first bytes. -/
namespace Go.Proofs.YtphebogjmbaboaaDoor.D
open Go.RowKit Go.Maps Go.Proofs.YtphebogjmbaboaaDoor.P Go.Proofs.YtphebogjmbaboaaDoor.A
set_option linter.unusedVariables false
set_option maxRecDepth 100000

theorem numbers_any (n : Nat) (hn : n ≤ 100) (w : World) :
    Calls Tryd.prog 70 #[.int .i64 (n : Int)] w fun e w' => e = .returned (.int .i64 ((1 + (n + 6) / 7 : Nat) : Int)) ∧ w = w' := by
  go_enter Tryd.func70, Tryd.ntmps70
  go_wp2
  go_ret
  refine ⟨?_, rfl⟩
  show Ending.returned (.int .i64 (1 + ((n : Int) + 7 - 1) / 7)) = _
  congr 2
  omega

end Go.Proofs.YtphebogjmbaboaaDoor.D

/- The letters behind a backslash: the map, and the map turned round, in whatever order it is gone through. -/
namespace Go.Proofs.YtphebogjmbaboaaDoor.W
open Go.RowKit Go.Maps Go.Proofs.YtphebogjmbaboaaDoor.P Go.Proofs.YtphebogjmbaboaaDoor.A
set_option linter.unusedVariables false
set_option maxRecDepth 100000

theorem keyB {b : Int} (h : (Lit.int .u8 b).wf = true) : keyOf Tryd.prog 5 (.int .u8 b) = some (kb b) := keyOf_int_mk Tryd.underlying5 h

theorem left_sub {left left' : Lit → Bool} {x : Int} (h : ∀ kl, left kl = true → Maps.has D3 kl = true) (e : left' = fun z => left z && !z.sameKey (kb x)) : ∀ kl, left' kl = true → Maps.has D3 kl = true := by
  subst e
  intro kl hk
  simp only [Bool.and_eq_true] at hk
  exact h kl hk.1

end Go.Proofs.YtphebogjmbaboaaDoor.W

/- The digits, found in the table. -/
namespace Go.Proofs.YtphebogjmbaboaaDoor.D2
open Go.RowKit Go.Maps Go.Proofs.YtphebogjmbaboaaDoor.P Go.Proofs.YtphebogjmbaboaaDoor.A
set_option linter.unusedVariables false
set_option maxRecDepth 100000

def dv (b : UInt8) : Int := if 48 ≤ b.toNat ∧ b.toNat ≤ 57 then (b.toNat : Int) - 48 else if 97 ≤ b.toNat ∧ b.toNat ≤ 102 then (b.toNat : Int) - 87 else -1

theorem dv_hit (b : UInt8) : ∀ k, k < 16 → dg.getD k 0 = (b.toNat : Int) → (.int .i64 (dv b) : Value) = .int .i64 (k : Int) := by
  intro k hk h
  have e : ∀ k, k < 16 → ∀ n : Int, dg.getD k 0 = n → (if 48 ≤ n ∧ n ≤ 57 then n - 48 else if 97 ≤ n ∧ n ≤ 102 then n - 87 else -1) = (k : Int) := by
    intro k hk n hn; subst hn; revert k; decide
  have := e k hk _ h
  unfold dv
  rw [← this]
  congr 1
  repeat' split
  all_goals omega
theorem dv_next {b : Int} {k : Nat} (h : ∀ j, j < k → dg.getD j 0 ≠ b) (hk : dg.getD k 0 ≠ b) : ∀ j, j < k + 1 → dg.getD j 0 ≠ b := by
  intro j hj
  by_cases e : j = k
  · subst e; exact hk
  · exact h j (by omega)
theorem dv_none (b : UInt8) (h : ∀ j, j < 16 → dg.getD j 0 ≠ (b.toNat : Int)) : (.int .i64 (dv b) : Value) = .int .i64 (-1) := by
  have e := fun j hj => h j hj
  have h0 := h 0 (by decide)
  have h1 := h 1 (by decide)
  have h2 := h 2 (by decide)
  have h3 := h 3 (by decide)
  have h4 := h 4 (by decide)
  have h5 := h 5 (by decide)
  have h6 := h 6 (by decide)
  have h7 := h 7 (by decide)
  have h8 := h 8 (by decide)
  have h9 := h 9 (by decide)
  have h10 := h 10 (by decide)
  have h11 := h 11 (by decide)
  have h12 := h 12 (by decide)
  have h13 := h 13 (by decide)
  have h14 := h 14 (by decide)
  have h15 := h 15 (by decide)
  simp only [dg, List.getD_cons_zero, List.getD_cons_succ] at h0 h1 h2 h3 h4 h5 h6 h7 h8 h9 h10 h11 h12 h13 h14 h15
  unfold dv
  rw [if_neg (by omega), if_neg (by omega)]

def tabA : Array Value := #[.int .u8 48, .int .u8 49, .int .u8 50, .int .u8 51, .int .u8 52, .int .u8 53, .int .u8 54, .int .u8 55, .int .u8 56, .int .u8 57, .int .u8 97, .int .u8 98, .int .u8 99, .int .u8 100, .int .u8 101, .int .u8 102]

end Go.Proofs.YtphebogjmbaboaaDoor.D2

/- How the program reads what is written: digits, what stands behind a backslash, the first byte. -/
namespace Go.Proofs.YtphebogjmbaboaaDoor.U
open Go.RowKit Go.Maps Go.Proofs.YtphebogjmbaboaaDoor.P Go.Proofs.YtphebogjmbaboaaDoor.A Go.Proofs.YtphebogjmbaboaaDoor.W Go.Proofs.YtphebogjmbaboaaDoor.D Go.Proofs.YtphebogjmbaboaaDoor.D2 Go.Proofs.YtphebogjmbaboaaDoor.Q
set_option linter.unusedVariables false
set_option maxRecDepth 100000

theorem dv_dn (b : UInt8) : dv b = if dn b < 16 then (dn b : Int) else -1 := by
  unfold dv dn
  by_cases h1 : 48 ≤ b.toNat ∧ b.toNat ≤ 57
  · rw [if_pos h1, if_pos h1, if_pos (by omega)]; omega
  · rw [if_neg h1, if_neg h1]
    by_cases h2 : 97 ≤ b.toNat ∧ b.toNat ≤ 102
    · rw [if_pos h2, if_pos h2, if_pos (by omega)]; omega
    · rw [if_neg h2, if_neg h2]; rfl

abbrev tv (r : UInt8 × Nat) : Value := .tuple #[.int .u8 (r.1.toNat : Int), .int .i64 (r.2 : Int)]
abbrev fv (r : UInt8 × Nat × Nat) : Value := .tuple #[.int .u8 (r.1.toNat : Int), .int .i64 (r.2.1 : Int), .int .i64 (r.2.2 : Int)]

theorem list_nil {s : ByteArray} (h : s.size = 0) : s.data.toList = [] := List.eq_nil_of_length_eq_zero (by simpa using h)
theorem list_head {s : ByteArray} (h : 0 < s.size) : s.data.toList = s[0] :: s.data.toList.drop 1 := by
  have hl : 0 < s.data.toList.length := by simpa using h
  have := List.drop_eq_getElem_cons hl
  rw [List.drop_zero] at this
  exact this
theorem list_two {s : ByteArray} (h : 1 < s.size) : s.data.toList = s[0] :: s[1] :: s.data.toList.drop 2 := by
  have h0 : 0 < s.data.toList.length := by simp; omega
  have h1 : 1 < s.data.toList.length := by simpa using h
  have e0 := List.drop_eq_getElem_cons h0
  have e1 := List.drop_eq_getElem_cons h1
  rw [List.drop_zero] at e0
  rw [e0, e1]; rfl

theorem drop_list (s : ByteArray) (i : Nat) : (s.extract i s.size).data.toList = s.data.toList.drop i := by
  simp
  exact List.take_of_length_le (by simp)

end Go.Proofs.YtphebogjmbaboaaDoor.U

/- How the program reads a written text whole. -/
namespace Go.Proofs.YtphebogjmbaboaaDoor.V
open Go.RowKit Go.Maps Go.Proofs.YtphebogjmbaboaaDoor.P Go.Proofs.YtphebogjmbaboaaDoor.A Go.Proofs.YtphebogjmbaboaaDoor.W Go.Proofs.YtphebogjmbaboaaDoor.D Go.Proofs.YtphebogjmbaboaaDoor.D2 Go.Proofs.YtphebogjmbaboaaDoor.Q Go.Proofs.YtphebogjmbaboaaDoor.U
set_option linter.unusedVariables false
set_option maxRecDepth 100000

theorem byte_eq {b : UInt8} {n : Nat} (hn : n < 256) (h : b = UInt8.ofNat n) : ((b.toNat : Int) == (n : Int)) = true := by
  rw [h, beq_iff_eq]; exact byte_ofNat n hn
theorem byte_ne {b : UInt8} {n : Nat} (hn : n < 256) (h : b ≠ UInt8.ofNat n) : ((b.toNat : Int) == (n : Int)) = false := by
  rw [beq_eq_false_iff_ne]; intro e; apply h; apply UInt8.toNat_inj.1; have := byte_ofNat n hn; omega

abbrev uv (r : List UInt8 × Nat × Nat) : Value := .tuple #[.string ⟨r.1.toArray⟩, .int .i64 (r.2.1 : Int), .int .i64 (r.2.2 : Int)]

end Go.Proofs.YtphebogjmbaboaaDoor.V

/- More on rows that may be nil, and on a round of reading. -/
namespace Go.Proofs.YtphebogjmbaboaaDoor.S2
open Go.RowKit Go.Maps Go.Proofs.YtphebogjmbaboaaDoor.P Go.Proofs.YtphebogjmbaboaaDoor.A Go.Proofs.YtphebogjmbaboaaDoor.Q Go.Proofs.YtphebogjmbaboaaDoor.U
set_option linter.unusedVariables false
set_option maxRecDepth 100000

theorem step_below2 {w wr w1 : World} {B0 : Nat} {v : Value} {o : Obj} (hnx : Below B0 w wr) (hg : (wr.alloc o).grownBy w1 v.ownBlock) (h0 : ∀ j, v.ownBlock = some j → B0 ≤ j) (hs : B0 ≤ wr.heap.size) : Below B0 w w1 :=
  (hnx.alloc hs _).grown hg (by simp; omega) h0

/-- Behind an append to a row that may be nil. -/
theorem own_snoc2 {w : World} {base g cap n : Nat} {a l c : List UInt8} (h : w.ownsRow base 5 1 (.slice (some ⟨g, 0, none⟩) (a.length + n) cap) (a.length + n) (bvs a ++ bvs l)) (hn : l.length = n) (hc : c = a ++ l) :
    (.slice (some ⟨g, 0, none⟩) (a.length + n) cap : Value) = .slice (some ⟨g, 0, none⟩) c.length cap ∧ OwnB w base (.slice (some ⟨g, 0, none⟩) c.length cap) c := own_snoc h hn hc

theorem conv_any {w : World} {base n cap : Nat} {ao : Option Addr} {l : List UInt8} (h : w.ownsRow base 5 1 (.slice ao n cap) n (bvs l)) (hn : n = l.length) :
    (convert 99 9 (.slice ao n cap)).run Tryd.prog w = .ok (.string ⟨l.toArray⟩) w := by
  rcases h.2 with ⟨hv, h0⟩ | ⟨g, cap', cur, hv, _⟩
  · injection hv with e1 e2 e3
    subst e1; subst e2; subst e3
    obtain rfl : l = [] := List.eq_nil_of_length_eq_zero hn.symm
    kernel_rfl
  · injection hv with e1 e2 e3
    subst e1
    exact conv_own h hn

theorem drop_cons (s : ByteArray) (k : Nat) (h : k < s.size) : s.data.toList.drop k = s[k] :: s.data.toList.drop (k + 1) := by
  have hl : k < s.data.toList.length := by simpa using h
  exact List.drop_eq_getElem_cons hl
theorem drop_end (s : ByteArray) (k : Nat) (h : s.size ≤ k) : s.data.toList.drop k = [] := List.drop_eq_nil_of_le (by simpa using h)

theorem step_ok {s : ByteArray} {k f : Nat} {acc : List UInt8} {R : List UInt8 × Nat × Nat} {r : UInt8 × Nat × Nat} (h : k < s.size) (hc : s[k] ≠ 34) (hr : fs (s.data.toList.drop k) = r) (he : r.2.2 = 0)
    (HF : Hid (rl (f + 1) (s.data.toList.drop k) k acc = R)) : Hid (rl f (s.data.toList.drop (k + r.2.1)) (k + r.2.1) (acc ++ [r.1]) = R) := by
  have := rl_next (f := f) (acc := acc) (show k < s.data.toList.length by simpa using h) hc (by rw [hr]; exact he)
  rw [hr] at this
  exact this.symm.trans HF.out
theorem step_err {s : ByteArray} {k f : Nat} {acc : List UInt8} {R : List UInt8 × Nat × Nat} {r : UInt8 × Nat × Nat} (h : k < s.size) (hc : s[k] ≠ 34) (hr : fs (s.data.toList.drop k) = r) (he : r.2.2 ≠ 0)
    (HF : Hid (rl (f + 1) (s.data.toList.drop k) k acc = R)) : Hid (([], 0, r.2.2) = R) := by
  have := rl_err (f := f) (acc := acc) (show k < s.data.toList.length by simpa using h) hc (by rw [hr]; exact he)
  rw [hr] at this
  exact this.symm.trans HF.out

/-- What a backslash with x behind it says. -/
theorem td_none {s : ByteArray} {k : Nat} (h : s.size ≤ k) : td (s.data.toList.drop k) = (0, 11) := by rw [drop_end s k h]; rfl
theorem td_bad {s : ByteArray} {k : Nat} (h : k < s.size) (h1 : ¬ dn s[k] < 16) : td (s.data.toList.drop k) = (0, 10) := by
  rw [drop_cons s k h]
  by_cases h2 : k + 1 < s.size
  · rw [drop_cons s (k + 1) h2]; simp [td, h1]
  · rw [drop_end s (k + 1) (by omega)]; simp [td, h1]
theorem td_short {s : ByteArray} {k : Nat} (h : k < s.size) (h1 : dn s[k] < 16) (h2 : s.size ≤ k + 1) : td (s.data.toList.drop k) = (0, 11) := by
  rw [drop_cons s k h, drop_end s (k + 1) h2]; simp [td, h1]
theorem td_bad1 {s : ByteArray} {k : Nat} (h : k + 1 < s.size) (h1 : dn s[k] < 16) (h2 : ¬ dn s[k + 1] < 16) : td (s.data.toList.drop k) = (0, 10) := by
  rw [drop_cons s k (by omega), drop_cons s (k + 1) h]; simp [td, h1, h2]
theorem td_good {s : ByteArray} {k : Nat} (h : k + 1 < s.size) (h1 : dn s[k] < 16) (h2 : dn s[k + 1] < 16) : td (s.data.toList.drop k) = (UInt8.ofNat (16 * dn s[k] + dn s[k + 1]), 0) := by
  rw [drop_cons s k (by omega), drop_cons s (k + 1) h]; simp [td, h1, h2]
theorem fs_bh {s : ByteArray} {k : Nat} (h : k < s.size) (hc : s[k] = 92) : fs (s.data.toList.drop k) = bh (s.data.toList.drop (k + 1)) := by
  rw [drop_cons s k h, hc, fs_cons, if_pos rfl]
theorem bh_x {s : ByteArray} {k : Nat} (h : k < s.size) (hc : s[k] = 120) : bh (s.data.toList.drop k) = ((td (s.data.toList.drop (k + 1))).1, 4, (td (s.data.toList.drop (k + 1))).2) := by
  rw [drop_cons s k h, hc, bh_cons, if_pos rfl]
end Go.Proofs.YtphebogjmbaboaaDoor.S2

/- How the program unpacks numbers. -/
namespace Go.Proofs.YtphebogjmbaboaaDoor.UN
open Go.RowKit Go.Maps Go.Proofs.YtphebogjmbaboaaDoor.P Go.Proofs.YtphebogjmbaboaaDoor.A Go.Proofs.YtphebogjmbaboaaDoor.D Go.Proofs.YtphebogjmbaboaaDoor.N Go.Proofs.YtphebogjmbaboaaDoor.S2
set_option linter.unusedVariables false
set_option maxRecDepth 100000

abbrev nv (r : List UInt8 × Nat) : Value := .tuple #[.string ⟨r.1.toArray⟩, .int .i64 (r.2 : Int)]

theorem own_val2 {w : World} {base n : Nat} {v : Value} {a : List UInt8} {b : UInt8} {E : Int} (h : w.ownsRow base 5 1 v n (bvs a ++ [.int .u8 E])) (hE : E = (b.toNat : Int)) : w.ownsRow base 5 1 v n (bvs a ++ bvs [b]) := by
  subst hE; exact h

theorem unpack_none (ao : Option Addr) (cap : Nat) (w : World) :
    Calls Tryd.prog 45 #[.slice ao 0 cap] w fun e w' => e = .returned (nv ([], 1)) ∧ w = w' := by
  go_enter Tryd.func45, Tryd.ntmps45
  go_wp2
  go_ret2
  exact ⟨rfl, rfl⟩

theorem unpack_neg (b off n cap : Nat) (z : Int) (w : World) (hn : 1 ≤ n) (hc : w.cell? ⟨b, off, none⟩ = some (.int .i64 z)) (hz : z < 0) :
    Calls Tryd.prog 45 #[.slice (some ⟨b, off, none⟩) n cap] w fun e w' => e = .returned (nv ([], 1)) ∧ w = w' := by
  have h0 : ((n : Int) == 0) = false := by rw [beq_eq_false_iff_ne]; omega
  go_enter Tryd.func45, Tryd.ntmps45
  go_wp2
  go_ret2
  exact ⟨rfl, rfl⟩

theorem unpack_big (b off n cap : Nat) (z : Int) (w : World) (hn : 1 ≤ n) (hc : w.cell? ⟨b, off, none⟩ = some (.int .i64 z)) (hz : 60 < z) :
    Calls Tryd.prog 45 #[.slice (some ⟨b, off, none⟩) n cap] w fun e w' => e = .returned (nv ([], 1)) ∧ w = w' := by
  have h0 : ((n : Int) == 0) = false := by rw [beq_eq_false_iff_ne]; omega
  go_enter Tryd.func45, Tryd.ntmps45
  go_wp2
  go_ret2
  exact ⟨rfl, rfl⟩

theorem unpack_many (b off n cap m : Nat) (w : World) (hn : 1 ≤ n) (hc : w.cell? ⟨b, off, none⟩ = some (.int .i64 (m : Int))) (hz : m ≤ 60) (h : n ≠ 1 + (m + 6) / 7) :
    Calls Tryd.prog 45 #[.slice (some ⟨b, off, none⟩) n cap] w fun e w' => e = .returned (nv ([], 1)) ∧ w = w' := by
  have h0 : ((n : Int) == 0) = false := by rw [beq_eq_false_iff_ne]; omega
  obtain ⟨q, hq⟩ : ∃ q, q = 1 + (m + 6) / 7 := ⟨_, rfl⟩
  have h1 : ((n : Int) != (q : Int)) = true := by rw [bne_iff_ne]; omega
  clear h
  go_enter Tryd.func45, Tryd.ntmps45
  go_wp2_with (first | (go_at_call 70; refine (numbers_any m (by omega) _).mono ?_; rw [← hq]; rintro e w1 ⟨rfl, rfl⟩; clear hq))
  go_ret2
  exact ⟨rfl, rfl⟩

theorem unpack_zero (b off cap : Nat) (w : World) (hcap : 1 ≤ cap) (hc : w.cell? ⟨b, off, none⟩ = some (.int .i64 0)) :
    Calls Tryd.prog 45 #[.slice (some ⟨b, off, none⟩) 1 cap] w fun e w' => e = .returned (nv ([], 0)) ∧ Below w.heap.size w w' := by
  obtain ⟨i0, hi0, hz0, hz1, hz2⟩ := info_parts infoB
  by_cases h1 : cap = 1
  all_goals
    go_enter Tryd.func45, Tryd.ntmps45
    go_wp2_with (first
      | (go_at_call 70; refine (numbers_any 0 (by omega) _).mono ?_; rintro e w1 ⟨rfl, rfl⟩)
      | (at_make; go_loud (refine wpList_make_own _ rfl _ _ 99 rfl w.heap.size 5 i0 (.int .u8 0) 1 Tryd.underlying99 hi0 hz0 hz1 .i64 .i64 _ 60 rfl rfl (by omega) (by rw [hz2]; omega) (by unfold maxLen; omega) (Nat.le_refl _) ?_); intro w2 hown2 hg2; have hcv := conv_own (l := []) hown2 rfl))
    refine wp_loop_rounds 1 ?_
    rw [rounds_succ]
    go_wp2
    go_ret2
    exact ⟨rfl, (Below.refl _ _).grown hg2 (Nat.le_refl _) (fun j hj => by cases hj)⟩

set_option maxRecDepth 100000 in
set_option maxHeartbeats 1600000 in
theorem unpack_good (b off cap m : Nat) (r : List Int) (w : World) (hb : b < w.heap.size) (hcap : r.length + 1 ≤ cap) (hc : w.cell? ⟨b, off, none⟩ = some (.int .i64 (m : Int))) (hz : m ≤ 60) (hr : r.length + 1 = 1 + (m + 6) / 7) (hne : 1 ≤ r.length)
    (hcs : ∀ j (h : j < r.length), w.cell? ⟨b, off + 1 + j, none⟩ = some (.int .i64 r[j])) (R : List UInt8 × Nat) (hR : ul m r [] = R) :
    Calls Tryd.prog 45 #[.slice (some ⟨b, off, none⟩) (r.length + 1) cap] w fun e w' => e = .returned (nv R) ∧ Below w.heap.size w w' := by
  obtain ⟨i0, hi0, hz0, hz1, hz2⟩ := info_parts infoB
  obtain ⟨n, hN⟩ : ∃ n, r.length = n := ⟨_, rfl⟩
  have HL := Lib.hid hN
  have HR := Lib.hid hR
  have HM : Hid (m ≤ 7 * n) := by show m ≤ 7 * n; omega
  have hq : 1 + (m + 6) / 7 = n + 1 := by omega
  have hn9 : n ≤ 9 := by omega
  rw [hN] at hcap hne ⊢
  clear hN hR hr
  have h0 : ((n : Int) + 1 == 0) = false := by rw [beq_eq_false_iff_ne]; omega
  have hcap1 : ¬ cap = 1 := by omega
  go_enter Tryd.func45, Tryd.ntmps45
  go_wp2_with (first
    | (go_at_call 70; refine (numbers_any m (by omega) _).mono ?_; rw [hq]; rintro e w1 ⟨rfl, rfl⟩)
    | (at_make; go_loud (refine wpList_make_own _ rfl _ _ 99 rfl w.heap.size 5 i0 (.int .u8 0) 1 Tryd.underlying99 hi0 hz0 hz1 .i64 .i64 _ 60 rfl rfl (by omega) (by rw [hz2]; omega) (by unfold maxLen; omega) (Nat.le_refl _) ?_); intro w2 hown2 hg2))
  go_loopw [4, 36] (fun t i wr => ∃ (k g cp : Nat) (acc : List UInt8), k ≤ n ∧ t = .slice (some ⟨g, 0, none⟩) acc.length cp ∧ OwnB wr w.heap.size (.slice (some ⟨g, 0, none⟩) acc.length cp) acc ∧ i = .int .i64 (k : Int) ∧
      acc.length ≤ m ∧ Hid (ul m (r.drop k) acc = R) ∧ Below w.heap.size w wr) (fun _ i _ => n - (intOf i).toNat)
  case atStart => exact ⟨0, w.heap.size, 60, [], Nat.zero_le _, rfl, hown2, rfl, Nat.zero_le _, HR, (Below.refl _ _).grown hg2 (Nat.le_refl _) (fun j hj => by cases hj)⟩
  case round =>
    obtain ⟨k, g, cp, acc, hk, rfl, hown, rfl, hal, HF, hnx⟩ := hrel
    have hcx : wr.cell? ⟨b, off, none⟩ = some (.int .i64 (m : Int)) := (hnx.cell (by exact hb)).trans hc
    by_cases hlt : k < n
    · obtain ⟨z, hz⟩ : ∃ z, Hid (∃ h : k < r.length, r[k] = z) := ⟨r[k]'(by rw [HL.out]; exact hlt), by rw [HL.out]; exact hlt, rfl⟩
      have hcz : wr.cell? ⟨b, off + 1 + k, none⟩ = some (.int .i64 z) := by
        obtain ⟨h, rfl⟩ := hz.out
        exact (hnx.cell (by exact hb)).trans (hcs k h)
      obtain ⟨M, hM⟩ : ∃ M, Hid (M = min (m - acc.length) 7) := ⟨_, rfl⟩
      have hgl := hown.lt g rfl
      have hsz := hnx.size
      have hsplit : (8 + acc.length ≤ m ∧ M ≤ 7 ∧ 7 ≤ M) ∨ (m ≤ 7 + acc.length ∧ M + acc.length ≤ m ∧ m ≤ M + acc.length) := by have := hM.out; omega
      clear hcs
      rcases hsplit with ⟨s1, s2, s3⟩ | ⟨s1, s2, s3⟩
      all_goals
        go_wp2
        go_loopw [4, 6, 48] (fun t v i wi => ∃ (j g1 cp1 : Nat) (h : Int), j ≤ M ∧ t = .slice (some ⟨g1, 0, none⟩) (acc.length + j) cp1 ∧ wi.ownsRow w.heap.size 5 1 (.slice (some ⟨g1, 0, none⟩) (acc.length + j) cp1) (acc.length + j) (bvs (acc ++ byts z j)) ∧
          v = .int .i64 h ∧ Hid (h = hi z j) ∧ i = .int .i64 (j : Int) ∧ Below w.heap.size w wi) (fun _ _ i _ => M - (intOf i).toNat)
        case atStart => exact ⟨0, g, cp, z, Nat.zero_le _, rfl, by simpa [byts] using hown, rfl, (hi_zero z).symm, rfl, hnx⟩
        case round =>
          obtain ⟨j, g1, cp1, h, hj, rfl, hown1, rfl, hh, rfl, hnx1⟩ := hrel
          have hgl1 := hown1.lt g1 rfl
          have hsz1 := hnx1.size
          by_cases hjl : j < M
          · have hE : h % 256 = ((by8 z j).toNat : Int) := by rw [by8_val, hh.out]
            have HE := Lib.hid hE
            have HH : Hid (h / 256 = hi z (j + 1)) := by show h / 256 = _; rw [hi_succ, hh.out]
            clear hE hh
            go_wp2_with (first | (at_builtin; go_loud (refine wpList_append_lies _ rfl (.tmp 50) (.tmp 53) 99 rfl w.heap.size 5 i0 (.int .u8 0) 1 1 Tryd.underlying99 hi0 hz0 hz1 hz2 rfl (by decide) (.slice (some ⟨g1, 0, none⟩) (acc.length + j) cp1) (acc.length + j) (bvs (acc ++ byts z j)) rfl (hown1.alloc _) ⟨wr.heap.size, 0, none⟩ 1 1 [.int .u8 (h % 256)] rfl rfl (cell_one_new _ _ _) (ints_oneCell .u8 [h % 256]) (by decide) (by unfold maxLen; omega) (by omega) (by simp; omega) _ rfl ?_); intro g2 cp2 w3 hown3 hg3 hat3 hlt3))
            have hown4 := own_val2 (b := by8 z j) hown3 HE.out
            rw [← bvs_append, List.append_assoc, ← byts_succ] at hown4
            have hnx3 : Below w.heap.size w w3 := step_below hnx1 hg3 (by omega) (by omega)
            clear hown3 hg3 hat3 hlt3 hown1 hown hnx1
            go_roundw
            case rel => exact ⟨j + 1, g2, cp2, h / 256, by omega, rfl, hown4, rfl, HH.out, by go_num, hnx3⟩
            case measure => simp only [intOf]; omega
          · have hjM : j = M := by omega
            subst hjM
            obtain ⟨hk', hzk⟩ := hz.out
            by_cases h00 : h = 0
            · have t0 : (h != 0) = false := by rw [h00]; rfl
              have HN : Hid (ul m (r.drop (k + 1)) (acc ++ byts z j) = R) := (ul_next hk' hzk hM.out (by rw [← hh.out]; exact h00)).symm.trans HF.out
              have hln : (acc ++ byts z j).length = acc.length + j := by rw [List.length_append, byts_len]
              have HLN := Lib.hid hln
              clear h00 hln HF hzk
              go_wp2
              go_roundw
              case rel => exact ⟨k + 1, g1, cp1, acc ++ byts z j, by omega, by rw [HLN.out], by unfold OwnB; rw [HLN.out]; exact hown1, by go_num, by rw [HLN.out]; omega, HN, hnx1⟩
              case measure => simp only [intOf]; omega
            · have t0 : (h != 0) = true := by rw [bne_iff_ne]; exact h00
              have HN : Hid (([], 1) = R) := (ul_bad hk' hzk hM.out (by rw [← hh.out]; exact h00)).symm.trans HF.out
              clear h00 HF hzk
              go_wp2
              go_ret2
              exact ⟨by rw [← HN.out]; rfl, hnx1⟩
    · have HN : Hid ((acc, 0) = R) := (ul_end (by rw [HL.out]; omega)).symm.trans HF.out
      have hcv := conv_own hown rfl
      clear HF
      go_wp2
      go_ret2
      exact ⟨by rw [← HN.out]; rfl, hnx⟩
end Go.Proofs.YtphebogjmbaboaaDoor.UN

/- How the program unpacks numbers, wherever they lie. -/
namespace Go.Proofs.YtphebogjmbaboaaDoor.UA
open Go.RowKit Go.Maps Go.Proofs.YtphebogjmbaboaaDoor.P Go.Proofs.YtphebogjmbaboaaDoor.A Go.Proofs.YtphebogjmbaboaaDoor.D Go.Proofs.YtphebogjmbaboaaDoor.N Go.Proofs.YtphebogjmbaboaaDoor.UN
set_option linter.unusedVariables false
set_option maxRecDepth 100000

/-- Numbers that lie somewhere: the first one, and the others. -/
theorem has_cons {w : World} {v : Value} {z : Int} {r : List Int} (h : HasI w v (z :: r)) :
    ∃ b off cap, v = .slice (some ⟨b, off, none⟩) (r.length + 1) cap ∧ r.length + 1 ≤ cap ∧ b < w.heap.size ∧ w.cell? ⟨b, off, none⟩ = some (.int .i64 z) ∧ ∀ j (h : j < r.length), w.cell? ⟨b, off + 1 + j, none⟩ = some (.int .i64 r[j]) := by
  obtain ⟨ao, cap, hv, hc, h⟩ := h
  rcases h with h | ⟨b, off, ha, hb, hcell⟩
  · cases h
  · subst ha
    refine ⟨b, off, cap, hv, hc, hb, ?_, ?_⟩
    · exact hcell 0 (by simp)
    · intro j hj
      have := hcell (j + 1) (by simpa using hj)
      rw [show off + 1 + j = off + (j + 1) from by omega]
      exact this
theorem has_nil {w : World} {v : Value} (h : HasI w v []) : ∃ ao cap, v = .slice ao 0 cap := by
  obtain ⟨ao, cap, hv, _⟩ := h
  exact ⟨ao, cap, hv⟩

theorem unpack_any (v : Value) (zs : List Int) (w : World) (h : HasI w v zs) :
    Calls Tryd.prog 45 #[v] w fun e w' => e = .returned (nv (up zs)) ∧ Below w.heap.size w w' := by
  match zs, h with
  | [], h =>
    obtain ⟨ao, cap, rfl⟩ := has_nil h
    refine (unpack_none ao cap w).mono ?_
    rintro e w' ⟨he, rfl⟩
    exact ⟨he, Below.refl _ _⟩
  | z :: r, h =>
    obtain ⟨b, off, cap, rfl, hcap, hb, hc, hcs⟩ := has_cons h
    have bad : ¬ (0 ≤ z ∧ z ≤ 60 ∧ r.length = (z.toNat + 6) / 7) → up (z :: r) = ([], 1) := fun hn => by
      show (if _ then _ else _) = _
      rw [if_neg hn]
    by_cases h0 : z < 0
    · rw [bad (by omega)]
      refine (unpack_neg b off _ cap z w (by omega) hc h0).mono ?_
      rintro e w' ⟨he, rfl⟩
      exact ⟨he, Below.refl _ _⟩
    · by_cases h1 : 60 < z
      · rw [bad (by omega)]
        refine (unpack_big b off _ cap z w (by omega) hc h1).mono ?_
        rintro e w' ⟨he, rfl⟩
        exact ⟨he, Below.refl _ _⟩
      · obtain ⟨m, rfl⟩ : ∃ m : Nat, z = (m : Int) := ⟨z.toNat, by omega⟩
        by_cases h2 : r.length + 1 = 1 + (m + 6) / 7
        · have good : up ((m : Int) :: r) = ul m r [] := by
            show (if _ then _ else _) = _
            rw [if_pos ⟨by omega, by omega, by rw [Int.toNat_natCast]; omega⟩, Int.toNat_natCast]
          rw [good]
          by_cases h3 : 1 ≤ r.length
          · exact unpack_good b off cap m r w hb hcap hc (by omega) h2 h3 hcs _ rfl
          · obtain rfl : r = [] := List.eq_nil_of_length_eq_zero (by omega)
            obtain rfl : m = 0 := by simp at h2; omega
            exact unpack_zero b off cap w (by simpa using hcap) hc
        · rw [bad (by rw [Int.toNat_natCast]; omega)]
          refine (unpack_many b off _ cap m w (by omega) hc (by omega) h2).mono ?_
          rintro e w' ⟨he, rfl⟩
          exact ⟨he, Below.refl _ _⟩
end Go.Proofs.YtphebogjmbaboaaDoor.UA

/- How the document unpacks numbers. -/
namespace Go.Proofs.YtphebogjmbaboaaDoor.RN
open Go.RowKit Go.Maps Go.Proofs.YtphebogjmbaboaaDoor.P Go.Proofs.YtphebogjmbaboaaDoor.A Go.Proofs.YtphebogjmbaboaaDoor.D Go.Proofs.YtphebogjmbaboaaDoor.N Go.Proofs.YtphebogjmbaboaaDoor.S2 Go.Proofs.YtphebogjmbaboaaDoor.UN Go.Proofs.YtphebogjmbaboaaDoor.UA
set_option linter.unusedVariables false
set_option maxRecDepth 100000

theorem rn_none (ao : Option Addr) (cap : Nat) (w : World) :
    Calls Tryd.prog 47 #[.slice ao 0 cap] w fun e w' => e = .returned (nv ([], 1)) ∧ w = w' := by
  go_enter Tryd.func47, Tryd.ntmps47
  go_wp2
  go_ret2
  exact ⟨rfl, rfl⟩

theorem rn_neg (b off n cap : Nat) (z : Int) (w : World) (hn : 1 ≤ n) (hc : w.cell? ⟨b, off, none⟩ = some (.int .i64 z)) (hz : z < 0) :
    Calls Tryd.prog 47 #[.slice (some ⟨b, off, none⟩) n cap] w fun e w' => e = .returned (nv ([], 1)) ∧ w = w' := by
  have h0 : ((n : Int) == 0) = false := by rw [beq_eq_false_iff_ne]; omega
  go_enter Tryd.func47, Tryd.ntmps47
  go_wp2
  go_ret2
  exact ⟨rfl, rfl⟩

theorem rn_big (b off n cap : Nat) (z : Int) (w : World) (hn : 1 ≤ n) (hc : w.cell? ⟨b, off, none⟩ = some (.int .i64 z)) (hz : 60 < z) :
    Calls Tryd.prog 47 #[.slice (some ⟨b, off, none⟩) n cap] w fun e w' => e = .returned (nv ([], 1)) ∧ w = w' := by
  have h0 : ((n : Int) == 0) = false := by rw [beq_eq_false_iff_ne]; omega
  go_enter Tryd.func47, Tryd.ntmps47
  go_wp2
  go_ret2
  exact ⟨rfl, rfl⟩

theorem rn_many (b off n cap m : Nat) (w : World) (hn : 1 ≤ n) (hc : w.cell? ⟨b, off, none⟩ = some (.int .i64 (m : Int))) (hz : m ≤ 60) (h : n ≠ 1 + (m + 6) / 7) :
    Calls Tryd.prog 47 #[.slice (some ⟨b, off, none⟩) n cap] w fun e w' => e = .returned (nv ([], 1)) ∧ w = w' := by
  have h0 : ((n : Int) == 0) = false := by rw [beq_eq_false_iff_ne]; omega
  obtain ⟨q, hq⟩ : ∃ q, Hid (q = (m + 6) / 7) := ⟨_, rfl⟩
  have h1 : ((n : Int) != (q : Int) + 1) = true := by rw [bne_iff_ne]; have := hq.out; omega
  have hq7 : m ≤ 7 * q ∧ (7 * q < m + 7) ∧ q ≤ 9 := by have := hq.out; omega
  clear h
  go_enter Tryd.func47, Tryd.ntmps47
  go_wp2
  go_loop [4] (fun t => ∃ k : Nat, k ≤ q ∧ t = .int .i64 ((k : Int) + 1)) (fun t => 100 - (intOf t).toNat)
  case atStart => exact ⟨0, Nat.zero_le _, rfl⟩
  case round =>
    obtain ⟨k, hk, rfl⟩ := hrel
    by_cases hlt : 7 * k < m
    · go_wp2
      go_round
      case rel => exact ⟨k + 1, by omega, by go_num⟩
      case measure => simp only [intOf]; omega
    · have hkq : k = q := by omega
      subst hkq
      go_wp2
      go_ret2
      exact ⟨rfl, rfl⟩

set_option maxRecDepth 100000 in
set_option maxHeartbeats 3200000 in
theorem rn_good (b off cap m : Nat) (r : List Int) (w : World) (hb : b < w.heap.size) (hcap : r.length + 1 ≤ cap) (hc : w.cell? ⟨b, off, none⟩ = some (.int .i64 (m : Int))) (hz : m ≤ 60) (hr : r.length + 1 = 1 + (m + 6) / 7)
    (hcs : ∀ j (h : j < r.length), w.cell? ⟨b, off + 1 + j, none⟩ = some (.int .i64 r[j])) (hwf : ∀ z ∈ r, z ≤ 9223372036854775807) (R : List UInt8 × Nat) (hR : ul m r [] = R) :
    Calls Tryd.prog 47 #[.slice (some ⟨b, off, none⟩) (r.length + 1) cap] w fun e w' => e = .returned (nv R) ∧ Below w.heap.size w w' := by
  obtain ⟨i0, hi0, hz0, hz1, hz2⟩ := info_parts infoB
  obtain ⟨n, hN⟩ : ∃ n, r.length = n := ⟨_, rfl⟩
  have HL := Lib.hid hN
  have HR := Lib.hid hR
  have hq7 : m ≤ 7 * n ∧ (7 * n < m + 7) ∧ n ≤ 9 := by omega
  rw [hN] at hcap ⊢
  clear hN hR hr
  have h0 : ((n : Int) + 1 == 0) = false := by rw [beq_eq_false_iff_ne]; omega
  have h1 : ((n : Int) + 1 != (n : Int) + 1) = false := by simp
  go_enter Tryd.func47, Tryd.ntmps47
  go_wp2
  go_loop [4] (fun t => ∃ k : Nat, k ≤ n ∧ t = .int .i64 ((k : Int) + 1)) (fun t => 100 - (intOf t).toNat)
  case atStart => exact ⟨0, Nat.zero_le _, rfl⟩
  case round =>
    obtain ⟨k, hk, rfl⟩ := hrel
    by_cases hlt : 7 * k < m
    · go_wp2
      go_round
      case rel => exact ⟨k + 1, by omega, by go_num⟩
      case measure => simp only [intOf]; omega
    · have hkq : n = k := by omega
      subst hkq
      go_wp2
      go_loopw [5, 6] (fun t i wr => ∃ (k : Nat) (ao : Option Addr) (cp : Nat) (acc : List UInt8), 1 ≤ k ∧ k ≤ n + 1 ∧ t = .slice ao acc.length cp ∧ OwnB wr w.heap.size (.slice ao acc.length cp) acc ∧ i = .int .i64 (k : Int) ∧
          acc.length ≤ m ∧ Hid (ul m (r.drop (k - 1)) acc = R) ∧ Below w.heap.size w wr) (fun _ i _ => n + 1 - (intOf i).toNat)
      case atStart => exact ⟨1, none, 0, [], Nat.le_refl _, by omega, rfl, World.ownsRow_nil _ _ _ _, rfl, Nat.zero_le _, HR, Below.refl _ _⟩
      case round =>
        obtain ⟨k, ao, cp, acc, hk1, hk, rfl, hown, rfl, hal, HF, hnx⟩ := hrel
        have hcx : wr.cell? ⟨b, off, none⟩ = some (.int .i64 (m : Int)) := (hnx.cell (by exact hb)).trans hc
        have hsz := hnx.size
        by_cases hlt : k < n + 1
        · obtain ⟨z, hz⟩ : ∃ z, Hid (∃ h : k - 1 < r.length, r[k - 1] = z) := ⟨r[k - 1]'(by rw [HL.out]; omega), by rw [HL.out]; omega, rfl⟩
          have hcz : wr.cell? ⟨b, off + k, none⟩ = some (.int .i64 z) := by
            obtain ⟨h, rfl⟩ := hz.out
            have := hcs (k - 1) h
            rw [show off + 1 + (k - 1) = off + k from by omega] at this
            exact (hnx.cell (by exact hb)).trans this
          obtain ⟨M, hM⟩ : ∃ M, Hid (M = min (m - acc.length) 7) := ⟨_, rfl⟩
          have hM7 : M ≤ 7 ∧ M + acc.length ≤ m ∧ (7 ≤ M ∨ (M < 7 ∧ m ≤ M + acc.length)) := by have := hM.out; omega
          have hk0 : k - 1 + 1 = k := by omega
          clear hcs
          by_cases hzn : z < 0
          · have HN : Hid (([], 1) = R) := by
              obtain ⟨hk', hzk⟩ := hz.out
              exact (ul_bad hk' hzk hM.out (by have := hi_neg hzn M; omega)).symm.trans HF.out
            go_wp2
            go_ret2
            exact ⟨by rw [← HN.out]; rfl, hnx⟩
          · have HZ : Hid (0 ≤ z) := by show 0 ≤ z; omega
            have HZ2 : Hid (z ≤ 9223372036854775807) := by
              obtain ⟨h, rfl⟩ := hz.out
              exact hwf _ (List.getElem_mem h)
            clear hwf
            go_wp2
            go_loopw [5, 7, 8] (fun t v i wi => ∃ (j : Nat) (ao : Option Addr) (cp1 : Nat) (h : Int), j ≤ M ∧ t = .slice ao (acc.length + j) cp1 ∧ wi.ownsRow w.heap.size 5 1 (.slice ao (acc.length + j) cp1) (acc.length + j) (bvs (acc ++ byts z j)) ∧
              v = .int .i64 h ∧ 0 ≤ h ∧ h ≤ 9223372036854775807 ∧ Hid (h = hi z j) ∧ i = .int .i64 (j : Int) ∧ Below w.heap.size w wi) (fun _ _ i _ => M - (intOf i).toNat)
            case atStart => exact ⟨0, ao, cp, z, Nat.zero_le _, rfl, by simpa [byts] using hown, rfl, HZ.out, HZ2.out, (hi_zero z).symm, rfl, hnx⟩
            case round =>
              obtain ⟨j, ao1, cp1, h, hj, rfl, hown1, rfl, hh0, hh9, hh, rfl, hnx1⟩ := hrel
              have hbase : ∀ x, (Value.slice ao1 (acc.length + j) cp1).ownBlock = some x → w.heap.size ≤ x := fun x hx => (hown1.lt x hx).1
              have hcx1 : wr.cell? ⟨b, off, none⟩ = some (.int .i64 (m : Int)) := (hnx1.cell (by exact hb)).trans hc
              have hsz1 := hnx1.size
              by_cases hjl : j < M
              · have hE : h % 256 = ((by8 z j).toNat : Int) := by rw [by8_val, hh.out]
                have HE := Lib.hid hE
                have HH : Hid (h / 256 = hi z (j + 1)) := by show h / 256 = _; rw [hi_succ, hh.out]
                clear hE hh
                go_wp2_with (first | (at_builtin; go_loud (refine wpList_append_lies _ rfl (.tmp 61) (.tmp 65) 99 rfl w.heap.size 5 i0 (.int .u8 0) 1 1 Tryd.underlying99 hi0 hz0 hz1 hz2 rfl (by decide) (.slice ao1 (acc.length + j) cp1) (acc.length + j) (bvs (acc ++ byts z j)) rfl (hown1.alloc _) ⟨wr.heap.size, 0, none⟩ 1 1 [.int .u8 _] rfl rfl (cell_one_new _ _ _) (ints_oneCell .u8 [_]) (by decide) (by unfold maxLen; omega) (by omega) (by simp; omega) _ rfl ?_); intro g2 cp2 w3 hown3 hg3 hat3 hlt3))
                have hown4 := own_val2 (b := by8 z j) hown3 HE.out
                rw [← bvs_append, List.append_assoc, ← byts_succ] at hown4
                have hnx3 : Below w.heap.size w w3 := step_below2 hnx1 hg3 hbase (by omega)
                clear hown3 hg3 hat3 hlt3 hown1 hown hnx1 hbase
                go_roundw
                case rel => exact ⟨j + 1, _, cp2, h / 256, by omega, rfl, hown4, rfl, by omega, by omega, HH.out, by go_num, hnx3⟩
                case measure => simp only [intOf]; omega
              · have hjM : j = M := by omega
                subst hjM
                obtain ⟨hk', hzk⟩ := hz.out
                by_cases h00 : h = 0
                · have t0 : (h != 0) = false := by rw [h00]; rfl
                  have HN : Hid (ul m (r.drop (k + 1 - 1)) (acc ++ byts z j) = R) := by
                    have := (ul_next hk' hzk hM.out (by rw [← hh.out]; exact h00)).symm.trans HF.out
                    rw [hk0] at this
                    exact this
                  have hln : (acc ++ byts z j).length = acc.length + j := by rw [List.length_append, byts_len]
                  have HLN := Lib.hid hln
                  have HK := Lib.hid hk0
                  clear h00 hln HF hzk hk0
                  rcases hM7.2.2 with c7 | ⟨c7, c8⟩
                  all_goals
                    go_wp2
                    go_roundw
                    case rel => exact ⟨k + 1, ao1, cp1, acc ++ byts z j, by omega, by omega, by rw [HLN.out], by unfold OwnB; rw [HLN.out]; exact hown1, by go_num, by rw [HLN.out]; omega, HN, hnx1⟩
                    case measure => simp only [intOf]; omega
                · have t0 : (h != 0) = true := by rw [bne_iff_ne]; exact h00
                  have HN : Hid (([], 1) = R) := (ul_bad hk' hzk hM.out (by rw [← hh.out]; exact h00)).symm.trans HF.out
                  clear h00 HF hzk hk0
                  rcases hM7.2.2 with c7 | ⟨c7, c8⟩
                  all_goals
                    go_wp2
                    go_ret2
                    exact ⟨by rw [← HN.out]; rfl, hnx1⟩
        · have HN : Hid ((acc, 0) = R) := (ul_end (by rw [HL.out]; omega)).symm.trans HF.out
          have hcv := conv_any hown rfl
          clear HF
          go_wp2
          go_ret2
          exact ⟨by rw [← HN.out]; rfl, hnx⟩

theorem rn_any (v : Value) (zs : List Int) (w : World) (h : HasI w v zs) (hwf : ∀ z ∈ zs, z ≤ 9223372036854775807) :
    Calls Tryd.prog 47 #[v] w fun e w' => e = .returned (nv (up zs)) ∧ Below w.heap.size w w' := by
  match zs, h, hwf with
  | [], h, _ =>
    obtain ⟨ao, cap, rfl⟩ := has_nil h
    refine (rn_none ao cap w).mono ?_
    rintro e w' ⟨he, rfl⟩
    exact ⟨he, Below.refl _ _⟩
  | z :: r, h, hwf =>
    obtain ⟨b, off, cap, rfl, hcap, hb, hc, hcs⟩ := has_cons h
    have bad : ¬ (0 ≤ z ∧ z ≤ 60 ∧ r.length = (z.toNat + 6) / 7) → up (z :: r) = ([], 1) := fun hn => by
      show (if _ then _ else _) = _
      rw [if_neg hn]
    by_cases h0 : z < 0
    · rw [bad (by omega)]
      refine (rn_neg b off _ cap z w (by omega) hc h0).mono ?_
      rintro e w' ⟨he, rfl⟩
      exact ⟨he, Below.refl _ _⟩
    · by_cases h1 : 60 < z
      · rw [bad (by omega)]
        refine (rn_big b off _ cap z w (by omega) hc h1).mono ?_
        rintro e w' ⟨he, rfl⟩
        exact ⟨he, Below.refl _ _⟩
      · obtain ⟨m, rfl⟩ : ∃ m : Nat, z = (m : Int) := ⟨z.toNat, by omega⟩
        by_cases h2 : r.length + 1 = 1 + (m + 6) / 7
        · have good : up ((m : Int) :: r) = ul m r [] := by
            show (if _ then _ else _) = _
            rw [if_pos ⟨by omega, by omega, by rw [Int.toNat_natCast]; omega⟩, Int.toNat_natCast]
          rw [good]
          exact rn_good b off cap m r w hb hcap hc (by omega) h2 hcs (fun z hz => hwf z (List.mem_cons_of_mem _ hz)) _ rfl
        · rw [bad (by rw [Int.toNat_natCast]; omega)]
          refine (rn_many b off _ cap m w (by omega) hc (by omega) h2).mono ?_
          rintro e w' ⟨he, rfl⟩
          exact ⟨he, Below.refl _ _⟩
end Go.Proofs.YtphebogjmbaboaaDoor.RN

/- How the program packs a text. -/
namespace Go.Proofs.YtphebogjmbaboaaDoor.K
open Go.RowKit Go.Maps Go.Proofs.YtphebogjmbaboaaDoor.P Go.Proofs.YtphebogjmbaboaaDoor.A Go.Proofs.YtphebogjmbaboaaDoor.D Go.Proofs.YtphebogjmbaboaaDoor.O
set_option linter.unusedVariables false
set_option maxRecDepth 100000

theorem pk_nil (n : Nat) : ∀ m : Nat, ivs (pk m n []) = (List.replicate (m + 1) (.int .i64 0)).set 0 (.int .i64 (n : Int)) := by
  intro m
  have e : (List.range m).map (fun j => ((le (grp [] j) : Nat) : Int)) = List.replicate m 0 := by
    apply List.ext_getElem
    · simp
    · intro i h1 h2; simp [grp, le]
  unfold pk ivs
  rw [e, List.replicate_succ, List.set_cons_zero]
  simp

theorem or_val (c r : Nat) (b : UInt8) (hr : r < 7) (h : c < 256 ^ r) : bits .or .i64 (c : Int) (wrap64 (wrap64 (b.toNat : Int) * 2 ^ (8 * r))) = ((c + b.toNat * 256 ^ r : Nat) : Int) := by
  have hb := b.toNat_lt
  have hf := byte_fits b r hr
  have h7 : 256 ^ r ≤ 256 ^ 6 := Nat.pow_le_pow_right (by decide) (by omega)
  have e6 : (256 : Nat) ^ 6 = 281474976710656 := by decide
  have e1 : wrap64 (b.toNat : Int) = (b.toNat : Int) := by unfold wrap64; omega
  have e2 : ((b.toNat : Int) * 2 ^ (8 * r)) = ((b.toNat * 256 ^ r : Nat) : Int) := by
    rw [Int.natCast_mul, ← pow_eq, Int.natCast_pow]; rfl
  rw [e1, e2]
  have e3 : wrap64 ((b.toNat * 256 ^ r : Nat) : Int) = ((b.toNat * 256 ^ r : Nat) : Int) := by unfold wrap64; omega
  rw [e3, bits_or_i64_nat _ _ (by omega) (by omega), or_add _ _ _ h]

theorem pack_long (s : ByteArray) (w : World) (hs : 60 < s.size) :
    Calls Tryd.prog 53 #[.string s] w fun e w' => e = .returned (.tuple #[.slice none 0 0, .int .i64 12]) ∧ w = w' := by
  go_enter Tryd.func53, Tryd.ntmps53
  go_wp2
  go_ret2
  exact ⟨rfl, rfl⟩

theorem pack_short (s : ByteArray) (w : World) (hs : s.size ≤ 60) :
    Calls Tryd.prog 53 #[.string s] w fun e w' => (∃ m, m = (packL s.data.toList).length ∧ e = .returned (.tuple #[.slice (some ⟨w.heap.size, 0, none⟩) m m, .int .i64 0]) ∧ OwnI w' w.heap.size (.slice (some ⟨w.heap.size, 0, none⟩) m m) (packL s.data.toList)) ∧ Below w.heap.size w w' := by
  obtain ⟨i0, hi, hz0, hz1, hz2⟩ := info_parts infoI
  obtain ⟨m, hm⟩ : ∃ m, Hid (m = (s.size + 6) / 7) := ⟨_, rfl⟩
  have hm1 : 1 + (s.size + 6) / 7 = m + 1 := by have := hm.out; omega
  have hm2 : s.size ≤ 7 * m ∧ m ≤ 9 := by have := hm.out; omega
  go_enter Tryd.func53, Tryd.ntmps53
  go_wp2_with (first
    | (go_at_call 70; refine (numbers_any s.size (by omega) _).mono ?_; rw [hm1]; rintro e w1 ⟨rfl, rfl⟩)
    | (at_make; go_loud (refine wpList_make_full _ rfl _ _ 28 rfl w.heap.size 3 i0 (.int .i64 0) 1 Tryd.underlying28 hi hz0 hz1 .i64 .i64 _ _ (m + 1) rfl rfl (by omega) (by omega) (by rw [hz2]; omega) (by unfold maxLen; omega) (Nat.le_refl _) ?_); intro w1 hown1 hg1; have c0 : w1.cell? ⟨w.heap.size, 0, none⟩ = some (.int .i64 0) := (by rw [hown1.cellAt 0 (by omega), Nat.mul_one]; show (madeCells #[Value.int .i64 0] (m + 1)).toList[0]? = _; rw [toList_madeCells_one]; rfl); have f0 := hown1.frozenAt 0))
  obtain ⟨hown2, hg2⟩ := hown1.stored 0 (.int .i64 (s.size : Int))
  have hown3 : (w1.setCell ⟨w.heap.size, 0, none⟩ (.int .i64 (s.size : Int))).ownsRow w.heap.size 3 1 (.slice (some ⟨w.heap.size, 0, none⟩) (m + 1) (m + 1)) (m + 1) (ivs (pk m s.size [])) := by
    rw [pk_nil, ← toList_madeCells_one]
    rw [Nat.mul_one] at hown2
    exact hown2
  have hnx3 : Below w.heap.size w (w1.setCell ⟨w.heap.size, 0, none⟩ (.int .i64 (s.size : Int))) := ((Below.refl _ _).grown hg1 (Nat.le_refl _) (fun j hj => by cases hj)).setCell (Nat.le_refl _) _
  clear hown1 hg1 hown2 hg2 c0 f0
  go_loopw [19] (fun i wr => ∃ k : Nat, k ≤ s.size ∧ i = .int .i64 (k : Int) ∧ wr.ownsRow w.heap.size 3 1 (.slice (some ⟨w.heap.size, 0, none⟩) (m + 1) (m + 1)) (m + 1) (ivs (pk m s.size (s.data.toList.take k))) ∧ Below w.heap.size w wr)
    (fun i _ => s.size - (intOf i).toNat)
  case atStart => exact ⟨0, Nat.zero_le _, rfl, hown3, hnx3⟩
  case round =>
    obtain ⟨k, hk, rfl, hown, hnx⟩ := hrel
    by_cases hlt : k < s.size
    · have hj : k / 7 < m := by omega
      have hl : (s.data.toList.take k).length = k := by simp; omega
      obtain ⟨c, hc⟩ : ∃ c : Nat, Hid (c = le (grp (s.data.toList.take k) (k / 7))) := ⟨_, rfl⟩
      have hcell : wr.cell? ⟨w.heap.size, 1 + k / 7, none⟩ = some (.int .i64 (c : Int)) := by
        rw [hown.cellAt (1 + k / 7) (by omega)]
        have := pk_at m s.size (s.data.toList.take k) (k / 7) hj
        simp only [ivs, List.getElem?_map]
        rw [List.getElem?_eq_getElem (by rw [pk_len]; omega), this, hc.out]
        rfl
      have hfr := hown.frozenAt (1 + k / 7)
      have t1 : (1 + (k : Int) / 7).toNat = 1 + k / 7 := by omega
      go_wp2
      go_region
      have hcl : c < 256 ^ (k % 7) := by
        rw [hc.out]
        have := grp_lt_self (s.data.toList.take k)
        rwa [hl] at this
      have hval := or_val c (k % 7) s[k] (by omega) hcl
      obtain ⟨hown4, hg4⟩ := hown.stored (1 + k / 7) (.int .i64 (bits .or .i64 (c : Int) (wrap64 (wrap64 (s[k].toNat : Int) * 2 ^ (8 * (k % 7))))))
      have hown5 := hown4.drew
      have hnx4 : Below w.heap.size w (wr.setCell ⟨w.heap.size, 1 + k / 7, none⟩ (.int .i64 (bits .or .i64 (c : Int) (wrap64 (wrap64 (s[k].toNat : Int) * 2 ^ (8 * (k % 7))))))).drew := (hnx.setCell (Nat.le_refl _) _).drew
      have hst : ivs (pk m s.size (s.data.toList.take (k + 1))) = (ivs (pk m s.size (s.data.toList.take k))).set (1 + k / 7) (.int .i64 (bits .or .i64 (c : Int) (wrap64 (wrap64 (s[k].toNat : Int) * 2 ^ (8 * (k % 7)))))) := by
        rw [take_next s k hlt, pk_step, hl, ← hc.out, ← hval]
        simp [ivs, List.map_set]
      rw [← hst] at hown5
      clear hown4 hg4 hst hval hcl hcell hfr t1 hown hnx
      go_wp2
      go_roundw
      case rel => exact ⟨k + 1, by omega, by go_num, hown5, hnx4⟩
      case measure => simp [intOf]; omega
    · have hke : k = s.size := by omega
      subst hke
      have hkl : s.data.toList.take s.size = s.data.toList := List.take_of_length_le (by simp)
      rw [hkl] at hown
      have hpl : packL s.data.toList = pk m s.size s.data.toList := by
        unfold packL; rw [hm.out]; simp
      go_wp2
      go_ret2
      refine ⟨⟨m + 1, by rw [hpl, pk_len], rfl, ?_⟩, hnx⟩
      unfold OwnI
      rw [hpl, pk_len]
      exact hown

theorem pack_any (s : ByteArray) (w : World) :
    Calls Tryd.prog 53 #[.string s] w fun e w' =>
      (if s.size ≤ 60 then ∃ v, e = .returned (.tuple #[v, .int .i64 0]) ∧ OwnI w' w.heap.size v (packL s.data.toList) else e = .returned (.tuple #[.slice none 0 0, .int .i64 12])) ∧ Below w.heap.size w w' := by
  by_cases h : s.size ≤ 60
  · simp only [if_pos h]
    refine (pack_short s w h).mono ?_
    rintro e w' ⟨⟨m, _, he, ho⟩, hb⟩
    exact ⟨⟨_, he, ho⟩, hb⟩
  · simp only [if_neg h]
    refine (pack_long s w (by omega)).mono ?_
    rintro e w' ⟨he, rfl⟩
    exact ⟨he, Below.refl _ _⟩
end Go.Proofs.YtphebogjmbaboaaDoor.K

/- How the document packs a text. -/
namespace Go.Proofs.YtphebogjmbaboaaDoor.RP
open Go.RowKit Go.Maps Go.Proofs.YtphebogjmbaboaaDoor.P Go.Proofs.YtphebogjmbaboaaDoor.A Go.Proofs.YtphebogjmbaboaaDoor.O Go.Proofs.YtphebogjmbaboaaDoor.K
set_option linter.unusedVariables false
set_option maxRecDepth 100000

theorem pow_le (i : Nat) (h : i ≤ 5) : 256 ^ i ≤ 1099511627776 := by
  have : 256 ^ i ≤ 256 ^ 5 := Nat.pow_le_pow_right (by decide) h
  have e : (256 : Nat) ^ 5 = 1099511627776 := by decide
  omega
theorem pow_le6 (i : Nat) (h : i ≤ 6) : 256 ^ i ≤ 281474976710656 := by
  have : 256 ^ i ≤ 256 ^ 6 := Nat.pow_le_pow_right (by decide) h
  have e : (256 : Nat) ^ 6 = 281474976710656 := by decide
  omega

theorem power_any (r : Nat) (hr : r ≤ 6) (w : World) (p : Nat) (hp : p = 256 ^ r) :
    Calls Tryd.prog 77 #[.int .i64 (r : Int)] w fun e w' => e = .returned (.int .i64 (p : Int)) ∧ w = w' := by
  have HP := Lib.hid hp
  clear hp
  go_enter Tryd.func77, Tryd.ntmps77
  go_wp2
  go_loop [3, 4] (fun t i => ∃ k q : Nat, k ≤ r ∧ i = .int .i64 (k : Int) ∧ t = .int .i64 (q : Int) ∧ Hid (q = 256 ^ k)) (fun _ i => r - (intOf i).toNat)
  case atStart => exact ⟨0, 1, Nat.zero_le _, rfl, rfl, rfl⟩
  case round =>
    obtain ⟨k, q, hk, rfl, rfl, HQ⟩ := hrel
    by_cases hlt : k < r
    · have hq : q ≤ 1099511627776 := by rw [HQ.out]; exact pow_le k (by omega)
      have HN : Hid (q * 256 = 256 ^ (k + 1)) := by show q * 256 = _; rw [HQ.out, Nat.pow_succ]
      go_wp2
      go_round
      case rel => exact ⟨k + 1, q * 256, by omega, by go_num, by go_num, HN.out⟩
      case measure => simp only [intOf]; omega
    · have hke : k = r := by omega
      have HE : Hid (q = p) := by show q = p; rw [HQ.out, HP.out, hke]
      go_wp2
      go_ret
      exact ⟨by rw [← HE.out]; rfl, rfl⟩

theorem power_as (r : Nat) (hr : r ≤ 6) (w : World) (p : Nat) (hp : p = 256 ^ r) (x : Int) (hx : x = (r : Int)) :
    Calls Tryd.prog 77 #[.int .i64 x] w fun e w' => e = .returned (.int .i64 (p : Int)) ∧ w = w' := by
  subst hx; exact power_any r hr w p hp

theorem power_still (r : Nat) (hr : r ≤ 6) (w : World) (p : Nat) (hp : p = 256 ^ r) (x : Int) (hx : x = (r : Int)) :
    Calls Tryd.prog 77 #[.int .i64 x] w fun e w' => e = .returned (.int .i64 (p : Int)) ∧ w' = w :=
  (power_as r hr w p hp x hx).mono fun _ _ ⟨he, hw⟩ => ⟨he, hw.symm⟩

theorem wraps (b p c : Nat) (hb : b < 2 ^ 8) (h : b * p < 72057594037927936) (hc : c < 281474976710656) :
    IntKind.i64.wrap (b : Int) = (b : Int) ∧ wrap64 (b : Int) = (b : Int) ∧ IntKind.i64.wrap ((b : Int) * (p : Int)) = (b : Int) * (p : Int) ∧ wrap64 ((b : Int) * (p : Int)) = (b : Int) * (p : Int) ∧
      IntKind.i64.wrap ((c : Int) + (b : Int) * (p : Int)) = (c : Int) + (b : Int) * (p : Int) ∧ wrap64 ((c : Int) + (b : Int) * (p : Int)) = (c : Int) + (b : Int) * (p : Int) := by
  obtain ⟨n, hn, hn2⟩ : ∃ n : Nat, (b : Int) * (p : Int) = (n : Int) ∧ n < 72057594037927936 := ⟨b * p, (Int.natCast_mul b p).symm, h⟩
  rw [hn]
  clear h hn
  rw [IntKind.wrap_i64, IntKind.wrap_i64, IntKind.wrap_i64]
  unfold wrap64
  refine ⟨?_, ?_, ?_, ?_, ?_, ?_⟩ <;> omega

theorem pk_grow (m n : Nat) (l : List UInt8) (h : l.length = 7 * m) : pk (m + 1) n l = pk m n l ++ [0] := by
  unfold pk
  rw [List.range_succ, List.map_append, List.cons_append]
  have e : grp l m = [] := by unfold grp; rw [List.drop_eq_nil_of_le (by omega)]; rfl
  simp [e, le]

theorem pk_get (m n : Nat) (l : List UInt8) (j : Nat) (h : j < m) : (ivs (pk m n l))[j + 1]? = some (.int .i64 ((le (grp l j) : Nat) : Int)) := by
  have := pk_at m n l j h
  simp only [Nat.add_comm 1 j] at this
  simp only [ivs, List.getElem?_map]
  rw [List.getElem?_eq_getElem (by rw [pk_len]; omega), this]
  rfl

theorem rpack_long (s : ByteArray) (w : World) (hs : 60 < s.size) :
    Calls Tryd.prog 60 #[.string s] w fun e w' => e = .returned (.tuple #[.slice none 0 0, .int .i64 12]) ∧ w = w' := by
  go_enter Tryd.func60, Tryd.ntmps60
  go_wp2
  go_ret2
  exact ⟨rfl, rfl⟩

set_option maxHeartbeats 8000000 in
theorem rpack_short (s : ByteArray) (w : World) (hs : s.size ≤ 60) :
    Calls Tryd.prog 60 #[.string s] w fun e w' => (∃ v, e = .returned (.tuple #[v, .int .i64 0]) ∧ OwnI w' w.heap.size v (packL s.data.toList)) ∧ Below w.heap.size w w' := by
  obtain ⟨i0, hi, hz0, hz1, hz2⟩ := info_parts infoI
  go_enter Tryd.func60, Tryd.ntmps60
  go_wp2
  go_loopw [4, 5] (fun t i wr => ∃ (k m g cap : Nat), k ≤ s.size ∧ Hid (m = (k + 6) / 7) ∧ t = .slice (some ⟨g, 0, none⟩) (m + 1) cap ∧ wr.ownsRow w.heap.size 3 1 (.slice (some ⟨g, 0, none⟩) (m + 1) cap) (m + 1) (ivs (pk m s.size (s.data.toList.take k))) ∧
      i = .int .i64 (k : Int) ∧ Below w.heap.size w wr) (fun _ i _ => s.size - (intOf i).toNat)
  case atStart => exact ⟨0, 0, w.heap.size, 1, Nat.zero_le _, rfl, rfl, World.ownsRow_lit _ #[.int .i64 (s.size : Int)] 1 (Nat.le_refl _) (by decide) rfl, rfl, (Below.refl _ _).alloc (Nat.le_refl _) _⟩
  case round =>
    obtain ⟨k, m, g, cap, hk, HM, rfl, hown, rfl, hnx⟩ := hrel
    have hgl := hown.lt g rfl
    have hsz := hnx.size
    by_cases hlt : k < s.size
    · have hl : (s.data.toList.take k).length = k := by simp; omega
      obtain ⟨c, hc⟩ : ∃ c : Nat, Hid (c = le (grp (s.data.toList.take k) (k / 7))) := ⟨_, rfl⟩
      obtain ⟨p, hp⟩ : ∃ p : Nat, Hid (p = 256 ^ (k % 7)) := ⟨_, rfl⟩
      have hw1 : IntKind.i64.wrap ((k : Int) / 7 + 1) = (k : Int) / 7 + 1 := by rw [IntKind.wrap_i64]; omega
      have a1 : (0 : Int) ≤ (k : Int) / 7 + 1 := by omega
      have t1 : ((k : Int) / 7 + 1).toNat = k / 7 + 1 := by omega
      have hw2 : (k : Int).tmod 7 = (k : Int) % 7 := Int.tmod_eq_emod_of_nonneg (by omega)
      have hk7 : (k : Int) % 7 = ((k % 7 : Nat) : Int) := by omega
      have HK7 := Lib.hid hk7
      clear hk7
      have hbp := byte_fits s[k] (k % 7) (by omega)
      rw [← hp.out] at hbp
      have hcl : c < 281474976710656 := by
        have h1 := grp_lt_self (s.data.toList.take k)
        rw [hl, ← hc.out] at h1
        have h2 := pow_le6 (k % 7) (by omega)
        omega
      have hb8 := s[k].toNat_lt
      have hbI : ((s[k].toNat * p : Nat) : Int) = (s[k].toNat : Int) * (p : Int) := Int.natCast_mul _ _
      obtain ⟨wb1, wb2, wm1, wm2, wa1, wa2⟩ := wraps s[k].toNat p c hb8 hbp hcl
      have a2 : (k : Int) / 7 < (k : Int) / 7 + 1 := by omega
      have HE : Hid ((c : Int) + (s[k].toNat : Int) * (p : Int) = ((le (grp (s.data.toList.take k) (k / 7)) + s[k].toNat * 256 ^ (k % 7) : Nat) : Int)) := by
        show _ = _
        rw [← hbI, ← Int.natCast_add, hc.out, hp.out]
      have HMn : Hid (k / 7 + 1 = (k + 1 + 6) / 7) := by show _ = _; omega
      clear hbp hcl hb8 hbI
      by_cases h7 : k % 7 = 0
      · obtain rfl : m = k / 7 := by have := HM.out; omega
        have t7 : ((k : Int) % 7 == 0) = true := by rw [beq_iff_eq]; omega
        go_wp2_with (first | (at_builtin; go_loud (refine wpList_append_lies _ rfl (.tmp 21) (.tmp 22) 28 rfl w.heap.size 3 i0 (.int .i64 0) 1 8 Tryd.underlying28 hi hz0 hz1 hz2 rfl (by decide) (.slice (some ⟨g, 0, none⟩) (k / 7 + 1) cap) (k / 7 + 1) (ivs (pk (k / 7) s.size (s.data.toList.take k))) rfl (hown.alloc _) ⟨wr.heap.size, 0, none⟩ 1 1 [.int .i64 0] rfl rfl (cell_one_new _ _ _) (ints_oneCell .i64 [0]) (by decide) (by unfold maxLen; omega) (by omega) (by simp; omega) _ rfl ?_); intro g1 cap1 w1 hown1 hg1 hat1 hlt1))
        have hnx1 : Below w.heap.size w w1 := step_below hnx hg1 (by omega) (by omega)
        have hown2 : w1.ownsRow w.heap.size 3 1 (.slice (some ⟨g1, 0, none⟩) (k / 7 + 1 + 1) cap1) (k / 7 + 1 + 1) (ivs (pk (k / 7 + 1) s.size (s.data.toList.take k))) := by
          rw [pk_grow _ _ _ (by rw [hl]; omega), ivs_append]; exact hown1
        clear hown1 hg1 hat1 hown hnx
        have hgl2 := hown2.lt g1 rfl
        have hcell : w1.cell? ⟨g1, k / 7 + 1, none⟩ = some (.int .i64 (c : Int)) := by
          rw [hown2.cellAt (k / 7 + 1) (by omega)]
          rw [pk_get _ _ _ _ (by omega), hc.out]
        have hfr := hown2.frozenAt (k / 7 + 1)
        obtain ⟨hown4, _⟩ := hown2.stored (k / 7 + 1) (.int .i64 ((c : Int) + (s[k].toNat : Int) * (p : Int)))
        have hst : ivs (pk (k / 7 + 1) s.size (s.data.toList.take (k + 1))) = (ivs (pk (k / 7 + 1) s.size (s.data.toList.take k))).set (k / 7 + 1) (.int .i64 ((c : Int) + (s[k].toNat : Int) * (p : Int))) := by
          rw [HE.out, take_next s k hlt, pk_step, hl, Nat.add_comm 1 (k / 7)]
          simp only [ivs, List.map_set]
        rw [← hst] at hown4
        have HO : Hid _ := hown4.drew
        have HX : Hid _ := (hnx1.setCell (p := ⟨g1, k / 7 + 1, none⟩) (show w.heap.size ≤ g1 by omega) (.int .i64 ((c : Int) + (s[k].toNat : Int) * (p : Int)))).drew
        clear hown4 hst hown2
        refine wp_region_still_tail 20 (by kernel_rfl) (by kernel_rfl) ?_
        simp only [List.take_succ_cons, List.take_zero, List.drop_succ_cons, List.drop_zero]
        iterate 16 still_step
        still_call (power_still (k % 7) (by omega) _ p hp.out _ HK7.out)
        repeat still_step
        try refine wpStill_nil ?_
        all_goals
          go_wp2
          go_roundw
          case rel => exact ⟨k + 1, k / 7 + 1, g1, cap1, by omega, HMn, rfl, HO.out, by go_num, HX.out⟩
          case measure => simp only [intOf]; omega
      · obtain rfl : m = k / 7 + 1 := by have := HM.out; omega
        have t7 : ((k : Int) % 7 == 0) = false := by rw [beq_eq_false_iff_ne]; omega
        go_wp2
        have hcell : wr.cell? ⟨g, k / 7 + 1, none⟩ = some (.int .i64 (c : Int)) := by
          rw [hown.cellAt (k / 7 + 1) (by omega)]
          rw [pk_get _ _ _ _ (by omega), hc.out]
        have hfr := hown.frozenAt (k / 7 + 1)
        obtain ⟨hown4, _⟩ := hown.stored (k / 7 + 1) (.int .i64 ((c : Int) + (s[k].toNat : Int) * (p : Int)))
        have hst : ivs (pk (k / 7 + 1) s.size (s.data.toList.take (k + 1))) = (ivs (pk (k / 7 + 1) s.size (s.data.toList.take k))).set (k / 7 + 1) (.int .i64 ((c : Int) + (s[k].toNat : Int) * (p : Int))) := by
          rw [HE.out, take_next s k hlt, pk_step, hl, Nat.add_comm 1 (k / 7)]
          simp only [ivs, List.map_set]
        rw [← hst] at hown4
        have HO : Hid _ := hown4.drew
        have HX : Hid _ := (hnx.setCell (p := ⟨g, k / 7 + 1, none⟩) (show w.heap.size ≤ g by omega) (.int .i64 ((c : Int) + (s[k].toNat : Int) * (p : Int)))).drew
        clear hown4 hst hown
        refine wp_region_still_tail 20 (by kernel_rfl) (by kernel_rfl) ?_
        simp only [List.take_succ_cons, List.take_zero, List.drop_succ_cons, List.drop_zero]
        iterate 16 still_step
        still_call (power_still (k % 7) (by omega) _ p hp.out _ HK7.out)
        repeat still_step
        try refine wpStill_nil ?_
        all_goals
          go_wp2
          go_roundw
          case rel => exact ⟨k + 1, k / 7 + 1, g, cap, by omega, HMn, rfl, HO.out, by go_num, HX.out⟩
          case measure => simp only [intOf]; omega
    · have hke : k = s.size := by omega
      have hkl : s.data.toList.take k = s.data.toList := List.take_of_length_le (by simp; omega)
      rw [hkl] at hown
      have hpl : packL s.data.toList = pk m s.size s.data.toList := by
        have hsl : s.data.toList.length = s.size := by simp
        unfold packL; rw [HM.out, hsl, hke]
      go_wp2
      go_ret2
      refine ⟨⟨_, rfl, ?_⟩, hnx⟩
      unfold OwnI
      rw [hpl, pk_len]
      exact hown

theorem rpack_any (s : ByteArray) (w : World) (hs : s.size ≤ 60) :
    Calls Tryd.prog 60 #[.string s] w fun e w' => (∃ v, e = .returned (.tuple #[v, .int .i64 0]) ∧ HasI w' v (packL s.data.toList)) ∧ Below w.heap.size w w' := by
  refine (rpack_short s w hs).mono ?_
  rintro e w' ⟨⟨v, he, ho⟩, hb⟩
  exact ⟨⟨v, he, own_has ho⟩, hb⟩
end Go.Proofs.YtphebogjmbaboaaDoor.RP
