/- Bytes read as a code, plainly, by the document's way; the two ways answer alike. -/
import Derived.Test.YtpommjmlenfknaaQC
namespace Go.Proofs.Ytpommjmlenfknaa.QD
open Go.Proofs.Ytpommjmlenfknaa.KA Go.Proofs.Ytpommjmlenfknaa.KD Go.Proofs.Ytpommjmlenfknaa.KF Go.Proofs.Ytpommjmlenfknaa.QA Go.Proofs.Ytpommjmlenfknaa.QB Go.Proofs.Ytpommjmlenfknaa.QC
set_option linter.unusedVariables false
set_option maxRecDepth 100000
set_option maxRecDepth 100000

theorem one_range (s : St) : 0 ≤ (one s).1 ∧ (one s).1 < 256 := by
  unfold one
  split
  · exact ⟨by show (0 : Int) ≤ 0; omega, by show (0 : Int) < 256; omega⟩
  · rename_i b t h
    have := b.toNat_lt
    exact ⟨by show (0 : Int) ≤ (b.toNat : Int); omega, by show (b.toNat : Int) < 256; omega⟩
theorem leK2 {a b : Int} (ha : 0 ≤ a ∧ a < 256) (hb : 0 ≤ b ∧ b < 256) : leK 2 (a + 256 * b) = leK 1 a ++ leK 1 b := by
  show [by1 ((a + 256 * b) % 256), by1 ((a + 256 * b) / 256 % 256)] = [by1 (a % 256)] ++ [by1 (b % 256)]
  rw [show (a + 256 * b) % 256 = a % 256 by omega, show (a + 256 * b) / 256 % 256 = b % 256 by omega]
  rfl
theorem pair_range (s : St) : 0 ≤ (pair s).1 ∧ (pair s).1 < 65536 := by
  have h1 := one_range s
  have h2 := one_range (one s).2
  exact ⟨by show 0 ≤ (one s).1 + 256 * (one (one s).2).1; omega, by show (one s).1 + 256 * (one (one s).2).1 < 65536; omega⟩
theorem pair_good : Rd pair (leK 2) (fun n => 0 ≤ n ∧ n < 65536) where
  mono s hs := one_good.mono s (one_good.mono _ hs)
  sound s hs _ := by
    have h1 := one_good.sound s (one_good.mono _ hs) (one_range s)
    have h2 := one_good.sound _ hs (one_range _)
    show s.rest = leK 2 ((one s).1 + 256 * (one (one s).2).1) ++ (one (one s).2).2.rest
    rw [leK2 (one_range _) (one_range _), List.append_assoc, ← h2, ← h1]
  full n t hn := by
    have e : n = n % 256 + 256 * (n / 256) := by omega
    have h1 := one_good.full (n % 256) (leK 1 (n / 256) ++ t) ⟨by omega, by omega⟩
    have h2 := one_good.full (n / 256) t ⟨by omega, by omega⟩
    unfold pair
    rw [show leK 2 n = leK 1 (n % 256) ++ leK 1 (n / 256) from by
      conv => lhs; rw [e]
      exact leK2 ⟨by omega, by omega⟩ ⟨by omega, by omega⟩, List.append_assoc, h1]
    show ((n % 256) + 256 * (one ⟨leK 1 (n / 256) ++ t, false⟩).1, (one ⟨leK 1 (n / 256) ++ t, false⟩).2) = _
    rw [h2]
    show ((n % 256) + 256 * (n / 256), _) = _
    rw [← e]
/-- So many bytes, one by one. -/
def bys (n : Nat) (s : St) : By × St := ((many one n s).1.map by1, (many one n s).2)
theorem map_by1 : ∀ l : List Int, (∀ n, n ∈ l → 0 ≤ n ∧ n < 256) → l.flatMap (leK 1) = l.map by1
  | [], _ => rfl
  | a :: l, h => by rw [List.flatMap_cons, map_by1 l (fun n hn => h n (List.mem_cons_of_mem _ hn)), leK1 (h a List.mem_cons_self)]; rfl
theorem many_range : ∀ (n : Nat) (s : St), ∀ x, x ∈ (many one n s).1 → 0 ≤ x ∧ x < 256
  | 0, _, x, hx => by cases hx
  | n + 1, s, x, hx => by
    rcases List.mem_cons.1 (show x ∈ (one s).1 :: (many one n (one s).2).1 from hx) with h | h
    · rw [h]; exact one_range s
    · exact many_range n _ x h
theorem bys_mono (k : Nat) (s : St) (h : (bys k s).2.short = false) : s.short = false ∧ (bys k s).1.length = k ∧ s.rest = (bys k s).1 ++ (bys k s).2.rest := by
  refine ⟨many_mono one_good k s h, by unfold bys; rw [List.length_map, many_len], ?_⟩
  have := many_sound one_good k s h (many_range k s)
  rw [map_by1 _ (many_range k s)] at this
  exact this
theorem bys_full (a t : By) : bys a.length ⟨a ++ t, false⟩ = (a, ⟨t, false⟩) := by
  have hr : ∀ n, n ∈ a.map (fun b => (b.toNat : Int)) → 0 ≤ n ∧ n < 256 := by
    intro n hn
    obtain ⟨b, _, rfl⟩ := List.mem_map.1 hn
    have := b.toNat_lt
    exact ⟨by omega, by omega⟩
  have hm : (a.map fun b => (b.toNat : Int)).map by1 = a := by
    rw [List.map_map]
    conv => rhs; rw [← List.map_id a]
    apply List.map_congr_left
    intro b _
    exact by1_of b
  have h := many_full one_good (a.map fun b => (b.toNat : Int)) t hr
  rw [map_by1 _ hr, hm, List.length_map] at h
  unfold bys
  rw [h]
  show (List.map by1 _, _) = _
  rw [hm]
theorem bys_len (k : Nat) (a t : By) (h : a.length = k) : bys k ⟨a ++ t, false⟩ = (a, ⟨t, false⟩) := by subst h; exact bys_full a t
def dintP (s : St) : Int × St := (num (bys 8 s).1, (bys 8 s).2)
theorem dint_eq (s : St) : dintP s = (num (bys 8 s).1, (bys 8 s).2) := by unfold dintP; rfl
theorem dint_mono (s : St) (hs : (dintP s).2.short = false) : s.short = false ∧ s.rest = leK 8 (dintP s).1 ++ (dintP s).2.rest := by
  rw [dint_eq] at hs ⊢
  dsimp only at hs ⊢
  obtain ⟨h1, h2, h3⟩ := bys_mono 8 s hs
  refine ⟨h1, ?_⟩
  generalize bys 8 s = r at h2 h3 hs ⊢
  have h4 : leK 8 (num r.1) = r.1 := by
    have := leK_le r.1 (num r.1) (by
      rw [h2]
      have h5 := le_lt r.1
      rw [h2] at h5
      unfold num sg
      split <;> omega)
    rw [h2] at this
    exact this
  rw [h4]; exact h3
theorem dint_full (n : Int) (t : By) (hn : -9223372036854775808 ≤ n ∧ n ≤ 9223372036854775807) : dintP ⟨leK 8 n ++ t, false⟩ = (n, ⟨t, false⟩) := by
  rw [dint_eq, bys_len 8 (leK 8 n) t (leK_len 8 n)]
  have h2 := le_leK 8 n
  have h3 : num (leK 8 n) = n := by
    unfold num sg
    split <;> omega
  dsimp only
  rw [h3]
theorem dint_good : Rd dintP (leK 8) (fun n => -9223372036854775808 ≤ n ∧ n ≤ 9223372036854775807) where
  mono s hs := (dint_mono s hs).1
  sound s hs _ := (dint_mono s hs).2
  full n t hn := dint_full n t hn
def dtextP (s : St) : By × St := bys (one s).1.toNat (one s).2
theorem dtext_good : Rd dtextP encTx (fun s => s.length ≤ 60) where
  mono s hs := one_good.mono s (bys_mono _ _ hs).1
  sound s hs hk := by
    obtain ⟨h1, h2, h3⟩ := bys_mono _ _ hs
    have hr := one_range s
    have hl : ((dtextP s).1.length : Int) = (one s).1 := by
      show ((bys (one s).1.toNat (one s).2).1.length : Int) = _
      rw [h2]; omega
    have h4 := one_good.sound s h1 hr
    show s.rest = (by1 ((dtextP s).1.length : Int) :: (dtextP s).1) ++ _
    rw [h4, ← hl, leK1 ⟨by omega, by omega⟩, h3]
    rfl
  full x t hk := by
    have hk' : x.length ≤ 60 := hk
    unfold dtextP
    have h1 := one_good.full (x.length : Int) (x ++ t) ⟨by omega, by omega⟩
    rw [leK1 ⟨by omega, by omega⟩] at h1
    show bys (one ⟨[by1 (x.length : Int)] ++ (x ++ t), false⟩).1.toNat (one ⟨[by1 (x.length : Int)] ++ (x ++ t), false⟩).2 = _
    rw [h1]
    exact bys_full x t
def dlistP {α : Type} (p : St → α × St) (s : St) : List α × St := many p (one s).1.toNat (one s).2
theorem dlist_good {α : Type} {p : St → α × St} {e : α → By} {ok : α → Prop} (h : Rd p e ok) (most : Nat) (hm : most < 256) : Rd (dlistP p) (fun l => leK 1 (l.length : Int) ++ l.flatMap e) (fun l => l.length ≤ most ∧ ∀ x, x ∈ l → ok x) where
  mono s hx := one_good.mono s (many_mono h _ _ hx)
  sound s hx hk := by
    have h1 := many_mono h _ _ hx
    have h2 := many_sound h _ _ hx hk.2
    have hr := one_range s
    have hl : ((dlistP p s).1.length : Int) = (one s).1 := by
      show ((many p (one s).1.toNat (one s).2).1.length : Int) = _
      rw [many_len]; omega
    have h3 := one_good.sound s h1 hr
    show s.rest = (leK 1 ((dlistP p s).1.length : Int) ++ (dlistP p s).1.flatMap e) ++ _
    rw [hl, h3, List.append_assoc]
    congr 1
  full l t hk := by
    have hk1 := hk.1
    unfold dlistP
    show many p (one ⟨(leK 1 (l.length : Int) ++ l.flatMap e) ++ t, false⟩).1.toNat (one ⟨(leK 1 (l.length : Int) ++ l.flatMap e) ++ t, false⟩).2 = _
    rw [List.append_assoc, one_good.full (l.length : Int) (l.flatMap e ++ t) ⟨by omega, by omega⟩]
    show many p (l.length : Int).toNat ⟨l.flatMap e ++ t, false⟩ = _
    rw [show (l.length : Int).toNat = l.length by omega]
    exact many_full h l t hk.2
/-- As many as there are, till there is one byte too few. -/
def manyS {α : Type} (p : St → α × St) : Nat → St → List α × St
  | 0, s => ([], s)
  | n + 1, s => if s.short = true then ([], s) else ((p s).1 :: (manyS p n (p s).2).1, (manyS p n (p s).2).2)
theorem manyS_mono {α : Type} {p : St → α × St} {e : α → By} {ok : α → Prop} (h : Rd p e ok) : ∀ (n : Nat) (s : St), (manyS p n s).2.short = false → s.short = false ∧ manyS p n s = many p n s
  | 0, s, hs => ⟨hs, rfl⟩
  | n + 1, s, hs => by
    unfold manyS at hs ⊢
    by_cases hc : s.short = true
    · rw [if_pos hc] at hs
      have hs : s.short = false := hs
      rw [hc] at hs; cases hs
    · rw [if_neg hc] at hs ⊢
      obtain ⟨h1, h2⟩ := manyS_mono h n (p s).2 hs
      exact ⟨by simpa using hc, by rw [h2]; rfl⟩
theorem manyS_full {α : Type} {p : St → α × St} {e : α → By} {ok : α → Prop} (h : Rd p e ok) : ∀ (l : List α) (t : By), (∀ x, x ∈ l → ok x) → manyS p l.length ⟨l.flatMap e ++ t, false⟩ = (l, ⟨t, false⟩)
  | [], t, _ => rfl
  | a :: l, t, hk => by
    have h1 := h.full a (l.flatMap e ++ t) (hk a List.mem_cons_self)
    have h2 := manyS_full h l t (fun x hx => hk x (List.mem_cons_of_mem _ hx))
    show manyS p (l.length + 1) ⟨_, false⟩ = _
    rw [List.flatMap_cons, List.append_assoc]
    unfold manyS
    rw [if_neg (by simp), h1, h2]
def dcodesP {α : Type} (p : St → α × St) (s : St) : List α × St := manyS p (pair s).1.toNat (pair s).2
theorem dcodes_good {α : Type} {p : St → α × St} {e : α → By} {ok : α → Prop} (h : Rd p e ok) (most : Nat) (hm : most < 65536) : Rd (dcodesP p) (fun l => leK 2 (l.length : Int) ++ l.flatMap e) (fun l => l.length ≤ most ∧ ∀ x, x ∈ l → ok x) where
  mono s hx := pair_good.mono s (manyS_mono h _ _ hx).1
  sound s hx hk := by
    obtain ⟨h1, h0⟩ := manyS_mono h _ _ hx
    have e0 : dcodesP p s = many p (pair s).1.toNat (pair s).2 := h0
    rw [e0] at hx hk ⊢
    have h2 := many_sound h _ _ hx hk.2
    have hr := pair_range s
    have hl : ((many p (pair s).1.toNat (pair s).2).1.length : Int) = (pair s).1 := by rw [many_len]; omega
    have h3 := pair_good.sound s h1 hr
    show s.rest = (leK 2 ((many p (pair s).1.toNat (pair s).2).1.length : Int) ++ (many p (pair s).1.toNat (pair s).2).1.flatMap e) ++ _
    rw [hl, h3, List.append_assoc]
    congr 1
  full l t hk := by
    have hk1 := hk.1
    unfold dcodesP
    show manyS p (pair ⟨(leK 2 (l.length : Int) ++ l.flatMap e) ++ t, false⟩).1.toNat (pair ⟨(leK 2 (l.length : Int) ++ l.flatMap e) ++ t, false⟩).2 = _
    rw [List.append_assoc, pair_good.full (l.length : Int) (l.flatMap e ++ t) ⟨by omega, by omega⟩]
    show manyS p (l.length : Int).toNat ⟨l.flatMap e ++ t, false⟩ = _
    rw [show (l.length : Int).toNat = l.length by omega]
    exact manyS_full h l t hk.2
def dinsP (s : St) : In × St := mapP (fun x => (⟨x.1, x.2.1, x.2.2⟩ : In)) (seqP one (seqP pair pair)) s
def dbodyP (s : St) : Bd × St := mapP (fun x => (⟨x.1, x.2.1, x.2.2.1, x.2.2.2⟩ : Bd)) (seqP one (seqP one (seqP one (dcodesP dinsP)))) s
def dcodeP (s : St) : Cd × St := mapP (fun x => (⟨x.2.2.2, x.2.1, x.2.2.1, x.1⟩ : Cd)) (seqP one (seqP (dlistP dintP) (seqP (dlistP dtextP) (dlistP dbodyP)))) s
theorem dins_good : Rd dinsP encIn insK :=
  ((one_good.seq (pair_good.seq pair_good)).map (fun x => (⟨x.1, x.2.1, x.2.2⟩ : In)) (fun i => (i.op, i.a, i.b)) (fun _ => rfl) (fun _ => rfl)).congr
    (fun i h => by obtain ⟨h1, h2, h3⟩ := h; exact ⟨⟨h1.1, by show i.op < _; omega⟩, ⟨h2.1, by show i.a < _; omega⟩, ⟨h3.1, by show i.b < _; omega⟩⟩)
    (fun i h => by
      obtain ⟨h1, h2, h3⟩ := h
      show leK 1 i.op ++ (leK 2 i.a ++ leK 2 i.b) = _
      rw [leK1 ⟨h1.1, by omega⟩]; rfl)
theorem dbody_good : Rd dbodyP encBd bodyK :=
  ((one_good.seq (one_good.seq (one_good.seq (dcodes_good dins_good 400 (by decide))))).map (fun x => (⟨x.1, x.2.1, x.2.2.1, x.2.2.2⟩ : Bd)) (fun f => (f.kept, f.locals, f.stack, f.code)) (fun _ => rfl) (fun _ => rfl)).congr
    (fun f h => by obtain ⟨h1, h2, h3, h4, h5⟩ := h; exact ⟨⟨h1.1, by show f.kept < _; omega⟩, ⟨h2.1, by show f.locals < _; omega⟩, ⟨by show 0 ≤ f.stack; omega, by show f.stack < _; omega⟩, h4, h5⟩)
    (fun f h => by
      obtain ⟨h1, h2, h3, h4, h5⟩ := h
      show leK 1 f.kept ++ (leK 1 f.locals ++ (leK 1 f.stack ++ (leK 2 (f.code.length : Int) ++ f.code.flatMap encIn))) = _
      rw [leK1 ⟨h1.1, by omega⟩, leK1 ⟨h2.1, by omega⟩, leK1 ⟨by omega, by omega⟩]
      unfold encBd
      simp)
theorem dcode_good : Rd dcodeP encR codeK :=
  ((one_good.seq ((dlist_good dint_good 120 (by decide)).seq ((dlist_good dtext_good 120 (by decide)).seq (dlist_good dbody_good 120 (by decide))))).map (fun x => (⟨x.2.2.2, x.2.1, x.2.2.1, x.1⟩ : Cd)) (fun c => (c.lets, c.ints, c.texts, c.funs)) (fun _ => rfl) (fun _ => rfl)).congr
    (fun c h => by obtain ⟨h1, h2, h3, h4⟩ := h; exact ⟨⟨h1.1, by show c.lets < _; omega⟩, h2, h3, h4⟩)
    (fun c h => rfl)
/-- What the document answers. -/
def decD (b : By) : Option Cd := fin (bys 3 ⟨b, false⟩).1 (dcodeP (bys 3 ⟨b, false⟩).2)
theorem decD_sound {b : By} {c : Cd} (h : decD b = some c) : mayB c = true ∧ enc c = b := by
  obtain ⟨h1, h2, h3, h4, h5⟩ := fin_some h
  have hk := may_codeK h4
  have hs := dcode_good.sound _ h2 hk
  obtain ⟨_, _, h6⟩ := bys_mono 3 ⟨b, false⟩ (dcode_good.mono _ h2)
  rw [h5] at h4 hk hs
  rw [h1, hs, h3, List.append_nil] at h6
  exact ⟨h4, (enc_encR hk).trans h6.symm⟩
theorem decD_full {c : Cd} (h : mayB c = true) : decD (enc c) = some c := by
  have hk := may_codeK h
  have h1 : bys 3 ⟨enc c, false⟩ = ([83, 77, 49], ⟨encR c, false⟩) := by rw [enc_encR hk]; exact bys_full [83, 77, 49] (encR c)
  have h2 := dcode_good.full c [] hk
  rw [List.append_nil] at h2
  unfold decD
  rw [h1]
  show fin [83, 77, 49] (dcodeP ⟨encR c, false⟩) = _
  rw [h2]
  unfold fin
  rw [if_pos ⟨rfl, rfl, rfl, h⟩]
theorem dec_same (b : By) : decD b = decP b := by
  cases hd : decD b with
  | some c =>
    obtain ⟨h1, h2⟩ := decD_sound hd
    rw [← h2]; exact (decP_full h1).symm
  | none =>
    cases hp : decP b with
    | none => rfl
    | some c =>
      obtain ⟨h1, h2⟩ := decP_sound hp
      rw [← h2, decD_full h1] at hd
      cases hd
end Go.Proofs.Ytpommjmlenfknaa.QD
