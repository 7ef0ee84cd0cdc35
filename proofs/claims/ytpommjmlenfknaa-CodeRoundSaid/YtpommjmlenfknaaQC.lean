/- Bytes read as a code, plainly: instructions, functions, codes; the program's answer and the document's are one. -/
import Derived.Test.YtpommjmlenfknaaQB
namespace Go.Proofs.Ytpommjmlenfknaa.QC
open Go.Proofs.Ytpommjmlenfknaa.KA Go.Proofs.Ytpommjmlenfknaa.KD Go.Proofs.Ytpommjmlenfknaa.KF Go.Proofs.Ytpommjmlenfknaa.QA Go.Proofs.Ytpommjmlenfknaa.QB
set_option linter.unusedVariables false
set_option maxRecDepth 100000
set_option maxRecDepth 100000

/-! ## The program's way -/
def insP (s : St) : In × St := mapP (fun x => (⟨x.1, x.2.1, x.2.2⟩ : In)) (seqP (numP 1) (seqP (numP 2) (numP 2))) s
def bodyP (s : St) : Bd × St := mapP (fun x => (⟨x.1, x.2.1, x.2.2.1, x.2.2.2⟩ : Bd)) (seqP (numP 1) (seqP (numP 1) (seqP (numP 1) (listP 2 400 insP)))) s
def codeP (s : St) : Cd × St := mapP (fun x => (⟨x.2.2.2, x.2.1, x.2.2.1, x.1⟩ : Cd)) (seqP (numP 1) (seqP (listP 1 120 (numP 8)) (seqP (listP 1 120 textP) (listP 1 120 bodyP)))) s
def insK (i : In) : Prop := (0 ≤ i.op ∧ i.op ≤ 33) ∧ (0 ≤ i.a ∧ i.a ≤ 65535) ∧ 0 ≤ i.b ∧ i.b ≤ 65535
def bodyK (f : Bd) : Prop := (0 ≤ f.kept ∧ f.kept ≤ 59) ∧ (0 ≤ f.locals ∧ f.locals ≤ 60) ∧ (1 ≤ f.stack ∧ f.stack ≤ 60) ∧ f.code.length ≤ 400 ∧ ∀ i, i ∈ f.code → insK i
theorem p1 : ((256 ^ 1 : Nat) : Int) = 256 := rfl
theorem p2 : ((256 ^ 2 : Nat) : Int) = 65536 := rfl
theorem ins_good : Rd insP encIn insK :=
  (((num_good 1 (by decide)).seq ((num_good 2 (by decide)).seq (num_good 2 (by decide)))).map (fun x => (⟨x.1, x.2.1, x.2.2⟩ : In)) (fun i => (i.op, i.a, i.b)) (fun _ => rfl) (fun _ => rfl)).congr
    (fun i h => by obtain ⟨h1, h2, h3⟩ := h; have := p1; have := p2; exact ⟨⟨h1.1, by show i.op < _; omega⟩, ⟨h2.1, by show i.a < _; omega⟩, ⟨h3.1, by show i.b < _; omega⟩⟩)
    (fun i h => by
      obtain ⟨h1, h2, h3⟩ := h
      show leK 1 i.op ++ (leK 2 i.a ++ leK 2 i.b) = _
      rw [leK1 ⟨h1.1, by omega⟩]; rfl)
theorem body_good : Rd bodyP encBd bodyK :=
  (((num_good 1 (by decide)).seq ((num_good 1 (by decide)).seq ((num_good 1 (by decide)).seq (list_good ins_good 2 400 (by decide) (by decide))))).map (fun x => (⟨x.1, x.2.1, x.2.2.1, x.2.2.2⟩ : Bd)) (fun f => (f.kept, f.locals, f.stack, f.code)) (fun _ => rfl) (fun _ => rfl)).congr
    (fun f h => by obtain ⟨h1, h2, h3, h4, h5⟩ := h; have := p1; exact ⟨⟨h1.1, by show f.kept < _; omega⟩, ⟨h2.1, by show f.locals < _; omega⟩, ⟨by show 0 ≤ f.stack; omega, by show f.stack < _; omega⟩, h4, h5⟩)
    (fun f h => by
      obtain ⟨h1, h2, h3, h4, h5⟩ := h
      show leK 1 f.kept ++ (leK 1 f.locals ++ (leK 1 f.stack ++ (leK 2 (f.code.length : Int) ++ f.code.flatMap encIn))) = _
      rw [leK1 ⟨h1.1, by omega⟩, leK1 ⟨h2.1, by omega⟩, leK1 ⟨by omega, by omega⟩]
      unfold encBd
      simp)
def codeK (c : Cd) : Prop := (0 ≤ c.lets ∧ c.lets ≤ 60) ∧ (c.ints.length ≤ 120 ∧ ∀ n, n ∈ c.ints → -9223372036854775808 ≤ n ∧ n ≤ 9223372036854775807) ∧ (c.texts.length ≤ 120 ∧ ∀ s, s ∈ c.texts → s.length ≤ 60) ∧ c.funs.length ≤ 120 ∧ ∀ f, f ∈ c.funs → bodyK f
/-- A code's bytes behind the three that each begins with. -/
def encR (c : Cd) : By := leK 1 c.lets ++ ((leK 1 (c.ints.length : Int) ++ c.ints.flatMap (leK 8)) ++ ((leK 1 (c.texts.length : Int) ++ c.texts.flatMap encTx) ++ (leK 1 (c.funs.length : Int) ++ c.funs.flatMap encBd)))
theorem code_good : Rd codeP encR codeK :=
  (((num_good 1 (by decide)).seq ((list_good int_good 1 120 (by decide) (by decide)).seq ((list_good text_good 1 120 (by decide) (by decide)).seq (list_good body_good 1 120 (by decide) (by decide))))).map (fun x => (⟨x.2.2.2, x.2.1, x.2.2.1, x.1⟩ : Cd)) (fun c => (c.lets, c.ints, c.texts, c.funs)) (fun _ => rfl) (fun _ => rfl)).congr
    (fun c h => by obtain ⟨h1, h2, h3, h4⟩ := h; have := p1; exact ⟨⟨h1.1, by show c.lets < _; omega⟩, h2, h3, h4⟩)
    (fun c h => rfl)
theorem may_codeK {c : Cd} (h : mayB c = true) : codeK c := by
  have f := may_facts h
  exact ⟨⟨f.lets0, f.lets1⟩, ⟨f.ints, fun n hn => by have := f.eint n hn; omega⟩, ⟨f.texts, f.etext⟩, f.funs, fun g hg => by
    obtain ⟨h1, h2, h3, h4, h5⟩ := f.efun g hg
    exact ⟨h1, h2, h3, h4, h5⟩⟩
theorem enc_encR {c : Cd} (h : codeK c) : enc c = [83, 77, 49] ++ encR c := by
  obtain ⟨h1, h2, h3, h4, _⟩ := h
  unfold enc encR
  rw [leK1 ⟨h1.1, by omega⟩, leK1 ⟨by omega, by omega⟩, leK1 ⟨by omega, by omega⟩, leK1 ⟨by omega, by omega⟩]
  simp
/-- What is answered in the end. -/
def fin (h : By) (r : Cd × St) : Option Cd := if h = [83, 77, 49] ∧ r.2.short = false ∧ r.2.rest = [] ∧ mayB r.1 = true then some r.1 else none
theorem fin_some {h : By} {r : Cd × St} {c : Cd} (e : fin h r = some c) : h = [83, 77, 49] ∧ r.2.short = false ∧ r.2.rest = [] ∧ mayB r.1 = true ∧ r.1 = c := by
  unfold fin at e
  split at e
  · rename_i hc
    exact ⟨hc.1, hc.2.1, hc.2.2.1, hc.2.2.2, Option.some.inj e⟩
  · cases e
/-- What the program answers. -/
def decP (b : By) : Option Cd := fin (nx 3 ⟨b, false⟩).1 (codeP (nx 3 ⟨b, false⟩).2)
theorem decP_sound {b : By} {c : Cd} (h : decP b = some c) : mayB c = true ∧ enc c = b := by
  obtain ⟨h1, h2, h3, h4, h5⟩ := fin_some h
  have hk := may_codeK h4
  have hs := code_good.sound _ h2 hk
  obtain ⟨_, _, h6⟩ := nx_mono 3 ⟨b, false⟩ (code_good.mono _ h2)
  rw [h5] at h4 hk hs
  rw [h1, hs, h3, List.append_nil] at h6
  exact ⟨h4, (enc_encR hk).trans h6.symm⟩
theorem decP_full {c : Cd} (h : mayB c = true) : decP (enc c) = some c := by
  have hk := may_codeK h
  have h1 : nx 3 ⟨enc c, false⟩ = ([83, 77, 49], ⟨encR c, false⟩) := by rw [enc_encR hk]; exact nx_full [83, 77, 49] (encR c)
  have h2 := code_good.full c [] hk
  rw [List.append_nil] at h2
  unfold decP
  rw [h1]
  show fin [83, 77, 49] (codeP ⟨encR c, false⟩) = _
  rw [h2]
  unfold fin
  rw [if_pos ⟨rfl, rfl, rfl, h⟩]

/-! ## The document's way -/
def one (s : St) : Int × St := match s.rest with
  | [] => (0, ⟨[], true⟩)
  | b :: t => ((b.toNat : Int), ⟨t, s.short⟩)
theorem one_is (s : St) : one s = numP 1 s := by
  obtain ⟨r, sh⟩ := s
  cases r with
  | nil => rfl
  | cons b t =>
    have h := b.toNat_lt
    unfold one numP nx
    rw [if_neg (by simp)]
    show _ = (num [b], _)
    rw [num_le (by simp)]
    simp [le]
theorem one_good : Rd one (leK 1) (fun n => 0 ≤ n ∧ n < 256) := by
  have h := num_good 1 (by decide)
  rw [show one = numP 1 from funext one_is]
  exact h
def pair (s : St) : Int × St := ((one s).1 + 256 * (one (one s).2).1, (one (one s).2).2)
end Go.Proofs.Ytpommjmlenfknaa.QC
