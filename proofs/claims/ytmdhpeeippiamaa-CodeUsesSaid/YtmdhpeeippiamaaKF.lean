/- A code's bytes, by the document: the walk. -/
import Derived.Test.YtmdhpeeippiamaaKE
namespace Go.Proofs.Ytmdhpeeippiamaa.KF
open Go.RowKit Go.Proofs.Ytmdhpeeippiamaa.RG Go.Proofs.Ytmdhpeeippiamaa.KA Go.Proofs.Ytmdhpeeippiamaa.KB Go.Proofs.Ytmdhpeeippiamaa.KC Go.Proofs.Ytmdhpeeippiamaa.KD Go.Proofs.Ytmdhpeeippiamaa.KE
set_option linter.unusedVariables false
set_option maxRecDepth 100000

theorem flat_le {α : Type} {f : α → By} {K : Nat} : ∀ (l : List α), (∀ x, x ∈ l → (f x).length ≤ K) → (l.flatMap f).length ≤ K * l.length
  | [], _ => Nat.le_refl _
  | a :: l, h => by
    have h1 := h a List.mem_cons_self
    have h2 := flat_le l fun x hx => h x (List.mem_cons_of_mem _ hx)
    rw [List.flatMap_cons, List.length_append, List.length_cons, Nat.mul_succ]; omega
theorem flat_take_le {α : Type} {f : α → By} {K : Nat} {l : List α} (i : Nat) (h : ∀ x, x ∈ l → (f x).length ≤ K) : ((l.take i).flatMap f).length ≤ K * l.length := by
  have h1 := flat_le (l.take i) fun x hx => h x (List.mem_of_mem_take hx)
  have h2 : K * (l.take i).length ≤ K * l.length := Nat.mul_le_mul_left _ (by rw [List.length_take]; omega)
  omega
theorem flat_snoc {α : Type} {f : α → By} {l : List α} {i : Nat} {x : α} (h : l[i]? = some x) : (l.take (i + 1)).flatMap f = (l.take i).flatMap f ++ f x := by
  rw [List.take_add_one, h, List.flatMap_append]
  simp
structure Facts (c : Cd) : Prop where
  funs : c.funs.length ≤ 120
  ints : c.ints.length ≤ 120
  texts : c.texts.length ≤ 120
  lets0 : 0 ≤ c.lets
  lets1 : c.lets ≤ 60
  eint : ∀ n, n ∈ c.ints → -4611686018427387904 ≤ n ∧ n ≤ 4611686018427387903
  etext : ∀ s, s ∈ c.texts → s.length ≤ 60
  efun : ∀ f, f ∈ c.funs → (0 ≤ f.kept ∧ f.kept ≤ 59) ∧ (0 ≤ f.locals ∧ f.locals ≤ 60) ∧ (1 ≤ f.stack ∧ f.stack ≤ 60) ∧ f.code.length ≤ 400 ∧ ∀ i, i ∈ f.code → (0 ≤ i.op ∧ i.op ≤ 33) ∧ (0 ≤ i.a ∧ i.a ≤ 65535) ∧ 0 ≤ i.b ∧ i.b ≤ 65535
theorem ins_facts {i : In} (h : insOk i = true) : (0 ≤ i.op ∧ i.op ≤ 33) ∧ (0 ≤ i.a ∧ i.a ≤ 65535) ∧ 0 ≤ i.b ∧ i.b ≤ 65535 := by
  unfold insOk at h
  simp only [Bool.and_eq_true, Bool.not_eq_true', Bool.or_eq_false_iff, decide_eq_false_iff_not] at h
  obtain ⟨⟨⟨⟨⟨h1, h2⟩, h3⟩, h4⟩, h5⟩, _⟩ := h
  have hop : ¬ (i.op < 1 ∨ 33 < i.op) := fun hx => h1 (by unfold uses; rw [if_pos hx]; decide)
  omega
theorem may_facts {c : Cd} (h : mayB c = true) : Facts c := by
  unfold mayB headOk at h
  simp only [Bool.and_eq_true, decide_eq_true_eq] at h
  obtain ⟨⟨⟨⟨⟨⟨⟨⟨h1, h2⟩, h3⟩, h4⟩, h5⟩, h6⟩, h7⟩, h8⟩, h9⟩ := h
  refine ⟨h2, h3, h4, h5, h6, fun n hn => ?_, fun s hs => ?_, fun f hf => ?_⟩
  · have := List.all_eq_true.1 h7 n hn
    simpa [intOk] using this
  · have := List.all_eq_true.1 h8 s hs
    simpa [textOk] using this
  · have := List.all_eq_true.1 h9 f hf
    unfold bodyOk at this
    simp only [Bool.and_eq_true, decide_eq_true_eq] at this
    obtain ⟨⟨⟨⟨⟨⟨⟨⟨a1, a2⟩, a3⟩, a4⟩, a5⟩, a6⟩, a7⟩, a8⟩, a9⟩ := this
    exact ⟨⟨a1, a2⟩, ⟨a3, a4⟩, ⟨a5, a6⟩, a8, fun i hi => ins_facts (List.all_eq_true.1 a9 i hi)⟩
theorem encBd_len (f : Bd) : (encBd f).length = 5 + 5 * f.code.length := by
  have h : ∀ l : List In, (l.flatMap encIn).length = 5 * l.length := by
    intro l
    induction l with
    | nil => rfl
    | cons a l ih => rw [List.flatMap_cons, List.length_append, ih]; simp [encIn, leK_len]; omega
  unfold encBd
  rw [List.length_append, List.length_append, h, leK_len]
  simp
/-- The parts of a code's bytes. -/
def pre1 (c : Cd) (i : Nat) : By := [83, 77, 49, by1 c.lets, by1 (c.ints.length : Int)] ++ (c.ints.take i).flatMap (leK 8)
def pre2 (c : Cd) (i : Nat) : By := pre1 c c.ints.length ++ [by1 (c.texts.length : Int)] ++ (c.texts.take i).flatMap encTx
def pre3 (c : Cd) (i : Nat) : By := pre2 c c.texts.length ++ [by1 (c.funs.length : Int)] ++ (c.funs.take i).flatMap encBd
def pre4 (c : Cd) (i : Nat) (f : Bd) (j : Nat) : By := pre3 c i ++ ([by1 f.kept, by1 f.locals, by1 f.stack] ++ leK 2 (f.code.length : Int)) ++ (f.code.take j).flatMap encIn
theorem pre1_le {c : Cd} (h : Facts c) (i : Nat) : (pre1 c i).length ≤ 1000 := by
  have h1 := flat_take_le (f := leK 8) (K := 8) (l := c.ints) i fun x _ => by rw [leK_len]; exact Nat.le_refl _
  have h2 := h.ints
  unfold pre1
  rw [List.length_append]
  simp only [List.length_cons, List.length_nil]
  omega
theorem pre2_le {c : Cd} (h : Facts c) (i : Nat) : (pre2 c i).length ≤ 9000 := by
  have h1 := flat_take_le (f := encTx) (K := 61) (l := c.texts) i fun x hx => by have := h.etext x hx; simp [encTx]; omega
  have h2 := h.texts
  have h3 := pre1_le h c.ints.length
  unfold pre2
  rw [List.length_append, List.length_append]
  simp only [List.length_cons, List.length_nil]
  omega
theorem pre3_le {c : Cd} (h : Facts c) (i : Nat) : (pre3 c i).length ≤ 300000 := by
  have h1 := flat_take_le (f := encBd) (K := 2005) (l := c.funs) i fun x hx => by have := (h.efun x hx).2.2.2.1; rw [encBd_len]; omega
  have h2 := h.funs
  have h3 := pre2_le h c.texts.length
  unfold pre3
  rw [List.length_append, List.length_append]
  simp only [List.length_cons, List.length_nil]
  omega
theorem pre4_le {c : Cd} (h : Facts c) (i : Nat) {f : Bd} (hf : f.code.length ≤ 400) (j : Nat) : (pre4 c i f j).length ≤ 310000 := by
  have h1 := flat_take_le (f := encIn) (K := 5) (l := f.code) j fun x hx => by simp [encIn, leK_len]
  have h3 := pre3_le h i
  unfold pre4
  rw [List.length_append, List.length_append, List.length_append, leK_len]
  simp only [List.length_cons, List.length_nil]
  omega
theorem pre_all (c : Cd) : pre3 c c.funs.length = enc c := by
  unfold pre3 pre2 pre1 enc
  rw [List.take_length, List.take_length, List.take_length]
/-- One byte in a block. -/
theorem rowB1 {w : World} {S : Nat → Prop} {n : Int} (h0 : 0 ≤ n) (h1 : n < 256) : RowR TB (w.alloc (.cells #[.int .u8 n] 5)) S (.slice (some ⟨w.heap.size, 0, none⟩) 1 1) [by1 n] :=
  rowR_new (q := []) #[.int .u8 n] 5 (by show [Value.int .u8 ((by1 n).toNat : Int)] = _; rw [by1_nat h0 h1]) rfl
theorem str_cells (s : By) : Lib.strCells ⟨s.toArray⟩ = bvs s := by unfold Lib.strCells bvs; simp
theorem ownB_base {w : World} {B B' : Nat} {v : Value} {l : By} (hB : B' ≤ B) (h : OwnB w B v l) : OwnB w B' v l := by
  obtain ⟨qs, ⟨h1, h2⟩, h3⟩ := h
  refine ⟨qs, ⟨h1, ?_⟩, h3⟩
  rcases h2 with h2 | ⟨g, cap, cur, hv, hg, r⟩
  · exact .inl h2
  · exact .inr ⟨g, cap, cur, hv, Nat.le_trans hB hg, r⟩
def EncRes (c : Cd) (w : World) (e : Ending) (w' : World) : Prop :=
  (mayB c = true ∧ ∃ v', e = .returned (.tuple #[v', .int .i64 0]) ∧ OwnB w' w.heap.size v' (enc c) ∧ Below w.heap.size w w') ∨ (mayB c = false ∧ e = .returned (.tuple #[.slice none 0 0, .int .i64 1]) ∧ Below w.heap.size w w')
set_option maxHeartbeats 16000000 in
theorem encode_c (c : Cd) (fv iv tv : Value) (w : World) (S : Nat → Prop) (h : HasC w S c fv iv tv) (hl : c.funs.length ≤ 100000 ∧ c.ints.length ≤ 100000 ∧ c.texts.length ≤ 100000 ∧ ∀ f, f ∈ c.funs → f.code.length ≤ 100000) :
    Calls Try.prog 11 #[.agg #[fv, iv, tv, .int .i64 c.lets]] w (EncRes c w) := by
  obtain ⟨fo, fc, rfl, hfc⟩ := h.funs.val
  obtain ⟨io, ic, rfl, hic⟩ := h.ints.val
  obtain ⟨to_, tc, rfl, htc⟩ := h.texts.val
  have HM := fun (w' : World) (hb : Below w.heap.size w w') => may_c c _ _ _ w' S (h.keep hb) hl
  have HH := Lib.hid h
  obtain ⟨NF, hNF⟩ : ∃ x, Hid (c.funs.length = x) := ⟨_, Lib.hid rfl⟩
  obtain ⟨NI, hNI⟩ : ∃ x, Hid (c.ints.length = x) := ⟨_, Lib.hid rfl⟩
  obtain ⟨NT, hNT⟩ : ∃ x, Hid (c.texts.length = x) := ⟨_, Lib.hid rfl⟩
  obtain ⟨LT, hLT⟩ : ∃ x, Hid (c.lets = x) := ⟨_, Lib.hid rfl⟩
  rw [hNF.out] at hfc HH HM ⊢
  rw [hNI.out] at hic HH HM ⊢
  rw [hNT.out] at htc HH HM ⊢
  rw [hLT.out] at HM ⊢
  have HK := Lib.hid (Bk.new w #[.slice fo NF fc, .slice io NI ic, .slice to_ NT tc, .int .i64 LT] 26)
  have HX := Lib.hid (balloc w (.cells #[.slice fo NF fc, .slice io NI ic, .slice to_ NT tc, .int .i64 LT] 26))
  have HM1 := Lib.hid (HM _ HX.out)
  clear h hl HM
  obtain ⟨B0, hB0⟩ : ∃ B, Hid (w.heap.size = B) := ⟨_, Lib.hid rfl⟩
  cases hm : mayB c
  · rw [hm] at HM1
    have HMF := Lib.hid hm
    clear hm
    go_enter Try.func11, Try.ntmps11
    go_wp2_with (go_at_call 14; refine HM1.out.mono ?_; rintro e w3 ⟨rfl, hb⟩; have HX3 := Lib.hid (bnext HX.out hb); clear hb)
    exact bodyPost_ret (v := .tuple #[.slice none 0 0, .int .i64 1]) (by simp [results, Try.results11, go_sem]) rfl (.inr ⟨HMF.out, rfl, HX3.out⟩)
  · rw [hm] at HM1
    have HMT := Lib.hid hm
    have HFC := Lib.hid (may_facts hm)
    have hNIb : NI ≤ 120 := by rw [← hNI.out]; exact HFC.out.ints
    have hNTb : NT ≤ 120 := by rw [← hNT.out]; exact HFC.out.texts
    have hNFb : NF ≤ 120 := by rw [← hNF.out]; exact HFC.out.funs
    clear hm
    have w1 : IntKind.u8.wrap LT = LT := IntWalk.u8_in _ (by have h1 := HFC.out.lets0; have h2 := HFC.out.lets1; rw [hLT.out] at h1 h2; omega)
    have w2 : IntKind.u8.wrap (NI : Int) = (NI : Int) := IntWalk.u8_in _ (by have h1 := HFC.out.ints; rw [hNI.out] at h1; omega)
    have w3' : IntKind.u8.wrap (NT : Int) = (NT : Int) := IntWalk.u8_in _ (by have h1 := HFC.out.texts; rw [hNT.out] at h1; omega)
    have w4' : IntKind.u8.wrap (NF : Int) = (NF : Int) := IntWalk.u8_in _ (by have h1 := HFC.out.funs; rw [hNF.out] at h1; omega)
    go_enter Try.func11, Try.ntmps11
    go_wp2_with (go_at_call 14; refine HM1.out.mono ?_; rintro e w3 ⟨rfl, hb⟩; have HX3 := Lib.hid (bnext HX.out hb); have HK3 := Lib.hid (HK.out.keep hb); clear hb; have k0 := HK3.out.cell 0 _ rfl; have k1 := HK3.out.cell 1 _ rfl; have k2 := HK3.out.cell 2 _ rfl; have k3 := HK3.out.cell 3 _ rfl)
    obtain ⟨Bb, hBb⟩ : ∃ B, Hid (w3.heap.size = B) := ⟨_, Lib.hid rfl⟩
    have hB0b : B0 < Bb := by rw [← hB0.out, ← hBb.out]; exact HK3.out.lt
    have HOW := Lib.hid (show OwnB (w3.alloc (.cells #[.int .u8 83, .int .u8 77, .int .u8 49, .int .u8 LT, .int .u8 (NI : Int)] 5)) Bb (.slice (some ⟨Bb, 0, none⟩) 5 5) (pre1 c 0) from by
      have a1 : ((by1 LT).toNat : Int) = LT := by1_nat (by have h1 := HFC.out.lets0; rw [hLT.out] at h1; exact h1) (by have h2 := HFC.out.lets1; rw [hLT.out] at h2; omega)
      have a2 : ((by1 (NI : Int)).toNat : Int) = (NI : Int) := by1_nat (by omega) (by have h2 := HFC.out.ints; rw [hNI.out] at h2; omega)
      have e : pre1 c 0 = [83, 77, 49, by1 LT, by1 (NI : Int)] := by unfold pre1; rw [hLT.out, hNI.out]; rfl
      rw [e]
      rw [← hBb.out]
      exact ownB_new [83, 77, 49, by1 LT, by1 (NI : Int)] _ (by simp [bvs, a1, a2]) (Nat.le_refl _) (by simp))
    have HXW := Lib.hid (bnext HX3.out (balloc w3 (.cells #[.int .u8 83, .int .u8 77, .int .u8 49, .int .u8 LT, .int .u8 (NI : Int)] 5)))
    have HKW := Lib.hid (show Bk (w3.alloc (.cells #[.int .u8 83, .int .u8 77, .int .u8 49, .int .u8 LT, .int .u8 (NI : Int)] 5)) B0 #[.slice fo NF fc, .slice io NI ic, .slice to_ NT tc, .int .i64 LT] 26 from by rw [← hB0.out]; exact HK3.out.alloc _)
    have HBW := Lib.hid (show Bb ≤ (w3.alloc (.cells #[.int .u8 83, .int .u8 77, .int .u8 49, .int .u8 LT, .int .u8 (NI : Int)] 5)).heap.size from by rw [← hBb.out]; simp)
    rw [hB0.out, hBb.out]
    have hwB : w.heap.size ≤ Bb := by have := hB0.out; omega
    clear k0 k1 k2 k3 HX3 HK3 HX HK
    generalize w3.alloc _ = W at HOW HXW HKW HBW ⊢
    have HA0 := Lib.hid (AppB.refl HOW.out)
    go_loopg [5, 6] NI (fun g bv iv wr => ∃ i : Nat, i + g = NI ∧ iv = .int .i64 (i : Int) ∧ Hid (AppB W wr Bb (.slice (some ⟨Bb, 0, none⟩) 5 5) bv (pre1 c i)))
    case atStart => exact ⟨0, Nat.zero_add _, rfl, HA0⟩
    case round =>
      obtain ⟨i, hi, rfl, HA⟩ := hrel
      clear HA0
      have HX := Lib.hid (HXW.out.trans ((AppB.below HA.out HOW.out HBW.out).mono hwB))
      have HK := Lib.hid (HA.out.bk HKW.out (show (Value.slice (some ⟨Bb, 0, none⟩) 5 5).ownBlock ≠ some B0 from fun e => by have e : Bb = B0 := Option.some.inj e; omega))
      have HS := Lib.hid (show Bb ≤ wr.heap.size from Nat.le_trans HBW.out HA.out.gr.size)
      have k1 := HK.out.cell 1 _ rfl
      have k2 := HK.out.cell 2 _ rfl
      by_cases hlt : i < NI
      · obtain ⟨g, rfl⟩ : ∃ g, gk = g + 1 := ⟨gk - 1, by omega⟩
        have hne : c.ints ≠ [] := by intro e; have := hNI.out; rw [e] at this; simp at this; omega
        have hro := HH.out.ints
        obtain ⟨b, off, cap, hve, _, hblt, hcells⟩ := hro.open_ hne
        rw [hNI.out] at hve
        cases hve
        obtain ⟨n, hn⟩ := getElem?_of_lt (l := c.ints) (k := i) (by rw [hNI.out]; exact hlt)
        obtain ⟨q, hL, _⟩ := hcells i n hn
        have x0 : wr.cell? ⟨b, off + i, none⟩ = some (.int .i64 n) := (HX.out.cell (p := ⟨b, off + i, none⟩) hblt).trans (by have := hL 0 _ rfl; simpa [TI, Ty.flat] using this)
        have hnb := HFC.out.eint n (List.mem_of_getElem? hn)
        have HE := Lib.hid (eight_c u5 (pre1 c i) n Bb wr HA.out.own HS.out (Nat.le_trans (pre1_le HFC.out i) (by decide)) hnb.1 (by omega))
        have HSN := Lib.hid (show pre1 c (i + 1) = pre1 c i ++ leK 8 n from by unfold pre1; rw [flat_snoc hn, List.append_assoc])
        have i0 : (0 : Int) ≤ (i : Int) := by omega
        have i1 : (i : Int) < (NI : Int) := by omega
        clear hcells hL hn hne hro hnb
        go_wp2_with (go_at_call 23; refine HE.out.mono ?_; rintro e w4 ⟨v4, rfl, ha4⟩; have HA4 := Lib.hid (HA.out.trans ha4); clear ha4)
        go_roundg g
        case rel => exact ⟨i + 1, by omega, by go_num, Lib.hid (by rw [HSN.out]; exact HA4.out)⟩
        case measure => omega
      · have hiN : i = c.ints.length := by rw [hNI.out]; omega
        have HAB := Lib.hid (HA.out.step (balloc wr (.cells #[.int .u8 (NT : Int)] 5)))
        have hnt := HFC.out.texts
        rw [hNT.out] at hnt
        have HR := Lib.hid (rowB1 (w := wr) (S := fun b => Any b ∧ Value.ownBlock u5 ≠ some b) (n := (NT : Int)) (by omega) (by omega))
        have HLN := Lib.hid (show (pre1 c i).length + [by1 (NT : Int)].length ≤ 100000000000 from by have := pre1_le HFC.out i; simp; omega)
        have HBS := Lib.hid (show Bb ≤ (wr.alloc (.cells #[.int .u8 (NT : Int)] 5)).heap.size from Nat.le_trans HS.out (balloc wr _).size)
        have HP2 := Lib.hid (show pre1 c i ++ [by1 (NT : Int)] = pre2 c 0 from by unfold pre2; rw [hiN, hNT.out]; simp)
        go_wp2_with (at_builtin; go_loud (refine wpList_row TB (wr.alloc (.cells #[.int .u8 (NT : Int)] 5)) rfl (.tmp 37) (.tmp 42) rfl Bb Any u5 (.slice (some ⟨wr.heap.size, 0, none⟩) 1 1) (pre1 c i) [by1 (NT : Int)] rfl rfl HAB.out.own HR.out HLN.out HBS.out ?_); intro ao6 n6 cap6 w6 hO6 hn6 hg6 ha6; clear hn6; have HA6 := Lib.hid (HAB.out.grown hO6 hg6 ha6); clear hO6 hg6 ha6)
        have HX6 := Lib.hid (HXW.out.trans ((AppB.below HA6.out HOW.out HBW.out).mono hwB))
        have HK6 := Lib.hid (HA6.out.bk HKW.out (show (Value.slice (some ⟨Bb, 0, none⟩) 5 5).ownBlock ≠ some B0 from fun e => by have e : Bb = B0 := Option.some.inj e; omega))
        have HS6 := Lib.hid (show Bb ≤ w6.heap.size from Nat.le_trans HBW.out HA6.out.gr.size)
        have HO6 := Lib.hid (show OwnB w6 Bb (.slice ao6 n6 cap6) (pre2 c 0) from by rw [← HP2.out]; exact HA6.out.own)
        have HB6 := Lib.hid (Below.refl Bb w6)
        clear HA HX HK HS HAB HR HLN HBS HA6 HXW HKW HBW HOW k1 k2 hiN hnt HP2
        go_loopg [5, 7] NT (fun g bv iv wr => ∃ i : Nat, i + g = NT ∧ iv = .int .i64 (i : Int) ∧ Hid (OwnB wr Bb bv (pre2 c i)) ∧ Hid (Below Bb w6 wr))
        case atStart => exact ⟨0, Nat.zero_add _, rfl, HO6, HB6⟩
        case round =>
          obtain ⟨i2, hi2, rfl, HO, HBW⟩ := hrel
          clear HO6 HB6
          have HX := Lib.hid (HX6.out.trans (HBW.out.mono hwB))
          have HK := Lib.hid (show Bk wr B0 _ _ from (HBW.out.block B0 hB0b).trans HK6.out)
          have HS := Lib.hid (show Bb ≤ wr.heap.size from Nat.le_trans HS6.out HBW.out.size)
          have k0 := HK.out.cell 0 _ rfl
          have k2 := HK.out.cell 2 _ rfl
          by_cases hlt2 : i2 < NT
          · obtain ⟨g, rfl⟩ : ∃ g, gk = g + 1 := ⟨gk - 1, by omega⟩
            have hne : c.texts ≠ [] := by intro e; have := hNT.out; rw [e] at this; simp at this; omega
            have hro := HH.out.texts
            obtain ⟨b, off, cap, hve, _, hblt, hcells⟩ := hro.open_ hne
            rw [hNT.out] at hve
            cases hve
            obtain ⟨s, hn⟩ := getElem?_of_lt (l := c.texts) (k := i2) (by rw [hNT.out]; exact hlt2)
            obtain ⟨q, hL, _⟩ := hcells i2 s hn
            have x0 : wr.cell? ⟨b, off + i2, none⟩ = some (.string ⟨s.toArray⟩) := (HX.out.cell (p := ⟨b, off + i2, none⟩) hblt).trans (by have := hL 0 _ rfl; simpa [TT, Ty.flat] using this)
            have HXB := Lib.hid (show b < Bb from by have := hB0.out; omega)
            have hsl := HFC.out.etext s (List.mem_of_getElem? hn)
            have HSN := Lib.hid (show pre2 c (i2 + 1) = (pre2 c i2 ++ [by1 (s.length : Int)]) ++ s from by unfold pre2; rw [flat_snoc hn]; simp [encTx])
            have HPL := Lib.hid (pre2_le HFC.out i2)
            have hsz : (ByteArray.mk s.toArray).size = s.length := rfl
            have ws : IntKind.u8.wrap (s.length : Int) = (s.length : Int) := IntWalk.u8_in _ (by omega)
            have i0 : (0 : Int) ≤ (i2 : Int) := by omega
            have i1 : (i2 : Int) < (NT : Int) := by omega
            have HOA := Lib.hid (HO.out.keep (balloc wr (.cells #[.int .u8 (s.length : Int)] 5)))
            have HOW := Lib.hid (fun b hb => HO.out.own (b := b) hb)
            have HR := Lib.hid (rowB1 (w := wr) (S := fun b => Any b ∧ Value.ownBlock u5 ≠ some b) (n := (s.length : Int)) (by omega) (by omega))
            have HLN := Lib.hid (show (pre2 c i2).length + [by1 (s.length : Int)].length ≤ 100000000000 from by have := HPL.out; simp; omega)
            have HBS := Lib.hid (show Bb ≤ (wr.alloc (.cells #[.int .u8 (s.length : Int)] 5)).heap.size from Nat.le_trans HS.out (balloc wr _).size)
            obtain ⟨iB, hiB, hzB, hsB', hbB⟩ := info_parts TB.info
            have HIB := Lib.hid (show Try.prog.info? 5 = some iB ∧ iB.zero = some (.int .u8 0) ∧ iB.size = 1 ∧ iB.bytes = 1 from ⟨hiB, hzB, hsB', hbB⟩)
            have HSL := Lib.hid (show (pre2 c i2 ++ [by1 (s.length : Int)]).length + (ByteArray.mk s.toArray).size ≤ maxLen ∧ (pre2 c i2 ++ [by1 (s.length : Int)]).length + (ByteArray.mk s.toArray).size ≤ 140737488355328 from by have := HPL.out; rw [hsz, List.length_append]; unfold maxLen; simp only [List.length_cons, List.length_nil]; omega)
            have HBX := Lib.hid (show Below Bb w6 (wr.alloc (.cells #[.int .u8 (s.length : Int)] 5)) from HBW.out.trans ((balloc wr _).mono HS.out))
            clear hcells hL hn hne hro hiB hzB hsB' hbB
            go_wp2_with (at_builtin; go_loud (first | (refine wpList_row TB (wr.alloc (.cells #[.int .u8 (s.length : Int)] 5)) rfl (.tmp 51) (.tmp 59) rfl Bb Any u5 (.slice (some ⟨wr.heap.size, 0, none⟩) 1 1) (pre2 c i2) [by1 (s.length : Int)] rfl rfl HOA.out HR.out HLN.out HBS.out ?_; intro ao7 n7 cap7 w7 hO7 hn7 hg7 ha7; clear hn7; have HB7 := Lib.hid (HBX.out.trans (bgrown hg7 (fun b hb => (HOW.out b hb).1) HBS.out)); have HO7 := Lib.hid hO7; clear hO7 hg7 ha7; have K7 : Bk w7 B0 #[.slice fo NF fc, .slice io NI ic, .slice (some ⟨b, off, none⟩) NT tc, .int .i64 LT] 26 := (HB7.out.block B0 hB0b).trans HK6.out; have k2b := K7.cell 2 _ rfl; have x0b := ((HB7.out.cell (p := ⟨b, off + i2, none⟩) HXB.out).trans ((HBW.out.cell (p := ⟨b, off + i2, none⟩) HXB.out).symm.trans x0))) | (refine Lib.wpList_append_own_string w7 rfl (.tmp 61) (.tmp 66) 28 9 rfl Bb 5 iB Try.underlying28 Try.underlying9 HIB.out.1 HIB.out.2.1 HIB.out.2.2.1 HIB.out.2.2.2 (.slice ao7 n7 cap7) (pre2 c i2 ++ [by1 (s.length : Int)]).length (bvs (pre2 c i2 ++ [by1 (s.length : Int)])) rfl (ownB_row HO7.out) ⟨s.toArray⟩ rfl HSL.out.1 HSL.out.2 (Nat.le_trans HS6.out HB7.out.size) ?_; intro v8 w8 hO8 hg8 _; have HO8 := Lib.hid (show OwnB w8 Bb v8 (pre2 c (i2 + 1)) from by rw [HSN.out]; exact ownB_of (by rw [str_cells] at hO8; unfold bvs at hO8 ⊢; rw [List.map_append]; exact hO8) (by rw [hsz, ← List.length_append])); have HB8 := Lib.hid (HB7.out.trans (bgrown hg8 (fun b hb => (HO7.out.own hb).1) (Nat.le_trans HS6.out HB7.out.size))); clear hO8 hg8)))
            go_roundg g
            case rel => exact ⟨i2 + 1, by omega, by go_num, HO8, HB8⟩
            case measure => omega
          · have hiT : i2 = c.texts.length := by rw [hNT.out]; omega
            have HA0 := Lib.hid (AppB.refl HO.out)
            have HAB := Lib.hid (HA0.out.step (balloc wr (.cells #[.int .u8 (NF : Int)] 5)))
            have HR := Lib.hid (rowB1 (w := wr) (S := fun b => Any b ∧ Value.ownBlock u5 ≠ some b) (n := (NF : Int)) (by omega) (by omega))
            have HLN := Lib.hid (show (pre2 c i2).length + [by1 (NF : Int)].length ≤ 100000000000 from by have := pre2_le HFC.out i2; simp; omega)
            have HBS := Lib.hid (show Bb ≤ (wr.alloc (.cells #[.int .u8 (NF : Int)] 5)).heap.size from Nat.le_trans HS.out (balloc wr _).size)
            have HP3 := Lib.hid (show pre2 c i2 ++ [by1 (NF : Int)] = pre3 c 0 from by unfold pre3; rw [hiT, hNF.out]; simp)
            go_wp2_with (at_builtin; go_loud (refine wpList_row TB (wr.alloc (.cells #[.int .u8 (NF : Int)] 5)) rfl (.tmp 68) (.tmp 73) rfl Bb Any u5 (.slice (some ⟨wr.heap.size, 0, none⟩) 1 1) (pre2 c i2) [by1 (NF : Int)] rfl rfl HAB.out.own HR.out HLN.out HBS.out ?_); intro ao7 n7 cap7 w7 hO7 hn7 hg7 ha7; clear hn7; have HA7 := Lib.hid (HAB.out.grown hO7 hg7 ha7); clear hO7 hg7 ha7)
            have HB7 := Lib.hid (AppB.below HA7.out HO.out HS.out)
            have HX7 := Lib.hid (HX.out.trans (HB7.out.mono hwB))
            have HK7 := Lib.hid (show Bk w7 B0 #[.slice fo NF fc, .slice io NI ic, .slice to_ NT tc, .int .i64 LT] 26 from (HB7.out.block B0 hB0b).trans HK.out)
            have HS7 := Lib.hid (show Bb ≤ w7.heap.size from Nat.le_trans HS.out HB7.out.size)
            have HO7 := Lib.hid (show OwnB w7 Bb (.slice ao7 n7 cap7) (pre3 c 0) from by rw [← HP3.out]; exact HA7.out.own)
            have HA8 := Lib.hid (AppB.refl HO7.out)
            clear HO HBW HX HK HS HA0 HAB HR HLN HBS HP3 HA7 HB7 k0 k2 hiT HX6 HK6 HS6
            go_loopg [5, 8, 9, 10] NF (fun g bv iv s9 s10 wr => ∃ i : Nat, i + g = NF ∧ iv = .int .i64 (i : Int) ∧ Hid (AppB w7 wr Bb (.slice ao7 n7 cap7) bv (pre3 c i)))
            case atStart => exact ⟨0, Nat.zero_add _, rfl, HA8⟩
            case round =>
              obtain ⟨i3, hi3, rfl, HA⟩ := hrel
              clear HA8
              have HBR := Lib.hid (AppB.below HA.out HO7.out HS7.out)
              have HX := Lib.hid (HX7.out.trans (HBR.out.mono hwB))
              have HK := Lib.hid (show Bk wr B0 #[.slice fo NF fc, .slice io NI ic, .slice to_ NT tc, .int .i64 LT] 26 from (HBR.out.block B0 hB0b).trans HK7.out)
              have HS := Lib.hid (show Bb ≤ wr.heap.size from Nat.le_trans HS7.out HA.out.gr.size)
              have k0 := HK.out.cell 0 _ rfl
              by_cases hlt3 : i3 < NF
              · obtain ⟨g, rfl⟩ : ∃ g, gk = g + 1 := ⟨gk - 1, by omega⟩
                have hne : c.funs ≠ [] := by intro e; have := hNF.out; rw [e] at this; simp at this; omega
                have hro := HH.out.funs
                obtain ⟨b, off, cap, hve, _, hblt, hcells⟩ := hro.open_ hne
                rw [hNF.out] at hve
                cases hve
                obtain ⟨f, hf⟩ := getElem?_of_lt (l := c.funs) (k := i3) (by rw [hNF.out]; exact hlt3)
                obtain ⟨q, hL, hq⟩ := hcells i3 f hf
                obtain ⟨qv, rfl, hrow⟩ := hasBd_row hq
                obtain ⟨co, cc, rfl, hcc⟩ := hrow.val
                have hff := HFC.out.efun f (List.mem_of_getElem? hf)
                have HF := Lib.hid hf
                have hL2 := hL.keep HX.out hblt
                obtain ⟨ke, lo, st, code⟩ := f
                simp only at hcc hrow hL2 hff
                have HINS := Lib.hid hff.2.2.2.2
                obtain ⟨NC, hNC⟩ : ∃ x, Hid (code.length = x) := ⟨_, Lib.hid rfl⟩
                rw [hNC.out] at hcc hrow hL2 hff
                have x0 : wr.cell? ⟨b, off + i3 * 4, none⟩ = some (.int .i64 ke) := hL2 0 _ rfl
                have x1 : wr.cell? ⟨b, off + i3 * 4 + 1, none⟩ = some (.int .i64 lo) := hL2 1 _ rfl
                have x2 : wr.cell? ⟨b, off + i3 * 4 + 2, none⟩ = some (.int .i64 st) := hL2 2 _ rfl
                have x3 : wr.cell? ⟨b, off + i3 * 4 + 3, none⟩ = some (.slice co NC cc) := hL2 3 _ rfl
                have HROW := Lib.hid hrow
                have i0 : (0 : Int) ≤ (i3 : Int) := by omega
                have i1 : (i3 : Int) < (NF : Int) := by omega
                have u1 : IntKind.u8.wrap ke = ke := IntWalk.u8_in _ (by omega)
                have u2 : IntKind.u8.wrap lo = lo := IntWalk.u8_in _ (by omega)
                have u3 : IntKind.u8.wrap st = st := IntWalk.u8_in _ (by omega)
                have hNCb : NC ≤ 400 := hff.2.2.2.1
                obtain ⟨P, hP⟩ : ∃ P, Hid (wr.heap.size = P) := ⟨_, Lib.hid rfl⟩
                have HBX := Lib.hid (show Bk (wr.alloc (.cells #[.int .i64 ke, .int .i64 lo, .int .i64 st, .slice co NC cc] 45)) P #[.int .i64 ke, .int .i64 lo, .int .i64 st, .slice co NC cc] 45 from by rw [← hP.out]; exact Bk.new wr _ _)
                have HNP := Lib.hid (show Value.ownBlock u5 ≠ some P from fun e => by have := (HA.out.own.own e).2; have := hP.out; omega)
                have HA1 := Lib.hid (HA.out.step (balloc wr (.cells #[.int .i64 ke, .int .i64 lo, .int .i64 st, .slice co NC cc] 45)))
                have hP1 : (wr.alloc (.cells #[.int .i64 ke, .int .i64 lo, .int .i64 st, .slice co NC cc] 45)).heap.size = P + 1 := by simp [hP.out]
                have HXA := Lib.hid (bnext HX.out (balloc wr (.cells #[.int .i64 ke, .int .i64 lo, .int .i64 st, .slice co NC cc] 45)))
                have HS1 := Lib.hid (show Bb ≤ (wr.alloc (.cells #[.int .i64 ke, .int .i64 lo, .int .i64 st, .slice co NC cc] 45)).heap.size from Nat.le_trans HS.out (balloc wr _).size)
                have HR := Lib.hid (show RowR TB ((wr.alloc (.cells #[.int .i64 ke, .int .i64 lo, .int .i64 st, .slice co NC cc] 45)).alloc (.cells #[.int .u8 ke, .int .u8 lo, .int .u8 st] 5)) (fun b => Any b ∧ Value.ownBlock u5 ≠ some b) (.slice (some ⟨P + 1, 0, none⟩) 3 3) [by1 ke, by1 lo, by1 st] from by
                  have a1 : ((by1 ke).toNat : Int) = ke := by1_nat (by omega) (by omega)
                  have a2 : ((by1 lo).toNat : Int) = lo := by1_nat (by omega) (by omega)
                  have a3 : ((by1 st).toNat : Int) = st := by1_nat (by omega) (by omega)
                  have ho := ownB_new (w := wr.alloc (.cells #[.int .i64 ke, .int .i64 lo, .int .i64 st, .slice co NC cc] 45)) (B := (wr.alloc (.cells #[.int .i64 ke, .int .i64 lo, .int .i64 st, .slice co NC cc] 45)).heap.size) [by1 ke, by1 lo, by1 st] #[.int .u8 ke, .int .u8 lo, .int .u8 st] (by simp [bvs, a1, a2, a3]) (Nat.le_refl _) (by simp)
                  rw [hP1] at ho
                  obtain ⟨qs, h3, h4⟩ := ho.rw
                  exact ⟨qs, h3.mv (Mv.weak _ fun _ _ _ => trivial), by rw [hsB_eq h4]; exact hsB _⟩)
                clear hcells hL hL2 hf hne hq hrow hro HK
                have HB1 := Lib.hid (AppB.refl HA1.out.own)
                have HB2 := Lib.hid (HB1.out.step (balloc (wr.alloc (.cells #[.int .i64 ke, .int .i64 lo, .int .i64 st, .slice co NC cc] 45)) (.cells #[.int .u8 ke, .int .u8 lo, .int .u8 st] 5)))
                have HL3 := Lib.hid (show (pre3 c i3).length + [by1 ke, by1 lo, by1 st].length ≤ 100000000000 from by have := pre3_le HFC.out i3; simp; omega)
                have HS2 := Lib.hid (show Bb ≤ ((wr.alloc (.cells #[.int .i64 ke, .int .i64 lo, .int .i64 st, .slice co NC cc] 45)).alloc (.cells #[.int .u8 ke, .int .u8 lo, .int .u8 st] 5)).heap.size from Nat.le_trans HS1.out (balloc _ _).size)
                go_wp2_with (at_builtin; go_loud (refine wpList_row TB ((wr.alloc (.cells #[.int .i64 ke, .int .i64 lo, .int .i64 st, .slice co NC cc] 45)).alloc (.cells #[.int .u8 ke, .int .u8 lo, .int .u8 st] 5)) rfl (.tmp 87) (.tmp 97) rfl Bb Any u5 (.slice (some ⟨P + 1, 0, none⟩) 3 3) (pre3 c i3) [by1 ke, by1 lo, by1 st] rfl (by first | rfl | (simp [hP.out]; done)) HB2.out.own HR.out HL3.out HS2.out ?_); intro ao8 n8 cap8 w8 hO8 hn8 hg8 ha8; clear hn8; have HLA := Lib.hid (HB2.out.grown hO8 hg8 ha8); clear hO8 hg8 ha8; have HBX8 := Lib.hid (HLA.out.bk HBX.out HNP.out); have y3 := HBX8.out.cell 3 _ rfl; rw [← hP.out] at y3)
                have HS8 := Lib.hid (show Bb ≤ w8.heap.size from Nat.le_trans HS1.out HLA.out.gr.size)
                refine (two_c (.slice ao8 n8 cap8) (pre3 c i3 ++ [by1 ke, by1 lo, by1 st]) (NC : Int) Bb w8 HLA.out.own HS8.out (by have := pre3_le HFC.out i3; rw [List.length_append]; simp; omega) (by omega) (by omega)).mono ?_
                rintro e w9 ⟨v9, rfl, ha9⟩
                have HL9 := Lib.hid (show AppB _ w9 Bb u5 v9 (pre4 c i3 ⟨ke, lo, st, code⟩ 0) from by
                  have h := HLA.out.trans ha9
                  have e : (pre3 c i3 ++ [by1 ke, by1 lo, by1 st]) ++ leK 2 (NC : Int) = pre4 c i3 ⟨ke, lo, st, code⟩ 0 := by unfold pre4; rw [hNC.out]; simp
                  rw [← e]; exact h)
                have HBX9 := Lib.hid (HL9.out.bk HBX.out HNP.out)
                have HNP9 := Lib.hid (HL9.out.far (b := P) (by rw [hP1]; omega) HNP.out)
                have HS9 := Lib.hid (show Bb ≤ w9.heap.size from Nat.le_trans HS1.out HL9.out.gr.size)
                have HA9 := Lib.hid (HA1.out.trans HL9.out)
                have HX9 := Lib.hid (HX7.out.trans ((AppB.below HA9.out HO7.out HS7.out).mono hwB))
                have HA10 := Lib.hid (AppB.refl HL9.out.own)
                have HO9 := Lib.hid HL9.out.own
                clear ha9 HLA HB1 HB2 HL3 HS2 HR HBX8 y3 x0 x1 x2 x3 k0 HS8 HBR HX HXA HBX HA1 HS1 hP1 HL9
                go_wp2_with fail
                rw [hP.out]
                go_loopg [5, 10] NC (fun g bv jv wr => ∃ j : Nat, j + g = NC ∧ jv = .int .i64 (j : Int) ∧ Hid (AppB w9 wr Bb v9 bv (pre4 c i3 ⟨ke, lo, st, code⟩ j)))
                case atStart => exact ⟨0, Nat.zero_add _, rfl, HA10⟩
                case round =>
                  obtain ⟨j, hj, rfl, HAJ⟩ := hrel
                  clear HA10
                  have HBJ := Lib.hid (AppB.below HAJ.out HO9.out HS9.out)
                  have HXJ := Lib.hid (HX9.out.trans (HBJ.out.mono hwB))
                  have HBXJ := Lib.hid (HAJ.out.bk HBX9.out HNP9.out)
                  have HSJ := Lib.hid (show Bb ≤ wr.heap.size from Nat.le_trans HS9.out HAJ.out.gr.size)
                  have y3 := HBXJ.out.cell 3 _ rfl
                  by_cases hltj : j < NC
                  · obtain ⟨g4, rfl⟩ : ∃ g, gk = g + 1 := ⟨gk - 1, by omega⟩
                    have hne : code ≠ [] := by intro e; have := hNC.out; rw [e] at this; simp at this; omega
                    have hro := HROW.out
                    rw [← hNC.out] at hro
                    obtain ⟨b5, off5, cap5, hve, _, hblt5, hcells⟩ := hro.open_ hne
                    cases hve
                    obtain ⟨ins, hi⟩ := getElem?_of_lt (l := code) (k := j) (by rw [hNC.out]; exact hltj)
                    obtain ⟨q, hL, _⟩ := hcells j ins hi
                    have hL2 := hL.keep HXJ.out hblt5
                    have hii := HINS.out ins (List.mem_of_getElem? hi)
                    have HSN := Lib.hid (show pre4 c i3 ⟨ke, lo, st, code⟩ (j + 1) = pre4 c i3 ⟨ke, lo, st, code⟩ j ++ encIn ins from by unfold pre4; rw [flat_snoc hi, List.append_assoc (_ ++ _)])
                    obtain ⟨op, ia, ib⟩ := ins
                    simp only at hii
                    have x0 : wr.cell? ⟨b5, off5 + j * 3, none⟩ = some (.int .i64 op) := hL2 0 _ rfl
                    have HX1 := Lib.hid (show wr.cell? ⟨b5, off5 + j * 3 + 1, none⟩ = some (.int .i64 ia) from hL2 1 _ rfl)
                    have HX2 := Lib.hid (show wr.cell? ⟨b5, off5 + j * 3 + 2, none⟩ = some (.int .i64 ib) from hL2 2 _ rfl)
                    have HB5 := Lib.hid (show b5 < Bb from by have := hB0.out; omega)
                    have i2 : (0 : Int) ≤ (j : Int) := by omega
                    have i3' : (j : Int) < (code.length : Int) := by rw [hNC.out]; omega
                    have uo : IntKind.u8.wrap op = op := IntWalk.u8_in _ (by omega)
                    have HNPJ := Lib.hid (HAJ.out.far (b := P) HBX9.out.lt HNP9.out)
                    have HJ1 := Lib.hid (AppB.refl HAJ.out.own)
                    have HJ2 := Lib.hid (HJ1.out.step (balloc wr (.cells #[.int .u8 op] 5)))
                    have HR := Lib.hid (rowB1 (w := wr) (S := fun b => Any b ∧ Value.ownBlock u5 ≠ some b) (n := op) (by omega) (by omega))
                    have HPL := Lib.hid (pre4_le HFC.out i3 (f := ⟨ke, lo, st, code⟩) (show code.length ≤ 400 by rw [hNC.out]; exact hNCb) j)
                    have HLN := Lib.hid (show (pre4 c i3 ⟨ke, lo, st, code⟩ j).length + [by1 op].length ≤ 100000000000 from by have := HPL.out; simp; omega)
                    have HBS := Lib.hid (show Bb ≤ (wr.alloc (.cells #[.int .u8 op] 5)).heap.size from Nat.le_trans HSJ.out (balloc wr _).size)
                    clear hcells hL hL2 hi hne hro
                    go_wp2_with (at_builtin; go_loud (refine wpList_row TB (wr.alloc (.cells #[.int .u8 op] 5)) rfl (.tmp 111) (.tmp 119) rfl Bb Any u5 (.slice (some ⟨wr.heap.size, 0, none⟩) 1 1) (pre4 c i3 ⟨ke, lo, st, code⟩ j) [by1 op] rfl rfl HJ2.out.own HR.out HLN.out HBS.out ?_); intro ao11 n11 cap11 w11 hO11 hn11 hg11 ha11; clear hn11; have HJ3 := Lib.hid (HJ2.out.grown hO11 hg11 ha11); clear hO11 hg11 ha11; have HB11 := Lib.hid (AppB.below HJ3.out HJ1.out.own HSJ.out); have y3b := (HJ3.out.bk HBXJ.out HNPJ.out).cell 3 _ rfl; have x1b := (HB11.out.cell (p := ⟨b5, off5 + j * 3 + 1, none⟩) HB5.out).trans HX1.out)
                    have HS11 := Lib.hid (show Bb ≤ w11.heap.size from Nat.le_trans HSJ.out HJ3.out.gr.size)
                    refine (two_c (.slice ao11 n11 cap11) (pre4 c i3 ⟨ke, lo, st, code⟩ j ++ [by1 op]) ia Bb w11 HJ3.out.own HS11.out (by have := HPL.out; rw [List.length_append]; simp; omega) (by omega) (by omega)).mono ?_
                    rintro e w12 ⟨v12, rfl, ha12⟩
                    have HJ4 := Lib.hid (HJ3.out.trans ha12)
                    have HB12 := Lib.hid (AppB.below HJ4.out HJ1.out.own HSJ.out)
                    have y3c := (HJ4.out.bk HBXJ.out HNPJ.out).cell 3 _ rfl
                    have x2c := (HB12.out.cell (p := ⟨b5, off5 + j * 3 + 2, none⟩) HB5.out).trans HX2.out
                    have HS12 := Lib.hid (show Bb ≤ w12.heap.size from Nat.le_trans HSJ.out HJ4.out.gr.size)
                    clear ha12
                    go_wp2_with fail
                    refine (two_c v12 _ ib Bb w12 HJ4.out.own HS12.out (by have := HPL.out; rw [List.length_append, List.length_append, leK_len]; simp; omega) (by omega) (by omega)).mono ?_
                    rintro e w13 ⟨v13, rfl, ha13⟩
                    have HJ5 := Lib.hid (show AppB w9 w13 Bb v9 v13 (pre4 c i3 ⟨ke, lo, st, code⟩ (j + 1)) from by
                      have h := HAJ.out.trans (HJ4.out.trans ha13)
                      have e : ((pre4 c i3 ⟨ke, lo, st, code⟩ j ++ [by1 op]) ++ leK 2 ia) ++ leK 2 ib = pre4 c i3 ⟨ke, lo, st, code⟩ (j + 1) := by rw [HSN.out]; unfold encIn; simp
                      rw [← e]; exact h)
                    clear ha13
                    go_wp2_with fail
                    go_roundg g4
                    case rel => exact ⟨j + 1, by omega, by go_num, HJ5⟩
                    case measure => omega
                  · have HJE := Lib.hid (show AppB w7 wr Bb (.slice ao7 n7 cap7) u5 (pre3 c (i3 + 1)) from by
                      have h := HA9.out.trans HAJ.out
                      have e : pre4 c i3 ⟨ke, lo, st, code⟩ j = pre3 c (i3 + 1) := by
                        unfold pre4
                        have e2 : pre3 c (i3 + 1) = pre3 c i3 ++ encBd ⟨ke, lo, st, code⟩ := by unfold pre3; rw [flat_snoc HF.out, List.append_assoc (_ ++ _)]
                        rw [e2]
                        show (pre3 c i3 ++ ([by1 ke, by1 lo, by1 st] ++ leK 2 (code.length : Int))) ++ (code.take j).flatMap encIn = _
                        rw [List.take_of_length_le (by rw [hNC.out]; omega), List.append_assoc]; rfl
                      rw [← e]; exact h)
                    go_wp2_with fail
                    go_roundg g
                    case rel => exact ⟨i3 + 1, by omega, by go_num, HJE⟩
                    case measure => omega
              · have hiF : i3 = c.funs.length := by rw [hNF.out]; omega
                have HOF := Lib.hid (show OwnB wr Bb u5 (enc c) from by rw [← pre_all, ← hiF]; exact HA.out.own)
                go_wp2_with fail
                exact bodyPost_ret (v := .tuple #[u5, .int .i64 0]) (by simp [results, Try.results11, go_sem]) rfl (.inl ⟨HMT.out, _, rfl, ownB_base hwB HOF.out, HX.out⟩)
end Go.Proofs.Ytmdhpeeippiamaa.KF
