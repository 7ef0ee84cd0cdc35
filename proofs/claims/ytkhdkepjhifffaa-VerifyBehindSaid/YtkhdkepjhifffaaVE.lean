/- The program's walk through a function in memory; how it comes to an instruction. -/
import Derived.Test.YtkhdkepjhifffaaVD
import Derived.BigRegion
namespace Go.Proofs.Ytkhdkepjhifffaa.VE
open Go.RowKit Go.Proofs.Ytkhdkepjhifffaa.RG Go.Proofs.Ytkhdkepjhifffaa.RB Go.Proofs.Ytkhdkepjhifffaa.KA Go.Proofs.Ytkhdkepjhifffaa.KB Go.Proofs.Ytkhdkepjhifffaa.KH Go.Proofs.Ytkhdkepjhifffaa.VA Go.Proofs.Ytkhdkepjhifffaa.VB Go.Proofs.Ytkhdkepjhifffaa.VC Go.Proofs.Ytkhdkepjhifffaa.VD
set_option linter.unusedVariables false
set_option maxRecDepth 100000
set_option maxRecDepth 100000

/-- A state is put into its two cells. -/
theorem put_state {w : World} {S : Nat → Prop} {b i : Nat} {L : List Sx} {t s : Sx} {mv : Value} (h : RowB TS w S b L) (ht : L[i]? = some t) (hm : RowM TM w S mv s.ms) (hS : ∀ x, S x → x ≠ b) :
    RowB TS ((w.setCell ⟨b, i * 2, none⟩ (.int .i64 s.dep)).setCell ⟨b, i * 2 + 1, none⟩ mv) S b (L.set i s) := by
  have h1 : RowB TS (w.setCell ⟨b, i * 2, none⟩ (.int .i64 s.dep)) S b (L.set i ⟨s.dep, t.ms⟩) := h.set (i := i) (j := 0) ht hS (by decide) (fun q hq => ⟨q, rfl, hasM.mv (mv_set hS _ _) hq⟩)
  have hl := (List.getElem?_eq_some_iff.1 ht).1
  have h2 := h1.set (i := i) (j := 1) (t := ⟨s.dep, t.ms⟩) (p := s) (v := mv) (by simp [hl]) hS (by decide) (fun q hq => ⟨[mv], rfl, (hm.mv (mv_set hS _ _)).mv (mv_set hS _ _)⟩)
  rw [List.set_set] at h2
  exact h2
/-- Where marks may lie. -/
def Sm (p sb : Nat) (ov : Value) : Nat → Prop := fun b => b ≠ p ∧ b ≠ sb ∧ ov.ownBlock ≠ some b
/-- What a walk does not write. -/
structure Fr (p sb : Nat) (ov ov' : Value) (w w' : World) : Prop where
  os : w'.os = w.os
  tape : w'.tape = w.tape
  output : w'.output = w.output
  size : w.heap.size ≤ w'.heap.size
  block : ∀ k, k < w.heap.size → k ≠ p → k ≠ sb → ov.ownBlock ≠ some k → w'.heap[k]? = w.heap[k]?
  own : ∀ g, ov'.ownBlock = some g → ov.ownBlock = some g ∨ w.heap.size ≤ g
theorem Fr.of {p sb : Nat} {ov : Value} {w w' : World} (h : Below w.heap.size w w') : Fr p sb ov ov w w' := ⟨h.os, h.tape, h.output, h.size, fun k hk _ _ _ => h.block k hk, fun g hg => .inl hg⟩
theorem Fr.trans {p sb : Nat} {o1 o2 o3 : Value} {a b c : World} (h : Fr p sb o1 o2 a b) (k : Fr p sb o2 o3 b c) : Fr p sb o1 o3 a c :=
  ⟨k.os.trans h.os, k.tape.trans h.tape, k.output.trans h.output, Nat.le_trans h.size k.size, fun i hi hp hs ho => (k.block i (Nat.lt_of_lt_of_le hi h.size) hp hs fun e => by
      rcases h.own i e with e | e
      · exact ho e
      · omega).trans (h.block i hi hp hs ho), fun g hg => by
    rcases k.own g hg with e | e
    · exact h.own g e
    · exact .inr (Nat.le_trans h.size e)⟩
theorem Fr.below {p sb B : Nat} {ov ov' : Value} {w w' : World} (h : Fr p sb ov ov' w w') (hp : B ≤ p) (hs : B ≤ sb) (ho : ∀ g, ov.ownBlock = some g → B ≤ g) (hB : B ≤ w.heap.size) : Below B w w' :=
  ⟨h.os, h.tape, h.output, h.size, fun k hk => h.block k (by omega) (by omega) (by omega) fun e => by have := ho k e; omega⟩
theorem Fr.bk {p sb b : Nat} {ov ov' : Value} {w w' : World} {c : Array Value} {t : TypeId} (h : Fr p sb ov ov' w w') (hk : Bk w b c t) (hp : b ≠ p) (hs : b ≠ sb) (ho : ov.ownBlock ≠ some b) : Bk w' b c t := (h.block b hk.lt hp hs ho).trans hk
theorem Fr.mv {p sb : Nat} {ov ov' : Value} {w w' : World} (h : Fr p sb ov ov' w w') : Mv w w' (Sm p sb ov) (Sm p sb ov') :=
  ⟨h.size, fun b hb hlt => ⟨⟨hb.1, hb.2.1, fun e => by
    rcases h.own b e with e | e
    · exact hb.2.2 e
    · omega⟩, h.block b hlt hb.1 hb.2.1 hb.2.2⟩⟩
/-- What of a walk does not turn. -/
structure WC where
  fv : Value
  iv : Value
  tv : Value
  lets : Int
  num : Int
  ke : Int
  lo : Int
  st : Int
  cv : Value
  mp : Value
  sb : Nat
  N : Nat
def wcells (k : WC) (ov : Value) : Array Value := #[k.fv, k.iv, k.tv, .int .i64 k.lets, .int .i64 k.num, .int .i64 k.ke, .int .i64 k.lo, .int .i64 k.st, k.cv, k.mp, .slice (some ⟨k.sb, 0, none⟩) k.N k.N, ov]
structure WK (B : Nat) (w : World) (p : Nat) (k : WC) (ov : Value) (A : Row) (O : List Nat) : Prop where
  blk : Bk w p (wcells k ov) 69
  sts : RowB TS w (Sm p k.sb ov) k.sb (A.map rawP)
  opn : OwnR TI w B (fun _ => False) ov (O.map Int.ofNat)
  len : A.length = k.N
  hp : B ≤ p
  hs : B ≤ k.sb
  hps : p ≠ k.sb
  hop : ∀ g, ov.ownBlock = some g → g ≠ p ∧ g ≠ k.sb
  gd : ∀ (a : Nat) (s : Sx), A[a]? = some (some s) → 0 ≤ s.dep ∧ s.ms.length ≤ 1000000
theorem WK.keep {B : Nat} {w w' : World} {p : Nat} {k : WC} {ov : Value} {A : Row} {O : List Nat} (h : WK B w p k ov A O) (hb : Below w.heap.size w w') : WK B w' p k ov A O :=
  ⟨h.blk.keep hb, h.sts.keep hb, h.opn.keep hb, h.len, h.hp, h.hs, h.hps, h.hop, h.gd⟩
theorem WK.bel {B : Nat} {w w' : World} {p : Nat} {k : WC} {ov ov' : Value} {A : Row} {O : List Nat} (h : WK B w p k ov A O) (hf : Fr p k.sb ov ov' w w') : Below B w w' :=
  hf.below h.hp h.hs (fun g hg => (h.opn.own hg).1) (Nat.le_trans h.hp (Nat.le_of_lt h.blk.lt))
/-- Which are to be gone on from, behind a state is put. -/
def addO (A : Row) (O : List Nat) (x : Nat × Sx) : List Nat := if A[x.1]? = some none then O ++ [x.1] else O
def PutRes (B : Nat) (p : Nat) (k : WC) (ov : Value) (A : Row) (O : List Nat) (x : Nat × Sx) (w : World) (e : Ending) (w' : World) : Prop :=
  (∃ A' ov', put k.st A x = some A' ∧ e = .returned (.bool true) ∧ WK B w' p k ov' A' (addO A O x) ∧ Fr p k.sb ov ov' w w') ∨ (put k.st A x = none ∧ e = .returned (.bool false) ∧ Below B w w')
theorem put_over {K : Int} {A : Row} {x : Nat × Sx} (h : A.length ≤ x.1) : put K A x = none := by
  unfold put
  rw [List.getElem?_eq_none h]
theorem put_deep {K : Int} {A : Row} {x : Nat × Sx} (h : K < x.2.dep) : put K A x = none := by
  unfold put
  split
  · rfl
  · rw [if_pos h]
theorem put_new {K : Int} {A : Row} {x : Nat × Sx} (h : A[x.1]? = some none) (hk : ¬ K < x.2.dep) : put K A x = some (A.set x.1 (some x.2)) := by
  unfold put
  rw [h]
  simp only
  rw [if_neg hk]
theorem put_old {K : Int} {A : Row} {x : Nat × Sx} {s : Sx} (h : A[x.1]? = some (some s)) (hk : ¬ K < x.2.dep) : put K A x = if s = x.2 then some A else none := by
  unfold put
  rw [h]
  simp only
  rw [if_neg hk]
theorem grown_fr {p sb : Nat} {ov v9 : Value} {W w9 : World} {o : Obj} (hg : (W.alloc o).grownBy w9 ov.ownBlock) (ha : v9.ownBlock = ov.ownBlock ∨ v9.ownBlock = some (W.alloc o).heap.size) (u : Value) : Fr p sb ov v9 W (w9.setCell ⟨p, 11, none⟩ u) :=
  ⟨hg.os, hg.tape, hg.output, by have := hg.size; simp at this ⊢; omega, fun k hk hp hs ho => ((Below.heap_setCell _ _ _ _ hp).trans (hg.block k (by simp; omega) fun e => ho e.symm)).trans ((balloc W o).block k hk), fun g hg' => by
    rcases ha with e | e
    · exact .inl (by rw [← e]; exact hg')
    · rw [e] at hg'
      cases hg'
      exact .inr (by simp)⟩
theorem wk_put {B : Nat} {p : Nat} {k : WC} {ov v9 : Value} {A : Row} {O : List Nat} {W w9 : World} {o : Obj} {C : Array Value} (S2 : RowB TS W (Sm p k.sb ov) k.sb (A.map rawP)) (P9 : Bk w9 p (wcells k ov) 69) (hO : OwnR TI w9 B (fun _ => False) v9 (O.map Int.ofNat))
    (hg : (W.alloc o).grownBy w9 ov.ownBlock) (ha : v9.ownBlock = ov.ownBlock ∨ v9.ownBlock = some (W.alloc o).heap.size) (hpW : p < W.heap.size) (hop : ∀ g, ov.ownBlock = some g → g ≠ p ∧ g ≠ k.sb) (len : A.length = k.N) (hp : B ≤ p) (hs : B ≤ k.sb) (hps : p ≠ k.sb)
    (gd : ∀ (a : Nat) (s : Sx), A[a]? = some (some s) → 0 ≤ s.dep ∧ s.ms.length ≤ 1000000) : WK B (w9.setCell ⟨p, 11, none⟩ v9) p k v9 A O := by
  have hop9 : ∀ g, v9.ownBlock = some g → g ≠ p ∧ g ≠ k.sb := fun g hg' => by
    rcases ha with e | e
    · exact hop g (by rw [← e]; exact hg')
    · rw [e] at hg'
      cases hg'
      have := S2.lt
      simp
      omega
  have F := grown_fr (p := p) (sb := k.sb) hg ha v9
  refine ⟨P9.set 11 v9, S2.mv F.mv (((Below.heap_setCell _ _ _ _ (Ne.symm hps)).trans (hg.block _ (by have := S2.lt; simp; omega) fun e => (hop _ e.symm).2 rfl)).trans ((balloc W o).block _ S2.lt)), own_bo hO (Bo.set w9.heap.size p w9 11 v9) fun g hg' => ⟨(hO.own hg').2, (hop9 g hg').1⟩, len, hp, hs, hps, hop9, gd⟩
set_option maxHeartbeats 8000000 in
theorem reach_c (B : Nat) (w : World) (p : Nat) (k : WC) (ov : Value) (A : Row) (O : List Nat) (x : Nat × Sx) (mv : Value) (h : WK B w p k ov A O) (hm : RowM TM w (Sm p k.sb ov) mv x.2.ms) (hd : 0 ≤ x.2.dep) (hl : x.2.ms.length ≤ 1000000) (hO : O.length ≤ 100000) (hN : k.N ≤ 1000000) :
    Calls Try.prog 61 #[.pointer (some ⟨p, 0, none⟩), .int .i64 (x.1 : Int), .agg #[.int .i64 x.2.dep, mv]] w (PutRes B p k ov A O x w) := by
  obtain ⟨at_, s⟩ := x
  obtain ⟨mo, mc, rfl, _⟩ := hm.val
  simp only at hm hd hl ⊢
  obtain ⟨MN, hMN⟩ : ∃ n, Hid (s.ms.length = n) := ⟨_, Lib.hid rfl⟩
  rw [hMN.out] at hm hl ⊢
  have HM := Lib.hid hm
  obtain ⟨D, hD⟩ : ∃ d, Hid (s.dep = d) := ⟨_, Lib.hid rfl⟩
  rw [hD.out] at hd ⊢
  have HW := Lib.hid h
  have hpl := h.blk.lt
  have HA := Lib.hid (balloc w (.cells #[.int .i64 D, .slice mo MN mc] 72))
  have HK := Lib.hid (h.keep HA.out)
  have HX1 := Lib.hid (Bk.new w #[.int .i64 D, .slice mo MN mc] 72)
  have x0 := HX1.out.cell 0 (.int .i64 D) rfl
  have x1 := HX1.out.cell 1 (.slice mo MN mc) rfl
  have q4 := HK.out.blk.cell 10 (.slice (some ⟨k.sb, 0, none⟩) k.N k.N) rfl
  have q7 := HK.out.blk.cell 7 (.int .i64 k.st) rfl
  have q11 := HK.out.blk.cell 11 ov rfl
  have i0 : (0 : Int) ≤ (at_ : Int) := by omega
  obtain ⟨oo, oc, eov, _⟩ := h.opn.val
  obtain ⟨ON, hON⟩ : ∃ n, Hid ((O.map Int.ofNat).length = n) := ⟨_, Lib.hid rfl⟩
  rw [hON.out] at eov
  rw [eov] at q11
  have EOV := Lib.hid eov
  clear h hm eov
  by_cases hlt : at_ < k.N
  · by_cases hk : k.st < D
    · have HP := Lib.hid (show put k.st A (at_, s) = none from put_deep (by show k.st < s.dep; rw [hD.out]; exact hk))
      have g1 : decide (k.N ≤ at_) = false := by simpa using hlt
      have g2 : decide (D > k.st) = true := by simpa using hk
      have hd' : D > k.st := hk
      go_enter Try.func61, Try.ntmps61
      go_wp2_with fail
      go_quiet (fail)
      go_wp2_with fail
      go_ret
      exact .inr ⟨HP.out, rfl, HW.out.bel (Fr.of (below_dN HA.out _))⟩
    · obtain ⟨o, ho⟩ := getElem?_of_lt (l := A) (k := at_) (by rw [HW.out.len]; exact hlt)
      obtain ⟨q, hL, hq⟩ := HK.out.sts.at (at_map rawP ho)
      have g1 : decide (k.N ≤ at_) = false := by simpa using hlt
      have g2 : decide (D > k.st) = false := by simpa using hk
      have i1 : (at_ : Int) < (k.N : Int) := by omega
      have y0 : (w.alloc (.cells #[.int .i64 D, .slice mo MN mc] 72)).cell? ⟨k.sb, at_ * 2, none⟩ = some (.int .i64 (rawP o).dep) := hL 0 _ rfl
      have y1 : (w.alloc (.cells #[.int .i64 D, .slice mo MN mc] 72)).cell? ⟨k.sb, at_ * 2 + 1, none⟩ = some (q.headD (.slice none 0 0)) := hL 1 _ rfl
      have z0 := HK.out.sts.free (at_ * 2)
      have z1 := HK.out.sts.free (at_ * 2 + 1)
      have HO := Lib.hid ho
      have HKS := Lib.hid (show ¬ k.st < s.dep by rw [hD.out]; exact hk)
      clear hL ho
      cases o with
      | none =>
        replace y0 : (w.alloc (.cells #[.int .i64 D, .slice mo MN mc] 72)).cell? ⟨k.sb, at_ * 2, none⟩ = some (.int .i64 (-1)) := y0
        have HP := Lib.hid (put_new (x := (at_, s)) HO.out HKS.out)
        have HD := Lib.hid (fun n => HK.out.keep (below_dN (Below.refl (w.alloc (.cells #[.int .i64 D, .slice mo MN mc] 72)).heap.size (w.alloc (.cells #[.int .i64 D, .slice mo MN mc] 72))) n))
        have HMD := Lib.hid (fun n => (HM.out.mv (Mv.low HA.out)).mv (Mv.low (below_dN (Below.refl (w.alloc (.cells #[.int .i64 D, .slice mo MN mc] 72)).heap.size (w.alloc (.cells #[.int .i64 D, .slice mo MN mc] 72))) n)))
        have HST : Hid (∀ n, RowB TS ((((w.alloc (.cells #[.int .i64 D, .slice mo MN mc] 72)).drewN n).setCell ⟨k.sb, at_ * 2, none⟩ (.int .i64 D)).setCell ⟨k.sb, at_ * 2 + 1, none⟩ (.slice mo MN mc)) (Sm p k.sb ov) k.sb ((A.set at_ (some s)).map rawP)) := Lib.hid fun n => by
          have := put_state (s := s) (HD.out n).sts (at_map rawP HO.out) (HMD.out n) (fun b hb => hb.2.1)
          rw [hD.out] at this
          rw [map_set_some]
          exact this
        have HPB : Hid (∀ n, Bk ((((w.alloc (.cells #[.int .i64 D, .slice mo MN mc] 72)).drewN n).setCell ⟨k.sb, at_ * 2, none⟩ (.int .i64 D)).setCell ⟨k.sb, at_ * 2 + 1, none⟩ (.slice mo MN mc)) p (wcells k ov) 69) := Lib.hid fun n => ((HD.out n).blk.other HK.out.hps _ _).other HK.out.hps _ _
        have HOW : Hid (∀ n, OwnR TI ((((w.alloc (.cells #[.int .i64 D, .slice mo MN mc] 72)).drewN n).setCell ⟨k.sb, at_ * 2, none⟩ (.int .i64 D)).setCell ⟨k.sb, at_ * 2 + 1, none⟩ (.slice mo MN mc)) B (fun _ => False) ov (O.map Int.ofNat)) := Lib.hid fun n => by
          refine own_bo (own_bo (HD.out n).opn (Bo.set ((w.alloc (.cells #[.int .i64 D, .slice mo MN mc] 72)).drewN n).heap.size k.sb _ _ _) fun g hg => ⟨((HD.out n).opn.own hg).2, (HK.out.hop g hg).2⟩) (Bo.set ((w.alloc (.cells #[.int .i64 D, .slice mo MN mc] 72)).drewN n).heap.size k.sb _ _ _) fun g hg => ⟨((HD.out n).opn.own hg).2, (HK.out.hop g hg).2⟩
        have HFR : Hid (∀ n, Fr p k.sb ov ov w ((((w.alloc (.cells #[.int .i64 D, .slice mo MN mc] 72)).drewN n).setCell ⟨k.sb, at_ * 2, none⟩ (.int .i64 D)).setCell ⟨k.sb, at_ * 2 + 1, none⟩ (.slice mo MN mc))) := Lib.hid fun n =>
          (Fr.of (below_dN HA.out n)).trans ⟨rfl, rfl, rfl, by simp, fun b hb hp hs ho => (Below.heap_setCell _ _ _ _ hs).trans (Below.heap_setCell _ _ _ _ hs), fun g hg => .inl hg⟩
        clear hq
        go_enter Try.func61, Try.ntmps61
        go_wp2_with fail
        go_quiet (fail)
        go_wp2_with fail
        go_region
        have S2 := Lib.hid (HST.out (nq + 1))
        have P2 := Lib.hid (HPB.out (nq + 1))
        have O2 := Lib.hid (HOW.out (nq + 1))
        have F2 := Lib.hid (HFR.out (nq + 1))
        clear HST HPB HOW HFR HD HMD q4 q7 q11 x0 x1 y0 y1 z0 z1
        generalize World.setCell (World.setCell _ _ _) _ _ = W2 at S2 P2 O2 F2 ⊢
        have q11 : W2.cell? ⟨p, 11, none⟩ = some (.slice oo ON oc) := P2.out.cell 11 _ (by rw [EOV.out]; rfl)
        have HOA : Hid (OwnR TI (W2.alloc (.cells #[.int .i64 (at_ : Int)] 3)) B (fun _ => False) (.slice oo ON oc) (O.map Int.ofNat)) := Lib.hid (by rw [← EOV.out]; exact O2.out.keep (balloc _ _))
        have HRN : Hid (RowR TI (W2.alloc (.cells #[.int .i64 (at_ : Int)] 3)) (fun b => False ∧ (Value.slice oo ON oc).ownBlock ≠ some b) (.slice (some ⟨W2.heap.size, 0, none⟩) 1 1) [(at_ : Int)]) := Lib.hid (rowR_new (q := []) #[.int .i64 (at_ : Int)] 3 rfl rfl)
        have HLN : Hid ((O.map Int.ofNat).length + [(at_ : Int)].length ≤ 100000000000) := Lib.hid (by simp; omega)
        have HBS : Hid (B ≤ (W2.alloc (.cells #[.int .i64 (at_ : Int)] 3)).heap.size) := Lib.hid (by have := P2.out.lt; have := HW.out.hp; simp; omega)
        have HPA := Lib.hid (P2.out.alloc (.cells #[.int .i64 (at_ : Int)] 3))
        have hopp : ∀ g, (Value.slice oo ON oc).ownBlock = some g → g ≠ p ∧ g ≠ k.sb := by rw [← EOV.out]; exact HW.out.hop
        have HOPP := Lib.hid hopp
        clear hopp
        go_wp2_with (refine wpList_row TI (W2.alloc (.cells #[.int .i64 (at_ : Int)] 3)) rfl (.tmp 53) (.tmp 55) rfl B (fun _ => False) (.slice oo ON oc) (.slice (some ⟨W2.heap.size, 0, none⟩) 1 1) (O.map Int.ofNat) [(at_ : Int)] rfl rfl HOA.out HRN.out HLN.out HBS.out ?_; intro ao9 n9 cap9 w9 hO9 hn9 hg9 ha9; clear hn9; have HO9 := Lib.hid hO9; have HG9 := Lib.hid hg9; have HA9 := Lib.hid ha9; have HP9 := Lib.hid (HPA.out.grown hg9 (fun e => (HOPP.out p e).1 rfl)); have r9 := HP9.out.cell 11 ov rfl; have f9 := HP9.out.free 11; have l9 := HP9.out.lt; clear hO9 hg9 ha9)
        go_ret
        have HGE : ((W2.alloc (.cells #[.int .i64 (at_ : Int)] 3)).grownBy w9 ov.ownBlock) := by rw [EOV.out]; exact HG9.out
        have HAE : (Value.slice ao9 n9 cap9).ownBlock = ov.ownBlock ∨ (Value.slice ao9 n9 cap9).ownBlock = some (W2.alloc (.cells #[.int .i64 (at_ : Int)] 3)).heap.size := by rw [EOV.out]; exact HA9.out
        have hadd : addO A O (at_, s) = O ++ [at_] := by unfold addO; rw [if_pos HO.out]
        refine .inl ⟨_, .slice ao9 n9 cap9, HP.out, rfl, ?_, F2.out.trans (grown_fr HGE HAE _)⟩
        rw [hadd]
        refine wk_put (C := #[]) S2.out HP9.out (by rw [List.map_append]; exact HO9.out) HGE HAE P2.out.lt HW.out.hop (by rw [List.length_set]; exact HW.out.len) HW.out.hp HW.out.hs HW.out.hps fun a s' hs' => ?_
        rw [List.getElem?_set] at hs'
        split at hs'
        · split at hs'
          · cases hs'
            exact ⟨by rw [hD.out]; exact hd, by rw [hMN.out]; exact hl⟩
          · cases hs'
        · exact HW.out.gd a s' hs'
      | some t =>
        replace y0 : (w.alloc (.cells #[.int .i64 D, .slice mo MN mc] 72)).cell? ⟨k.sb, at_ * 2, none⟩ = some (.int .i64 t.dep) := y0
        have htn : (t.dep != -1) = true := by have := (HW.out.gd at_ t HO.out).1; simp; omega
        have HP := Lib.hid (put_old (x := (at_, s)) HO.out HKS.out)
        obtain ⟨tv, qs2, rfl, htr⟩ := hq
        have HT : Hid (RowM TM (w.alloc (.cells #[.int .i64 D, .slice mo MN mc] 72)) (Sm p k.sb ov) tv t.ms) := Lib.hid ⟨tv, qs2, rfl, htr⟩
        obtain ⟨to_, tc, rfl, _⟩ := HT.out.val
        have HTL := Lib.hid (HW.out.gd at_ t HO.out).2
        have HS : Hid (∀ w', Below (w.alloc (.cells #[.int .i64 D, .slice mo MN mc] 72)).heap.size (w.alloc (.cells #[.int .i64 D, .slice mo MN mc] 72)) w' → Calls Try.prog 69 #[.agg #[.int .i64 t.dep, .slice to_ t.ms.length tc], .agg #[.int .i64 D, .slice mo MN mc]] w' fun e w'' => e = .returned (.bool (decide (t = s))) ∧ Below w'.heap.size w' w'') := Lib.hid fun w' hb => by
          have := same_c t s (.slice to_ t.ms.length tc) (.slice mo MN mc) w' _ _ (HT.out.mv (Mv.low hb)) ((HM.out.mv (Mv.low HA.out)).mv (Mv.low hb)) HTL.out
          rw [hD.out] at this
          exact this
        replace y1 : (w.alloc (.cells #[.int .i64 D, .slice mo MN mc] 72)).cell? ⟨k.sb, at_ * 2 + 1, none⟩ = some (.slice to_ t.ms.length tc) := y1
        obtain ⟨TN, hTN⟩ : ∃ n, Hid (t.ms.length = n) := ⟨_, Lib.hid rfl⟩
        rw [hTN.out] at HS y1
        have HLT := Lib.hid (And.intro HK.out.blk.lt (And.intro HK.out.sts.lt HX1.out.lt))
        clear htr
        go_enter Try.func61, Try.ntmps61
        go_wp2_with fail
        go_quiet (fail)
        go_wp2_with fail
        go_region_held3 (fun w' => w'.cell? ⟨p, 10, none⟩ = some (.slice (some ⟨k.sb, 0, none⟩) k.N k.N) ∧ w'.cell? ⟨k.sb, at_ * 2, none⟩ = some (.int .i64 t.dep) ∧ w'.cell? ⟨k.sb, at_ * 2 + 1, none⟩ = some (.slice to_ TN tc) ∧ w'.cell? ⟨w.heap.size, 0, none⟩ = some (.int .i64 D) ∧ w'.cell? ⟨w.heap.size, 1, none⟩ = some (.slice mo MN mc)) (first | with_reducible exact HH.out | go_keep)
          ((go_at_call 69; refine (HS.out ((w.alloc (.cells #[.int .i64 D, .slice mo MN mc] 72)).drewN (nq + 1)) (below_dN (Below.refl _ _) (nq + 1))).mono ?_; rintro e w3 ⟨rfl, hb3⟩; have HX3 := Lib.hid (bnext (below_dN HA.out (nq + 1)) hb3); have HH := Lib.hid (And.intro ((hb3.cell (p := ⟨p, 10, none⟩) HLT.out.1).trans q4) (And.intro ((hb3.cell (p := ⟨k.sb, at_ * 2, none⟩) HLT.out.2.1).trans y0) (And.intro ((hb3.cell (p := ⟨k.sb, at_ * 2 + 1, none⟩) HLT.out.2.1).trans y1) (And.intro ((hb3.cell (p := ⟨w.heap.size, 0, none⟩) HLT.out.2.2).trans x0) ((hb3.cell (p := ⟨w.heap.size, 1, none⟩) HLT.out.2.2).trans x1))))); clear hb3))
        go_wp2_with fail
        go_ret
        by_cases hts : t = s
        · refine .inl ⟨A, ov, by rw [HP.out, if_pos hts], by simp [hts], ?_, Fr.of HX3.out⟩
          have hadd : addO A O (at_, s) = O := by unfold addO; rw [if_neg (by rw [HO.out]; simp)]
          rw [hadd]
          exact HW.out.keep HX3.out
        · exact .inr ⟨by rw [HP.out, if_neg hts], by simp [hts], HW.out.bel (Fr.of HX3.out)⟩
  · have HP := Lib.hid (show put k.st A (at_, s) = none from put_over (by rw [HW.out.len]; show k.N ≤ at_; omega))
    have g1 : decide (k.N ≤ at_) = true := by simpa using hlt
    go_enter Try.func61, Try.ntmps61
    go_wp2_with fail
    go_quiet (fail)
    go_wp2_with fail
    go_ret
    exact .inr ⟨HP.out, rfl, HW.out.bel (Fr.of (below_dN HA.out _))⟩
end Go.Proofs.Ytkhdkepjhifffaa.VE
