/- The reader's next byte, by the document: the walks. -/
import Derived.Test.YtpommjmlenfknaaQG
import Derived.BigQuiet
namespace Go.Proofs.Ytpommjmlenfknaa.QM
open Go.RowKit Go.Proofs.Ytpommjmlenfknaa.RG Go.Proofs.Ytpommjmlenfknaa.KA Go.Proofs.Ytpommjmlenfknaa.KB Go.Proofs.Ytpommjmlenfknaa.KD Go.Proofs.Ytpommjmlenfknaa.QA Go.Proofs.Ytpommjmlenfknaa.QB Go.Proofs.Ytpommjmlenfknaa.QC Go.Proofs.Ytpommjmlenfknaa.QD Go.Proofs.Ytpommjmlenfknaa.QF
set_option linter.unusedVariables false
set_option maxRecDepth 100000
set_option maxRecDepth 100000

/-- The document's reader in memory: the bytes, the next one's place, were there too few; the bytes themselves lie in an old world. -/
structure RdD (w0 w : World) (x : Nat) (bv : Value) (b : By) (s : St) : Prop where
  at_ : ∃ i : Nat, Bk w x #[bv, .int .i64 (i : Int), .bool s.short] 56 ∧ i ≤ b.length ∧ s.rest = b.drop i
  row : RowR TB w0 (fun _ => True) bv b
  old : Below w0.heap.size w0 w
  hx : w0.heap.size ≤ x
  few : b.length ≤ 1000000
theorem RdD.keep {w0 w w' : World} {x : Nat} {bv : Value} {b : By} {s : St} (h : RdD w0 w x bv b s) (hb : Below w.heap.size w w') : RdD w0 w' x bv b s := by
  obtain ⟨i, h1, h2⟩ := h.at_
  exact ⟨⟨i, h1.keep hb, h2⟩, h.row, bnext h.old hb, h.hx, h.few⟩
theorem RdD.set {w0 w : World} {x Q : Nat} {bv : Value} {b : By} {s : St} (h : RdD w0 w x bv b s) (hx : Q ≠ x) (hQ : w0.heap.size ≤ Q) (i : Nat) (v : Value) : RdD w0 (w.setCell ⟨Q, i, none⟩ v) x bv b s := by
  obtain ⟨k, h1, h2⟩ := h.at_
  exact ⟨⟨k, h1.other (Ne.symm hx) _ _, h2⟩, h.row, h.old.setCell (p := ⟨Q, i, none⟩) hQ _, h.hx, h.few⟩
set_option maxHeartbeats 8000000 in
theorem one_c (w0 w : World) (x : Nat) (bv : Value) (b : By) (s : St) (h : RdD w0 w x bv b s) :
    Calls Try.prog 27 #[.pointer (some ⟨x, 0, none⟩)] w fun e w' => e = .returned (.int .i64 (one s).1) ∧ RdD w0 w' x bv b (one s).2 ∧ On x x w w' := by
  obtain ⟨i, hbk, hi, hr⟩ := h.at_
  obtain ⟨r, sh⟩ := s
  simp only at hbk hr
  subst hr
  have HR := Lib.hid h
  obtain ⟨ao, cap, rfl, hcap⟩ := h.row.val
  obtain ⟨N, hN⟩ : ∃ n, Hid (b.length = n) := ⟨_, Lib.hid rfl⟩
  rw [hN.out] at hbk hi hcap HR ⊢
  have HK := Lib.hid hbk
  have hkd := hbk.drew
  have c0 := hbk.cell 0 _ rfl
  have c1 := hbk.cell 1 _ rfl
  have c2 := hbk.cell 2 _ rfl
  have d0 := hkd.cell 0 _ rfl
  have d1 := hkd.cell 1 _ rfl
  have d2 := hkd.cell 2 _ rfl
  have g1 := hkd.free 1
  have g2 := hkd.free 2
  have lx := hbk.lt
  have ld := hkd.lt
  have hfew := h.few
  rw [hN.out] at hfew
  by_cases hlt : i < N
  · obtain ⟨c, hc⟩ : ∃ c, b[i]? = some c := ⟨_, List.getElem?_eq_getElem (by rw [hN.out]; exact hlt)⟩
    have hone : one ⟨b.drop i, sh⟩ = ((c.toNat : Int), ⟨b.drop (i + 1), sh⟩) := by
      have e : b.drop i = c :: b.drop (i + 1) := by
        rw [List.drop_eq_getElem_cons (by rw [hN.out]; exact hlt)]
        congr 1
        rw [List.getElem?_eq_getElem (by rw [hN.out]; exact hlt)] at hc
        exact Option.some.inj hc
      rw [e]; rfl
    rw [hone]
    have hne : b ≠ [] := by intro e; rw [e] at hc; simp at hc
    obtain ⟨bb, off, cap', hve, _, hblt, hcells⟩ := h.row.open_ hne
    rw [hN.out] at hve
    cases hve
    obtain ⟨q, hL, _⟩ := hcells i c hc
    have hold := h.old
    have xb : w.cell? ⟨bb, off + i, none⟩ = some (.int .u8 (c.toNat : Int)) := (hold.cell (p := ⟨bb, off + i, none⟩) hblt).trans (by have := hL 0 _ rfl; simpa [TB, Ty.flat] using this)
    have hbx : bb ≠ x := by have := h.hx; omega
    obtain ⟨m, hm⟩ : ∃ m : Int, (i : Int) + 1 = m := ⟨_, rfl⟩
    have hm2 : m - 1 = (i : Int) := by omega
    have HS := Lib.hid ((HK.out.set 1 (.int .i64 m)).drew)
    have e0 := HS.out.cell 0 _ rfl
    have e1 := HS.out.cell 1 _ rfl
    have xe : (w.setCell ⟨x, 1, none⟩ (.int .i64 m)).drew.cell? ⟨bb, off + i, none⟩ = some (.int .u8 (c.toNat : Int)) := (World.cell?_of_block (w := w) (a := ⟨bb, off + i, none⟩) (Below.heap_setCell _ _ _ _ hbx)).trans xb
    have hmr : -9223372036854775808 ≤ m - 1 ∧ m ≤ 9223372036854775807 := by omega
    have HMI := Lib.hid hm
    obtain ⟨z, hz⟩ : ∃ z, (c.toNat : Int) = z := ⟨_, rfl⟩
    have hz0 : 0 ≤ z ∧ z ≤ 255 := by have := c.toNat_lt; omega
    rw [hz] at xb xe ⊢
    clear hz
    have i0 : (0 : Int) ≤ (i : Int) := by omega
    have i1 : (i : Int) < (N : Int) := by omega
    have i2 : ¬ (i : Int) ≥ (N : Int) := by omega
    clear h hbk hkd hcells hL hne hc hone hold
    go_enter Try.func27, Try.ntmps27
    go_wp2_with fail
    go_region_held3 (fun w' => w'.cell? ⟨x, 0, none⟩ = some (.slice (some ⟨bb, off, none⟩) N cap) ∧ w'.cell? ⟨x, 1, none⟩ = some (.int .i64 (i : Int))) (go_keep) (fail)
    go_wp2_with fail
    go_quiet (fail)
    go_wp2_with fail
    go_ret
    have hk9 : Bk (((w.setCell ⟨x, 1, none⟩ (.int .i64 m)).drew).drewN nq) x #[.slice (some ⟨bb, off, none⟩) N cap, .int .i64 m, .bool sh] 56 := ((HK.out.set 1 (.int .i64 m)).drew).dN nq
    have hb9 := below_dN ((HR.out.old.setCell (p := ⟨x, 1, none⟩) HR.out.hx (.int .i64 m)).trans ((bdr (w.setCell ⟨x, 1, none⟩ (.int .i64 m))).mono (by have := HR.out.old.size; simpa using this))) nq
    rw [← HMI.out] at hk9
    exact ⟨rfl, ⟨⟨i + 1, by push_cast; rw [HMI.out] at hk9 ⊢; exact hk9, by rw [hN.out]; omega, rfl⟩, HR.out.row, hb9, HR.out.hx, HR.out.few⟩, ((On.setx x x w 1 (.int .i64 m)).trans (On.of (bdr _))).trans (On.of (below_dN (Below.refl _ _) nq))⟩
  · have hin : i = N := by omega
    have hdr : b.drop i = [] := List.drop_eq_nil_of_le (by rw [hN.out]; omega)
    have hone : one ⟨b.drop i, sh⟩ = (0, ⟨[], true⟩) := by rw [hdr]; rfl
    rw [hone]
    have HDR := Lib.hid hdr
    have HS := Lib.hid ((HK.out.set 2 (.bool true)).drew)
    have i2 : (i : Int) ≥ (N : Int) := by omega
    clear h hbk hkd hone hdr hin
    go_enter Try.func27, Try.ntmps27
    go_wp2_with fail
    go_region_held3 (fun w' => w'.cell? ⟨x, 0, none⟩ = some (.slice ao N cap) ∧ w'.cell? ⟨x, 1, none⟩ = some (.int .i64 (i : Int))) (go_keep) (fail)
    go_wp2_with fail
    go_ret
    exact ⟨rfl, ⟨⟨i, HS.out, by rw [hN.out]; exact hi, HDR.out.symm⟩, HR.out.row, (HR.out.old.setCell (p := ⟨x, 2, none⟩) HR.out.hx _).trans ((bdr _).mono (by have := HR.out.old.size; simpa using this)), HR.out.hx, HR.out.few⟩, (On.sety x x w 2 (.bool true)).trans (On.of (bdr _))⟩
set_option maxHeartbeats 4000000 in
theorem pair_c (w0 w : World) (x : Nat) (bv : Value) (b : By) (s : St) (h : RdD w0 w x bv b s) :
    Calls Try.prog 28 #[.pointer (some ⟨x, 0, none⟩)] w fun e w' => e = .returned (.int .i64 (pair s).1) ∧ RdD w0 w' x bv b (pair s).2 ∧ On x x w w' := by
  show Calls _ _ _ _ fun e w' => e = .returned (.int .i64 ((one s).1 + 256 * (one (one s).2).1)) ∧ RdD w0 w' x bv b (one (one s).2).2 ∧ On x x w w'
  have q1 := one_range s
  have q2 := one_range (one s).2
  have H1 := Lib.hid (one_c w0 w x bv b s h)
  obtain ⟨r1, hr1⟩ : ∃ r1, Hid (one s = r1) := ⟨_, Lib.hid rfl⟩
  rw [hr1.out] at q1 q2 H1 ⊢
  obtain ⟨r2, hr2⟩ : ∃ r2, Hid (one r1.2 = r2) := ⟨_, Lib.hid rfl⟩
  rw [hr2.out] at q2 ⊢
  obtain ⟨a, ha⟩ : ∃ a, r1.1 = a := ⟨_, rfl⟩
  obtain ⟨c, hc⟩ : ∃ c, r2.1 = c := ⟨_, rfl⟩
  rw [ha] at q1 H1 ⊢
  rw [hc] at q2 ⊢
  have HC := Lib.hid hc
  clear h ha hc
  go_enter Try.func28, Try.ntmps28
  go_wp2_with fail
  refine H1.out.mono ?_
  rintro e w1 ⟨rfl, hm1, ho1⟩
  have H2 := one_c w0 w1 x bv b r1.2 hm1
  rw [hr2.out, HC.out] at H2
  replace H2 := Lib.hid H2
  have HO1 := Lib.hid ho1
  clear hm1 ho1 H1
  go_wp2_with fail
  refine H2.out.mono ?_
  rintro e w2 ⟨rfl, hm2, ho2⟩
  have HM2 := Lib.hid hm2
  have HO2 := Lib.hid ho2
  clear hm2 ho2 H2
  go_wp2_with fail
  go_ret
  exact ⟨rfl, HM2.out, HO1.out.trans HO2.out⟩
end Go.Proofs.Ytpommjmlenfknaa.QM
