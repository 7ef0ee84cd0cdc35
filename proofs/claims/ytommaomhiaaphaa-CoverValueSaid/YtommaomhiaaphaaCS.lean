/- Whether patterns go together: the walk. -/
import Derived.Test.YtommaomhiaaphaaCP
namespace Go.Proofs.Ytommaomhiaaphaa.CS
open Go.RowKit Go.Proofs.Ytommaomhiaaphaa.CA Go.Proofs.Ytommaomhiaaphaa.CB Go.Proofs.Ytommaomhiaaphaa.CC Go.Proofs.Ytommaomhiaaphaa.CD Go.Proofs.Ytommaomhiaaphaa.CE Go.Proofs.Ytommaomhiaaphaa.CF Go.Proofs.Ytommaomhiaaphaa.CG Go.Proofs.Ytommaomhiaaphaa.CH Go.Proofs.Ytommaomhiaaphaa.CK Go.Proofs.Ytommaomhiaaphaa.CI Go.Proofs.Ytommaomhiaaphaa.CL Go.Proofs.Ytommaomhiaaphaa.CO Go.Proofs.Ytommaomhiaaphaa.CP
set_option linter.unusedVariables false
set_option maxRecDepth 100000
variable {S : Nat → Prop}

theorem togL_drop {C : List Cn} {l m : List Nd} {j : Nat} {p q : Nd} (hp : l[j]? = some p) (hq : m[j]? = some q) : togL C (l.drop j) (m.drop j) = (together C p q && togL C (l.drop (j + 1)) (m.drop (j + 1))) := by
  obtain ⟨h1, h2⟩ := List.getElem?_eq_some_iff.1 hp
  obtain ⟨h3, h4⟩ := List.getElem?_eq_some_iff.1 hq
  rw [List.drop_eq_getElem_cons h1, List.drop_eq_getElem_cons h3, h2, h4]
  rfl
theorem szL_mem {C : List Cn} {l : List Nd} {j : Nat} {p : Nd} (h : l[j]? = some p) (hf : FmL C l) : Fm C p := FmL_mem hf p (List.mem_of_getElem? h)
/-- A constructor in a block of its own: its name, and its type's. -/
structure Cb (w : World) (B : Nat) (nm of : By) : Prop where
  lt : B < w.heap.size
  c0 : w.cell? ⟨B, 0, none⟩ = some (.string ⟨nm.toArray⟩)
  c1 : w.cell? ⟨B, 1, none⟩ = some (.string ⟨of.toArray⟩)
theorem Cb.keep {w w' : World} {B : Nat} {nm of : By} (h : Cb w B nm of) (hb : Below w.heap.size w w') : Cb w' B nm of :=
  ⟨Nat.lt_of_lt_of_le h.lt hb.size, (hb.cell (p := ⟨B, 0, none⟩) h.lt).trans h.c0, (hb.cell (p := ⟨B, 1, none⟩) h.lt).trans h.c1⟩
theorem Cb.new (w : World) (nm of : By) (a b c : Value) (t : TypeId) : Cb (w.alloc (.cells #[.string ⟨nm.toArray⟩, .string ⟨of.toArray⟩, a, b, c] t)) w.heap.size nm of := by
  have h := heap_alloc_new w (.cells #[.string ⟨nm.toArray⟩, .string ⟨of.toArray⟩, a, b, c] t)
  exact ⟨by simp, by rw [cell_of_row _ _ _ _ _ (0, 0) h]; rfl, by rw [cell_of_row _ _ _ _ _ (0, 0) h]; rfl⟩
theorem szL_le : ∀ l : List Nd, l.length ≤ szL l
  | [] => Nat.le_refl _
  | p :: l => by
    have := szL_le l
    have := sz_eq p
    simp only [szL, List.length_cons]; omega
theorem str_ne (s t : By) : ((ByteArray.mk s.toArray) != (ByteArray.mk t.toArray)) = !(s == t) := by
  unfold bne; rw [str_eq]
set_option maxRecDepth 100000 in
set_option maxHeartbeats 8000000 in
theorem together_c (C : List Cn) (c : Nat) (f : Value) : ∀ (N : Nat), N ≤ 900000 → ∀ (k n : Int) (s : By) (l : List Nd) (q : Value) (k' n' : Int) (s' : By) (l' : List Nd) (q' : Value) (w : World), sz (.mk k n s l) ≤ N → Fm C (.mk k n s l) → Fm C (.mk k' n' s' l') → CK.Fd w f C c → HasN w Any (.mk k n s l) q → HasN w Any (.mk k' n' s' l') q' →
    Calls Try.prog 40 #[f, .agg #[.int .i64 k, .string ⟨s.toArray⟩, .int .i64 n, .int .i64 0, .slice none 0 0, q], .agg #[.int .i64 k', .string ⟨s'.toArray⟩, .int .i64 n', .int .i64 0, .slice none 0 0, q']] w fun e w' => e = .returned (.bool (together C (.mk k n s l) (.mk k' n' s' l'))) ∧ Below w.heap.size w w' := by
  intro N
  induction N with
  | zero =>
    intro hN k n s l q k' n' s' l' q' w hs
    have := sz_eq (.mk k n s l)
    omega
  | succ N ih =>
    intro hN k n s l q k' n' s' l' q' w hsz hfa hfb hf hq hq'
    have IH := Lib.hid (ih (by omega))
    clear ih
    have hsz2 : szL l ≤ N := by have := sz_eq (.mk k n s l); simp only [Nd.kids] at this; omega
    have C0 := fun w => isAny_c k n s l q w
    have C0' := fun w => isAny_c k' n' s' l' q' w
    have HF := Lib.hid hf
    have HQ := Lib.hid hq
    have HQ' := Lib.hid hq'
    have HFA := Lib.hid hfa
    have HFB := Lib.hid hfb
    have HSZ := Lib.hid hsz2
    obtain ⟨R, HR⟩ : ∃ R, Hid (together C (.mk k n s l) (.mk k' n' s' l') = R) := ⟨_, Lib.hid rfl⟩
    rw [HR.out]
    obtain ⟨X, HX⟩ : ∃ X, Hid (anyB (.mk k n s l) = X) := ⟨_, Lib.hid rfl⟩
    obtain ⟨X', HX'⟩ : ∃ X, Hid (anyB (.mk k' n' s' l') = X) := ⟨_, Lib.hid rfl⟩
    rw [HX.out] at C0
    rw [HX'.out] at C0'
    have HRR := Lib.hid (show (if (X || X') = true then true else if k ≠ k' then false else if k = 1 then true else if ((conOf C s).getD zeroCn).of ≠ ((conOf C s').getD zeroCn).of then false else if ((conOf C s).getD zeroCn).nm = ((conOf C s').getD zeroCn).nm then togL C l l' else true) = R from by rw [← HR.out, ← HX.out, ← HX'.out]; rfl)
    have HW1 := Lib.hid (balloc w (.cells #[.int .i64 k, .string ⟨s.toArray⟩, .int .i64 n, .int .i64 0, .slice none 0 0, q] 38))
    have HBXa := Lib.hid ((Bx.new w k n s q 38).keep (balloc (w.alloc (.cells #[.int .i64 k, .string ⟨s.toArray⟩, .int .i64 n, .int .i64 0, .slice none 0 0, q] 38)) (.cells #[.int .i64 k', .string ⟨s'.toArray⟩, .int .i64 n', .int .i64 0, .slice none 0 0, q'] 38)))
    have HBXb0 := Bx.new (w.alloc (.cells #[.int .i64 k, .string ⟨s.toArray⟩, .int .i64 n, .int .i64 0, .slice none 0 0, q] 38)) k' n' s' q' 38
    rw [World.size_alloc] at HBXb0
    have HBXb := Lib.hid HBXb0
    clear hf hq hq' hfa hfb hsz hsz2 HBXb0
    cases X
    · cases X'
      · have hkk : (k ≠ k') ∨ (k = 1 ∧ k' = 1) ∨ (k = 5 ∧ k' = 5 ∧ (∃ c, conOf C s = some c ∧ c.nm = s ∧ l.length = c.ar) ∧ ∃ c, conOf C s' = some c ∧ c.nm = s' ∧ l'.length = c.ar) := by
          rcases HFA.out.cases with h | ⟨h, _⟩ | ⟨h, _, c1, h1, _, h2, h3⟩
          · have := HX.out; rw [h.1] at this; cases this
          · rcases HFB.out.cases with h' | ⟨h', _⟩ | ⟨h', _⟩
            · have := HX'.out; rw [h'.1] at this; cases this
            · exact .inr (.inl ⟨h, h'⟩)
            · left; have h : k = 1 := h; have h' : k' = 5 := h'; omega
          · rcases HFB.out.cases with h' | ⟨h', _⟩ | ⟨h', _, c2, h1', _, h2', h3'⟩
            · have := HX'.out; rw [h'.1] at this; cases this
            · left; have h : k = 5 := h; have h' : k' = 1 := h'; omega
            · exact .inr (.inr ⟨h, h', ⟨c1, h1, h2, h3⟩, c2, h1', h2', h3'⟩)
        rcases hkk with hne | ⟨rfl, rfl⟩ | ⟨rfl, rfl, ⟨c1, hc1, hn1, hl1⟩, c2, hc2, hn2, hl2⟩
        · have tne : (k != k') = true := by simpa using hne
          go_enter Try.func40, Try.ntmps40
          go_wp2_with fail
          refine (C0 _).mono ?_
          rintro e w1 ⟨rfl, hb1⟩
          have HB1 := Lib.hid (b2 hb1)
          have BA1 := Lib.hid (HBXa.out.keep hb1)
          have BB1 := Lib.hid (HBXb.out.keep hb1)
          obtain ⟨hla, y0, y1, y2, y3, y4, y5⟩ := BA1.out
          obtain ⟨hlb, z0, z1, z2, z3, z4, z5⟩ := BB1.out
          clear hb1
          go_wp2_with fail
          refine (C0' _).mono ?_
          rintro e w2 ⟨rfl, hb2⟩
          have HB2 := Lib.hid (bnext HB1.out hb2)
          have BA2 := Lib.hid (BA1.out.keep hb2)
          have BB2 := Lib.hid (BB1.out.keep hb2)
          clear hla y0 y1 y2 y3 y4 y5 hlb z0 z1 z2 z3 z4 z5 hb2 BA1 BB1
          obtain ⟨hla, y0, y1, y2, y3, y4, y5⟩ := BA2.out
          obtain ⟨hlb, z0, z1, z2, z3, z4, z5⟩ := BB2.out
          go_wp2_with fail
          go_ret
          exact ⟨ret_bool (by rw [← HRR.out]; simp [hne]), HB2.out⟩
        · go_enter Try.func40, Try.ntmps40
          go_wp2_with fail
          refine (C0 _).mono ?_
          rintro e w1 ⟨rfl, hb1⟩
          have HB1 := Lib.hid (b2 hb1)
          have BA1 := Lib.hid (HBXa.out.keep hb1)
          have BB1 := Lib.hid (HBXb.out.keep hb1)
          obtain ⟨hla, y0, y1, y2, y3, y4, y5⟩ := BA1.out
          obtain ⟨hlb, z0, z1, z2, z3, z4, z5⟩ := BB1.out
          clear hb1
          go_wp2_with fail
          refine (C0' _).mono ?_
          rintro e w2 ⟨rfl, hb2⟩
          have HB2 := Lib.hid (bnext HB1.out hb2)
          have BA2 := Lib.hid (BA1.out.keep hb2)
          have BB2 := Lib.hid (BB1.out.keep hb2)
          clear hla y0 y1 y2 y3 y4 y5 hlb z0 z1 z2 z3 z4 z5 hb2 BA1 BB1
          obtain ⟨hla, y0, y1, y2, y3, y4, y5⟩ := BA2.out
          obtain ⟨hlb, z0, z1, z2, z3, z4, z5⟩ := BB2.out
          go_wp2_with fail
          go_ret
          exact ⟨ret_bool (by rw [← HRR.out]; rfl), HB2.out⟩
        · have D1 := fun (w' : World) (h : CK.Fd w' f C c) => find_c C s c f w' h
          have D2 := fun (w' : World) (h : CK.Fd w' f C c) => find_c C s' c f w' h
          have hfv := HF.out.val
          subst hfv
          rw [hc1] at D1
          rw [hc2] at D2
          simp only [Option.getD_some, Option.isSome_some] at D1 D2
          unfold cv at D1 D2
          rw [hc1, hc2] at HRR
          simp only [Option.getD_some] at HRR
          have HLL := Lib.hid (show c1.nm = c2.nm → l'.length = l.length from fun e => by
            have : s = s' := by rw [← hn1, ← hn2, e]
            rw [this, hc2] at hc1
            rw [hl1, hl2, Option.some.inj hc1])
          obtain ⟨nm1, of1, tg1, ar1, mn1⟩ := c1
          obtain ⟨nm2, of2, tg2, ar2, mn2⟩ := c2
          simp only at D1 D2 HRR HLL
          have tof := str_ne of1 of2
          have tnm := str_eq nm1 nm2
          clear hc1 hc2 hn1 hn2 hl1 hl2
          by_cases hof : of1 = of2
          · by_cases hnm : nm1 = nm2
            · subst hof
              subst hnm
              obtain ⟨ao, cap, rfl, hcap⟩ := (hasN_row.1 HQ.out).val
              obtain ⟨ao', cap', rfl, hcap'⟩ := (hasN_row.1 HQ'.out).val
              have hle := HLL.out rfl
              simp only [Nd.kids] at hcap hcap' HQ HQ' C0 C0' HBXa HBXb HW1 ⊢
              rw [hle] at HQ' C0' HBXa HBXb hcap' ⊢
              have hlen : l.length ≤ 900000 := by have := szL_le l; have := HSZ.out; omega
              have HRL := Lib.hid (show togL C l l' = R from by rw [← HRR.out]; simp)
              obtain ⟨L, hL⟩ : ∃ L, Hid (l.length = L) := ⟨_, Lib.hid rfl⟩
              rw [hL.out] at HQ HQ' C0 C0' HBXa HBXb HW1 hcap hcap' hlen ⊢
              have HLE := Lib.hid (show l'.length = L by rw [hle, hL.out])
              have tof3 : ((ByteArray.mk of1.toArray) != (ByteArray.mk of1.toArray)) = false := by rw [str_ne]; simp
              have tnm3 : ((ByteArray.mk nm1.toArray) == (ByteArray.mk nm1.toArray)) = true := by rw [str_eq]; simp
              clear tof tnm HRR HLL hle
              go_enter Try.func40, Try.ntmps40
              go_wp2_with fail
              refine (C0 _).mono ?_
              rintro e w1 ⟨rfl, hb1⟩
              have HB1 := Lib.hid (b2 hb1)
              have BA1 := Lib.hid (HBXa.out.keep hb1)
              have BB1 := Lib.hid (HBXb.out.keep hb1)
              obtain ⟨hla, y0, y1, y2, y3, y4, y5⟩ := BA1.out
              obtain ⟨hlb, z0, z1, z2, z3, z4, z5⟩ := BB1.out
              clear hb1
              go_wp2_with fail
              refine (C0' _).mono ?_
              rintro e w2 ⟨rfl, hb2⟩
              have HB2 := Lib.hid (bnext HB1.out hb2)
              have BA2 := Lib.hid (BA1.out.keep hb2)
              have BB2 := Lib.hid (BB1.out.keep hb2)
              clear hla y0 y1 y2 y3 y4 y5 hlb z0 z1 z2 z3 z4 z5 hb2 BA1 BB1
              obtain ⟨hla, y0, y1, y2, y3, y4, y5⟩ := BA2.out
              obtain ⟨hlb, z0, z1, z2, z3, z4, z5⟩ := BB2.out
              go_wp2_with fail
              refine (D1 _ (HF.out.keep HB2.out)).mono ?_
              rintro e w3 ⟨rfl, hb3⟩
              have hal3 := balloc w3 (.cells #[.string ⟨nm1.toArray⟩, .string ⟨of1.toArray⟩, .int .i64 (tg1 : Int), .int .i64 (ar1 : Int), .int .i64 (mn1 : Int)] 54)
              have HB3 := Lib.hid (bnext HB2.out (bnext hb3 hal3))
              obtain ⟨hlb, z0, z1, z2, z3, z4, z5⟩ := BB2.out.keep hb3
              have CB3 := Lib.hid (Cb.new w3 nm1 of1 (.int .i64 (tg1 : Int)) (.int .i64 (ar1 : Int)) (.int .i64 (mn1 : Int)) 54)
              have BA3 := Lib.hid ((BA2.out.keep hb3).keep hal3)
              have BB3 := Lib.hid ((BB2.out.keep hb3).keep hal3)
              clear hb3 hal3
              go_wp2_with fail
              refine (D2 _ (HF.out.keep HB3.out)).mono ?_
              rintro e w4 ⟨rfl, hb4⟩
              have hal4 := balloc w4 (.cells #[.string ⟨nm1.toArray⟩, .string ⟨of1.toArray⟩, .int .i64 (tg2 : Int), .int .i64 (ar2 : Int), .int .i64 (mn2 : Int)] 54)
              have HB4 := Lib.hid (bnext HB3.out (bnext hb4 hal4))
              have CA4 := Lib.hid ((CB3.out.keep hb4).keep hal4)
              have CB4 := Lib.hid (Cb.new w4 nm1 of1 (.int .i64 (tg2 : Int)) (.int .i64 (ar2 : Int)) (.int .i64 (mn2 : Int)) 54)
              have BA4 := Lib.hid ((BA3.out.keep hb4).keep hal4)
              have BB4 := Lib.hid ((BB3.out.keep hb4).keep hal4)
              obtain ⟨hlc, u0, u1⟩ := CB3.out.keep hb4
              clear hla hlb y0 y1 y2 y3 y4 y5 z0 z1 z2 z3 z4 z5 hb4 hal4 BA2 BB2 BA3 BB3 CB3
              go_wp2_with fail
              clear hlc u0 u1
              generalize w4.alloc _ = W at HB4 CA4 CB4 BA4 BB4 ⊢
              generalize w3.heap.size = Bc at CA4 ⊢
              generalize w4.heap.size = Bd at CB4 ⊢
              obtain ⟨B, hB⟩ : ∃ B, Hid (w.heap.size = B) := ⟨_, Lib.hid rfl⟩
              rw [hB.out] at BA4 BB4 ⊢
              go_loopg [11] L (fun g jv wr => ∃ j : Nat, j + g = L ∧ jv = .int .i64 (j : Int) ∧ Hid (togL C (l.drop j) (l'.drop j) = R) ∧ Hid (Below w.heap.size w wr) ∧ Hid (Bx wr B 5 n s (.slice ao L cap)) ∧ Hid (Bx wr (B + 1) 5 n' s' (.slice ao' L cap')) ∧ Hid (Cb wr Bc nm1 of1) ∧ Hid (Cb wr Bd nm1 of1))
              case atStart => exact ⟨0, Nat.zero_add _, rfl, HRL, HB4, BA4, BB4, CA4, CB4⟩
              case round =>
                obtain ⟨j, hj, rfl, HT, HX5, HA5, HB5, HC5, HD5⟩ := hrel
                clear HB4 BA4 BB4 CA4 CB4
                obtain ⟨hla, y0, y1, y2, y3, y4, y5⟩ := HA5.out
                obtain ⟨hlb, z0, z1, z2, z3, z4, z5⟩ := HB5.out
                obtain ⟨hlc, u0, u1⟩ := HC5.out
                obtain ⟨hld, v0, v1⟩ := HD5.out
                by_cases hlt : j < L
                · obtain ⟨g, rfl⟩ : ∃ g, gk = g + 1 := ⟨gk - 1, by omega⟩
                  have hne1 : l ≠ [] := by intro e; have := hL.out; rw [e] at this; simp at this; omega
                  have hll : l'.length = L := HLE.out
                  have hne2 : l' ≠ [] := by intro e; rw [e] at hll; simp at hll; omega
                  obtain ⟨b1, o1, cp1, hve, _, hlt1, hcells1⟩ := (hasN_row.1 HQ.out).open_ hne1
                  obtain ⟨b2, o2, cp2, hve', _, hlt2, hcells2⟩ := (hasN_row.1 HQ'.out).open_ hne2
                  have hao := (Value.slice.inj hve).1
                  have hao' := (Value.slice.inj hve').1
                  clear hve hve'
                  subst hao
                  subst hao'
                  obtain ⟨kd, hkd⟩ := getElem?_of_lt (l := l) (k := j) (by rw [hL.out]; exact hlt)
                  obtain ⟨kd', hkd'⟩ := getElem?_of_lt (l := l') (k := j) (by rw [hll]; exact hlt)
                  obtain ⟨q1, hL1, hq1⟩ := hcells1 j kd hkd
                  obtain ⟨q2, hL2, hq2⟩ := hcells2 j kd' hkd'
                  have hTD := togL_drop (C := C) hkd hkd'
                  rw [HT.out] at hTD
                  have hszk := sz_kid hkd
                  have hf1 := szL_mem hkd HFA.out.kids
                  have hf2 := szL_mem hkd' HFB.out.kids
                  obtain ⟨a0, a1, a2, a3, a4, a5⟩ := hL1.keep HX5.out hlt1
                  obtain ⟨e0, e1, e2, e3, e4, e5⟩ := hL2.keep HX5.out hlt2
                  obtain ⟨k1, n1, s1, l1⟩ := kd
                  obtain ⟨k2, n2, s2, l2⟩ := kd'
                  simp only [Nd.k, Nd.n, Nd.s] at a0 a1 a2 e0 e1 e2
                  have C1 := fun (w' : World) (hb : Below w.heap.size w w') => IH.out k1 n1 s1 l1 q1 k2 n2 s2 l2 q2 w' (by have := HSZ.out; omega) hf1 hf2 (HF.out.keep hb) (HasN.keep hb _ _ hq1) (HasN.keep hb _ _ hq2)
                  generalize together C (.mk k1 n1 s1 l1) (.mk k2 n2 s2 l2) = X at C1 hTD
                  have HTD := Lib.hid hTD
                  have HXd := Lib.hid (HX5.out.trans (show Below w.heap.size wr wr.drew from ⟨rfl, rfl, rfl, Nat.le_refl _, fun _ _ => rfl⟩))
                  have i0 : (0 : Int) ≤ (j : Int) := by omega
                  have i1 : (j : Int) < (L : Int) := by omega
                  clear hTD hL1 hL2 hq1 hq2 hkd hkd' hcells1 hcells2 hszk hf1 hf2 hne1 hne2 hll
                  cases X
                  · go_wp2_with fail
                    go_still_tail 11, (by kernel_rfl)
                    change wpList _ _ _ _ _ (World.drew _)
                    go_wp2_with (go_at_call 40; refine (C1 _ HXd.out).mono ?_; rintro e w6 ⟨rfl, hb6⟩; have HB6 := Lib.hid (bdrew hb6); clear hb6)
                    go_ret
                    exact ⟨ret_bool (by rw [HTD.out]; rfl), bnext HX5.out HB6.out⟩
                  · go_wp2_with fail
                    go_still_tail 11, (by kernel_rfl)
                    change wpList _ _ _ _ _ (World.drew _)
                    go_wp2_with (go_at_call 40; refine (C1 _ HXd.out).mono ?_; rintro e w6 ⟨rfl, hb6⟩; have HB6 := Lib.hid (bdrew hb6); clear hb6)
                    go_roundg g
                    case rel => exact ⟨j + 1, by omega, by go_num, Lib.hid (by rw [HTD.out]; rfl), Lib.hid (bnext HX5.out HB6.out), Lib.hid (HA5.out.keep HB6.out), Lib.hid (HB5.out.keep HB6.out), Lib.hid (HC5.out.keep HB6.out), Lib.hid (HD5.out.keep HB6.out)⟩
                    case measure => omega
                · go_wp2_with fail
                  go_ret
                  refine ⟨ret_bool ?_, HX5.out⟩
                  rw [← HT.out, List.drop_eq_nil_of_le (by rw [hL.out]; omega)]; rfl
            · subst hof
              obtain ⟨ao, cap, rfl, hcap⟩ := (hasN_row.1 HQ.out).val
              simp only [Nd.kids] at hcap HQ C0 HBXa HBXb HW1 ⊢
              have hlen : l.length ≤ 900000 := by have := szL_le l; have := HSZ.out; omega
              obtain ⟨L, hL⟩ : ∃ L, Hid (l.length = L) := ⟨_, Lib.hid rfl⟩
              rw [hL.out] at HQ C0 HBXa HW1 HBXb hcap hlen ⊢
              have tof3 : ((ByteArray.mk of1.toArray) != (ByteArray.mk of1.toArray)) = false := by rw [str_ne]; simp
              have tnm3 : ((ByteArray.mk nm1.toArray) == (ByteArray.mk nm2.toArray)) = false := by rw [str_eq]; simpa using hnm
              have HNM := Lib.hid hnm
              have tnb : (nm1 == nm2) = false := by simpa using hnm
              clear tof
              go_enter Try.func40, Try.ntmps40
              go_wp2_with fail
              refine (C0 _).mono ?_
              rintro e w1 ⟨rfl, hb1⟩
              have HB1 := Lib.hid (b2 hb1)
              have BA1 := Lib.hid (HBXa.out.keep hb1)
              have BB1 := Lib.hid (HBXb.out.keep hb1)
              obtain ⟨hla, y0, y1, y2, y3, y4, y5⟩ := BA1.out
              obtain ⟨hlb, z0, z1, z2, z3, z4, z5⟩ := BB1.out
              clear hb1
              go_wp2_with fail
              refine (C0' _).mono ?_
              rintro e w2 ⟨rfl, hb2⟩
              have HB2 := Lib.hid (bnext HB1.out hb2)
              have BA2 := Lib.hid (BA1.out.keep hb2)
              have BB2 := Lib.hid (BB1.out.keep hb2)
              clear hla y0 y1 y2 y3 y4 y5 hlb z0 z1 z2 z3 z4 z5 hb2 BA1 BB1
              obtain ⟨hla, y0, y1, y2, y3, y4, y5⟩ := BA2.out
              obtain ⟨hlb, z0, z1, z2, z3, z4, z5⟩ := BB2.out
              go_wp2_with fail
              refine (D1 _ (HF.out.keep HB2.out)).mono ?_
              rintro e w3 ⟨rfl, hb3⟩
              have hal3 := balloc w3 (.cells #[.string ⟨nm1.toArray⟩, .string ⟨of1.toArray⟩, .int .i64 (tg1 : Int), .int .i64 (ar1 : Int), .int .i64 (mn1 : Int)] 54)
              have HB3 := Lib.hid (bnext HB2.out (bnext hb3 hal3))
              obtain ⟨hlb, z0, z1, z2, z3, z4, z5⟩ := BB2.out.keep hb3
              have CB3 := Lib.hid (Cb.new w3 nm1 of1 (.int .i64 (tg1 : Int)) (.int .i64 (ar1 : Int)) (.int .i64 (mn1 : Int)) 54)
              have BA3 := Lib.hid ((BA2.out.keep hb3).keep hal3)
              have BB3 := Lib.hid ((BB2.out.keep hb3).keep hal3)
              clear hb3 hal3
              go_wp2_with fail
              refine (D2 _ (HF.out.keep HB3.out)).mono ?_
              rintro e w4 ⟨rfl, hb4⟩
              have hal4 := balloc w4 (.cells #[.string ⟨nm2.toArray⟩, .string ⟨of1.toArray⟩, .int .i64 (tg2 : Int), .int .i64 (ar2 : Int), .int .i64 (mn2 : Int)] 54)
              have HB4 := Lib.hid (bnext HB3.out (bnext hb4 hal4))
              have CA4 := Lib.hid ((CB3.out.keep hb4).keep hal4)
              have CB4 := Lib.hid (Cb.new w4 nm2 of1 (.int .i64 (tg2 : Int)) (.int .i64 (ar2 : Int)) (.int .i64 (mn2 : Int)) 54)
              have BA4 := Lib.hid ((BA3.out.keep hb4).keep hal4)
              have BB4 := Lib.hid ((BB3.out.keep hb4).keep hal4)
              obtain ⟨hlc, u0, u1⟩ := CB3.out.keep hb4
              clear hla hlb y0 y1 y2 y3 y4 y5 z0 z1 z2 z3 z4 z5 hb4 hal4 BA2 BB2 BA3 BB3 CB3
              go_wp2_with fail
              clear hlc u0 u1
              generalize w4.alloc _ = W at HB4 CA4 CB4 BA4 BB4 ⊢
              generalize w3.heap.size = Bc at CA4 ⊢
              generalize w4.heap.size = Bd at CB4 ⊢
              obtain ⟨hla, y0, y1, y2, y3, y4, y5⟩ := BA4.out
              obtain ⟨hlc, u0, u1⟩ := CA4.out
              obtain ⟨hld, v0, v1⟩ := CB4.out
              have hfin : R = true := by rw [← HRR.out]; simp [HNM.out]
              refine wp_loop_rounds 1 ?_
              rw [rounds_succ]
              by_cases hL0 : 0 < L
              · have hL1 : (0 : Int) < (L : Int) := by omega
                go_wp2_with fail
                go_ret
                exact ⟨ret_bool hfin.symm, HB4.out⟩
              · obtain rfl : L = 0 := by omega
                go_wp2_with fail
                go_ret
                exact ⟨ret_bool hfin.symm, HB4.out⟩
          · have tof2 : (of1 == of2) = false := by simpa using hof
            rw [tof2] at tof
            clear tnm
            go_enter Try.func40, Try.ntmps40
            go_wp2_with fail
            refine (C0 _).mono ?_
            rintro e w1 ⟨rfl, hb1⟩
            have HB1 := Lib.hid (b2 hb1)
            have BA1 := Lib.hid (HBXa.out.keep hb1)
            have BB1 := Lib.hid (HBXb.out.keep hb1)
            obtain ⟨hla, y0, y1, y2, y3, y4, y5⟩ := BA1.out
            obtain ⟨hlb, z0, z1, z2, z3, z4, z5⟩ := BB1.out
            clear hb1
            go_wp2_with fail
            refine (C0' _).mono ?_
            rintro e w2 ⟨rfl, hb2⟩
            have HB2 := Lib.hid (bnext HB1.out hb2)
            have BA2 := Lib.hid (BA1.out.keep hb2)
            have BB2 := Lib.hid (BB1.out.keep hb2)
            clear hla y0 y1 y2 y3 y4 y5 hlb z0 z1 z2 z3 z4 z5 hb2 BA1 BB1
            obtain ⟨hla, y0, y1, y2, y3, y4, y5⟩ := BA2.out
            obtain ⟨hlb, z0, z1, z2, z3, z4, z5⟩ := BB2.out
            go_wp2_with fail
            refine (D1 _ (HF.out.keep HB2.out)).mono ?_
            rintro e w3 ⟨rfl, hb3⟩
            have HB3 := Lib.hid (bnext HB2.out (bnext hb3 (balloc w3 (.cells #[.string ⟨nm1.toArray⟩, .string ⟨of1.toArray⟩, .int .i64 (tg1 : Int), .int .i64 (ar1 : Int), .int .i64 (mn1 : Int)] 54))))
            obtain ⟨hlb, z0, z1, z2, z3, z4, z5⟩ := BB2.out.keep hb3
            have CB3 := Lib.hid (Cb.new w3 nm1 of1 (.int .i64 (tg1 : Int)) (.int .i64 (ar1 : Int)) (.int .i64 (mn1 : Int)) 54)
            clear hb3
            go_wp2_with fail
            refine (D2 _ (HF.out.keep HB3.out)).mono ?_
            rintro e w4 ⟨rfl, hb4⟩
            have HB4 := Lib.hid (bnext HB3.out (bnext hb4 (balloc w4 (.cells #[.string ⟨nm2.toArray⟩, .string ⟨of2.toArray⟩, .int .i64 (tg2 : Int), .int .i64 (ar2 : Int), .int .i64 (mn2 : Int)] 54))))
            obtain ⟨hlc, u0, u1⟩ := CB3.out.keep hb4
            clear hb4
            go_wp2_with fail
            go_ret
            exact ⟨ret_bool (by rw [← HRR.out]; simp [hof]), HB4.out⟩
      · go_enter Try.func40, Try.ntmps40
        go_wp2_with fail
        refine (C0 _).mono ?_
        rintro e w1 ⟨rfl, hb1⟩
        have HB1 := Lib.hid (b2 hb1)
        obtain ⟨hlb, z0, z1, z2, z3, z4, z5⟩ := HBXb.out.keep hb1
        clear hb1
        go_wp2_with fail
        refine (C0' _).mono ?_
        rintro e w2 ⟨rfl, hb2⟩
        have HB2 := Lib.hid (bnext HB1.out hb2)
        clear hb2
        go_wp2_with fail
        go_ret
        exact ⟨ret_bool (by rw [← HRR.out]; rfl), HB2.out⟩
    · go_enter Try.func40, Try.ntmps40
      go_wp2_with (go_at_call 67; refine (C0 _).mono ?_; rintro e w1 ⟨rfl, hb1⟩)
      go_ret
      exact ⟨ret_bool (by rw [← HRR.out]; rfl), b2 hb1⟩
end Go.Proofs.Ytommaomhiaaphaa.CS
