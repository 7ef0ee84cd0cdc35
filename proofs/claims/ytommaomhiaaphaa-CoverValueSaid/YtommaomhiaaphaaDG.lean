/- Patterns cut out: the walk. -/
import Derived.Test.YtommaomhiaaphaaDF
namespace Go.Proofs.Ytommaomhiaaphaa.DG
open Go.RowKit Go.Proofs.Ytommaomhiaaphaa.CA Go.Proofs.Ytommaomhiaaphaa.CB Go.Proofs.Ytommaomhiaaphaa.CC Go.Proofs.Ytommaomhiaaphaa.CD Go.Proofs.Ytommaomhiaaphaa.CE Go.Proofs.Ytommaomhiaaphaa.CF Go.Proofs.Ytommaomhiaaphaa.CG Go.Proofs.Ytommaomhiaaphaa.CH Go.Proofs.Ytommaomhiaaphaa.CK Go.Proofs.Ytommaomhiaaphaa.CI Go.Proofs.Ytommaomhiaaphaa.CO Go.Proofs.Ytommaomhiaaphaa.DE Go.Proofs.Ytommaomhiaaphaa.DF
set_option linter.unusedVariables false
set_option maxRecDepth 100000

def bound : Nat → Nat
  | 0 => 1
  | d + 1 => 1 + 5 * bound d
/-- What a node is, cut so deep. -/
def CutRes (w : World) (d : Nat) (e : Ending) (w' : World) : Prop :=
  ∃ k n s l q, e = .returned (.agg #[.int .i64 k, .string ⟨s.toArray⟩, .int .i64 n, .int .i64 0, .slice none 0 0, q]) ∧ HasN w' (fun b => w.heap.size ≤ b) (.mk k n s l) q ∧ sz (.mk k n s l) ≤ bound d ∧ Below w.heap.size w w'
theorem _root_.Go.Proofs.Ytommaomhiaaphaa.DE.ArgS.val {w : World} {f : Nat} {v : Value} (h : ArgS w f v) : ∃ ao len cap, v = .slice ao len cap ∧ len ≤ cap ∧ cap ≤ maxLen := by
  cases f with
  | zero => exact h.elim
  | succ f => obtain ⟨ao, len, cap, hv, h1, h2, h3⟩ := h; exact ⟨ao, len, cap, hv, h1, h2⟩
set_option maxRecDepth 100000 in
set_option maxHeartbeats 4000000 in
theorem cut_c : ∀ (d : Nat), d ≤ 3 → ∀ (k n m : Int) (a : ByteArray) (nv q : Value) (f : Nat) (w : World), a.size ≤ maxLen → (∃ x y z, nv = .slice x y z) → ArgS w f q →
    Calls Try.prog 18 #[.agg #[.int .i64 k, .string a, .int .i64 n, .int .i64 m, nv, q], .int .i64 (d : Int)] w (CutRes w d) := by
  intro d
  induction d with
  | zero =>
    intro hd k n m a nv q f w ha hnv hq
    obtain ⟨nx, ny, nz, rfl⟩ := hnv
    obtain ⟨ao, len, cap, rfl, hlc, hcm⟩ := hq.val
    clear hq
    by_cases h8 : 8 < a.size
    case pos =>
      by_cases hl0 : 0 < len
      all_goals
        go_enter Try.func18, Try.ntmps18
        go_wp2_with fail
        refine wp_loop_rounds 1 ?_
        rw [rounds_succ]
        go_wp2_with fail
        exact bodyPost_ret (v := .agg #[.int .i64 k, .string (a.extract 0 8), .int .i64 n, .int .i64 0, .slice none 0 0, .slice none 0 0]) (by simp [results, Try.results18, go_sem]) rfl ⟨k, n, (a.extract 0 8).data.toList, [], .slice none 0 0, by rw [Array.toArray_toList], ⟨[], ⟨none, 0, rfl, Nat.le_refl _, .inl rfl⟩, trivial⟩, Nat.le_refl _, bnext (balloc _ _) (bnext (balloc _ _) (balloc _ _))⟩
    case neg =>
      by_cases hl0 : 0 < len
      all_goals
        go_enter Try.func18, Try.ntmps18
        go_wp2_with fail
        refine wp_loop_rounds 1 ?_
        rw [rounds_succ]
        go_wp2_with fail
        exact bodyPost_ret (v := .agg #[.int .i64 k, .string a, .int .i64 n, .int .i64 0, .slice none 0 0, .slice none 0 0]) (by simp [results, Try.results18, go_sem]) rfl ⟨k, n, a.data.toList, [], .slice none 0 0, by rw [Array.toArray_toList], ⟨[], ⟨none, 0, rfl, Nat.le_refl _, .inl rfl⟩, trivial⟩, Nat.le_refl _, bnext (balloc _ _) (bnext (balloc _ _) (balloc _ _))⟩
  | succ d ih =>
    intro hd k n m a nv q f w ha hnv hq
    have IH := Lib.hid (ih (by omega))
    clear ih
    obtain ⟨nx, ny, nz, rfl⟩ := hnv
    cases f with
    | zero => exact hq.elim
    | succ f =>
    obtain ⟨ao, len, cap, rfl, hlc, hcm, hrow⟩ := hq
    have HROW := Lib.hid hrow
    clear hrow
    obtain ⟨D, hD⟩ : ∃ D : Int, Hid (((d + 1 : Nat) : Int) = D) := ⟨_, Lib.hid rfl⟩
    rw [hD.out]
    have hD0 : 0 < D := by rw [← hD.out]; omega
    have hw : IntKind.i64.wrap (D - 1) = (d : Int) := by rw [← hD.out, IntWalk.i64_in _ (by omega)]; omega
    obtain ⟨M, hM⟩ : ∃ M, Hid (min len 5 = M) := ⟨_, Lib.hid rfl⟩
    have hM5 : M ≤ 5 := by rw [← hM.out]; omega
    have hMl : M ≤ len := by rw [← hM.out]; omega
    have hMx : len ≤ M ∨ 5 ≤ M := by rw [← hM.out]; omega
    have HD0 := Lib.hid (show d ≤ 3 from by omega)
    by_cases h8 : 8 < a.size
    · go_enter Try.func18, Try.ntmps18
      go_wp2_with fail
      obtain ⟨a', hEa⟩ : ∃ a', Hid (a.extract 0 8 = a') := ⟨_, Lib.hid rfl⟩
      have B0 := Lib.hid (((Bk.new w #[.int .i64 k, .string a, .int .i64 n, .int .i64 m, .slice nx ny nz, .slice ao len cap] 38).alloc (.cells #[.int .i64 0, .string ⟨#[]⟩, .int .i64 0, .int .i64 0, .slice none 0 0, .slice none 0 0] 38)).alloc (.cells #[.int .i64 k, .string (a.extract 0 8), .int .i64 n, .int .i64 0, .slice none 0 0, .slice none 0 0] 38))
      have B1 := Lib.hid ((Bk.new (w.alloc (.cells #[.int .i64 k, .string a, .int .i64 n, .int .i64 m, .slice nx ny nz, .slice ao len cap] 38)) #[.int .i64 0, .string ⟨#[]⟩, .int .i64 0, .int .i64 0, .slice none 0 0, .slice none 0 0] 38).alloc (.cells #[.int .i64 k, .string (a.extract 0 8), .int .i64 n, .int .i64 0, .slice none 0 0, .slice none 0 0] 38))
      have B2 := Lib.hid (Bk.new ((w.alloc (.cells #[.int .i64 k, .string a, .int .i64 n, .int .i64 m, .slice nx ny nz, .slice ao len cap] 38)).alloc (.cells #[.int .i64 0, .string ⟨#[]⟩, .int .i64 0, .int .i64 0, .slice none 0 0, .slice none 0 0] 38)) #[.int .i64 k, .string (a.extract 0 8), .int .i64 n, .int .i64 0, .slice none 0 0, .slice none 0 0] 38)
      have HW := Lib.hid (bnext (balloc w (.cells #[.int .i64 k, .string a, .int .i64 n, .int .i64 m, .slice nx ny nz, .slice ao len cap] 38)) (bnext (balloc _ (.cells #[.int .i64 0, .string ⟨#[]⟩, .int .i64 0, .int .i64 0, .slice none 0 0, .slice none 0 0] 38)) (balloc _ (.cells #[.int .i64 k, .string (a.extract 0 8), .int .i64 n, .int .i64 0, .slice none 0 0, .slice none 0 0] 38))))
      simp only [World.size_alloc] at B1 B2
      generalize w.alloc _ = W1 at *
      generalize W1.alloc _ = W2 at *
      generalize W2.alloc _ = W at *
      rw [hEa.out] at B2 ⊢
      have hdec : decide ((8 : Int) < (a.size : Int)) = true := by simp; omega
      rw [hdec]
      clear hdec
      obtain ⟨B, hB⟩ : ∃ B, Hid (w.heap.size = B) := ⟨_, Lib.hid rfl⟩
      rw [hB.out] at B0 B1 B2 ⊢
      go_loopg [6] M (fun g jv wr => ∃ (j : Nat) (kv : Value) (L : List Nd), j + g = M ∧ jv = .int .i64 (j : Int) ∧ Hid (L.length = j) ∧ Hid (szL L ≤ j * bound d) ∧ Hid (Bk wr B #[.int .i64 k, .string a, .int .i64 n, .int .i64 m, .slice nx ny nz, .slice ao len cap] 38) ∧ Hid (Bk wr (B + 1) #[.int .i64 0, .string ⟨#[]⟩, .int .i64 0, .int .i64 0, .slice none 0 0, .slice none 0 0] 38) ∧ Hid (Bk wr (B + 1 + 1) #[.int .i64 k, .string a', .int .i64 n, .int .i64 0, .slice none 0 0, kv] 38) ∧ Hid (OwnK wr (B + 3) (fun b => B + 3 ≤ b) kv L) ∧ Hid (Below w.heap.size w wr))
      case atStart => exact ⟨0, .slice none 0 0, [], Nat.zero_add _, rfl, Lib.hid rfl, Lib.hid (Nat.zero_le _), B0, B1, B2, Lib.hid (OwnK.nil _ _ _), HW⟩
      case round =>
        clear B0 B1 B2 HW
        obtain ⟨j, kv, L, hj, rfl, HL, HSZ, B0, B1, B2, HO, HX⟩ := hrel
        have hz2 := B2.out.lt
        have hz1 : B + 1 < wr.heap.size := by omega
        have hz0 : B < wr.heap.size := by omega
        obtain ⟨y0, y1, y2, y3, y4, y5⟩ := B0.out.c6
        obtain ⟨c0, c1, c2, c3, c4, c5⟩ := B2.out.c6
        obtain ⟨g0, g1, g2, g3, g4, g5⟩ := B2.out.f6
        by_cases hlt : j < M
        · obtain ⟨g, rfl⟩ : ∃ g, gk = g + 1 := ⟨gk - 1, by omega⟩
          rcases HROW.out with h0 | ⟨b, off, rfl, hblt, hcells⟩
          · omega
          obtain ⟨k2, a2, n2, m2, nv2, q2, x0, x1, x2, x3, x4, x5, ha2, hnv2, hq2⟩ := hcells j (by omega)
          have C1 := fun (w' : World) (hb : Below w.heap.size w w') => IH.out k2 n2 m2 a2 nv2 q2 f w' ha2 hnv2 (ArgS.keep hb _ _ hq2)
          obtain ⟨nx2, ny2, nz2, rfl⟩ := hnv2
          have xq : ∃ x y z, q2 = .slice x y z := by obtain ⟨x, y, z, e, _⟩ := hq2.val; exact ⟨x, y, z, e⟩
          obtain ⟨qx, qy, qz, rfl⟩ := xq
          have v0 := (HX.out.cell (p := ⟨b, off + j * 6, none⟩) hblt).trans x0
          have v1 := (HX.out.cell (p := ⟨b, off + j * 6 + 1, none⟩) hblt).trans x1
          have v2 := (HX.out.cell (p := ⟨b, off + j * 6 + 2, none⟩) hblt).trans x2
          have v3 := (HX.out.cell (p := ⟨b, off + j * 6 + 3, none⟩) hblt).trans x3
          have v4 := (HX.out.cell (p := ⟨b, off + j * 6 + 4, none⟩) hblt).trans x4
          have v5 := (HX.out.cell (p := ⟨b, off + j * 6 + 5, none⟩) hblt).trans x5
          have i0 : (0 : Int) ≤ (j : Int) := by omega
          have i1 : (j : Int) < (len : Int) := by omega
          have i2 : (j : Int) < 5 := by omega
          have hbw : b < wr.heap.size := by have := HX.out.size; omega
          have HLL := Lib.hid (show L.length ≤ 10000 from by have := HL.out; omega)
          clear hcells hq2 x0 x1 x2 x3 x4 x5
          have HXD := Lib.hid (show Below w.heap.size w wr.drew from HX.out.trans ⟨rfl, rfl, rfl, Nat.le_refl _, fun _ _ => rfl⟩)
          have HN4 : ∀ (w2 : World) (k3 n3 : Int) (s3 : By) (l3 : List Nd) (q3 : Value), Below wr.heap.size wr w2 → HasN w2 (fun b => wr.drew.heap.size ≤ b) (.mk k3 n3 s3 l3) q3 → HasN (w2.alloc (.cells #[.int .i64 k3, .string ⟨s3.toArray⟩, .int .i64 n3, .int .i64 0, .slice none 0 0, q3] 38)) (fun b => B + 3 ≤ b ∧ kv.ownBlock ≠ some b) (.mk k3 n3 s3 l3) q3 := by
            intro w2 k3 n3 s3 l3 q3 hb hn
            refine HasN.keep (balloc _ _) _ _ (HasN.mv (Mv.weak w2 fun b h _ => ?_) _ _ hn)
            have h : wr.heap.size ≤ b := h
            exact ⟨by omega, fun e => by have := (HO.out.own e).2; omega⟩
          clear hz0 hz1
          go_wp2_with fail
          go_region_law (first
            | (refine step_nodeK (w2.alloc (.cells #[.int .i64 k3, .string ⟨s3.toArray⟩, .int .i64 n3, .int .i64 0, .slice none 0 0, q3] 38)) rfl (.tmp 38) (.tmp 47) rfl (B + 3) (fun b => B + 3 ≤ b) kv L (.mk k3 n3 s3 l3) q3 w2.heap.size (by rfl) (by rfl) (HO2.out.keep (balloc _ _)) (ncells_new w2 (.mk k3 n3 s3 l3) q3 38) (HN4 w2 k3 n3 s3 l3 q3 HB3.out HN3.out) HLL.out (by simp; omega) ?_; intro gg cp w4 hka hgrow; have HO4 := Lib.hid hka; have HG4 := Lib.hid hgrow; have B24 := Lib.hid (Bk.grown (B22.out.alloc _) hgrow (fun e => by have := (HO2.out.own e).1; omega)); obtain ⟨m0, m1, m2, m3, m4, m5⟩ := B24.out.c6; obtain ⟨o0, o1, o2, o3, o4, o5⟩ := B24.out.f6; have hz24 := B24.out.lt; clear hka hgrow)
            | (go_simp; go_at_call 18; refine (C1 _ HXD.out).mono ?_; rintro x w2 ⟨k3, n3, s3, l3, q3, rfl, hN3, hsz3, hb3⟩; have HB3 := Lib.hid (bdrew hb3); have HN3 := Lib.hid hN3; have HS3 := Lib.hid hsz3; have B22 := Lib.hid (B2.out.keep (bdrew hb3)); obtain ⟨d0, d1, d2, d3, d4, d5⟩ := B22.out.c6; obtain ⟨f0, f1, f2, f3, f4, f5⟩ := B22.out.f6; have hz22 := B22.out.lt; have HO2 := Lib.hid (HO.out.keep (bdrew hb3)); clear hb3 hN3 hsz3))
          all_goals
            have HBW := Lib.hid (bnext HB3.out (balloc w2 (.cells #[.int .i64 k3, .string ⟨s3.toArray⟩, .int .i64 n3, .int .i64 0, .slice none 0 0, q3] 38)))
            have P0 := Lib.hid (Bk.grown ((B0.out.keep HB3.out).alloc _) HG4.out (fun e => by have := (HO2.out.own e).1; omega))
            have P1 := Lib.hid (Bk.grown ((B1.out.keep HB3.out).alloc _) HG4.out (fun e => by have := (HO2.out.own e).1; omega))
            have HX4 := Lib.hid ((bnext HX.out HBW.out).trans (bgrown HG4.out (fun x hx => by have := (HO2.out.own hx).1; rw [hB.out]; omega) (Nat.le_trans HX.out.size HBW.out.size)))
            have HSL := Lib.hid (show szL (L ++ [.mk k3 n3 s3 l3]) ≤ (j + 1) * bound d from by
              rw [szL_app, Nat.succ_mul]
              have h1 := HSZ.out
              have h2 := HS3.out
              simp only [szL]; omega)
            have hBB : w.heap.size ≤ B + 1 + 1 := by rw [hB.out]; omega
            go_wp2_with fail
            go_roundg g
            case rel => exact ⟨j + 1, .slice (some ⟨gg, 0, none⟩) (L.length + 1) cp, L ++ [.mk k3 n3 s3 l3], by omega, by go_num, Lib.hid (by rw [List.length_append, HL.out]; rfl), HSL, Lib.hid (P0.out.other (by omega) 5 _), Lib.hid (P1.out.other (by omega) 5 _), Lib.hid (B24.out.set 5 _), Lib.hid (HO4.out.other (fun b h => by omega) (by omega) 5 _), Lib.hid (HX4.out.setCell (p := ⟨B + 1 + 1, 5, none⟩) hBB _)⟩
            case measure => omega
        · have hjM : j = M := by omega
          obtain ⟨d0, d1, d2, d3, d4, d5⟩ := B1.out.f6
          obtain ⟨e0, e1, e2, e3, e4, e5⟩ := B1.out.c6
          obtain ⟨lo, lc, e⟩ := HO.out.val
          have hne : ∀ b, B + 3 ≤ b → b ≠ B + 1 := fun b h => by omega
          have hlB : B + 1 < B + 3 := by omega
          have hBB : w.heap.size ≤ B + 1 := by rw [hB.out]; omega
          have HEND : Hid (HasN ((((((wr.setCell ⟨B + 1, 0, none⟩ (.int .i64 k)).setCell ⟨B + 1, 1, none⟩ (.string a')).setCell ⟨B + 1, 2, none⟩ (.int .i64 n)).setCell ⟨B + 1, 3, none⟩ (.int .i64 0)).setCell ⟨B + 1, 4, none⟩ (.slice none 0 0)).setCell ⟨B + 1, 5, none⟩ (.slice lo L.length lc)) (fun b => w.heap.size ≤ b) (.mk k n a'.data.toList L) kv) := by
            refine Lib.hid (hasN_row.2 (((((((HO.out.other hne hlB 0 _).other hne hlB 1 _).other hne hlB 2 _).other hne hlB 3 _).other hne hlB 4 _).other hne hlB 5 _).row.mv (Mv.weak _ fun b h _ => ?_)))
            rw [hB.out]; rcases h with h | h <;> omega
          have HBE := Lib.hid (show Below w.heap.size w ((((((wr.setCell ⟨B + 1, 0, none⟩ (.int .i64 k)).setCell ⟨B + 1, 1, none⟩ (.string a')).setCell ⟨B + 1, 2, none⟩ (.int .i64 n)).setCell ⟨B + 1, 3, none⟩ (.int .i64 0)).setCell ⟨B + 1, 4, none⟩ (.slice none 0 0)).setCell ⟨B + 1, 5, none⟩ (.slice lo L.length lc)) from (((((HX.out.setCell (p := ⟨B + 1, 0, none⟩) hBB _).setCell (p := ⟨B + 1, 1, none⟩) hBB _).setCell (p := ⟨B + 1, 2, none⟩) hBB _).setCell (p := ⟨B + 1, 3, none⟩) hBB _).setCell (p := ⟨B + 1, 4, none⟩) hBB _).setCell (p := ⟨B + 1, 5, none⟩) hBB _)
          have HSE : Hid (sz (.mk k n a'.data.toList L) ≤ bound (d + 1)) := by
            refine Lib.hid ?_
            have h1 := HSZ.out
            have h2 := sz_eq (.mk k n a'.data.toList L)
            have h3 : j * bound d ≤ 5 * bound d := Nat.mul_le_mul_right _ (by omega)
            simp only [Nd.kids] at h2
            simp only [bound]; omega
          subst e
          clear hne hlB hBB
          rcases hMx with hMx | hMx
          all_goals
            go_wp2_with fail
            all_goals exact bodyPost_ret (v := .agg #[.int .i64 k, .string a', .int .i64 n, .int .i64 0, .slice none 0 0, .slice lo L.length lc]) (by simp [results, Try.results18, go_sem, hz1, e0, e1, e2, e3, e4, e5]) rfl ⟨k, n, a'.data.toList, L, _, by rw [Array.toArray_toList], HEND.out, HSE.out, HBE.out⟩
    · go_enter Try.func18, Try.ntmps18
      go_wp2_with fail
      obtain ⟨a', hEa⟩ : ∃ a', Hid (a = a') := ⟨_, Lib.hid rfl⟩
      have B0 := Lib.hid (((Bk.new w #[.int .i64 k, .string a, .int .i64 n, .int .i64 m, .slice nx ny nz, .slice ao len cap] 38).alloc (.cells #[.int .i64 0, .string ⟨#[]⟩, .int .i64 0, .int .i64 0, .slice none 0 0, .slice none 0 0] 38)).alloc (.cells #[.int .i64 k, .string a, .int .i64 n, .int .i64 0, .slice none 0 0, .slice none 0 0] 38))
      have B1 := Lib.hid ((Bk.new (w.alloc (.cells #[.int .i64 k, .string a, .int .i64 n, .int .i64 m, .slice nx ny nz, .slice ao len cap] 38)) #[.int .i64 0, .string ⟨#[]⟩, .int .i64 0, .int .i64 0, .slice none 0 0, .slice none 0 0] 38).alloc (.cells #[.int .i64 k, .string a, .int .i64 n, .int .i64 0, .slice none 0 0, .slice none 0 0] 38))
      have B2 := Lib.hid (Bk.new ((w.alloc (.cells #[.int .i64 k, .string a, .int .i64 n, .int .i64 m, .slice nx ny nz, .slice ao len cap] 38)).alloc (.cells #[.int .i64 0, .string ⟨#[]⟩, .int .i64 0, .int .i64 0, .slice none 0 0, .slice none 0 0] 38)) #[.int .i64 k, .string a, .int .i64 n, .int .i64 0, .slice none 0 0, .slice none 0 0] 38)
      have HW := Lib.hid (bnext (balloc w (.cells #[.int .i64 k, .string a, .int .i64 n, .int .i64 m, .slice nx ny nz, .slice ao len cap] 38)) (bnext (balloc _ (.cells #[.int .i64 0, .string ⟨#[]⟩, .int .i64 0, .int .i64 0, .slice none 0 0, .slice none 0 0] 38)) (balloc _ (.cells #[.int .i64 k, .string a, .int .i64 n, .int .i64 0, .slice none 0 0, .slice none 0 0] 38))))
      simp only [World.size_alloc] at B1 B2
      generalize w.alloc _ = W1 at *
      generalize W1.alloc _ = W2 at *
      generalize W2.alloc _ = W at *
      rw [hEa.out] at B2
      obtain ⟨B, hB⟩ : ∃ B, Hid (w.heap.size = B) := ⟨_, Lib.hid rfl⟩
      rw [hB.out] at B0 B1 B2 ⊢
      go_loopg [6] M (fun g jv wr => ∃ (j : Nat) (kv : Value) (L : List Nd), j + g = M ∧ jv = .int .i64 (j : Int) ∧ Hid (L.length = j) ∧ Hid (szL L ≤ j * bound d) ∧ Hid (Bk wr B #[.int .i64 k, .string a, .int .i64 n, .int .i64 m, .slice nx ny nz, .slice ao len cap] 38) ∧ Hid (Bk wr (B + 1) #[.int .i64 0, .string ⟨#[]⟩, .int .i64 0, .int .i64 0, .slice none 0 0, .slice none 0 0] 38) ∧ Hid (Bk wr (B + 1 + 1) #[.int .i64 k, .string a', .int .i64 n, .int .i64 0, .slice none 0 0, kv] 38) ∧ Hid (OwnK wr (B + 3) (fun b => B + 3 ≤ b) kv L) ∧ Hid (Below w.heap.size w wr))
      case atStart => exact ⟨0, .slice none 0 0, [], Nat.zero_add _, rfl, Lib.hid rfl, Lib.hid (Nat.zero_le _), B0, B1, B2, Lib.hid (OwnK.nil _ _ _), HW⟩
      case round =>
        clear B0 B1 B2 HW
        obtain ⟨j, kv, L, hj, rfl, HL, HSZ, B0, B1, B2, HO, HX⟩ := hrel
        have hz2 := B2.out.lt
        have hz1 : B + 1 < wr.heap.size := by omega
        have hz0 : B < wr.heap.size := by omega
        obtain ⟨y0, y1, y2, y3, y4, y5⟩ := B0.out.c6
        obtain ⟨c0, c1, c2, c3, c4, c5⟩ := B2.out.c6
        obtain ⟨g0, g1, g2, g3, g4, g5⟩ := B2.out.f6
        by_cases hlt : j < M
        · obtain ⟨g, rfl⟩ : ∃ g, gk = g + 1 := ⟨gk - 1, by omega⟩
          rcases HROW.out with h0 | ⟨b, off, rfl, hblt, hcells⟩
          · omega
          obtain ⟨k2, a2, n2, m2, nv2, q2, x0, x1, x2, x3, x4, x5, ha2, hnv2, hq2⟩ := hcells j (by omega)
          have C1 := fun (w' : World) (hb : Below w.heap.size w w') => IH.out k2 n2 m2 a2 nv2 q2 f w' ha2 hnv2 (ArgS.keep hb _ _ hq2)
          obtain ⟨nx2, ny2, nz2, rfl⟩ := hnv2
          have xq : ∃ x y z, q2 = .slice x y z := by obtain ⟨x, y, z, e, _⟩ := hq2.val; exact ⟨x, y, z, e⟩
          obtain ⟨qx, qy, qz, rfl⟩ := xq
          have v0 := (HX.out.cell (p := ⟨b, off + j * 6, none⟩) hblt).trans x0
          have v1 := (HX.out.cell (p := ⟨b, off + j * 6 + 1, none⟩) hblt).trans x1
          have v2 := (HX.out.cell (p := ⟨b, off + j * 6 + 2, none⟩) hblt).trans x2
          have v3 := (HX.out.cell (p := ⟨b, off + j * 6 + 3, none⟩) hblt).trans x3
          have v4 := (HX.out.cell (p := ⟨b, off + j * 6 + 4, none⟩) hblt).trans x4
          have v5 := (HX.out.cell (p := ⟨b, off + j * 6 + 5, none⟩) hblt).trans x5
          have i0 : (0 : Int) ≤ (j : Int) := by omega
          have i1 : (j : Int) < (len : Int) := by omega
          have i2 : (j : Int) < 5 := by omega
          have hbw : b < wr.heap.size := by have := HX.out.size; omega
          have HLL := Lib.hid (show L.length ≤ 10000 from by have := HL.out; omega)
          clear hcells hq2 x0 x1 x2 x3 x4 x5
          have HXD := Lib.hid (show Below w.heap.size w wr.drew from HX.out.trans ⟨rfl, rfl, rfl, Nat.le_refl _, fun _ _ => rfl⟩)
          have HN4 : ∀ (w2 : World) (k3 n3 : Int) (s3 : By) (l3 : List Nd) (q3 : Value), Below wr.heap.size wr w2 → HasN w2 (fun b => wr.drew.heap.size ≤ b) (.mk k3 n3 s3 l3) q3 → HasN (w2.alloc (.cells #[.int .i64 k3, .string ⟨s3.toArray⟩, .int .i64 n3, .int .i64 0, .slice none 0 0, q3] 38)) (fun b => B + 3 ≤ b ∧ kv.ownBlock ≠ some b) (.mk k3 n3 s3 l3) q3 := by
            intro w2 k3 n3 s3 l3 q3 hb hn
            refine HasN.keep (balloc _ _) _ _ (HasN.mv (Mv.weak w2 fun b h _ => ?_) _ _ hn)
            have h : wr.heap.size ≤ b := h
            exact ⟨by omega, fun e => by have := (HO.out.own e).2; omega⟩
          clear hz0 hz1
          go_wp2_with fail
          go_region_law (first
            | (refine step_nodeK (w2.alloc (.cells #[.int .i64 k3, .string ⟨s3.toArray⟩, .int .i64 n3, .int .i64 0, .slice none 0 0, q3] 38)) rfl (.tmp 38) (.tmp 47) rfl (B + 3) (fun b => B + 3 ≤ b) kv L (.mk k3 n3 s3 l3) q3 w2.heap.size (by rfl) (by rfl) (HO2.out.keep (balloc _ _)) (ncells_new w2 (.mk k3 n3 s3 l3) q3 38) (HN4 w2 k3 n3 s3 l3 q3 HB3.out HN3.out) HLL.out (by simp; omega) ?_; intro gg cp w4 hka hgrow; have HO4 := Lib.hid hka; have HG4 := Lib.hid hgrow; have B24 := Lib.hid (Bk.grown (B22.out.alloc _) hgrow (fun e => by have := (HO2.out.own e).1; omega)); obtain ⟨m0, m1, m2, m3, m4, m5⟩ := B24.out.c6; obtain ⟨o0, o1, o2, o3, o4, o5⟩ := B24.out.f6; have hz24 := B24.out.lt; clear hka hgrow)
            | (go_simp; go_at_call 18; refine (C1 _ HXD.out).mono ?_; rintro x w2 ⟨k3, n3, s3, l3, q3, rfl, hN3, hsz3, hb3⟩; have HB3 := Lib.hid (bdrew hb3); have HN3 := Lib.hid hN3; have HS3 := Lib.hid hsz3; have B22 := Lib.hid (B2.out.keep (bdrew hb3)); obtain ⟨d0, d1, d2, d3, d4, d5⟩ := B22.out.c6; obtain ⟨f0, f1, f2, f3, f4, f5⟩ := B22.out.f6; have hz22 := B22.out.lt; have HO2 := Lib.hid (HO.out.keep (bdrew hb3)); clear hb3 hN3 hsz3))
          all_goals
            have HBW := Lib.hid (bnext HB3.out (balloc w2 (.cells #[.int .i64 k3, .string ⟨s3.toArray⟩, .int .i64 n3, .int .i64 0, .slice none 0 0, q3] 38)))
            have P0 := Lib.hid (Bk.grown ((B0.out.keep HB3.out).alloc _) HG4.out (fun e => by have := (HO2.out.own e).1; omega))
            have P1 := Lib.hid (Bk.grown ((B1.out.keep HB3.out).alloc _) HG4.out (fun e => by have := (HO2.out.own e).1; omega))
            have HX4 := Lib.hid ((bnext HX.out HBW.out).trans (bgrown HG4.out (fun x hx => by have := (HO2.out.own hx).1; rw [hB.out]; omega) (Nat.le_trans HX.out.size HBW.out.size)))
            have HSL := Lib.hid (show szL (L ++ [.mk k3 n3 s3 l3]) ≤ (j + 1) * bound d from by
              rw [szL_app, Nat.succ_mul]
              have h1 := HSZ.out
              have h2 := HS3.out
              simp only [szL]; omega)
            have hBB : w.heap.size ≤ B + 1 + 1 := by rw [hB.out]; omega
            go_wp2_with fail
            go_roundg g
            case rel => exact ⟨j + 1, .slice (some ⟨gg, 0, none⟩) (L.length + 1) cp, L ++ [.mk k3 n3 s3 l3], by omega, by go_num, Lib.hid (by rw [List.length_append, HL.out]; rfl), HSL, Lib.hid (P0.out.other (by omega) 5 _), Lib.hid (P1.out.other (by omega) 5 _), Lib.hid (B24.out.set 5 _), Lib.hid (HO4.out.other (fun b h => by omega) (by omega) 5 _), Lib.hid (HX4.out.setCell (p := ⟨B + 1 + 1, 5, none⟩) hBB _)⟩
            case measure => omega
        · have hjM : j = M := by omega
          obtain ⟨d0, d1, d2, d3, d4, d5⟩ := B1.out.f6
          obtain ⟨e0, e1, e2, e3, e4, e5⟩ := B1.out.c6
          obtain ⟨lo, lc, e⟩ := HO.out.val
          have hne : ∀ b, B + 3 ≤ b → b ≠ B + 1 := fun b h => by omega
          have hlB : B + 1 < B + 3 := by omega
          have hBB : w.heap.size ≤ B + 1 := by rw [hB.out]; omega
          have HEND : Hid (HasN ((((((wr.setCell ⟨B + 1, 0, none⟩ (.int .i64 k)).setCell ⟨B + 1, 1, none⟩ (.string a')).setCell ⟨B + 1, 2, none⟩ (.int .i64 n)).setCell ⟨B + 1, 3, none⟩ (.int .i64 0)).setCell ⟨B + 1, 4, none⟩ (.slice none 0 0)).setCell ⟨B + 1, 5, none⟩ (.slice lo L.length lc)) (fun b => w.heap.size ≤ b) (.mk k n a'.data.toList L) kv) := by
            refine Lib.hid (hasN_row.2 (((((((HO.out.other hne hlB 0 _).other hne hlB 1 _).other hne hlB 2 _).other hne hlB 3 _).other hne hlB 4 _).other hne hlB 5 _).row.mv (Mv.weak _ fun b h _ => ?_)))
            rw [hB.out]; rcases h with h | h <;> omega
          have HBE := Lib.hid (show Below w.heap.size w ((((((wr.setCell ⟨B + 1, 0, none⟩ (.int .i64 k)).setCell ⟨B + 1, 1, none⟩ (.string a')).setCell ⟨B + 1, 2, none⟩ (.int .i64 n)).setCell ⟨B + 1, 3, none⟩ (.int .i64 0)).setCell ⟨B + 1, 4, none⟩ (.slice none 0 0)).setCell ⟨B + 1, 5, none⟩ (.slice lo L.length lc)) from (((((HX.out.setCell (p := ⟨B + 1, 0, none⟩) hBB _).setCell (p := ⟨B + 1, 1, none⟩) hBB _).setCell (p := ⟨B + 1, 2, none⟩) hBB _).setCell (p := ⟨B + 1, 3, none⟩) hBB _).setCell (p := ⟨B + 1, 4, none⟩) hBB _).setCell (p := ⟨B + 1, 5, none⟩) hBB _)
          have HSE : Hid (sz (.mk k n a'.data.toList L) ≤ bound (d + 1)) := by
            refine Lib.hid ?_
            have h1 := HSZ.out
            have h2 := sz_eq (.mk k n a'.data.toList L)
            have h3 : j * bound d ≤ 5 * bound d := Nat.mul_le_mul_right _ (by omega)
            simp only [Nd.kids] at h2
            simp only [bound]; omega
          subst e
          clear hne hlB hBB
          rcases hMx with hMx | hMx
          all_goals
            go_wp2_with fail
            all_goals exact bodyPost_ret (v := .agg #[.int .i64 k, .string a', .int .i64 n, .int .i64 0, .slice none 0 0, .slice lo L.length lc]) (by simp [results, Try.results18, go_sem, hz1, e0, e1, e2, e3, e4, e5]) rfl ⟨k, n, a'.data.toList, L, _, by rw [Array.toArray_toList], HEND.out, HSE.out, HBE.out⟩
end Go.Proofs.Ytommaomhiaaphaa.DG
