/- The first so many rows, cut: the walk. -/
import Derived.Test.YtommaomhiaaphaaDG
namespace Go.Proofs.Ytommaomhiaaphaa.DH
open Go.RowKit Go.Proofs.Ytommaomhiaaphaa.CA Go.Proofs.Ytommaomhiaaphaa.CB Go.Proofs.Ytommaomhiaaphaa.CC Go.Proofs.Ytommaomhiaaphaa.CD Go.Proofs.Ytommaomhiaaphaa.CE Go.Proofs.Ytommaomhiaaphaa.CF Go.Proofs.Ytommaomhiaaphaa.CG Go.Proofs.Ytommaomhiaaphaa.CH Go.Proofs.Ytommaomhiaaphaa.CK Go.Proofs.Ytommaomhiaaphaa.CI Go.Proofs.Ytommaomhiaaphaa.CO Go.Proofs.Ytommaomhiaaphaa.DE Go.Proofs.Ytommaomhiaaphaa.DF Go.Proofs.Ytommaomhiaaphaa.DG
set_option linter.unusedVariables false
set_option maxRecDepth 100000

def FewRes (w : World) (e : Ending) (w' : World) : Prop :=
  ∃ v L, e = .returned v ∧ OwnK w' w.heap.size (fun b => w.heap.size ≤ b) v L ∧ L.length ≤ 5 ∧ (∀ p, p ∈ L → sz p ≤ 9) ∧ Below w.heap.size w w'
set_option maxRecDepth 100000 in
set_option maxHeartbeats 4000000 in
theorem few_c (f : Nat) (v : Value) (w : World) (hv : ArgS w f v) : Calls Try.prog 5 #[v, .int .i64 5] w (FewRes w) := by
  cases f with
  | zero => exact hv.elim
  | succ f =>
  obtain ⟨ao, len, cap, rfl, hlc, hcm, hrow⟩ := hv
  have HROW := Lib.hid hrow
  clear hrow
  go_enter Try.func5, Try.ntmps5
  go_wp2_with fail
  obtain ⟨B, hB⟩ : ∃ B, Hid (w.heap.size = B) := ⟨_, Lib.hid rfl⟩
  have HW0 := Lib.hid (Below.refl w.heap.size w)
  go_loopg [5, 6, 7] len (fun g lv jv pv wr => ∃ (j : Nat) (L : List Nd), j + g = len ∧ jv = .int .i64 (j : Int) ∧ L.length ≤ 5 ∧ Hid (OwnK wr B (fun b => B ≤ b) lv L) ∧ Hid (∀ p, p ∈ L → sz p ≤ 9) ∧ Hid (Below w.heap.size w wr))
  case atStart => exact ⟨0, [], Nat.zero_add _, rfl, Nat.zero_le _, Lib.hid (OwnK.nil _ _ _), Lib.hid (fun p hp => by cases hp), HW0⟩
  case round =>
    obtain ⟨j, L, hj, rfl, hL5, HO, HS, HX⟩ := hrel
    obtain ⟨lo, lc, e⟩ := HO.out.val
    subst e
    obtain ⟨NL, hNL⟩ : ∃ NL, Hid (L.length = NL) := ⟨_, Lib.hid rfl⟩
    rw [hNL.out] at hL5 HO ⊢
    have hlenb : len ≤ 9223372036854775807 := by
      have hm : maxLen = 9223372036854775807 := rfl
      omega
    by_cases hlt : j < len
    · by_cases hn5 : NL < 5
      · obtain ⟨g, rfl⟩ : ∃ g, gk = g + 1 := ⟨gk - 1, by omega⟩
        rcases HROW.out with h0 | ⟨b, off, rfl, hblt, hcells⟩
        · omega
        obtain ⟨k2, a2, n2, m2, nv2, q2, x0, x1, x2, x3, x4, x5, ha2, hnv2, hq2⟩ := hcells j (by omega)
        have C1 := fun (w' : World) (hb : Below w.heap.size w w') => cut_c 3 (Nat.le_refl _) k2 n2 m2 a2 nv2 q2 f w' ha2 hnv2 (ArgS.keep hb _ _ hq2)
        obtain ⟨nx2, ny2, nz2, rfl⟩ := hnv2
        have xq : ∃ x y z, q2 = .slice x y z := by obtain ⟨x, y, z, e, _⟩ := hq2.val; exact ⟨x, y, z, e⟩
        obtain ⟨qx, qy, qz, rfl⟩ := xq
        have v0 := (HX.out.cell (p := ⟨b, off + j * 6, none⟩) hblt).trans x0
        have v1 := (HX.out.cell (p := ⟨b, off + j * 6 + 1, none⟩) hblt).trans x1
        have v2 := (HX.out.cell (p := ⟨b, off + j * 6 + 2, none⟩) hblt).trans x2
        have v3 := (HX.out.cell (p := ⟨b, off + j * 6 + 3, none⟩) hblt).trans x3
        have v4 := (HX.out.cell (p := ⟨b, off + j * 6 + 4, none⟩) hblt).trans x4
        have v5 := (HX.out.cell (p := ⟨b, off + j * 6 + 5, none⟩) hblt).trans x5
        have i0 : (0 : Int) ≤ (j : Int) := by omega
        have i1 : (j : Int) < (len : Int) := by omega
        have i2 : (NL : Int) < 5 := by omega
        clear hcells hq2 x0 x1 x2 x3 x4 x5 HW0
        go_wp2_with fail
        refine (C1 _ HX.out).mono ?_
        rintro e w3 ⟨k3, n3, s3, l3, q3, rfl, hN3, hsz3, hb3⟩
        have HX3 := Lib.hid (bnext HX.out hb3)
        have HN3 := Lib.hid hN3
        have HO3 := Lib.hid (HO.out.keep hb3)
        have HG3 := Lib.hid hb3.size
        obtain ⟨ao3, cap3, e3, _⟩ := (hasN_row.1 hN3).val
        subst e3
        simp only [Nd.kids] at HN3 ⊢
        have C2 := fun (w' : World) (h : HasN w' Any (.mk k3 n3 s3 l3) (.slice ao3 l3.length cap3)) => count_c 156 (by decide) k3 n3 s3 l3 _ w' hsz3 h
        obtain ⟨Z, hZ⟩ : ∃ Z, Hid (sz (.mk k3 n3 s3 l3) = Z) := ⟨_, Lib.hid rfl⟩
        rw [hZ.out] at C2
        obtain ⟨L3, hL3⟩ : ∃ L3, Hid (l3.length = L3) := ⟨_, Lib.hid rfl⟩
        rw [hL3.out] at C2 HN3 ⊢
        have B3 := Lib.hid (Bk.new w3 #[.int .i64 k3, .string ⟨s3.toArray⟩, .int .i64 n3, .int .i64 0, .slice none 0 0, .slice ao3 L3 cap3] 38)
        have HX4 := Lib.hid (bnext HX3.out (balloc w3 (.cells #[.int .i64 k3, .string ⟨s3.toArray⟩, .int .i64 n3, .int .i64 0, .slice none 0 0, .slice ao3 L3 cap3] 38)))
        have HO4 := Lib.hid (HO3.out.keep (balloc w3 (.cells #[.int .i64 k3, .string ⟨s3.toArray⟩, .int .i64 n3, .int .i64 0, .slice none 0 0, .slice ao3 L3 cap3] 38)))
        have HN4 := Lib.hid (HasN.keep (balloc w3 (.cells #[.int .i64 k3, .string ⟨s3.toArray⟩, .int .i64 n3, .int .i64 0, .slice none 0 0, .slice ao3 L3 cap3] 38)) _ _ HN3.out)
        clear hN3 hsz3 hb3 v0 v1 v2 v3 v4 v5 C1
        go_wp2_with fail
        refine (C2 _ (HasN.mv (Mv.weak _ fun _ _ _ => trivial) _ _ HN4.out)).mono ?_
        rintro e w5 ⟨rfl, hb5⟩
        have HX5 := Lib.hid (bnext HX4.out hb5)
        have HO5 := Lib.hid (HO4.out.keep hb5)
        have HN5 := Lib.hid (HasN.keep hb5 _ _ HN4.out)
        have B5 := Lib.hid (B3.out.keep hb5)
        have hlt5 := B5.out.lt
        obtain ⟨y0, y1, y2, y3, y4, y5⟩ := B5.out.c6
        clear hb5
        by_cases h9 : Z ≤ 9
        · have h9i : (Z : Int) ≤ 9 := by omega
          have hne : L.length ≤ 10000 := by have := hNL.out; omega
          have HNE := Lib.hid hne
          have HN6 := Lib.hid (show HasN (w5.alloc (.cells #[.int .i64 k3, .string ⟨s3.toArray⟩, .int .i64 n3, .int .i64 0, .slice none 0 0, .slice ao3 L3 cap3] 38)) (fun b => B ≤ b ∧ (Value.slice lo NL lc).ownBlock ≠ some b) (.mk k3 n3 s3 l3) (.slice ao3 L3 cap3) from
            HasN.keep (balloc _ _) _ _ (HasN.mv (Mv.weak w5 fun b h _ => ⟨by have h : wr.heap.size ≤ b := h; have := HX.out.size; have := hB.out; omega, fun e => by have h : wr.heap.size ≤ b := h; have := (HO.out.own e).2; omega⟩) _ _ HN5.out))
          clear hne
          go_wp2_with (at_builtin; go_loud (refine wpList_nodeK (w5.alloc (.cells #[.int .i64 k3, .string ⟨s3.toArray⟩, .int .i64 n3, .int .i64 0, .slice none 0 0, .slice ao3 L3 cap3] 38)) rfl (.tmp 28) (.tmp 30) rfl B (fun b => B ≤ b) (.slice lo NL lc) L (.mk k3 n3 s3 l3) (.slice ao3 L3 cap3) w5.heap.size rfl rfl (HO5.out.keep (balloc _ _)) (ncells_new w5 (.mk k3 n3 s3 l3) (.slice ao3 L3 cap3) 38) HN6.out HNE.out (by simp; have := HX5.out.size; have := hB.out; omega) ?_); intro g6 cap6 w6 hO6 hg6; have HO6 := Lib.hid hO6; have HG6 := Lib.hid hg6; clear hO6 hg6)
          go_roundg g
          case rel =>
            refine ⟨j + 1, L ++ [.mk k3 n3 s3 l3], by omega, by go_num, by rw [List.length_append, hNL.out]; simp; omega, HO6, Lib.hid ?_, Lib.hid ((bnext HX5.out (balloc w5 (.cells #[.int .i64 k3, .string ⟨s3.toArray⟩, .int .i64 n3, .int .i64 0, .slice none 0 0, .slice ao3 L3 cap3] 38))).trans (bgrown HG6.out (fun x hx => by rw [hB.out]; exact (HO5.out.own hx).1) (by simp; have := HX5.out.size; omega)))⟩
            intro p hp
            rcases List.mem_append.1 hp with hp | hp
            · exact HS.out p hp
            · rw [List.mem_singleton.1 hp, hZ.out]; exact h9
          case measure => omega
        · have h9i : ¬ (Z : Int) ≤ 9 := by omega
          go_wp2_with fail
          go_roundg g
          case rel => exact ⟨j + 1, L, by omega, by go_num, by rw [hNL.out]; omega, Lib.hid (by rw [hNL.out] at *; exact HO5.out), HS, HX5⟩
          case measure => omega
      · have i2 : ¬ (NL : Int) < 5 := by omega
        have i1 : (j : Int) < (len : Int) := by omega
        go_wp2_with fail
        go_ret
        exact ⟨_, L, rfl, by rw [hB.out]; exact HO.out, by rw [hNL.out]; exact hL5, HS.out, HX.out⟩
    · go_wp2_with fail
      go_ret
      exact ⟨_, L, rfl, by rw [hB.out]; exact HO.out, by rw [hNL.out]; exact hL5, HS.out, HX.out⟩
end Go.Proofs.Ytommaomhiaaphaa.DH
