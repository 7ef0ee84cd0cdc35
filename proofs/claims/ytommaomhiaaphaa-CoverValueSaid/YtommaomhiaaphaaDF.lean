/- How many nodes a node has: the walk. -/
import Derived.Test.YtommaomhiaaphaaDE
namespace Go.Proofs.Ytommaomhiaaphaa.DF
open Go.RowKit Go.Proofs.Ytommaomhiaaphaa.CA Go.Proofs.Ytommaomhiaaphaa.CB Go.Proofs.Ytommaomhiaaphaa.CC Go.Proofs.Ytommaomhiaaphaa.CD Go.Proofs.Ytommaomhiaaphaa.CE Go.Proofs.Ytommaomhiaaphaa.CF Go.Proofs.Ytommaomhiaaphaa.CG Go.Proofs.Ytommaomhiaaphaa.CH Go.Proofs.Ytommaomhiaaphaa.CK Go.Proofs.Ytommaomhiaaphaa.CI Go.Proofs.Ytommaomhiaaphaa.CO Go.Proofs.Ytommaomhiaaphaa.DE
set_option linter.unusedVariables false
set_option maxRecDepth 100000

theorem szL_app : ∀ a b : List Nd, szL (a ++ b) = szL a + szL b
  | [], b => by simp [szL]
  | p :: a, b => by show sz p + szL (a ++ b) = _; rw [szL_app a b]; simp [szL]; omega
theorem szL_take {l : List Nd} {j : Nat} {p : Nd} (h : l[j]? = some p) : szL (l.take (j + 1)) = szL (l.take j) + sz p := by
  rw [List.take_add_one, h, szL_app]; simp [szL]
theorem szL_take_le (l : List Nd) (j : Nat) : szL (l.take j) ≤ szL l := by
  have h := szL_app (l.take j) (l.drop j)
  rw [List.take_append_drop] at h; omega
theorem len_szL : ∀ l : List Nd, l.length ≤ szL l
  | [] => Nat.le_refl _
  | p :: l => by
    have := len_szL l
    have := sz_eq p
    simp only [szL, List.length_cons]; omega
set_option maxRecDepth 100000 in
set_option maxHeartbeats 4000000 in
theorem count_c : ∀ (N : Nat), N ≤ 900000 → ∀ (k n : Int) (s : By) (l : List Nd) (q : Value) (w : World), sz (.mk k n s l) ≤ N → HasN w Any (.mk k n s l) q →
    Calls Try.prog 19 #[.agg #[.int .i64 k, .string ⟨s.toArray⟩, .int .i64 n, .int .i64 0, .slice none 0 0, q]] w fun e w' => e = .returned (.int .i64 (sz (.mk k n s l) : Int)) ∧ Below w.heap.size w w' := by
  intro N
  induction N with
  | zero =>
    intro hN k n s l q w hs hq
    have := sz_eq (.mk k n s l)
    omega
  | succ N ih =>
    intro hN k n s l q w hsz hq
    have IH := Lib.hid (ih (by omega))
    clear ih
    have hsz2 : szL l ≤ N := by have := sz_eq (.mk k n s l); simp only [Nd.kids] at this; omega
    have hll := len_szL l
    have hrow := hasN_row.1 hq
    obtain ⟨ao, cap, hqe, hcap⟩ := hrow.val
    simp only [Nd.kids] at hqe hcap hrow
    subst hqe
    have HROW := Lib.hid hrow
    have HSZ := Lib.hid hsz2
    obtain ⟨R, HR⟩ : ∃ R : Int, Hid ((sz (.mk k n s l) : Int) = R) := ⟨_, Lib.hid rfl⟩
    have HRR := Lib.hid (show ((1 + szL l : Nat) : Int) = R from by rw [← HR.out, sz_eq (.mk k n s l)]; rfl)
    rw [HR.out]
    obtain ⟨L, hL⟩ : ∃ L, Hid (l.length = L) := ⟨_, Lib.hid rfl⟩
    rw [hL.out] at hll hcap ⊢
    have hLb : L ≤ 900000 := by have := HSZ.out; omega
    have HBX := Lib.hid (Bx.new w k n s (.slice ao L cap) 38)
    have HB0 := Lib.hid (balloc w (.cells #[.int .i64 k, .string ⟨s.toArray⟩, .int .i64 n, .int .i64 0, .slice none 0 0, .slice ao L cap] 38))
    clear hq hrow hsz hsz2
    go_enter Try.func19, Try.ntmps19
    go_wp2_with fail
    obtain ⟨B, hB⟩ : ∃ B, Hid (w.heap.size = B) := ⟨_, Lib.hid rfl⟩
    rw [hB.out] at HBX ⊢
    generalize w.alloc _ = W at HBX HB0 ⊢
    go_loopg [3, 4] L (fun g kv jv wr => ∃ (j z : Nat), j + g = L ∧ z ≤ 900000 ∧ jv = .int .i64 (j : Int) ∧ kv = .int .i64 (z : Int) ∧ Hid (z = 1 + szL (l.take j)) ∧ Hid (Below w.heap.size w wr) ∧ Hid (Bx wr B k n s (.slice ao L cap)))
    case atStart => exact ⟨0, 1, Nat.zero_add _, by omega, rfl, rfl, Lib.hid rfl, HB0, HBX⟩
    case round =>
      obtain ⟨j, z, hj, hz, rfl, rfl, HZ, HX2, HBx⟩ := hrel
      clear HBX HB0
      obtain ⟨hlz, y0, y1, y2, y3, y4, y5⟩ := HBx.out
      by_cases hlt : j < L
      · obtain ⟨g, rfl⟩ : ∃ g, gk = g + 1 := ⟨gk - 1, by omega⟩
        have hlne : l ≠ [] := by intro e; have := hL.out; rw [e] at this; simp at this; omega
        obtain ⟨b, off, cap', hve, _, hblt, hcells⟩ := HROW.out.open_ hlne
        cases hve
        obtain ⟨kid, hkid⟩ := getElem?_of_lt (l := l) (k := j) (by rw [hL.out]; exact hlt)
        obtain ⟨q2, hLs, hq2⟩ := hcells j kid hkid
        have hszk := sz_kid hkid
        have htk := szL_take hkid
        have htl := szL_take_le l (j + 1)
        have hz3 : z + sz kid ≤ 900000 := by have := HSZ.out; have := HZ.out; omega
        have HZ2 := Lib.hid (show z + sz kid = 1 + szL (l.take (j + 1)) from by have := HZ.out; omega)
        obtain ⟨x0, x1, x2, x3, x4, x5⟩ := hLs.keep HX2.out hblt
        obtain ⟨k2, n2, s2, l2⟩ := kid
        simp only [Nd.k, Nd.n, Nd.s] at x0 x1 x2
        have C1 := fun (w' : World) (hb : Below w.heap.size w w') => IH.out k2 n2 s2 l2 q2 w' (by have := HSZ.out; omega) (HasN.keep hb _ _ hq2)
        generalize sz (.mk k2 n2 s2 l2) = z2 at C1 HZ2 hz3
        have i0 : (0 : Int) ≤ (j : Int) := by omega
        have i1 : (j : Int) < (L : Int) := by omega
        clear hLs hq2 hkid hszk hcells hlne htk htl
        go_wp2_with (go_at_call 19; refine (C1 _ HX2.out).mono ?_; rintro e w3 ⟨rfl, hb⟩; have HB3 := Lib.hid hb; clear hb)
        go_roundg g
        case rel => exact ⟨j + 1, z + z2, by omega, hz3, by go_num, by go_num, HZ2, Lib.hid (bnext HX2.out HB3.out), Lib.hid (HBx.out.keep HB3.out)⟩
        case measure => omega
      · go_wp2_with fail
        go_ret
        refine ⟨ret_int ?_, HX2.out⟩
        rw [← HRR.out, HZ.out, List.take_of_length_le (by rw [hL.out]; omega)]
end Go.Proofs.Ytommaomhiaaphaa.DF
