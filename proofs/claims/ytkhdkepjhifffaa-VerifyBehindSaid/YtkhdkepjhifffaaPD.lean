/- Numbers put behind bytes, by the program: the walk. -/
import Derived.Test.YtkhdkepjhifffaaKE
namespace Go.Proofs.Ytkhdkepjhifffaa.PD
open Go.RowKit Go.Proofs.Ytkhdkepjhifffaa.RG Go.Proofs.Ytkhdkepjhifffaa.KA Go.Proofs.Ytkhdkepjhifffaa.KB Go.Proofs.Ytkhdkepjhifffaa.KD
set_option linter.unusedVariables false
set_option maxRecDepth 100000
set_option maxRecDepth 100000

theorem u8_mod (n : Int) : IntKind.u8.wrap n = n % 256 := by simp [IntKind.wrap, IntKind.bits, IntKind.signed]
theorem flat_step {f : Int → By} {ns : List Int} {i : Nat} {n : Int} (h : ns[i]? = some n) : (ns.take (i + 1)).flatMap f = (ns.take i).flatMap f ++ f n := by
  rw [List.take_add_one, h, List.flatMap_append]
  simp
theorem flat_len (k : Nat) : ∀ ns : List Int, (ns.flatMap (leK k)).length = k * ns.length
  | [] => by simp
  | a :: l => by rw [List.flatMap_cons, List.length_append, flat_len k l, leK_len, List.length_cons, Nat.mul_succ]; omega
set_option maxHeartbeats 8000000 in
theorem put_c (v : Value) (l : By) (k : Nat) (nv : Value) (ns : List Int) (B : Nat) (w : World) (S : Nat → Prop) (h : OwnB w B v l) (hB : B ≤ w.heap.size) (hn : RowR TI w S nv ns) (hf : ns ≠ [] → ∀ b o n c, nv = .slice (some ⟨b, o, none⟩) n c → v.ownBlock ≠ some b) (hk : k ≤ 8) (hl : l.length ≤ 10000000000) (hns : ns.length ≤ 100000000) :
    Calls Try.prog 30 #[v, .int .i64 (k : Int), nv] w (PutRes w B v (l ++ ns.flatMap (leK k))) := by
  obtain ⟨ao, cap, rfl, hcap⟩ := hn.val
  have HA := Lib.hid (AppB.refl h)
  have HB := Lib.hid hB
  have HN := Lib.hid hn
  have HF := Lib.hid hf
  have HO0 := Lib.hid h
  obtain ⟨N, hN⟩ : ∃ x, Hid (ns.length = x) := ⟨_, Lib.hid rfl⟩
  rw [hN.out] at hcap hns HF HN ⊢
  clear h hB hn hf
  go_enter Try.func30, Try.ntmps30
  go_wp2_with fail
  go_loopg [0, 11] N (fun g bv iv wr => ∃ i : Nat, i + g = N ∧ iv = .int .i64 (i : Int) ∧ Hid (AppB w wr B v bv (l ++ (ns.take i).flatMap (leK k))))
  case atStart => exact ⟨0, Nat.zero_add _, rfl, by simpa using HA⟩
  case round =>
    obtain ⟨i, hi, rfl, HAP⟩ := hrel
    by_cases hlt : i < N
    · obtain ⟨g, rfl⟩ : ∃ g, gk = g + 1 := ⟨gk - 1, by omega⟩
      have hne : ns ≠ [] := by intro e; have := hN.out; rw [e] at this; simp at this; omega
      obtain ⟨b, off, cap, hve, _, hblt, hcells⟩ := HN.out.open_ hne
      have hfar := HF.out hne
      rw [hN.out] at hve
      cases hve
      have hfar := hfar b off N cap rfl
      obtain ⟨n, hnn⟩ := getElem?_of_lt (l := ns) (k := i) (by rw [hN.out]; exact hlt)
      obtain ⟨q, hL, _⟩ := hcells i n hnn
      have x0 : wr.cell? ⟨b, off + i, none⟩ = some (.int .i64 n) := (World.cell?_of_block (w := w) (a := ⟨b, off + i, none⟩) (HAP.out.gr.block b hblt (fun e => hfar e.symm))).trans (by have := hL 0 _ rfl; simpa [TI, Ty.flat] using this)
      have i0 : (0 : Int) ≤ (i : Int) := by omega
      have i1 : (i : Int) < (N : Int) := by omega
      have HSN := Lib.hid (flat_step (f := leK k) hnn)
      obtain ⟨L, hL'⟩ : ∃ L, Hid (l ++ (ns.take (i + 1)).flatMap (leK k) = L) := ⟨_, Lib.hid rfl⟩
      have HST := Lib.hid (show (l ++ (ns.take i).flatMap (leK k)) ++ leK (k - 0) n = L from by rw [← hL'.out, HSN.out, List.append_assoc]; rfl)
      have HLB := Lib.hid (show L.length ≤ 10000000000 + 8 * 100000000 from by
        rw [← hL'.out, List.length_append, flat_len, List.length_take]
        have := Nat.mul_le_mul hk (show min (i + 1) ns.length ≤ 100000000 by have := hN.out; omega)
        omega)
      clear hcells hL hnn hne hfar
      go_wp2_with fail
      clear x0
      go_loopg [0, 8, 16] k (fun g bv mv jv wr => ∃ (j : Nat) (m : Int) (lb : By), j + g = k ∧ jv = .int .i64 (j : Int) ∧ mv = .int .i64 m ∧ Hid (lb ++ leK (k - j) m = L) ∧ Hid (AppB w wr B v bv lb))
      case atStart => exact ⟨0, n, _, Nat.zero_add _, rfl, rfl, HST, HAP⟩
      case round =>
        clear HAP HST
        obtain ⟨j, m, lb, hj, rfl, rfl, HL, HAP⟩ := hrel
        by_cases hlt2 : j < k
        · obtain ⟨g2, rfl⟩ : ∃ g, gk = g + 1 := ⟨gk - 1, by omega⟩
          obtain ⟨r, hr⟩ : ∃ r, m % 256 = r := ⟨_, rfl⟩
          have ew : IntKind.u8.wrap m = r := (u8_mod m).trans hr
          have r0 : 0 ≤ r := by omega
          have r1 : r ≤ 255 := by omega
          have HOA := Lib.hid (HAP.out.step (balloc wr (.cells #[.int .u8 r] 5)))
          have eb : ((by1 r).toNat : Int) = r := by1_nat r0 (by omega)
          have HR := Lib.hid (show RowR TB (wr.alloc (.cells #[.int .u8 r] 5)) (fun b => Any b ∧ Value.ownBlock u0 ≠ some b) (.slice (some ⟨wr.heap.size, 0, none⟩) 1 1) [by1 r] from rowR_new (q := []) #[.int .u8 r] 5 (by show [Value.int .u8 ((by1 r).toNat : Int)] = _; rw [eb]) rfl)
          have HL2 := Lib.hid (show (lb ++ [by1 r]) ++ leK (k - (j + 1)) (m / 256) = L from by
            rw [← HL.out, show k - j = (k - (j + 1)) + 1 by omega]
            show _ = lb ++ (by1 (m % 256) :: leK (k - (j + 1)) (m / 256))
            rw [hr]; simp)
          have HLN := Lib.hid (show lb.length + [by1 r].length ≤ 100000000000 by
            have h1 := congrArg List.length HL.out
            rw [List.length_append] at h1
            have := HLB.out
            simp; omega)
          have HBS := Lib.hid (show B ≤ (wr.alloc (.cells #[.int .u8 r] 5)).heap.size from Nat.le_trans HB.out HOA.out.gr.size)
          have j0 : (0 : Int) ≤ (j : Int) := by omega
          clear eb hr
          go_wp2_with (at_builtin; go_loud (refine wpList_row TB (wr.alloc (.cells #[.int .u8 r] 5)) rfl (.tmp 18) (.tmp 21) rfl B Any u0 (.slice (some ⟨wr.heap.size, 0, none⟩) 1 1) lb [by1 r] rfl rfl HOA.out.own HR.out HLN.out HBS.out ?_); intro ao6 n6 cap6 w6 hO6 hn6 hg6 ha6; clear hn6; have HR6 := Lib.hid (HOA.out.grown hO6 hg6 ha6); clear hO6 hg6 ha6)
          go_roundg g2
          case rel => exact ⟨j + 1, m / 256, lb ++ [by1 r], by omega, by go_num, by first | rfl | (congr 1; omega) | (simp [Int.shiftRight_eq_div_pow]; done), HL2, HR6⟩
          case measure => omega
        · have hjk : j = k := by omega
          have HE := Lib.hid (show lb = L from by
            have h := HL.out
            rw [hjk, Nat.sub_self, show leK 0 m = [] from rfl, List.append_nil] at h
            exact h)
          go_wp2_with fail
          go_roundg g
          case rel => exact ⟨i + 1, by omega, by go_num, Lib.hid (by rw [hL'.out, ← HE.out]; exact HAP.out)⟩
          case measure => omega
    · have hiN : i = N := by omega
      have HE := Lib.hid (show l ++ (ns.take i).flatMap (leK k) = l ++ ns.flatMap (leK k) from by rw [List.take_of_length_le (by rw [hN.out]; omega)])
      go_wp2_with fail
      go_ret
      exact ⟨_, rfl, by rw [← HE.out]; exact HAP.out⟩
end Go.Proofs.Ytkhdkepjhifffaa.PD
