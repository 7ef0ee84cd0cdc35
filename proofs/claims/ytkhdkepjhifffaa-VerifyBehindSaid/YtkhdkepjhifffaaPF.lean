/- Numbers put behind bytes that are full, by the program: the walk. -/
import Derived.Test.YtkhdkepjhifffaaPD
import Derived.ArgAppend
namespace Go.Proofs.Ytkhdkepjhifffaa.PF
open Go.RowKit Go.Proofs.Ytkhdkepjhifffaa.RG Go.Proofs.Ytkhdkepjhifffaa.KA Go.Proofs.Ytkhdkepjhifffaa.KB Go.Proofs.Ytkhdkepjhifffaa.KD Go.Proofs.Ytkhdkepjhifffaa.PD
set_option linter.unusedVariables false
set_option maxRecDepth 100000
set_option maxRecDepth 100000

/-- Bytes that lie full, and a world on; or bytes of the call's own. -/
def St (w : World) (v : Value) (l : By) (wr : World) (bv : Value) (lb : By) : Prop := Below w.heap.size w wr ∧ ((bv = v ∧ lb = l) ∨ OwnB wr w.heap.size bv lb)
theorem ownB_low {w : World} {B B' : Nat} {v : Value} {l : By} (hB : B' ≤ B) (h : OwnB w B v l) : OwnB w B' v l := by
  obtain ⟨qs, ⟨h1, h2⟩, h3⟩ := h
  refine ⟨qs, ⟨h1, ?_⟩, h3⟩
  rcases h2 with h2 | ⟨g, cap, cur, hv, hg, r⟩
  · exact .inl h2
  · exact .inr ⟨g, cap, cur, hv, Nat.le_trans hB hg, r⟩
theorem bvs_app (a b : By) : bvs (a ++ b) = bvs a ++ bvs b := by unfold bvs; rw [List.map_append]
theorem bvs_one (l : By) : ∀ u ∈ bvs l, u.oneCell' = true := by
  intro u hu
  unfold bvs at hu
  obtain ⟨b, _, rfl⟩ := List.mem_map.1 hu
  rfl
set_option maxHeartbeats 8000000 in
theorem put_full (X n0 : Nat) (l : By) (nv : Value) (ns : List Int) (w : World) (S : Nat → Prop) (hcl : ∀ j u, (bvs l)[j]? = some u → w.cell? ⟨X, 0 + j, none⟩ = some u) (hX : X < w.heap.size) (hn0 : l.length = n0) (hns0 : ns ≠ []) (hn : RowR TI w S nv ns) (hl : n0 ≤ 1000) (hns : ns.length ≤ 100000000) :
    Calls Try.prog 30 #[.slice (some ⟨X, 0, none⟩) n0 n0, .int .i64 1, nv] w (fun e w' => ∃ v', e = .returned v' ∧ OwnB w' w.heap.size v' (l ++ ns.flatMap (leK 1)) ∧ Below w.heap.size w w') := by
  obtain ⟨ao, cap, rfl, hcap⟩ := hn.val
  have HN := Lib.hid hn
  have HC := Lib.hid hcl
  have HN0 := Lib.hid hns0
  obtain ⟨N, hN⟩ : ∃ x, Hid (ns.length = x) := ⟨_, Lib.hid rfl⟩
  rw [hN.out] at hcap hns HN ⊢
  have HS0 := Lib.hid (show St w (.slice (some ⟨X, 0, none⟩) n0 n0) l w (.slice (some ⟨X, 0, none⟩) n0 n0) l from ⟨Below.refl _ _, .inl ⟨rfl, rfl⟩⟩)
  obtain ⟨iB, hiB, hzB, hsB', hbB⟩ := info_parts TB.info
  have HIB := Lib.hid (show Try.prog.info? 5 = some iB ∧ iB.zero = some (.int .u8 0) ∧ iB.size = 1 ∧ iB.bytes = 1 from ⟨hiB, hzB, hsB', hbB⟩)
  clear hn hcl hns0 hiB hzB hsB' hbB
  go_enter Try.func30, Try.ntmps30
  go_wp2_with fail
  go_loopg [0, 11] N (fun g bv iv wr => ∃ i : Nat, i + g = N ∧ iv = .int .i64 (i : Int) ∧ Hid (St w (.slice (some ⟨X, 0, none⟩) n0 n0) l wr bv (l ++ (ns.take i).flatMap (leK 1))))
  case atStart => exact ⟨0, Nat.zero_add _, rfl, by simpa using HS0⟩
  case round =>
    obtain ⟨i, hi, rfl, HAP⟩ := hrel
    by_cases hlt : i < N
    · obtain ⟨g, rfl⟩ : ∃ g, gk = g + 1 := ⟨gk - 1, by omega⟩
      obtain ⟨b, off, cap, hve, _, hblt, hcells⟩ := HN.out.open_ HN0.out
      rw [hN.out] at hve
      cases hve
      obtain ⟨n, hnn⟩ := getElem?_of_lt (l := ns) (k := i) (by rw [hN.out]; exact hlt)
      obtain ⟨q, hL, _⟩ := hcells i n hnn
      have x0 : wr.cell? ⟨b, off + i, none⟩ = some (.int .i64 n) := (HAP.out.1.cell (p := ⟨b, off + i, none⟩) hblt).trans (by have := hL 0 _ rfl; simpa [TI, Ty.flat] using this)
      have i0 : (0 : Int) ≤ (i : Int) := by omega
      have i1 : (i : Int) < (N : Int) := by omega
      have HSN := Lib.hid (flat_step (f := leK 1) hnn)
      obtain ⟨L, hL'⟩ : ∃ L, Hid (l ++ (ns.take (i + 1)).flatMap (leK 1) = L) := ⟨_, Lib.hid rfl⟩
      have HST := Lib.hid (show (l ++ (ns.take i).flatMap (leK 1)) ++ leK (1 - 0) n = L from by rw [← hL'.out, HSN.out, List.append_assoc])
      have HLB := Lib.hid (show L.length ≤ 1000 + 100000000 from by
        rw [← hL'.out, List.length_append, flat_len, List.length_take]
        have := hN.out
        omega)
      clear hcells hL hnn
      go_wp2_with fail
      clear x0
      go_loopg [0, 8, 16] 1 (fun g bv mv jv wr => ∃ (j : Nat) (m : Int) (lb : By), j + g = 1 ∧ jv = .int .i64 (j : Int) ∧ mv = .int .i64 m ∧ Hid (lb ++ leK (1 - j) m = L) ∧ Hid (St w (.slice (some ⟨X, 0, none⟩) n0 n0) l wr bv lb))
      case atStart => exact ⟨0, n, _, Nat.zero_add _, rfl, rfl, HST, HAP⟩
      case round =>
        clear HAP HST
        obtain ⟨j, m, lb, hj, rfl, rfl, HL, HAP⟩ := hrel
        by_cases hlt2 : j < 1
        · obtain ⟨g2, rfl⟩ : ∃ g, gk = g + 1 := ⟨gk - 1, by omega⟩
          obtain ⟨r, hr⟩ : ∃ r, m % 256 = r := ⟨_, rfl⟩
          have ew : IntKind.u8.wrap m = r := (u8_mod m).trans hr
          have r0 : 0 ≤ r := by omega
          have r1 : r ≤ 255 := by omega
          have eb : ((by1 r).toNat : Int) = r := by1_nat r0 (by omega)
          have HEB := Lib.hid eb
          have HL2 := Lib.hid (show (lb ++ [by1 r]) ++ leK (1 - (j + 1)) (m / 256) = L from by
            rw [← HL.out, show 1 - j = (1 - (j + 1)) + 1 by omega]
            show _ = lb ++ (by1 (m % 256) :: leK (1 - (j + 1)) (m / 256))
            rw [hr]; simp)
          have HLN := Lib.hid (show lb.length + [by1 r].length ≤ 100000000000 by
            have h1 := congrArg List.length HL.out
            rw [List.length_append] at h1
            have := HLB.out
            simp; omega)
          have j0 : (0 : Int) ≤ (j : Int) := by omega
          have HR := Lib.hid (fun S => show RowR TB (wr.alloc (.cells #[.int .u8 r] 5)) S (.slice (some ⟨wr.heap.size, 0, none⟩) 1 1) [by1 r] from rowR_new (q := []) #[.int .u8 r] 5 (by show [Value.int .u8 ((by1 r).toNat : Int)] = _; rw [eb]) rfl)
          have HBW := Lib.hid HAP.out.1
          have HBS := Lib.hid (show w.heap.size ≤ (wr.alloc (.cells #[.int .u8 r] 5)).heap.size from Nat.le_trans HBW.out.size (balloc wr _).size)
          have HBA := Lib.hid (HBW.out.trans ((balloc wr (.cells #[.int .u8 r] 5)).mono HBW.out.size))
          have hcs := HAP.out.2
          clear eb hr HAP
          rcases hcs with ⟨rfl, rfl⟩ | hown
          · have HCL := Lib.hid (fun j u (h : (bvs lb)[j]? = some u) => show (wr.alloc (.cells #[.int .u8 r] 5)).cell? ⟨X, 0 + j, none⟩ = some u from (HBA.out.cell (p := ⟨X, 0 + j, none⟩) hX).trans (HC.out j u h))
            have HNW := Lib.hid (fun j u (h : ([.int .u8 r] : List Value)[j]? = some u) => show (wr.alloc (.cells #[.int .u8 r] 5)).cell? ((⟨wr.heap.size, 0, none⟩ : Addr).add j) = some u from by
              match j, h with
              | 0, h => simp at h; subst h; exact (Bk.new wr #[.int .u8 r] 5).cell 0 _ rfl
              | j + 1, h => simp at h)
            have HB1 := Lib.hid (show (bvs lb).length = n0 * 1 from by unfold bvs; simp [hn0])
            have HEE := Lib.hid (show bvs lb ++ [.int .u8 r] = bvs (lb ++ [by1 r]) from by rw [bvs_app]; show _ = bvs lb ++ [Value.int .u8 ((by1 r).toNat : Int)]; rw [HEB.out])
            go_wp2_with (at_builtin; go_loud (refine wpList_append_arg (wr.alloc (.cells #[.int .u8 r] 5)) rfl (.tmp 18) (.tmp 21) 22 rfl 5 iB (.int .u8 0) 1 1 Try.underlying22 HIB.out.1 HIB.out.2.1 HIB.out.2.2.1 HIB.out.2.2.2 rfl (by decide) X 0 n0 n0 (bvs lb) rfl HB1.out HCL.out ⟨wr.heap.size, 0, none⟩ 1 1 [.int .u8 r] rfl rfl HNW.out (by intro u hu; simp at hu; subst hu; rfl) (fun h => absurd h (by omega)) (by unfold maxLen; omega) (by omega) (fun h => absurd h (by omega)) ?_); intro _ v6 w6 hO6 hg6; have HR6 := Lib.hid (show St w (.slice (some ⟨X, 0, none⟩) n0 n0) lb w6 v6 (lb ++ [by1 r]) from ⟨HBA.out.trans (bgrown hg6 (fun b e => by cases e) HBS.out), .inr (ownB_low HBS.out (ownB_of (by rw [HEE.out] at hO6; exact hO6) (by simp [hn0])))⟩); clear hO6 hg6)
            go_roundg g2
            case rel => exact ⟨j + 1, m / 256, lb ++ [by1 r], by omega, by go_num, rfl, HL2, HR6⟩
            case measure => omega
          · have HOA := Lib.hid (show OwnB (wr.alloc (.cells #[.int .u8 r] 5)) w.heap.size u0 lb from hown.keep (balloc _ _))
            have HOW := Lib.hid (fun b hb => hown.own (b := b) hb)
            clear hown
            go_wp2_with (at_builtin; go_loud (refine wpList_row TB (wr.alloc (.cells #[.int .u8 r] 5)) rfl (.tmp 18) (.tmp 21) rfl w.heap.size Any u0 (.slice (some ⟨wr.heap.size, 0, none⟩) 1 1) lb [by1 r] rfl rfl HOA.out (HR.out _) HLN.out HBS.out ?_); intro ao6 n6 cap6 w6 hO6 hn6 hg6 ha6; clear hn6; have HR6 := Lib.hid (show St w (.slice (some ⟨X, 0, none⟩) n0 n0) l w6 (.slice ao6 n6 cap6) (lb ++ [by1 r]) from ⟨HBA.out.trans (bgrown hg6 (fun b e => (HOW.out b e).1) HBS.out), .inr hO6⟩); clear hO6 hg6 ha6)
            go_roundg g2
            case rel => exact ⟨j + 1, m / 256, lb ++ [by1 r], by omega, by go_num, rfl, HL2, HR6⟩
            case measure => omega
        · have hjk : j = 1 := by omega
          have HE := Lib.hid (show lb = L from by
            have h := HL.out
            rw [hjk, Nat.sub_self, show leK 0 m = [] from rfl, List.append_nil] at h
            exact h)
          go_wp2_with fail
          go_roundg g
          case rel => exact ⟨i + 1, by omega, by go_num, Lib.hid (by rw [hL'.out, ← HE.out]; exact HAP.out)⟩
          case measure => omega
    · have hiN : i = N := by omega
      have HE := Lib.hid (show l ++ (ns.take i).flatMap (leK 1) = l ++ ns.flatMap (leK 1) from by rw [List.take_of_length_le (by rw [hN.out]; omega)])
      have HFIN := Lib.hid (show OwnB wr w.heap.size u0 (l ++ ns.flatMap (leK 1)) from by
        rw [← HE.out]
        rcases HAP.out.2 with ⟨_, h2⟩ | h2
        · exfalso
          have h3 := congrArg List.length h2
          rw [List.length_append, flat_len, List.length_take] at h3
          have := List.length_pos_iff.2 HN0.out
          have := hN.out
          omega
        · exact h2)
      go_wp2_with fail
      go_ret
      exact ⟨_, rfl, HFIN.out, HAP.out.1⟩
end Go.Proofs.Ytkhdkepjhifffaa.PF
