/- The document's heap: Make of words. (Written by tools/mkhl.py out of HK.) -/
import Derived.Test.YtphebogjmbaboaaDoorHK
import Derived.Deep.RegionLaw
import Derived.Deep.RegionHeld3
namespace Go.Proofs.YtphebogjmbaboaaDoor.HL
open Go.RowKit Go.Proofs.YtphebogjmbaboaaDoor.RG Go.Proofs.YtphebogjmbaboaaDoor.RB Go.Proofs.YtphebogjmbaboaaDoor.HA Go.Proofs.YtphebogjmbaboaaDoor.HB Go.Proofs.YtphebogjmbaboaaDoor.HG Go.Proofs.YtphebogjmbaboaaDoor.HH Go.Proofs.YtphebogjmbaboaaDoor.HI Go.Proofs.YtphebogjmbaboaaDoor.HJ Go.Proofs.YtphebogjmbaboaaDoor.HK
set_option linter.unusedVariables false
set_option maxRecDepth 100000
set_option maxRecDepth 100000

set_option maxHeartbeats 4000000 in
theorem rmake_words (w : World) (r B N : Nat) (h : Hp) (H : HDoc w r B N h) (v : Value) (l : List Int) (hv : RowI w v l) (hl : l.length ≤ 60) (hzb : ∀ z, z ∈ l → z ≤ 9223372036854775807) (t : Int) (t0 : 0 ≤ t) (t1 : t ≤ 200) :
    Calls Tryd.prog 40 #[.pointer (some ⟨r, 0, none⟩), .int .i64 t, v] w fun e w' => e = .returned (.tuple #[.int .i64 (make 2 N h t l).2.1, .int .i64 (make 2 N h t l).2.2]) ∧ HDoc w' r B N (make 2 N h t l).1 ∧ OnD r B w w' := by
  obtain ⟨ao, cap, rfl, _⟩ := hv.val
  obtain ⟨n, hn⟩ : ∃ n, Hid (l.length = n) := ⟨_, Lib.hid rfl⟩
  rw [hn.out] at hv hl ⊢
  have HV := Lib.hid hv
  have HZB := Lib.hid hzb
  have HH := Lib.hid H
  have i0 : ¬ (n : Int) > 60 := by omega
  have s0 : ¬ t < 0 := by omega
  have s1 : ¬ t > 201 := by omega
  have s2 : (t == 201) = false := by rw [beq_eq_false_iff_ne]; omega
  have HT201 := Lib.hid (show t ≠ 201 from by omega)
  have HTB := Lib.hid (show isTag t = true from by unfold isTag; simp; omega)
  have HTT := Lib.hid (And.intro t0 t1)
  obtain ⟨Q, hQ⟩ : ∃ Q, Hid (w.heap.size = Q) := ⟨_, Lib.hid rfl⟩
  have HKX := Lib.hid (Bk.new w #[.int .i64 t, .slice none 0 0, .slice none 0 0] 77)
  have HXW := Lib.hid (balloc w (.cells #[.int .i64 t, .slice none 0 0, .slice none 0 0] 77))
  clear H hv hzb
  go_enter Tryd.func40, Tryd.ntmps40
  go_wp2_with fail
  rw [hQ.out] at HKX ⊢
  generalize World.alloc w _ = W at HKX HXW ⊢
  have HWQ := Lib.hid (show w.heap.size ≤ Q from Nat.le_of_eq hQ.out)
  have HO0 := Lib.hid (OwnR.nil (R := TW) W (Q + 1) (fun _ => False))
  go_loopg [9] n (fun g iv wr => ∃ (i : Nat) (vv : Value), i + g = n ∧ iv = .int .i64 (i : Int) ∧ Hid (OwnR TW wr (Q + 1) (fun _ => False) vv ((l.take i).map (wordOf h))) ∧ Hid ((l.take i).all (mayW h) = true) ∧ Hid (Bk wr Q #[.int .i64 t, vv, .slice none 0 0] 77) ∧ Hid (Below w.heap.size w wr))
  case atStart => exact ⟨0, _, Nat.zero_add _, rfl, HO0, Lib.hid rfl, HKX, HXW⟩
  case round =>
    clear HO0 HKX HXW
    obtain ⟨i, vv, hi, rfl, HO, HAL, HKX, HX⟩ := hrel
    have o2 := HKX.out.cell 1 _ rfl
    have lX := HKX.out.lt
    by_cases hlt : i < n
    · obtain ⟨g, rfl⟩ : ∃ g, gk = g + 1 := ⟨gk - 1, by omega⟩
      obtain ⟨z, hz⟩ := getElem?_of_lt (l := l) (k := i) (by rw [hn.out]; exact hlt)
      obtain ⟨b, off, cp, hve, _, hblt, hcells⟩ := HV.out.open_ (by intro e; rw [e] at hz; simp at hz)
      rw [hn.out] at hve
      cases hve
      obtain ⟨q, hL, _⟩ := hcells i z hz
      have x0 : wr.cell? ⟨b, off + i, none⟩ = some (.int .i64 z) := (HX.out.cell (p := ⟨b, off + i, none⟩) hblt).trans (by have := hL 0 _ rfl; simpa [TI, Ty.flat] using this)
      have lb : b < wr.heap.size := Nat.lt_of_lt_of_le hblt HX.out.size
      have HSN := Lib.hid (show (l.take (i + 1)).map (wordOf h) = (l.take i).map (wordOf h) ++ [wordOf h z] from by rw [List.take_add_one, hz]; simp)
      have j0 : (0 : Int) ≤ (i : Int) := by omega
      have j1 : (i : Int) < (n : Int) := by omega
      have HZ := Lib.hid hz
      have HFI := Lib.hid (rfind_c wr r B N h (HH.out.keep HX.out) z)
      obtain ⟨⟨⟨fb1, fb2⟩, fb3⟩, hfr⟩ : ∃ x, findR h z = x := ⟨_, rfl⟩
      have hfm := findR_may h z
      rw [hfr] at hfm HFI
      have HFM := Lib.hid hfm
      clear hcells hL hz hfr hfm
      go_wp2_with fail
      refine HFI.out.mono ?_
      rintro e w2 ⟨rfl, hb2⟩
      have HX2 := Lib.hid (bnext HX.out hb2)
      have HK2 := Lib.hid (HKX.out.keep hb2)
      have HO2 := Lib.hid (HO.out.keep hb2)
      clear hb2 HO HKX o2
      unfold retF
      cases fb3
      · have hmk : make 2 N h t l = (h, 0, 1) := by
          unfold make
          rw [if_neg]
          rintro ⟨_, _, h3⟩
          rcases h3 with h3 | h3
          · exact HT201.out h3
          · have := List.all_eq_true.1 h3 z (List.mem_of_getElem? HZ.out)
            rw [← HFM.out.1] at this
            cases this
        have HMK := Lib.hid hmk
        have HXF := Lib.hid (bnext HX2.out (balloc w2 (.cells #[.bool fb1, .int .i64 fb2] 80)))
        clear hmk
        go_wp2_with fail
        go_ret2
        rw [HMK.out]
        exact ⟨rfl, HH.out.keep HXF.out, OnD.of HXF.out HH.out.ge⟩
      · have HMZ := Lib.hid (show mayW h z = true from HFM.out.1.symm)
        have HWZ := Lib.hid (show ((fb1, fb2) : Wd) = wordOf h z from HFM.out.2 HMZ.out)
        have HAN := Lib.hid (show (l.take (i + 1)).all (mayW h) = true from by
          rw [List.take_add_one, HZ.out, List.all_append, HAL.out]
          simp [HMZ.out])
        obtain ⟨W4, hW4⟩ : ∃ W, W = w2.alloc (.cells #[.bool fb1, .int .i64 fb2] 80) := ⟨_, rfl⟩
        have hk4 : Bk W4 w2.heap.size #[.bool fb1, .int .i64 fb2] 80 := by rw [hW4]; exact Bk.new w2 _ _
        have HB4 := Lib.hid (show Below w2.heap.size w2 W4 from by rw [hW4]; exact balloc _ _)
        have HX4 := Lib.hid (bnext HX2.out HB4.out)
        have HK4 := Lib.hid (HK2.out.keep HB4.out)
        have HO4 := Lib.hid (HO2.out.keep HB4.out)
        have HS4 := Lib.hid (show W4.heap.size = w2.heap.size + 1 from by rw [hW4]; simp)
        have g0 := hk4.cell 0 _ rfl
        have g1 := hk4.cell 1 _ rfl
        have o1 := HK4.out.cell 1 _ rfl
        have l4 := HK4.out.lt
        have f4 := HK4.out.free 1
        rw [hW4] at g0 g1 o1 f4 l4
        have HW4 := Lib.hid hW4
        have HOA := Lib.hid (HO4.out.keep (balloc W4 (.cells #[.bool fb1, .int .i64 fb2] 80)))
        have HR := Lib.hid (show RowR TW (W4.alloc (.cells #[.bool fb1, .int .i64 fb2] 80)) (fun b => False ∧ vv.ownBlock ≠ some b) (.slice (some ⟨W4.heap.size, 0, none⟩) 1 1) [(fb1, fb2)] from rowR_new (q := []) #[.bool fb1, .int .i64 fb2] 80 rfl rfl)
        have HLN := Lib.hid (show ((l.take i).map (wordOf h)).length + [((fb1, fb2) : Wd)].length ≤ 100000000000 from by rw [List.length_map, List.length_take]; simp; omega)
        have HBS := Lib.hid (show Q + 1 ≤ (W4.alloc (.cells #[.bool fb1, .int .i64 fb2] 80)).heap.size from by have := HX4.out.size; have := HK4.out.lt; simp; omega)
        have HOW := Lib.hid (fun b hb => HO4.out.own (b := b) hb)
        have HKA := Lib.hid (HK4.out.alloc (.cells #[.bool fb1, .int .i64 fb2] 80))
        have HXA := Lib.hid (bnext HX4.out (balloc W4 (.cells #[.bool fb1, .int .i64 fb2] 80)))
        rw [HW4.out, World.size_alloc] at HR
        rw [HW4.out] at HOA HBS HKA HXA
        clear hW4 hk4
        go_wp2_with (at_builtin; go_loud (refine wpList_row TW ((w2.alloc (.cells #[.bool fb1, .int .i64 fb2] 80)).alloc (.cells #[.bool fb1, .int .i64 fb2] 80)) rfl (.tmp 54) (.tmp 56) rfl (Q + 1) (fun _ => False) vv (.slice (some ⟨w2.heap.size + 1, 0, none⟩) 1 1) ((l.take i).map (wordOf h)) [(fb1, fb2)] rfl rfl HOA.out HR.out HLN.out HBS.out ?_); intro ao6 n6 cap6 w6 hO6 hn6 hg6 ha6; clear hn6; have HO6 := Lib.hid hO6; have HK6 := Lib.hid (HKA.out.grown hg6 (fun e => by have := (HOW.out Q e).1; omega)); have HX6 := Lib.hid (HXA.out.trans (bgrown hg6 (fun b hb => by have := (HOW.out b hb).1; have := HWQ.out; omega) (by have := HBS.out; have := HWQ.out; omega))); have f6 := HK6.out.free 1; have r6 := HK6.out.cell 1 _ rfl; have l6 := HK6.out.lt; clear hO6 hg6 ha6)
        go_roundg g
        case rel => exact ⟨i + 1, _, by omega, by go_num, Lib.hid (by rw [HSN.out, ← HWZ.out]; exact HO6.out.other (fun b h => h.elim) (Nat.lt_succ_self Q) 1 _), HAN, Lib.hid (HK6.out.set 1 _), Lib.hid (HX6.out.setCell (p := ⟨Q, 1, none⟩) HWQ.out _)⟩
        case measure => omega
    · have HT := Lib.hid (show l.take i = l from List.take_of_length_le (by rw [hn.out]; omega))
      have hO := HO.out
      rw [HT.out] at hO
      have HAA := Lib.hid (show l.all (mayW h) = true from by have := HAL.out; rw [HT.out] at this; exact this)
      obtain ⟨va, vc, ev, _⟩ := hO.val
      rw [List.length_map, hn.out] at ev
      subst ev
      have HOL := Lib.hid hO
      clear hO HO
      obtain ⟨bv, hbr, hbo⟩ := HH.out.blk
      have HBR := Lib.hid (hbr.keep HX.out)
      have HBO := Lib.hid (hbo.keep HX.out)
      have HOQ := Lib.hid (show ∀ b, bv.ownBlock = some b → B ≤ b ∧ b < Q from fun b e => by have := hbo.own e; rw [hQ.out] at this; exact this)
      have HDR := Lib.hid (HH.out.keep HX.out)
      clear hbr hbo o2
      have HC1 := Lib.hid (And.intro (HKX.out.drew.cell 0 (.int .i64 t) rfl) (And.intro (HKX.out.drew.cell 1 (.slice va n vc) rfl) (And.intro (HKX.out.drew.cell 2 (.slice none 0 0) rfl) (HBR.out.drew.cell 0 (.int .i64 N) rfl))))
      have HD1 := Lib.hid (HDR.out.keep (bdr wr))
      have hfi := HH.out.fit
      go_wp2_with fail
      go_region_held3 (fun w' => w'.cell? ⟨Q, 0, none⟩ = some (.int .i64 t) ∧ w'.cell? ⟨Q, 1, none⟩ = some (.slice va n vc) ∧ w'.cell? ⟨Q, 2, none⟩ = some (.slice none 0 0) ∧ w'.cell? ⟨r, 0, none⟩ = some (.int .i64 N)) (first | with_reducible exact HC1.out | with_reducible exact HC2.out | with_reducible exact HC3.out | go_keep)
        (first
          | (go_at_call 13; (with_reducible refine (rused_c wr.drew r B N h HD1.out).mono ?_); rintro e w2 ⟨rfl, hb2⟩; have HB2 := Lib.hid ((bdr wr).trans (hb2.mono (bdr wr).size)); have HC2 := Lib.hid (And.intro ((HKX.out.keep HB2.out).cell 0 (.int .i64 t) rfl) (And.intro ((HKX.out.keep HB2.out).cell 1 (.slice va n vc) rfl) (And.intro ((HKX.out.keep HB2.out).cell 2 (.slice none 0 0) rfl) ((HBR.out.keep HB2.out).cell 0 (.int .i64 N) rfl)))); clear hb2)
          | (go_at_call 41; (with_reducible refine (size_c t va none n 0 vc 0 w2 (by omega) (by omega)).mono ?_); rintro e w3 ⟨rfl, hb3⟩; have HB3 := Lib.hid (HB2.out.trans (hb3.mono HB2.out.size)); have HC3 := Lib.hid (And.intro ((HKX.out.keep HB3.out).cell 0 (.int .i64 t) rfl) (And.intro ((HKX.out.keep HB3.out).cell 1 (.slice va n vc) rfl) (And.intro ((HKX.out.keep HB3.out).cell 2 (.slice none 0 0) rfl) ((HBR.out.keep HB3.out).cell 0 (.int .i64 N) rfl)))); clear hb3))
      have HX3 := Lib.hid (bnext HX.out HB3.out)
      have HK3 := Lib.hid (HKX.out.keep HB3.out)
      have HR3 := Lib.hid (HBR.out.keep HB3.out)
      have HD3 := Lib.hid (HDR.out.keep HB3.out)
      have HO3 := Lib.hid (HBO.out.keep HB3.out)
      have HL3 := Lib.hid (HOL.out.keep HB3.out)
      clear HC1 HC2 HC3 HD1 HB2 HKX HBR HBO HDR HOL
      have hwr : IntKind.i64.wrap ((used h : Int) + (1 + (n : Int))) = (used h : Int) + (1 + (n : Int)) := by rw [IntKind.wrap_i64]; omega
      by_cases hroom : used h + 1 + n ≤ N
      · have j1 : ¬ (used h : Int) + ((1 + n + 0 : Nat) : Int) > (N : Int) := by omega
        have j2 : ¬ (used h : Int) + (1 + (n : Int)) > (N : Int) := by omega
        have b0 := HK3.out.cell 0 (.int .i64 t) rfl
        have b1 := HK3.out.cell 1 (.slice va n vc) rfl
        have b2 := HK3.out.cell 2 (.slice none 0 0) rfl
        have r1 := HR3.out.cell 1 _ rfl
        have hdb : docB h (t, l) = ⟨t, l.map (wordOf h), []⟩ := if_neg HT201.out
        have hsn := docs_snoc (b := (t, l)) HH.out.wf (fun _ => HAA.out)
        rw [hdb] at hsn
        have HSN := Lib.hid hsn
        have hmk : make 2 N h t l = (h ++ [(t, l)], ptr h h.length, 0) := by unfold make; rw [if_pos ⟨HTB.out, by rw [hn.out]; exact hl, .inr HAA.out⟩, if_pos (by rw [hn.out]; exact hroom)]
        have HMK := Lib.hid hmk
        have HBW := Lib.hid (show Below w3.heap.size w3 (w3.drew.alloc (.cells #[.int .i64 t, .slice va n vc, .slice none 0 0] 77)) from (bdr w3).trans ((balloc w3.drew _).mono (bdr w3).size))
        have HOA := Lib.hid (HO3.out.keep HBW.out)
        have HBQ := Lib.hid (show B ≤ Q from by rw [← hQ.out]; exact HH.out.ge)
        obtain ⟨bv0, hb0, hbo0⟩ := HH.out.blk
        have HBV := Lib.hid (show ∀ b, bv.ownBlock = some b → B ≤ b ∧ b < Q from HOQ.out)
        have HRW := Lib.hid (show RowR TD (w3.drew.alloc (.cells #[.int .i64 t, .slice va n vc, .slice none 0 0] 77)) (fun b => B ≤ b ∧ bv.ownBlock ≠ some b) (.slice (some ⟨w3.drew.heap.size, 0, none⟩) 1 1) [⟨t, l.map (wordOf h), []⟩] from by
          refine rowR_new (q := [.slice va n vc, .slice none 0 0]) #[.int .i64 t, .slice va n vc, .slice none 0 0] 77 rfl ?_
          obtain ⟨qb, h1, h2⟩ := (HL3.out.keep (bdr w3)).rw
          refine ⟨_, _, qb, [], rfl, ⟨?_, ?_⟩, ⟨rw_nil none 0, trivial⟩⟩
          · exact (h1.mv (Mv.weak _ fun b hb _ => ⟨by have hb : Q + 1 ≤ b := hb; have := HBQ.out; omega, fun e => by have hb : Q + 1 ≤ b := hb; have := (HBV.out b e).2; omega⟩))
          · exact Hs.mv (Mv.weak _ fun b hb _ => hb.elim) _ _ h2)
        have HDL := Lib.hid (show (docs h).length = h.length from by unfold docs; simp)
        have HLN2 := Lib.hid (show (docs h).length + [(⟨t, l.map (wordOf h), []⟩ : Db)].length ≤ 100000000000 from by rw [HDL.out]; have := len_used h; simp; omega)
        have HBS2 := Lib.hid (show B ≤ (w3.drew.alloc (.cells #[.int .i64 t, .slice va n vc, .slice none 0 0] 77)).heap.size from Nat.le_trans (Nat.le_trans HH.out.ge HX3.out.size) HBW.out.size)
        have HRA := Lib.hid (HR3.out.keep HBW.out)
        have HXB := Lib.hid (bnext HX3.out HBW.out)
        have HLT := Lib.hid HH.out.lt
        have rf1 := HR3.out.free 1
        have rl := HR3.out.lt
        clear hdb hsn hmk
        go_wp2_with fail
        go_region_law (first | (refine step_row TD (w3.drew.alloc (.cells #[.int .i64 t, .slice va n vc, .slice none 0 0] 77)) rfl (.tmp 73) (.tmp 75) rfl B (fun b => B ≤ b) bv (.slice (some ⟨w3.drew.heap.size, 0, none⟩) 1 1) (docs h) [⟨t, l.map (wordOf h), []⟩] (by rfl) (by rfl) HOA.out HRW.out HLN2.out HBS2.out ?_; intro ao6 n6 cap6 w6 hO6 hn6 hg6 ha6; have HO6 := Lib.hid hO6; have HN6 := Lib.hid hn6; have HG6 := Lib.hid hg6; have HK6 := Lib.hid (HRA.out.grown hg6 (fun e => by have := (HBV.out r e).1; have := HLT.out; omega)); have f6 := HK6.out.free 1; have r6 := HK6.out.cell 1 _ rfl; have l6 := HK6.out.lt; clear hO6 hn6 hg6 ha6))
        all_goals
          obtain ⟨nn, hnn⟩ : ∃ nn, Hid (h.length = nn) := ⟨_, Lib.hid rfl⟩
          obtain rfl : n6 = nn + 1 := by rw [HN6.out, HDL.out, hnn.out]; rfl
          have HD7 := Lib.hid (doc_end (b := (t, l)) HH.out HK6.out (by have := HO6.out; rw [show docB h (t, l) = ⟨t, l.map (wordOf h), []⟩ from if_neg HT201.out]; exact this) (Nat.le_trans HXB.out.size HG6.out.size) (fun _ => HAA.out) (by unfold size; rw [hn.out]; omega) ⟨⟨HTT.out.1, (by have := HTT.out.2; omega : t ≤ 201)⟩, by rw [hn.out]; exact hl⟩ HZB.out)
          have HON := Lib.hid (ond_end (r := r) HXB.out HH.out.ge HG6.out (fun b e => (HBV.out b e).1) (.slice ao6 (nn + 1) cap6))
          have hpt := rpoint_c (w6.setCell ⟨r, 1, none⟩ (.slice ao6 (nn + 1) cap6)) r B N (h ++ [(t, l)]) HD7.out h.length (by simp)
          rw [ptr_app h [(t, l)] (Nat.le_refl _), hnn.out] at hpt
          have HPT := Lib.hid hpt
          have HPL := Lib.hid (show ptr h h.length = ptr h nn from by rw [hnn.out])
          have hnb : nn ≤ 65536 := by have h1 := len_used h; have h2 := HH.out.fit; have h3 := hnn.out; omega
          have q1 := (HK6.out.set 1 (.slice ao6 (nn + 1) cap6)).cell 1 (.slice ao6 (nn + 1) cap6) rfl
          clear hpt f6 r6 l6
          go_wp2_with fail
          with_reducible refine HPT.out.mono ?_
          rintro e w8 ⟨rfl, hb8⟩
          have HD8 := Lib.hid (HD7.out.keep hb8)
          have HO8 := Lib.hid (show OnD r B w w8 from ⟨hb8.os.trans HON.out.os, hb8.tape.trans HON.out.tape, hb8.output.trans HON.out.output, Nat.le_trans HON.out.size hb8.size, fun k hk hne => (hb8.block k (Nat.lt_of_lt_of_le hk (Nat.le_trans HH.out.ge HON.out.size))).trans (HON.out.block k hk hne)⟩)
          clear hb8
          go_wp2_with fail
          go_ret2
          rw [HMK.out]
          exact ⟨by rw [HPL.out]; rfl, HD8.out, HO8.out⟩
      · have j1 : (used h : Int) + ((1 + n + 0 : Nat) : Int) > (N : Int) := by omega
        have j2 : (used h : Int) + (1 + (n : Int)) > (N : Int) := by omega
        have hmk : make 2 N h t l = (h, 0, 2) := by unfold make; rw [if_pos ⟨HTB.out, by rw [hn.out]; exact hl, .inr HAA.out⟩, if_neg (by rw [hn.out]; exact hroom)]
        have HMK := Lib.hid hmk
        clear hmk
        go_wp2_with fail
        go_ret2
        rw [HMK.out]
        exact ⟨rfl, HD3.out, OnD.of HX3.out HH.out.ge⟩
end Go.Proofs.YtphebogjmbaboaaDoor.HL
