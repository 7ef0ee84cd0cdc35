/- The document's heap: Make. -/
import Derived.Test.YtphebogjmbaboaaDoorHJ
import Derived.Deep.RegionLaw
import Derived.Deep.RegionHeld3
namespace Go.Proofs.YtphebogjmbaboaaDoor.HK
open Go.RowKit Go.Proofs.YtphebogjmbaboaaDoor.RG Go.Proofs.YtphebogjmbaboaaDoor.RB Go.Proofs.YtphebogjmbaboaaDoor.HA Go.Proofs.YtphebogjmbaboaaDoor.HB Go.Proofs.YtphebogjmbaboaaDoor.HG Go.Proofs.YtphebogjmbaboaaDoor.HH Go.Proofs.YtphebogjmbaboaaDoor.HI Go.Proofs.YtphebogjmbaboaaDoor.HJ
set_option linter.unusedVariables false
set_option maxRecDepth 100000
set_option maxRecDepth 100000

/-- What the document's Make turns: the heap's block, and rows of its own. -/
structure OnD (r B : Nat) (w w' : World) : Prop where
  os : w'.os = w.os
  tape : w'.tape = w.tape
  output : w'.output = w.output
  size : w.heap.size ≤ w'.heap.size
  block : ∀ k, k < B → k ≠ r → w'.heap[k]? = w.heap[k]?
theorem OnD.of {r B : Nat} {w w' : World} (h : Below w.heap.size w w') (hB : B ≤ w.heap.size) : OnD r B w w' := ⟨h.os, h.tape, h.output, h.size, fun k hk _ => h.block k (Nat.lt_of_lt_of_le hk hB)⟩
theorem doc_end {w w6 : World} {r B N n cap : Nat} {h : Hp} {b : Bl} {bv : Value} {ao : Option Addr} (H : HDoc w r B N h) (hbk : Bk w6 r #[.int .i64 N, bv] 34) (hO : OwnR TD w6 B (fun b => B ≤ b) (.slice ao n cap) (docs h ++ [docB h b])) (hsz : w.heap.size ≤ w6.heap.size)
    (hb : b.1 ≠ 201 → b.2.all (mayW h) = true) (hroom : used h + size b ≤ N) (hg : (0 ≤ b.1 ∧ b.1 ≤ 201) ∧ b.2.length ≤ 60) (hz : ∀ z, z ∈ b.2 → z ≤ 9223372036854775807) : HDoc (w6.setCell ⟨r, 1, none⟩ (.slice ao n cap)) r B N (h ++ [b]) := by
  obtain ⟨h1, h2⟩ := docs_snoc H.wf hb
  refine ⟨⟨_, hbk.set 1 _, ?_⟩, h2, H.lt, ?_, ⟨by rw [used_snoc]; exact hroom, H.fit.2⟩, fun c hc => ?_, fun c hc => ?_⟩
  · rw [h1]
    exact hO.other (fun c hc => by have hc : B ≤ c := hc; have := H.lt; omega) H.lt 1 _
  · have := H.ge
    simp
    omega
  · rcases List.mem_append.1 hc with hc | hc
    · exact H.good c hc
    · rw [List.mem_singleton.1 hc]; exact hg
  · rcases List.mem_append.1 hc with hc | hc
    · exact H.bd c hc
    · rw [List.mem_singleton.1 hc]; exact hz
theorem ond_end {w W w6 : World} {r B : Nat} {row : Option Nat} (hb : Below w.heap.size w W) (hge : B ≤ w.heap.size) (hg : W.grownBy w6 row) (hr : ∀ b, row = some b → B ≤ b) (v : Value) : OnD r B w (w6.setCell ⟨r, 1, none⟩ v) := by
  have h1 : Below B w W := hb.mono hge
  have h2 : Below B W w6 := bgrown hg hr (Nat.le_trans hge hb.size)
  have h3 := h1.trans h2
  exact ⟨h3.os, h3.tape, h3.output, by have := h3.size; simpa using this, fun k hk hne => (Below.heap_setCell _ _ _ _ hne).trans (h3.block k hk)⟩
set_option maxHeartbeats 4000000 in
theorem rmake_raw (w : World) (r B N : Nat) (h : Hp) (H : HDoc w r B N h) (v : Value) (l : List Int) (hv : RowI w v l) (hl : l.length ≤ 60) (hzb : ∀ z, z ∈ l → z ≤ 9223372036854775807) :
    Calls Tryd.prog 40 #[.pointer (some ⟨r, 0, none⟩), .int .i64 201, v] w fun e w' => e = .returned (.tuple #[.int .i64 (make 2 N h 201 l).2.1, .int .i64 (make 2 N h 201 l).2.2]) ∧ HDoc w' r B N (make 2 N h 201 l).1 ∧ OnD r B w w' := by
  obtain ⟨ao, cap, rfl, _⟩ := hv.val
  obtain ⟨n, hn⟩ : ∃ n, Hid (l.length = n) := ⟨_, Lib.hid rfl⟩
  rw [hn.out] at hv hl ⊢
  have HV := Lib.hid hv
  have HZB := Lib.hid hzb
  have HH := Lib.hid H
  have i0 : ¬ (n : Int) > 60 := by omega
  obtain ⟨Q, hQ⟩ : ∃ Q, Hid (w.heap.size = Q) := ⟨_, Lib.hid rfl⟩
  have HKX := Lib.hid (Bk.new w #[.int .i64 201, .slice none 0 0, .slice none 0 0] 77)
  have HXW := Lib.hid (balloc w (.cells #[.int .i64 201, .slice none 0 0, .slice none 0 0] 77))
  clear H hv hzb
  go_enter Tryd.func40, Tryd.ntmps40
  go_wp2_with fail
  rw [hQ.out] at HKX ⊢
  generalize World.alloc w _ = W at HKX HXW ⊢
  have HWQ := Lib.hid (show w.heap.size ≤ Q from Nat.le_of_eq hQ.out)
  have HO0 := Lib.hid (OwnR.nil (R := TI) W (Q + 1) (fun _ => False))
  go_loopg [9] n (fun g iv wr => ∃ (i : Nat) (vv : Value), i + g = n ∧ iv = .int .i64 (i : Int) ∧ Hid (OwnR TI wr (Q + 1) (fun _ => False) vv (l.take i)) ∧ Hid (Bk wr Q #[.int .i64 201, .slice none 0 0, vv] 77) ∧ Hid (Below w.heap.size w wr))
  case atStart => exact ⟨0, _, Nat.zero_add _, rfl, HO0, HKX, HXW⟩
  case round =>
    clear HO0 HKX HXW
    obtain ⟨i, vv, hi, rfl, HO, HKX, HX⟩ := hrel
    have o2 := HKX.out.cell 2 _ rfl
    have lX := HKX.out.lt
    by_cases hlt : i < n
    · obtain ⟨g, rfl⟩ : ∃ g, gk = g + 1 := ⟨gk - 1, by omega⟩
      obtain ⟨z, hz⟩ := getElem?_of_lt (l := l) (k := i) (by rw [hn.out]; exact hlt)
      obtain ⟨b, off, cp, hve, _, hblt, hcells⟩ := HV.out.open_ (by intro e; rw [e] at hz; simp at hz)
      rw [hn.out] at hve
      cases hve
      obtain ⟨q, hL, _⟩ := hcells i z hz
      have x0 : wr.cell? ⟨b, off + i, none⟩ = some (.int .i64 z) := (HX.out.cell (p := ⟨b, off + i, none⟩) hblt).trans (by have := hL 0 _ rfl; simpa [TI, Ty.flat] using this)
      have lb : b < wr.heap.size := Nat.lt_of_lt_of_le hblt HX.out.size
      have HSN := Lib.hid (show l.take (i + 1) = l.take i ++ [z] from by rw [List.take_add_one, hz]; rfl)
      have j0 : (0 : Int) ≤ (i : Int) := by omega
      have j1 : (i : Int) < (n : Int) := by omega
      have HOA := Lib.hid ((HO.out.keep (bdr wr)).keep (balloc wr.drew (.cells #[.int .i64 z] 3)))
      have HR := Lib.hid (show RowR TI (wr.drew.alloc (.cells #[.int .i64 z] 3)) (fun b => False ∧ vv.ownBlock ≠ some b) (.slice (some ⟨wr.drew.heap.size, 0, none⟩) 1 1) [z] from rowR_new (q := []) #[.int .i64 z] 3 rfl rfl)
      have HLN := Lib.hid (show (l.take i).length + [z].length ≤ 100000000000 from by rw [List.length_take]; simp; omega)
      have HBS := Lib.hid (show Q + 1 ≤ (wr.drew.alloc (.cells #[.int .i64 z] 3)).heap.size from by simp; omega)
      have HOW := Lib.hid (fun b hb => HO.out.own (b := b) hb)
      have HKA := Lib.hid (HKX.out.drew.alloc (.cells #[.int .i64 z] 3))
      have HXA := Lib.hid (bnext HX.out ((bdr wr).trans (balloc wr.drew (.cells #[.int .i64 z] 3))))
      clear hcells hL hz
      go_wp2_with fail
      go_region_law (first | (refine step_row TI (wr.drew.alloc (.cells #[.int .i64 z] 3)) rfl (.tmp 34) (.tmp 39) rfl (Q + 1) (fun _ => False) vv (.slice (some ⟨wr.drew.heap.size, 0, none⟩) 1 1) (l.take i) [z] (by rfl) (by rfl) HOA.out HR.out HLN.out HBS.out ?_; intro ao6 n6 cap6 w6 hO6 hn6 hg6 ha6; clear hn6; have HO6 := Lib.hid hO6; have HK6 := Lib.hid (HKA.out.grown hg6 (fun e => by have := (HOW.out Q e).1; omega)); have HX6 := Lib.hid (HXA.out.trans (bgrown hg6 (fun b hb => by have := (HOW.out b hb).1; have := HWQ.out; omega) (by have := HBS.out; have := HWQ.out; omega))); have f6 := HK6.out.free 2; have r6 := HK6.out.cell 2 _ rfl; have l6 := HK6.out.lt; clear hO6 hg6 ha6))
      all_goals
        go_wp2_with fail
        go_roundg g
        case rel => exact ⟨i + 1, _, by omega, by go_num, Lib.hid (by rw [HSN.out]; exact HO6.out.other (fun b h => h.elim) (Nat.lt_succ_self Q) 2 _), Lib.hid (HK6.out.set 2 _), Lib.hid (HX6.out.setCell (p := ⟨Q, 2, none⟩) HWQ.out _)⟩
        case measure => omega
    · have HT := Lib.hid (show l.take i = l from List.take_of_length_le (by rw [hn.out]; omega))
      have hO := HO.out
      rw [HT.out] at hO
      obtain ⟨va, vc, ev, _⟩ := hO.val
      rw [hn.out] at ev
      subst ev
      have HOL := Lib.hid hO
      clear hO HO
      obtain ⟨bv, hbr, hbo⟩ := HH.out.blk
      have HBR := Lib.hid (hbr.keep HX.out)
      have HBO := Lib.hid (hbo.keep HX.out)
      have HOQ := Lib.hid (show ∀ b, bv.ownBlock = some b → B ≤ b ∧ b < Q from fun b e => by have := hbo.own e; rw [hQ.out] at this; exact this)
      have HDR := Lib.hid (HH.out.keep HX.out)
      clear hbr hbo o2
      have HC1 := Lib.hid (And.intro (HKX.out.drew.cell 0 (.int .i64 201) rfl) (And.intro (HKX.out.drew.cell 1 (.slice none 0 0) rfl) (And.intro (HKX.out.drew.cell 2 (.slice va n vc) rfl) (HBR.out.drew.cell 0 (.int .i64 N) rfl))))
      have HD1 := Lib.hid (HDR.out.keep (bdr wr))
      have hfi := HH.out.fit
      go_wp2_with fail
      go_region_held3 (fun w' => w'.cell? ⟨Q, 0, none⟩ = some (.int .i64 201) ∧ w'.cell? ⟨Q, 1, none⟩ = some (.slice none 0 0) ∧ w'.cell? ⟨Q, 2, none⟩ = some (.slice va n vc) ∧ w'.cell? ⟨r, 0, none⟩ = some (.int .i64 N)) (first | with_reducible exact HC1.out | with_reducible exact HC2.out | with_reducible exact HC3.out | go_keep)
        (first
          | (go_at_call 13; (with_reducible refine (rused_c wr.drew r B N h HD1.out).mono ?_); rintro e w2 ⟨rfl, hb2⟩; have HB2 := Lib.hid ((bdr wr).trans (hb2.mono (bdr wr).size)); have HC2 := Lib.hid (And.intro ((HKX.out.keep HB2.out).cell 0 (.int .i64 201) rfl) (And.intro ((HKX.out.keep HB2.out).cell 1 (.slice none 0 0) rfl) (And.intro ((HKX.out.keep HB2.out).cell 2 (.slice va n vc) rfl) ((HBR.out.keep HB2.out).cell 0 (.int .i64 N) rfl)))); clear hb2)
          | (go_at_call 41; (with_reducible refine (size_c 201 none va 0 n 0 vc w2 (by omega) (by omega)).mono ?_); rintro e w3 ⟨rfl, hb3⟩; have HB3 := Lib.hid (HB2.out.trans (hb3.mono HB2.out.size)); have HC3 := Lib.hid (And.intro ((HKX.out.keep HB3.out).cell 0 (.int .i64 201) rfl) (And.intro ((HKX.out.keep HB3.out).cell 1 (.slice none 0 0) rfl) (And.intro ((HKX.out.keep HB3.out).cell 2 (.slice va n vc) rfl) ((HBR.out.keep HB3.out).cell 0 (.int .i64 N) rfl)))); clear hb3))
      have HX3 := Lib.hid (bnext HX.out HB3.out)
      have HK3 := Lib.hid (HKX.out.keep HB3.out)
      have HR3 := Lib.hid (HBR.out.keep HB3.out)
      have HD3 := Lib.hid (HDR.out.keep HB3.out)
      have HO3 := Lib.hid (HBO.out.keep HB3.out)
      have HL3 := Lib.hid (HOL.out.keep HB3.out)
      clear HC1 HC2 HC3 HD1 HB2 HKX HBR HBO HDR HOL
      have hwr : IntKind.i64.wrap ((used h : Int) + (1 + (n : Int))) = (used h : Int) + (1 + (n : Int)) := by rw [IntKind.wrap_i64]; omega
      by_cases hroom : used h + 1 + n ≤ N
      · have j1 : ¬ (used h : Int) + ((1 + 0 + n : Nat) : Int) > (N : Int) := by omega
        have j2 : ¬ (used h : Int) + (1 + (n : Int)) > (N : Int) := by omega
        have b0 := HK3.out.cell 0 (.int .i64 201) rfl
        have b1 := HK3.out.cell 1 (.slice none 0 0) rfl
        have b2 := HK3.out.cell 2 (.slice va n vc) rfl
        have r1 := HR3.out.cell 1 _ rfl
        have hdb : docB h (201, l) = ⟨201, [], l⟩ := if_pos rfl
        have hsn := docs_snoc (b := (201, l)) HH.out.wf (fun e => absurd rfl e)
        rw [hdb] at hsn
        have HSN := Lib.hid hsn
        have hmk : make 2 N h 201 l = (h ++ [(201, l)], ptr h h.length, 0) := by unfold make; rw [if_pos ⟨rfl, by rw [hn.out]; exact hl, .inl rfl⟩, if_pos (by rw [hn.out]; exact hroom)]
        have HMK := Lib.hid hmk
        have HBW := Lib.hid (show Below w3.heap.size w3 (w3.drew.alloc (.cells #[.int .i64 201, .slice none 0 0, .slice va n vc] 77)) from (bdr w3).trans ((balloc w3.drew _).mono (bdr w3).size))
        have HOA := Lib.hid (HO3.out.keep HBW.out)
        have HBQ := Lib.hid (show B ≤ Q from by rw [← hQ.out]; exact HH.out.ge)
        obtain ⟨bv0, hb0, hbo0⟩ := HH.out.blk
        have HBV := Lib.hid (show ∀ b, bv.ownBlock = some b → B ≤ b ∧ b < Q from HOQ.out)
        have HRW := Lib.hid (show RowR TD (w3.drew.alloc (.cells #[.int .i64 201, .slice none 0 0, .slice va n vc] 77)) (fun b => B ≤ b ∧ bv.ownBlock ≠ some b) (.slice (some ⟨w3.drew.heap.size, 0, none⟩) 1 1) [⟨201, [], l⟩] from by
          refine rowR_new (q := [.slice none 0 0, .slice va n vc]) #[.int .i64 201, .slice none 0 0, .slice va n vc] 77 rfl ?_
          obtain ⟨qb, h1, h2⟩ := (HL3.out.keep (bdr w3)).rw
          exact ⟨_, _, [], qb, rfl, ⟨rw_nil none 0, trivial⟩, ⟨h1.mv (Mv.weak _ fun b hb _ => ⟨by have hb : Q + 1 ≤ b := hb; have := HBQ.out; omega, fun e => by have hb : Q + 1 ≤ b := hb; have := (HBV.out b e).2; omega⟩), Hs.mv (Mv.weak _ fun b hb _ => hb.elim) _ _ h2⟩⟩)
        have HDL := Lib.hid (show (docs h).length = h.length from by unfold docs; simp)
        have HLN2 := Lib.hid (show (docs h).length + [(⟨201, [], l⟩ : Db)].length ≤ 100000000000 from by rw [HDL.out]; have := len_used h; simp; omega)
        have HBS2 := Lib.hid (show B ≤ (w3.drew.alloc (.cells #[.int .i64 201, .slice none 0 0, .slice va n vc] 77)).heap.size from Nat.le_trans (Nat.le_trans HH.out.ge HX3.out.size) HBW.out.size)
        have HRA := Lib.hid (HR3.out.keep HBW.out)
        have HXB := Lib.hid (bnext HX3.out HBW.out)
        have HLT := Lib.hid HH.out.lt
        have rf1 := HR3.out.free 1
        have rl := HR3.out.lt
        clear hdb hsn hmk
        go_wp2_with fail
        go_region_law (first | (refine step_row TD (w3.drew.alloc (.cells #[.int .i64 201, .slice none 0 0, .slice va n vc] 77)) rfl (.tmp 73) (.tmp 75) rfl B (fun b => B ≤ b) bv (.slice (some ⟨w3.drew.heap.size, 0, none⟩) 1 1) (docs h) [⟨201, [], l⟩] (by rfl) (by rfl) HOA.out HRW.out HLN2.out HBS2.out ?_; intro ao6 n6 cap6 w6 hO6 hn6 hg6 ha6; have HO6 := Lib.hid hO6; have HN6 := Lib.hid hn6; have HG6 := Lib.hid hg6; have HK6 := Lib.hid (HRA.out.grown hg6 (fun e => by have := (HBV.out r e).1; have := HLT.out; omega)); have f6 := HK6.out.free 1; have r6 := HK6.out.cell 1 _ rfl; have l6 := HK6.out.lt; clear hO6 hn6 hg6 ha6))
        all_goals
          obtain ⟨nn, hnn⟩ : ∃ nn, Hid (h.length = nn) := ⟨_, Lib.hid rfl⟩
          obtain rfl : n6 = nn + 1 := by rw [HN6.out, HDL.out, hnn.out]; rfl
          have HD7 := Lib.hid (doc_end (b := (201, l)) HH.out HK6.out (by have := HO6.out; rw [show docB h (201, l) = ⟨201, [], l⟩ from if_pos rfl]; exact this) (Nat.le_trans HXB.out.size HG6.out.size) (fun e => absurd rfl e) (by unfold size; rw [hn.out]; omega) ⟨⟨(by decide : (0 : Int) ≤ 201), (by decide : (201 : Int) ≤ 201)⟩, by rw [hn.out]; exact hl⟩ HZB.out)
          have HON := Lib.hid (ond_end (r := r) HXB.out HH.out.ge HG6.out (fun b e => (HBV.out b e).1) (.slice ao6 (nn + 1) cap6))
          have hpt := rpoint_c (w6.setCell ⟨r, 1, none⟩ (.slice ao6 (nn + 1) cap6)) r B N (h ++ [(201, l)]) HD7.out h.length (by simp)
          rw [ptr_app h [(201, l)] (Nat.le_refl _), hnn.out] at hpt
          have HPT := Lib.hid hpt
          have HPL := Lib.hid (show ptr h h.length = ptr h nn from by rw [hnn.out])
          have hnb : nn ≤ 65536 := by have h1 := len_used h; have h2 := HH.out.fit; have h3 := hnn.out; omega
          have q1 := (HK6.out.set 1 (.slice ao6 (nn + 1) cap6)).cell 1 (.slice ao6 (nn + 1) cap6) rfl
          clear hpt f6 r6 l6
          go_wp2_with fail
          with_reducible refine HPT.out.mono ?_
          rintro e w8 ⟨rfl, hb8⟩
          have HD8 := Lib.hid (HD7.out.keep hb8)
          have HO8 := Lib.hid (show OnD r B w w8 from ⟨hb8.os.trans HON.out.os, hb8.tape.trans HON.out.tape, hb8.output.trans HON.out.output, Nat.le_trans HON.out.size hb8.size, fun k hk hne => (hb8.block k (Nat.lt_of_lt_of_le hk (Nat.le_trans HH.out.ge HON.out.size))).trans (HON.out.block k hk hne)⟩)
          clear hb8
          go_wp2_with fail
          go_ret2
          rw [HMK.out]
          exact ⟨by rw [HPL.out]; rfl, HD8.out, HO8.out⟩
      · have j1 : (used h : Int) + ((1 + 0 + n : Nat) : Int) > (N : Int) := by omega
        have j2 : (used h : Int) + (1 + (n : Int)) > (N : Int) := by omega
        have hmk : make 2 N h 201 l = (h, 0, 2) := by unfold make; rw [if_pos ⟨rfl, by rw [hn.out]; exact hl, .inl rfl⟩, if_neg (by rw [hn.out]; exact hroom)]
        have HMK := Lib.hid hmk
        clear hmk
        go_wp2_with fail
        go_ret2
        rw [HMK.out]
        exact ⟨rfl, HD3.out, OnD.of HX3.out HH.out.ge⟩
end Go.Proofs.YtphebogjmbaboaaDoor.HK
