/- The program's engine: parts that are shut: drop, Undo, Copy, Join. -/
import Derived.Test.YtjoifodjbdbicaaZT
import Derived.Test.YtjoifodjbdbicaaZS
namespace Go.Proofs.Ytjoifodjbdbicaa.PL
open Go.RowKit Go.Proofs.Ytjoifodjbdbicaa.RG Go.Proofs.Ytjoifodjbdbicaa.RB Go.Proofs.Ytjoifodjbdbicaa.RI Go.Proofs.Ytjoifodjbdbicaa.RM Go.Proofs.Ytjoifodjbdbicaa.UA Go.Proofs.Ytjoifodjbdbicaa.UB Go.Proofs.Ytjoifodjbdbicaa.UD Go.Proofs.Ytjoifodjbdbicaa.UE Go.Proofs.Ytjoifodjbdbicaa.UH Go.Proofs.Ytjoifodjbdbicaa.UI Go.Proofs.Ytjoifodjbdbicaa.PA Go.Proofs.Ytjoifodjbdbicaa.PB Go.Proofs.Ytjoifodjbdbicaa.PC Go.Proofs.Ytjoifodjbdbicaa.PD Go.Proofs.Ytjoifodjbdbicaa.PE Go.Proofs.Ytjoifodjbdbicaa.PF Go.Proofs.Ytjoifodjbdbicaa.PG Go.Proofs.Ytjoifodjbdbicaa.PJ
set_option linter.unusedVariables false
set_option maxRecDepth 100000
set_option maxRecDepth 100000

/-- A cell behind a row is written. -/
theorem own_past {α : Type} {R : Ty Try.prog α} {w : World} {B : Nat} {T : Nat → Prop} {g n cap i : Nat} {L : List α} (h : OwnR R w B T (.slice (some ⟨g, 0, none⟩) n cap) L) (hi : L.length * R.size ≤ i) (u : Value) : OwnR R (w.setCell ⟨g, i, none⟩ u) B T (.slice (some ⟨g, 0, none⟩) n cap) L := by
  obtain ⟨qs, ⟨h1, h2⟩, h3⟩ := h
  refine ⟨qs, ⟨h1, ?_⟩, Hs.mv (w := w) ⟨by simp, fun b hb _ => ⟨hb, Below.heap_setCell _ _ _ _ (fun e => hb.2 (by rw [e]; rfl))⟩⟩ L qs h3⟩
  rcases h2 with ⟨hv, _⟩ | ⟨g', cap', cur, hv, hb, hh, hn, hcm, hcs, htk⟩
  · cases hv
  · injection hv with e1 e2 e3
    injection e1 with e1
    injection e1 with e1
    subst e1
    refine .inr ⟨g, cap', cur.set! i u, by rw [e2, e3], hb, Bk.set hh i u, hn, hcm, by simpa using hcs, ?_⟩
    rw [← htk]
    apply List.ext_getElem?
    intro k
    rw [List.getElem?_take, List.getElem?_take]
    split
    · next hk =>
      have hl := rowOf_len L qs h3
      simp [Array.set!]
      rw [List.getElem?_set_ne (by omega), Array.getElem?_toList]
    · rfl
section
variable {F : Nat → Prop} {p : Nat} {E : Eg} {vv : Value} {tv : Nat → Option Nat} {G : Nat → Nat → Prop}
/-- A transaction without its youngest part. -/
abbrev shut0 (x : Tx) : Tx := { x with puts := shutX x false, parts := x.parts - 1 }
set_option maxHeartbeats 800000 in
theorem drop_c (w : World) {g : Nat → Prop} {b : Nat} {x : Tx} {L : List Int} {rv pv lv : Value} {ms : List Mp} {m : Mp} (H : TX w g b x L rv pv lv (ms ++ [m])) (h0 : ms ≠ []) (hl : ms.length ≤ 1000000) (hu : Un x.puts) :
    Calls Try.prog 64 #[.pointer (some ⟨b, 0, none⟩)] w fun e w' => e = .returned (.tuple #[]) ∧ (∃ pv', TX w' g b (shut0 x) L rv pv' lv ms) ∧ MapB w' m.1 m.2 ∧ OnS (fun c => pv.ownBlock = some c ∨ c = b) w w' := by
  have HX := Lib.hid H
  obtain ⟨c0, c1, c2, c3, c4, c5⟩ := H.cells
  obtain ⟨gb, cap, cur, hpv, hk, hg, hf⟩ := own_block H.pt (by simp)
  obtain ⟨b', off, cap', hv', hcl, _, hc⟩ := H.pt.row.open_ (by simp)
  rw [hpv] at hv'
  injection hv' with e1 _ e2
  injection e1 with e1
  injection e1 with e1 e3
  subst e1
  subst e3
  subst e2
  obtain ⟨q, hL, _⟩ := hc ms.length m.1 (by simp)
  have y0 : w.cell? ⟨gb, 0 + ms.length * 1, none⟩ = some (.map (some m.1)) := hL 0 _ rfl
  have hlen : ((ms ++ [m]).map (·.1)).length = ms.length + 1 := by simp
  rw [hlen] at hcl
  rw [hpv, hlen] at c2
  have f0 := hf (ms.length)
  have f2 := H.bk.free 2
  have hbl := H.bk.lt
  have hgb : gb ≠ b := fun e => absurd (bk_typ (e ▸ hk) H.bk) (by decide)
  have HPT := Lib.hid (show OwnF TMp (w.setCell ⟨gb, ms.length, none⟩ (.map none)) (.slice (some ⟨gb, 0, none⟩) ms.length cap) (ms.map (·.1)) from by
    have h1 := own_short (w := w) (hpv ▸ H.pt) (m := ms.length) (by rw [hlen]; omega) (by rw [hlen]; omega)
    rw [show ((ms ++ [m]).map (·.1)).take ms.length = ms.map (·.1) by simp] at h1
    exact own_past h1 (by rw [List.length_map]; exact Nat.le_of_eq (Nat.mul_one _)) _)
  have HPV := Lib.hid hpv
  obtain ⟨k, hk2⟩ : ∃ k, Hid (ms.length = k) := ⟨_, Lib.hid rfl⟩
  rw [hk2.out] at c2 y0 hl f0 hcl HPT
  rw [Nat.zero_add, Nat.mul_one] at y0
  have i0 : (0 : Int) ≤ (k : Int) := by omega
  have i1 : (k : Int) < (k : Int) + 1 := by omega
  have i2 : ((k : Int) + 1) - 1 = (k : Int) := by omega
  have i3 : (k : Int) ≤ (cap : Int) := by omega
  have HK := Lib.hid hk
  have HU := Lib.hid hu
  clear H hk hf hc hL hlen c0 c1 c3 c4 c5 hpv h0 hu
  go_enter Try.func64, Try.ntmps64
  go_wp2_with fail
  go_end0
  have hT1 : TC (w.setCell ⟨gb, k, none⟩ (.map none)) b (txc x rv pv lv) x.reads L rv (.slice (some ⟨gb, 0, none⟩) k cap) lv ms := by
    have ho : OnS (fun c => pv.ownBlock = some c) w (w.setCell ⟨gb, k, none⟩ (.map none)) := (OnS.cell gb k _).weak fun c _ h => by rw [HPV.out, h]; rfl
    obtain ⟨a1, a2, a3, a4, a5⟩ := HX.out.pv ho
    exact ⟨a1, a2, HPT.out, a3, fun y hy => a4 y (List.mem_append_left _ hy), a5⟩
  have hT2 := hT1.wr 2 (.slice (some ⟨gb, 0, none⟩) k cap)
  have hm1 : MapB (w.setCell ⟨gb, k, none⟩ (.map none)) m.1 m.2 := (HX.out.mp m (by simp)).on (OnS.cell gb k _) ((HX.out.mp m (by simp)).ne HK.out)
  have hm2 : MapB ((w.setCell ⟨gb, k, none⟩ (.map none)).setCell ⟨b, 2, none⟩ (.slice (some ⟨gb, 0, none⟩) k cap)) m.1 m.2 := hm1.on (OnS.cell b 2 _) (hm1.ne hT1.bk)
  have hon : OnS (fun c => pv.ownBlock = some c ∨ c = b) w ((w.setCell ⟨gb, k, none⟩ (.map none)).setCell ⟨b, 2, none⟩ (.slice (some ⟨gb, 0, none⟩) k cap)) := ((OnS.cell gb k _).weak fun c _ h => .inl (by rw [HPV.out, h]; rfl)).trans ((OnS.cell b 2 _).weak fun c _ h => .inr h)
  have hnp := HX.out.np
  rw [List.length_append, List.length_singleton] at hnp
  refine ⟨rfl, ⟨_, TC.tx (x := shut0 x) hT2 (by show (ms.length : Int) = x.parts - 1; omega) (fun j y hy => ?_) (by have := HX.out.nd; rw [List.map_append, List.nodup_append] at this; exact this.1) HX.out.ne HX.out.inb HX.out.inr (fun c h => HX.out.inp c (by rw [HPV.out]; exact h)) HX.out.inl (fun y hy => HX.out.inm y (List.mem_append_left _ hy)) (fun c h => Nat.lt_of_lt_of_le (HX.out.lt c h) hon.size)⟩, hm2, hon⟩
  have h1 := HX.out.isp j y (by rw [List.getElem?_append_left (List.getElem?_eq_some_iff.1 hy).1]; exact hy)
  have hjl := (List.getElem?_eq_some_iff.1 hy).1
  exact ⟨h1.nd, fun n => by rw [h1.eq, gt_shut HU.out false (by omega), if_neg (fun e => by cases e.1)]⟩
theorem shut_bad {E : Eg} {t : Int} {keep : Bool} (h : openR E t = false) : shutR E t keep = (E, 1) := by
  unfold shutR
  unfold openR at h
  cases h1 : thR E t with
  | none => rfl
  | some x => rw [h1] at h; exact if_neg (fun e => by rw [show opn x = false from h] at e; cases e.1)
set_option maxHeartbeats 800000 in
theorem undo_c (w : World) (H : EI w F p E vv tv G) (h8 : E.T.length = 8) (t : Int) (hst : ∀ x, x ∈ E.T → opn x = true → ¬ 0 < x.stamp) (hp : ∀ x, x ∈ E.T → x.is = true → 1 ≤ x.parts ∧ x.parts ≤ 1000000) (hu : ∀ x, x ∈ E.T → Un x.puts) :
    Calls Try.prog 32 #[.pointer (some ⟨p, 0, none⟩), .int .i64 t] w fun e w' => e = .returned (.int .i64 (shutR E t false).2) ∧ OnS F w w' ∧ ∃ F', (∃ G', EI w' F' p (shutR E t false).1 vv tv G') ∧ Gr w F F' := by
  have HO := Lib.hid (open_c w H h8 t)
  have HH := Lib.hid H
  by_cases ho : openR E t = true
  · rcases who H h8 t with ⟨h1, h2, h3⟩ | ⟨i, x, b, rfl, hi, hx, hth, hs, hb, rv, pv, lv, ms, HX⟩
    · rw [h3] at ho; cases ho
    have hop : opn x = true := by unfold openR at ho; rw [hth] at ho; exact ho
    rw [if_pos ho, ofV_nat tv hi, hb, ptr_some] at HO
    have hc : x.commits = false := by unfold opn at hop; cases h : x.commits <;> simp [h] at hop ⊢
    have hpp := hp x (mem_of hx) hs
    have hne : ms ≠ [] := fun e => by have := HX.np; rw [e] at this; simp at this; omega
    obtain ⟨ms, m, rfl⟩ := split_last hne
    have hlen : (ms.length : Int) + 1 = x.parts := by have := HX.np; simpa using this
    obtain ⟨c0, c1, c2, c3, c4, c5⟩ := HX.cells
    obtain ⟨pa, pc, hpv, _⟩ := HX.pt.val
    rw [show ((ms ++ [m]).map (·.1)).length = ms.length + 1 by simp] at hpv
    obtain ⟨K, hK⟩ : ∃ K, Hid (ms.length = K) := ⟨_, Lib.hid rfl⟩
    rw [hK.out] at hpv
    rw [hpv] at c2
    have HXX := Lib.hid HX
    by_cases h1 : ms = []
    · have hk0 : K = 0 := by rw [← hK.out, h1]; rfl
      have hr : shutR E (i : Int) false = (E, 1) := by unfold shutR; rw [hth]; exact if_neg (fun e => e.2 (by rw [← hlen, h1]; rfl))
      rw [hr]
      subst hk0
      clear hr ho hop hth hx hs hc hp hst HX H hb hne hlen hu hpp hK h1 c0 c1 c3 c4 c5 hpv
      go_enter Try.func32, Try.ntmps32
      go_wp2_with (go_at_call 60; refine HO.out.mono ?_; rintro e w9 ⟨rfl, hw9⟩; subst w9)
      go_ret
      exact ⟨rfl, OnS.refl _ _, F, ⟨G, HH.out⟩, Gr.refl _ _⟩
    · have hK1 : ((K : Int) + 1 == 1) = false := by rw [beq_eq_false_iff_ne]; have := List.length_pos_iff.2 h1; rw [hK.out] at this; omega
      have hr : shutR E (i : Int) false = (setT E (i : Int) (shut0 x), 0) := by unfold shutR; rw [hth]; exact if_pos ⟨hop, by have := List.length_pos_iff.2 h1; omega⟩
      rw [hr]
      have HD := Lib.hid (drop_c w HX h1 (by omega) (hu x (mem_of hx)))
      have HLF := Lib.hid (show lftR E.V (i : Int) (shut0 x) = lftR E.V (i : Int) x by rw [lft_open (x := shut0 x) (hst x (mem_of hx) hop) hc, lft_open (hst x (mem_of hx) hop) hc])
      have HXI := Lib.hid hx
      have HB := Lib.hid hb
      have HSI := Lib.hid hs
      clear hr ho hop hth hx hs hc hp hst HX H hb hne hlen hu hpp h1 c0 c1 c3 c4 c5 hpv
      go_enter Try.func32, Try.ntmps32
      go_wp2_with (first
        | (go_at_call 60; refine HO.out.mono ?_; rintro e w9 ⟨rfl, hw9⟩; subst w9)
        | (go_at_call 64; refine HD.out.mono ?_; rintro e w1 ⟨rfl, hx1, hm1, ho1⟩; have HX1 := Lib.hid hx1; have HO1 := Lib.hid ho1; clear hx1 hm1 ho1))
      go_ret
      obtain ⟨pv', hX1⟩ := HX1.out
      have hsub : ∀ c, (pv.ownBlock = some c ∨ c = b) → G i c := fun c h => by
        rcases h with h | h
        · exact HXX.out.inp c h
        · rw [h]; exact HXX.out.inb
      exact ⟨rfl, HO1.out.weak fun c _ h => HH.out.gf i c (hsub c h), _, ⟨_, ei_upd (x' := shut0 x) HH.out HXI.out HB.out HSI.out HO1.out (fun c _ h => hsub c h) ⟨rv, pv', lv, ms, HLF.out.symm ▸ hX1.weak (fun c h => .inl h) fun c h => by
        rcases h with h | h
        · exact hX1.lt c h
        · exact h.2⟩⟩, gr_ei _ _ _⟩
  · rw [shut_bad (by cases h : openR E t; rfl; exact absurd h ho)]
    rw [if_neg ho, ptr_none] at HO
    clear ho H hp hst hu
    go_enter Try.func32, Try.ntmps32
    go_wp2_with (go_at_call 60; refine HO.out.mono ?_; rintro e w9 ⟨rfl, hw9⟩; subst w9)
    go_ret
    exact ⟨rfl, OnS.refl _ _, F, ⟨G, HH.out⟩, Gr.refl _ _⟩
set_option maxHeartbeats 800000 in
/-- What one map has is put into another one. -/
theorem copy_c (w : World) {d s : Nat} {kd kn : List (Int × Int)} (hd : MapB w d kd) (hs : MapB w s kn) (hne : d ≠ s) (hdn : (keys kd).Nodup) (hsn : (keys kn).Nodup) (hsm : Small kn) (hl : kn.length ≤ 100000) :
    Calls Try.prog 65 #[.map (some d), .map (some s)] w fun e w' => e = .returned (.tuple #[]) ∧ OnS (fun c => c = d) w w' ∧ ∃ ks, MapB w' d ks ∧ (keys ks).Nodup ∧ ∀ n, asc ks n = (asc kn n).or (asc kd n) := by
  have hown : w.ownsMap Try.prog 3 anyInt s kn.length (dat kn) := hs.own hsn hsm (by omega)
  obtain ⟨N, hN⟩ : ∃ N, Hid (kn.length = N) := ⟨_, Lib.hid rfl⟩
  have HSD := Lib.hid (PH.size_dat kn)
  have HLS := Lib.hid (left_start kn)
  have HS := Lib.hid hs
  have HD := Lib.hid hd
  have HDN := Lib.hid hdn
  have HSN := Lib.hid hsn
  have hdl := hd.lt
  have hsl := hs.lt
  rw [hN.out] at hown HSD
  clear hd hs hdn hsn hsm hl
  go_enter Try.func65, Try.ntmps65
  go_wp2_with (at_range; go_loud (refine wpList_range_own _ rfl _ 88 rfl 3 3 kinfo Try.underlying88 _ _ N (dat kn) rfl hown ?_); intro w0 hrg0 hg0 hs0; rw [HSD.out] at hrg0; have HRG := Lib.hid hrg0; have HG := Lib.hid hg0; have HZ := Lib.hid hs0; clear hrg0 hg0 hs0 hown)
  go_frame
  go_loopg [4] N (fun g lv wr => ∃ (l : List Int) (left : Lit → Bool) (ks : List (Int × Int)), Hid (wr.ranges Try.prog 3 anyInt s w.heap.size N (dat kn) left g) ∧ Hid (MapB wr d ks) ∧ Hid (keys ks).Nodup ∧ Hid (∀ n, asc ks n = if n ∈ l then asc kn n else asc kd n) ∧ Hid (PB.Left kn l left) ∧ Hid (w.heap.size < wr.heap.size) ∧ Hid (OnS (fun c => c = d) w wr))
  case atStart =>
    exact ⟨[], _, kd, HRG, Lib.hid (HD.out.grown HG.out (fun e => by cases e)), HDN, Lib.hid (fun n => by simp), HLS, Lib.hid (by rw [HZ.out]; omega), Lib.hid (OnS.of (bgrown HG.out (fun b hb => by cases hb) (Nat.le_refl _)))⟩
  case round =>
    obtain ⟨l, left, ks, HR, HM, HNK, HA, HL, HSZ, HON⟩ := hrel
    go_wp2_with (first
      | (at_next; refine wpList_next_ranges _ rfl _ rfl 3 kinfo anyInt (Value.int .i64) (Value.int .i64) (fun key kl hk => by obtain ⟨x, rfl, _⟩ := Maps.keyOf_int_inv Try.underlying3 hk; exact ⟨x, rfl⟩) anyInt_inv s w.heap.size N _ _ _ rfl HR.out ?_ ?_)
      | go_in)
    · intro hc0 hl0
      have HAL := Lib.hid (HL.out.all hl0)
      clear hl0
      go_wp2_with fail
      go_end0
      refine ⟨rfl, HON.out, ks, HM.out, HNK.out, fun n => ?_⟩
      rw [HA.out]
      by_cases hn : n ∈ l
      · rw [if_pos hn]
        obtain ⟨v, hv⟩ := asc_some.1 ((HAL.out n).1 hn)
        rw [hv]
        rfl
      · rw [if_neg hn, asc_none.2 (fun e => hn ((HAL.out n).2 e))]
        rfl
    · intro x c kl y1 y2 w2 cnt1 hkk hlk hy hat hrg1 hlt hg1 hs1 hen
      obtain ⟨x', ex, rfl, hwf⟩ := Maps.keyOf_int_inv Try.underlying3 hkk
      injection ex with _ ex
      subst ex
      have HV := Lib.hid (at_dat (ks := kn) HSN.out (HL.out.sub x hlk) hy hat)
      have HM2 := Lib.hid (HM.out.grown hg1 (fun e => by injection e with e; omega))
      have HON2 := Lib.hid (HON.out.next (ons_grown hg1) (fun b hb => .inr (by injection hb with hb; omega)))
      have hput := run_put (P := Try.prog) (MT := 88) (KT := 3) (ET := 3) Try.underlying88 Try.underlying3 w2 d ks x c HM2.out
      have HRG1 := Lib.hid hrg1
      have HLT := Lib.hid hlt
      have HST := Lib.hid (HL.out.step hlk)
      have HSZ2 := Lib.hid (show w.heap.size < w2.heap.size by rw [hs1]; exact HSZ.out)
      clear hkk hlk hy hat hrg1 hlt hg1 hs1 hwf
      go_wp2_with fail
      go_roundg cnt1
      case rel =>
        have hgr : w2.grownBy (putM w2 d x c ks) (some d) := ⟨rfl, rfl, rfl, (putM_on w2 d x c ks).size, fun j hj hn => (putM_on w2 d x c ks).block j hj (fun e => hn (by rw [e]))⟩
        refine ⟨l ++ [x], _, putK x c ks, Lib.hid (HRG1.out.kept hgr (fun e => hne (by injection e with e; exact e.symm)) (fun e => by injection e with e; omega)), Lib.hid (HM2.out.put x c), Lib.hid (nd_put HNK.out), Lib.hid (fun n => ?_), Lib.hid HST.out, Lib.hid (by rw [setMap_size]; exact HSZ2.out), Lib.hid (HON2.out.trans (putM_on w2 d x c ks))⟩
        rw [asc_put, HA.out]
        by_cases h1 : n = x
        · rw [if_pos h1, if_pos (by rw [h1]; simp), h1, HV.out]
        · rw [if_neg h1]
          by_cases h2 : n ∈ l
          · rw [if_pos h2, if_pos (by simp [h2])]
          · rw [if_neg h2, if_neg (by simp [h1, h2])]
      case measure => exact HLT.out
/-- A transaction whose youngest part is joined. -/
abbrev shut1 (x : Tx) : Tx := { x with puts := shutX x true, parts := x.parts - 1 }
set_option maxHeartbeats 1600000 in
theorem join_c (w : World) (H : EI w F p E vv tv G) (h8 : E.T.length = 8) (t : Int) (hst : ∀ x, x ∈ E.T → opn x = true → ¬ 0 < x.stamp) (hp : ∀ x, x ∈ E.T → x.is = true → 1 ≤ x.parts ∧ x.parts ≤ 1000000) (hu : ∀ x, x ∈ E.T → Un x.puts) (hin : ∀ x, x ∈ E.T → x.puts.length ≤ 100000 ∧ ∀ q, q ∈ x.puts → 0 ≤ q.n ∧ q.n < 1000000) :
    Calls Try.prog 31 #[.pointer (some ⟨p, 0, none⟩), .int .i64 t] w fun e w' => e = .returned (.int .i64 (shutR E t true).2) ∧ OnS F w w' ∧ ∃ F', (∃ G', EI w' F' p (shutR E t true).1 vv tv G') ∧ Gr w F F' := by
  have HO := Lib.hid (open_c w H h8 t)
  have HH := Lib.hid H
  by_cases ho : openR E t = true
  · rcases who H h8 t with ⟨h1, h2, h3⟩ | ⟨i, x, b, rfl, hi, hx, hth, hs, hb, rv, pv, lv, ms, HX⟩
    · rw [h3] at ho; cases ho
    have hop : opn x = true := by unfold openR at ho; rw [hth] at ho; exact ho
    rw [if_pos ho, ofV_nat tv hi, hb, ptr_some] at HO
    have hc : x.commits = false := by unfold opn at hop; cases h : x.commits <;> simp [h] at hop ⊢
    have hpp := hp x (mem_of hx) hs
    have hne : ms ≠ [] := fun e => by have := HX.np; rw [e] at this; simp at this; omega
    obtain ⟨ms, m, rfl⟩ := split_last hne
    have hlen : (ms.length : Int) + 1 = x.parts := by have := HX.np; simpa using this
    obtain ⟨c0, c1, c2, c3, c4, c5⟩ := HX.cells
    obtain ⟨pa, pc, hpv, _⟩ := HX.pt.val
    rw [show ((ms ++ [m]).map (·.1)).length = ms.length + 1 by simp] at hpv
    obtain ⟨K, hK⟩ : ∃ K, Hid (ms.length = K) := ⟨_, Lib.hid rfl⟩
    rw [hK.out] at hpv
    rw [hpv] at c2
    have HXX := Lib.hid HX
    by_cases h1 : ms = []
    · have hk0 : K = 0 := by rw [← hK.out, h1]; rfl
      have hr : shutR E (i : Int) true = (E, 1) := by unfold shutR; rw [hth]; exact if_neg (fun e => e.2 (by rw [← hlen, h1]; rfl))
      rw [hr]
      subst hk0
      clear hr ho hop hth hx hs hc hp hst HX H hb hne hlen hu hpp hK h1 c0 c1 c3 c4 c5 hpv hin
      go_enter Try.func31, Try.ntmps31
      go_wp2_with (go_at_call 60; refine HO.out.mono ?_; rintro e w9 ⟨rfl, hw9⟩; subst w9)
      go_ret
      exact ⟨rfl, OnS.refl _ _, F, ⟨G, HH.out⟩, Gr.refl _ _⟩
    · have hK1 : ((K : Int) + 1 == 1) = false := by rw [beq_eq_false_iff_ne]; have := List.length_pos_iff.2 h1; rw [hK.out] at this; omega
      have hr : shutR E (i : Int) true = (setT E (i : Int) (shut1 x), 0) := by unfold shutR; rw [hth]; exact if_pos ⟨hop, by have := List.length_pos_iff.2 h1; omega⟩
      rw [hr]
      obtain ⟨ms0, m2, rfl⟩ := split_last h1
      have hlen2 : (ms0.length : Int) + 2 = x.parts := by rw [← hlen]; simp; omega
      have HU := Lib.hid (hu x (mem_of hx))
      have HIN := Lib.hid (hin x (mem_of hx))
      have HY := Lib.hid (youngest_c w HX (by omega))
      have HD := Lib.hid (fun w1 (h : Below w.heap.size w w1) => drop_c w1 (HX.keep h) h1 (by omega) (hu x (mem_of hx)))
      have HLF := Lib.hid (show lftR E.V (i : Int) (shut1 x) = lftR E.V (i : Int) x by rw [lft_open (x := shut1 x) (hst x (mem_of hx) hop) hc, lft_open (hst x (mem_of hx) hop) hc])
      have HXI := Lib.hid hx
      have HB := Lib.hid hb
      have HSI := Lib.hid hs
      have HL2 := Lib.hid hlen2
      have HPP := Lib.hid hpp
      clear hr ho hop hth hx hs hc hp hst HX H hb hne hlen hu hpp h1 c0 c1 c3 c4 c5 hpv hin hlen2
      go_enter Try.func31, Try.ntmps31
      go_wp2_with (go_at_call 60; refine HO.out.mono ?_; rintro e w9 ⟨rfl, hw9⟩; subst w9)
      refine HY.out.mono ?_
      rintro e w1 ⟨rfl, hb1⟩
      have HB1 := Lib.hid hb1
      have HDD := Lib.hid (HD.out w1 hb1)
      clear hb1
      go_wp2_with fail
      refine HDD.out.mono ?_
      rintro e w2 ⟨rfl, ⟨pv', hx1⟩, hm1, ho1⟩
      have HX1 := Lib.hid hx1
      have HM1 := Lib.hid hm1
      have HO1 := Lib.hid ho1
      have HY2 := Lib.hid (youngest_c w2 hx1 (by have := HL2.out; have := HPP.out.2; omega))
      clear hx1 hm1 ho1
      go_wp2_with fail
      refine HY2.out.mono ?_
      rintro e w3 ⟨rfl, hb3⟩
      have HB3 := Lib.hid hb3
      have hX3 := HX1.out.keep hb3
      have HX3 := Lib.hid hX3
      have hM3 := HM1.out.keep hb3
      have hisp : IsP m.2 x.puts x.parts := by
        have h := HXX.out.isp (ms0 ++ [m2]).length m (by simp)
        rw [show (((ms0 ++ [m2]).length : Nat) : Int) + 1 = x.parts by have := HL2.out; simp; omega] at h
        exact h
      have HISP := Lib.hid hisp
      have hnd := HXX.out.nd
      have hne2 : m2.1 ≠ m.1 := fun e => by
        rw [List.map_append, List.nodup_append] at hnd
        exact hnd.2.2 m2.1 (by simp) m.1 (by simp) e
      have hisp2 : IsP m2.2 (shutX x false) (x.parts - 1) := by
        have h := hX3.isp ms0.length m2 (by simp)
        rw [show ((ms0.length : Nat) : Int) + 1 = x.parts - 1 by have := HL2.out; omega] at h
        exact h
      have HISP2 := Lib.hid hisp2
      have HCP := Lib.hid (copy_c w3 (hX3.mp m2 (by simp)) hM3 hne2 hisp2.nd hisp.nd (fun n hn => by
        obtain ⟨q, h1, h2, _⟩ := hisp.key.1 hn
        rw [← h2]; exact HIN.out.2 q h1) (Nat.le_trans hisp.len HIN.out.1))
      clear hb3 hX3 hM3 hisp hnd hne2 hisp2
      go_wp2_with fail
      refine HCP.out.mono ?_
      rintro e w4 ⟨rfl, ho4, hks⟩
      have HO4 := Lib.hid ho4
      have HKS := Lib.hid hks
      clear ho4 hks
      go_wp2_with fail
      go_ret
      obtain ⟨ks, hm4, hnd4, has4⟩ := HKS.out
      have hon : OnS (fun c => (pv.ownBlock = some c ∨ c = b) ∨ c = m2.1) w w4 := (((OnS.of HB1.out).trans (HO1.out.weak fun c _ h => .inl h)).trans (OnS.of HB3.out)).trans (HO4.out.weak fun c _ h => .inr h)
      have hsub : ∀ c, ((pv.ownBlock = some c ∨ c = b) ∨ c = m2.1) → G i c := fun c h => by
        rcases h with (h | h) | h
        · exact HXX.out.inp c h
        · rw [h]; exact HXX.out.inb
        · rw [h]; exact HXX.out.inm m2 (by simp)
      have hg1 : ∀ {q : Int}, q ≠ x.parts → q ≠ x.parts - 1 → ∀ n, gt (shutX x true) n q = gt (shutX x false) n q := fun {q} h1 h2 n => by rw [gt_shut HU.out true h1, gt_shut HU.out false h1, if_neg (fun e => h2 e.2), if_neg (fun e => by cases e.1)]
      have hX4 := tx_last (x' := shut1 x) (g' := Fx (G i) w w4) HX3.out HO4.out hm4 rfl rfl rfl (fun k y hy => by
        have h := HX3.out.isp k y (by rw [List.getElem?_append_left (List.getElem?_eq_some_iff.1 hy).1]; exact hy)
        have hkl := (List.getElem?_eq_some_iff.1 hy).1
        have := HL2.out
        exact ⟨h.nd, fun n => by rw [h.eq]; exact (hg1 (by omega) (by omega) n).symm⟩) (by
        have e : ((ms0.length : Nat) : Int) + 1 = x.parts - 1 := by have := HL2.out; omega
        rw [e]
        exact ⟨hnd4, fun n => by rw [has4, HISP.out.eq, HISP2.out.eq, gt_shut HU.out true (by omega), if_pos ⟨rfl, rfl⟩, gt_shut HU.out false (by omega), if_neg (fun e => by cases e.1)]⟩) (fun c h => .inl h) (fun c h => by
        rcases h with h | h
        · exact Nat.lt_of_lt_of_le (HXX.out.lt c h) hon.size
        · exact h.2)
      exact ⟨rfl, hon.weak fun c _ h => HH.out.gf i c (hsub c h), _, ⟨_, ei_upd (x' := shut1 x) HH.out HXI.out HB.out HSI.out hon (fun c _ h => hsub c h) ⟨rv, pv', lv, _, HLF.out.symm ▸ hX4⟩⟩, gr_ei _ _ _⟩
  · rw [shut_bad (by cases h : openR E t; rfl; exact absurd h ho)]
    rw [if_neg ho, ptr_none] at HO
    clear ho H hp hst hu hin
    go_enter Try.func31, Try.ntmps31
    go_wp2_with (go_at_call 60; refine HO.out.mono ?_; rintro e w9 ⟨rfl, hw9⟩; subst w9)
    go_ret
    exact ⟨rfl, OnS.refl _ _, F, ⟨G, HH.out⟩, Gr.refl _ _⟩
end
end Go.Proofs.Ytjoifodjbdbicaa.PL
