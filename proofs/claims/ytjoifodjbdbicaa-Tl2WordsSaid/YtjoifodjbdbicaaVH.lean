/- Other values are set in the order in which they are told: the law. -/
import Derived.Test.YtjoifodjbdbicaaZK
namespace Go.Proofs.Ytjoifodjbdbicaa.VH
open Go.RowKit Go.Proofs.Ytjoifodjbdbicaa.RG Go.Proofs.Ytjoifodjbdbicaa.RB Go.Proofs.Ytjoifodjbdbicaa.RI Go.Proofs.Ytjoifodjbdbicaa.UA Go.Proofs.Ytjoifodjbdbicaa.UB Go.Proofs.Ytjoifodjbdbicaa.UC Go.Proofs.Ytjoifodjbdbicaa.UD Go.Proofs.Ytjoifodjbdbicaa.UE Go.Proofs.Ytjoifodjbdbicaa.UF Go.Proofs.Ytjoifodjbdbicaa.UG Go.Proofs.Ytjoifodjbdbicaa.UH Go.Proofs.Ytjoifodjbdbicaa.UI Go.Proofs.Ytjoifodjbdbicaa.UJ Go.Proofs.Ytjoifodjbdbicaa.UK Go.Proofs.Ytjoifodjbdbicaa.UL Go.Proofs.Ytjoifodjbdbicaa.UM Go.Proofs.Ytjoifodjbdbicaa.UN Go.Proofs.Ytjoifodjbdbicaa.UO Go.Proofs.Ytjoifodjbdbicaa.UP Go.Proofs.Ytjoifodjbdbicaa.UQ Go.Proofs.Ytjoifodjbdbicaa.UR Go.Proofs.Ytjoifodjbdbicaa.US Go.Proofs.Ytjoifodjbdbicaa.UT Go.Proofs.Ytjoifodjbdbicaa.UU Go.Proofs.Ytjoifodjbdbicaa.UV Go.Proofs.Ytjoifodjbdbicaa.UW Go.Proofs.Ytjoifodjbdbicaa.UX Go.Proofs.Ytjoifodjbdbicaa.UZ Go.Proofs.Ytjoifodjbdbicaa.VA Go.Proofs.Ytjoifodjbdbicaa.VC Go.Proofs.Ytjoifodjbdbicaa.VD
set_option linter.unusedVariables false
set_option maxRecDepth 100000
set_option maxRecDepth 100000

variable {TP : World → (Nat → Prop) → Nat → Eg → Prop}
/-- Both engines, and blocks that are not the program's. -/
def TwoP (TP : World → (Nat → Prop) → Nat → Eg → Prop) (w : World) (C p r : Nat) (E E0 : Eg) (P : Nat → Prop) : Prop := ∃ F G, TP w F p E ∧ DE w G r E0 ∧ (∀ b, F b → C ≤ b ∧ ¬ G b) ∧ (∀ b, G b → C ≤ b) ∧ C ≤ w.heap.size ∧ ∀ b, P b → ¬ F b ∧ b < w.heap.size
theorem tp_of {w : World} {C p r : Nat} {E E0 : Eg} (h : Two TP w C p r E E0) : TwoP TP w C p r E E0 (fun _ => False) := by
  obtain ⟨F, G, h1, h2, h3, h4, h5⟩ := h
  exact ⟨F, G, h1, h2, h3, h4, h5, fun b h => h.elim⟩
theorem tp_x (hP : PT TP) {w w' : World} {C p r : Nat} {E E0 : Eg} {P Q : Nat → Prop} (h : TwoP TP w C p r E E0 P) (hb : Below w.heap.size w w') (hQ : ∀ b, Q b → w.heap.size ≤ b ∧ b < w'.heap.size) : TwoP TP w' C p r E E0 (fun b => P b ∨ Q b) := by
  obtain ⟨F, G, h1, h2, h3, h4, h5, h6⟩ := h
  exact ⟨F, G, hP.on h1 (OnS.none hb) (fun _ _ h => h), h2.keep hb, h3, h4, Nat.le_trans h5 hb.size, fun b h => by
    rcases h with h | h
    · exact ⟨(h6 b h).1, Nat.lt_of_lt_of_le (h6 b h).2 hb.size⟩
    · exact ⟨fun hf => by have := hP.low h1 b hf; have := (hQ b h).1; omega, (hQ b h).2⟩⟩
theorem tp_k (hP : PT TP) {w w' : World} {C p r : Nat} {E E0 : Eg} {P : Nat → Prop} (h : TwoP TP w C p r E E0 P) (hb : Below w.heap.size w w') : TwoP TP w' C p r E E0 P := by
  obtain ⟨F, G, h1, h2, h3, h4, h5, h6⟩ := h
  exact ⟨F, G, hP.on h1 (OnS.none hb) (fun _ _ h => h), h2.keep hb, h3, h4, Nat.le_trans h5 hb.size, fun b h => ⟨(h6 b h).1, Nat.lt_of_lt_of_le (h6 b h).2 hb.size⟩⟩
theorem tp_p {w w' : World} {C p r : Nat} {E0 E1 : Eg} {P F F' G : Nat → Prop} (h2 : DE w G r E0) (h3 : ∀ b, F b → C ≤ b ∧ ¬ G b) (h4 : ∀ b, G b → C ≤ b) (h5 : C ≤ w.heap.size) (h6 : ∀ b, P b → ¬ F b ∧ b < w.heap.size) (ho : OnS F w w') (ht : TP w' F' p E1) (hg : Gr w F F') : TwoP TP w' C p r E1 E0 P ∧ Below C w w' ∧ ∀ (v : Value) (l : List Int), RowI w v l → (∀ b, v.ownBlock = some b → P b) → RowI w' v l :=
  ⟨⟨F', G, ht, h2.on ho (fun b hb hf => (h3 b hf).2 hb), fun b hb => by
    rcases hg b hb with h | h
    · exact h3 b h
    · exact ⟨by omega, fun hG => by have := h2.lt b hG; omega⟩, h4, Nat.le_trans h5 ho.size, fun b hb => ⟨fun hf => by
    rcases hg b hf with h | h
    · exact (h6 b hb).1 h
    · have := (h6 b hb).2; omega, Nat.lt_of_lt_of_le (h6 b hb).2 ho.size⟩⟩, ho.below h5 (fun b hb => (h3 b hb).1), fun v l hr hv => row_onS hr ho (fun b hb => (h6 b (hv b hb)).1)⟩
/-- Numbers from 1000 on. -/
def mk (j : Nat) : List Int := (List.range j).map fun (i : Nat) => 1000 + (i : Int)
theorem mk_len (j : Nat) : (mk j).length = j := by unfold mk; simp
theorem mk_next (j : Nat) : mk (j + 1) = mk j ++ [1000 + (j : Int)] := by unfold mk; rw [List.range_succ, List.map_append]; rfl
theorem mk_at {j n : Nat} (h : n < j) : (mk j)[n]? = some (1000 + (n : Int)) := by unfold mk; simp [h]
/-- A row but for its first one. -/
theorem row_tail {w : World} {b n cap : Nat} {L : List Int} (h : RowI w (.slice (some ⟨b, 0, none⟩) n cap) L) (h1 : 0 < n) : RowI w (.slice (some ⟨b, 0 + 1, none⟩) (n - 1) (cap - 1)) (L.drop 1) := by
  obtain ⟨ao, cap', hv, hc, h⟩ := row_has h
  injection hv with e1 e2 e3
  subst e1
  subst e3
  apply has_row
  refine ⟨_, _, by rw [List.length_drop, ← e2], by rw [List.length_drop]; omega, .inr ⟨b, 0 + 1, rfl, ?_⟩⟩
  rcases h with h | ⟨b', off, hb, hlt, hcs⟩
  · rw [h] at e2; simp at e2; omega
  · injection hb with hb
    injection hb with hb1 hb2
    subst hb1
    subst hb2
    refine ⟨hlt, fun j hj => ?_⟩
    rw [List.length_drop] at hj
    have := hcs (j + 1) (by omega)
    rw [show 0 + 1 + j = 0 + (j + 1) by omega, this]
    simp
theorem selfless_c (w : World) (v : Value) (L : List Int) (h : RowI w v L) (hl : L.length ≤ 1000000) : Calls Try.prog 20 #[v] w fun e w' => ∃ x, e = .returned x ∧ OwnR TI w' w.heap.size Nobody x L ∧ Below w.heap.size w w' := by
  have HR := Lib.hid (show RowR TI w (fun b => Nobody b ∧ (Value.slice none 0 0).ownBlock ≠ some b) v L from h.weak fun b hb _ => hb.elim)
  have HLN := Lib.hid (show ([] : List Int).length + L.length ≤ 100000000000 from by simp; omega)
  obtain ⟨va, vc, rfl, _⟩ := h.val
  clear h
  go_enter Try.func20, Try.ntmps20
  go_wp2_with (at_builtin; go_loud (refine wpList_row TI w rfl (.tmp 4) (.tmp 5) rfl w.heap.size Nobody (.slice none 0 0) (.slice va L.length vc) [] L rfl rfl (OwnR.nil _ _ _) HR.out HLN.out (Nat.le_refl _) ?_); intro ao6 n6 cap6 w6 hO6 hn6 hg6 ha6; clear hn6; rw [List.nil_append] at hO6; have HO6 := Lib.hid hO6; have HB6 := Lib.hid (bgrown hg6 (fun b hb => by cases hb) (Nat.le_refl _)); clear hO6 hg6 ha6)
  go_ret
  exact ⟨_, rfl, HO6.out, HB6.out⟩
set_option maxHeartbeats 12800000 in
theorem lwords_c (hP : PT TP) (w : World) (S : Nat → Prop) (v : Value) (ds : List Dd) (hv : RowR TDd w S v ds) (hd : D64 ds) : Calls Try.prog 6 #[v] w fun e w' => e = .returned (.bool true) ∧ Below w.heap.size w w' := by
  have HBEG := Lib.hid (begin_c hP w)
  have HLIV := Lib.hid (fun w1 => lives_c hP w1)
  have HPP := Lib.hid hP
  have HR := Lib.hid hv
  have HD := Lib.hid hd
  obtain ⟨va, vc, rfl, _⟩ := hv.val
  obtain ⟨nd, hnd⟩ : ∃ n, Hid (ds.length = n) := ⟨_, Lib.hid rfl⟩
  rw [hnd.out] at HR ⊢
  clear hv hd hP
  go_enter Try.func6, Try.ntmps6
  go_wp2_with fail
  refine HBEG.out.mono ?_
  rintro e w1 ⟨p, r, rfl, ht, hb⟩
  have HT1 := Lib.hid ht
  have HB1 := Lib.hid hb
  clear ht hb
  go_wp2_with fail
  go_loopg [5] 40 (fun g iv wr => ∃ i : Nat, i + g = 40 ∧ iv = .int .i64 (i : Int) ∧ Hid (i ≤ nd) ∧ Hid (Two TP wr w.heap.size p r (runE (bE 4) (ds.take i)) (runE (bE 4) (ds.take i))) ∧ Hid (Below w.heap.size w wr))
  case atStart => exact ⟨0, Nat.zero_add _, rfl, Lib.hid (Nat.zero_le _), HT1, HB1⟩
  case round =>
    obtain ⟨i, hi, rfl, HLE, HTI, HBI⟩ := hrel
    have HI := Lib.hid hi
    by_cases hlt : i < nd ∧ i < 40
    · obtain ⟨h1, h2⟩ := hlt
      obtain ⟨g', rfl⟩ : ∃ g, gk = g + 1 := ⟨gk - 1, by omega⟩
      obtain ⟨d, hd⟩ := getElem?_of_lt (l := ds) (k := i) (by rw [hnd.out]; exact h1)
      obtain ⟨b, off, cap, hvv, hbl, x0, x1, x2, x3⟩ := deed_at HR.out hd
      injection hvv with e1 e2 e3
      subst e1
      subst e3
      clear e2
      have hdb := HD.out d (mem_of hd)
      have HNX := Lib.hid (run_next hd (bE 4))
      obtain ⟨E, hE⟩ : ∃ E, Hid (runE (bE 4) (ds.take i) = E) := ⟨_, Lib.hid rfl⟩
      have HWG := Lib.hid (wg_play ds (show i ≤ 40 by omega))
      rw [hE.out] at HTI HNX HWG
      obtain ⟨dk, dt, dn, dv⟩ := d
      have HDO := Lib.hid (does_c HPP.out wr w.heap.size p r E HTI.out _ HWG.out (by decide) dk dt dn dv hdb.1 hdb.2.1 hdb.2.2)
      have y0 := (HBI.out.cell (p := ⟨b, off + i * 4, none⟩) hbl).trans x0
      have y1 := (HBI.out.cell (p := ⟨b, off + i * 4 + 1, none⟩) hbl).trans x1
      have y2 := (HBI.out.cell (p := ⟨b, off + i * 4 + 2, none⟩) hbl).trans x2
      have y3 := (HBI.out.cell (p := ⟨b, off + i * 4 + 3, none⟩) hbl).trans x3
      have i0 : (0 : Int) ≤ (i : Int) := by omega
      have i1 : (i : Int) < (nd : Int) := by omega
      have i2 : (i : Int) < 40 := by omega
      clear hd hdb x0 x1 x2 x3
      go_wp2_with fail
      refine HDO.out.mono ?_
      rintro e w2 ⟨rfl, ht, hb⟩
      have HB2 := Lib.hid (HBI.out.trans hb)
      have HT2 := Lib.hid ht
      clear ht hb
      go_wp2_with fail
      go_roundg g'
      case rel => exact ⟨i + 1, by have := HI.out; omega, by go_num, Lib.hid (by omega), by rw [HNX.out]; exact HT2, HB2⟩
      case measure => omega
    · have hex : (¬ (i : Int) < (nd : Int)) ∨ ((i : Int) < (nd : Int) ∧ ¬ (i : Int) < 40) := by omega
      have HWG0 := Lib.hid (wg_play ds (show i ≤ 40 by omega))
      have HWV0 := Lib.hid (wv_play ds i)
      have HLK0 := Lib.hid (lk_run (ds.take i) (lk_bE 4) (bE_wg 4) (wv_bE 4))
      obtain ⟨E0, hE0⟩ : ∃ E, Hid (runE (bE 4) (ds.take i) = E) := ⟨_, Lib.hid rfl⟩
      rw [hE0.out] at HTI HWG0 HWV0 HLK0
      clear hlt
      rcases hex with hx1 | ⟨hx1, hx2⟩
      all_goals
        have h4v := v4_run (ds.take i) (E := bE 4) (by decide +kernel)
        rw [hE0.out] at h4v
        have HWL := Lib.hid (words_len HWG0.out.wf (by omega))
        obtain ⟨WD, hWD⟩ : ∃ l, Hid (wordsR E0 = l) := ⟨_, Lib.hid rfl⟩
        obtain ⟨nW, hnW⟩ : ∃ l, Hid (WD.length = l) := ⟨_, Lib.hid rfl⟩
        have hW4 : 4 ≤ nW := by
          rw [← hnW.out, ← hWD.out]
          unfold wordsR
          rw [List.length_append, List.length_map]
          omega
        rw [hWD.out, hnW.out] at HWL
        have hWb : nW ≤ 900000 := HWL.out
        obtain ⟨N, hN⟩ : ∃ l, Hid (E0.V.length = l) := ⟨_, Lib.hid rfl⟩
        have hN4 := HWG0.out.wf.vs
        have hNW : E0.V.length ≤ nW := by
          rw [← hnW.out, ← hWD.out]
          unfold wordsR
          rw [List.length_append, List.length_map]
          omega
        rw [hN.out] at hN4 hNW h4v
        have HTP0 := Lib.hid (tp_of HTI.out)
        obtain ⟨F, G, h1, h2, h3, h4, h5, h6⟩ := HTP0.out
        have HX := Lib.hid (HPP.out.words h1 HWG0.out (by omega))
        rw [hWD.out] at HX
        clear h1 h2 h3 h4 h5 h6
        go_wp2_with fail
        refine HX.out.mono ?_
        rintro e w6 ⟨x6, rfl, hx6, hxo6, hb⟩
        obtain ⟨xa, xc, rfl, _⟩ := hx6.val
        rw [hnW.out] at hx6 hxo6 ⊢
        have hlt6 : ∀ b, (Value.slice xa nW xc).ownBlock = some b → b < w6.heap.size := fun b e => by
          obtain ⟨bb, off, cap, hv, _, hl, _⟩ := hx6.open_ (by intro e0; rw [e0] at hnW; have := hnW.out; simp at this; omega)
          injection hv with q1
          subst q1
          have e2 : bb = b := Option.some.inj e
          omega
        have HX6 := Lib.hid hx6
        have HT6 := Lib.hid (tp_x HPP.out (Q := fun b => (Value.slice xa nW xc).ownBlock = some b) HTP0.out hb (fun b e => ⟨hxo6 b e, hlt6 b e⟩))
        have HB6 := Lib.hid (bnext HBI.out hb)
        clear hx6 hxo6 hb hlt6 HX
        go_wp2_with fail
        go_loopg [7, 8] nW (fun g ov jv w7 => ∃ j : Nat, j + g = nW ∧ jv = .int .i64 (j : Int) ∧ Hid (OwnR TI w7 w6.heap.size Nobody ov (mk j)) ∧ Hid (Below w6.heap.size w6 w7))
        case atStart => exact ⟨0, Nat.zero_add _, rfl, Lib.hid (OwnR.nil _ _ _), Lib.hid (Below.refl _ _)⟩
        case round =>
          obtain ⟨j, hj, rfl, HO, HB⟩ := hrel
          have HJ := Lib.hid hj
          obtain ⟨oa, oc, hov, _⟩ := HO.out.val
          rw [mk_len] at hov
          subst hov
          by_cases hlt : j < nW
          · obtain ⟨g', rfl⟩ : ∃ g, gk = g + 1 := ⟨gk - 1, by omega⟩
            have j0 : (0 : Int) ≤ (j : Int) := by omega
            have j1 : (j : Int) < (nW : Int) := by omega
            have HBA := Lib.hid (balloc wr (.cells #[.int .i64 (1000 + (j : Int))] 3))
            have HOA := Lib.hid (HO.out.keep HBA.out)
            have HRN := Lib.hid (show RowR TI (wr.alloc (.cells #[.int .i64 (1000 + (j : Int))] 3)) (fun b => Nobody b ∧ (Value.slice oa j oc).ownBlock ≠ some b) (.slice (some ⟨wr.heap.size, 0, none⟩) 1 1) [1000 + (j : Int)] from rowR_new (q := []) #[.int .i64 (1000 + (j : Int))] 3 rfl rfl)
            have HLN := Lib.hid (show (mk j).length + [1000 + (j : Int)].length ≤ 100000000000 from by rw [mk_len]; simp; omega)
            have HXA := Lib.hid (bnext HB.out HBA.out)
            have HBS := Lib.hid HXA.out.size
            have HMN := Lib.hid (mk_next j)
            go_wp2_with (at_builtin; go_loud (refine wpList_row TI (wr.alloc (.cells #[.int .i64 (1000 + (j : Int))] 3)) rfl (.tmp 45) (.tmp 48) rfl w6.heap.size Nobody (.slice oa j oc) (.slice (some ⟨wr.heap.size, 0, none⟩) 1 1) (mk j) [1000 + (j : Int)] rfl rfl HOA.out HRN.out HLN.out HBS.out ?_); intro ao7 n7 cap7 w7 hO7 hn7 hg7 ha7; clear hn7; have HO7 := Lib.hid hO7; have HX7 := Lib.hid (HXA.out.trans (bgrown hg7 (fun b hb => (HOA.out.own hb).1) HBS.out)); clear hO7 hg7 ha7)
            go_roundg g'
            case rel => exact ⟨j + 1, by have := HJ.out; omega, by go_num, by rw [HMN.out]; exact HO7, HX7⟩
            case measure => omega
          · have hjn : j = nW := by omega
            subst hjn
            obtain ⟨ob, oc2, ocu, hoe, hok, hol, hof⟩ := own_block HO.out (by intro e; have := mk_len j; rw [e] at this; simp at this; omega)
            rw [mk_len] at hoe
            injection hoe with q1 q2 q3
            subst q1
            subst q3
            clear q2 hok hof
            have HT7 := Lib.hid (tp_x HPP.out (Q := fun b => b = ob) HT6.out HB.out (fun b e => by rw [e]; exact HO.out.own rfl))
            have HR7 := Lib.hid (HX6.out.keep HB.out)
            have HO7 := Lib.hid HO.out.row
            have HB7 := Lib.hid (bnext HB6.out HB.out)
            have HSL := Lib.hid (selfless_c wr (.slice (some ⟨ob, 0, none⟩) j oc) (mk j) (by have := HO.out.row; exact has_row (row_has this)) (by rw [mk_len]; omega))
            have HORI := Lib.hid (show RowI wr (.slice (some ⟨ob, 0, none⟩) j oc) (mk j) from has_row (row_has HO.out.row))
            clear HO7
            go_wp2_with fail
            refine HSL.out.mono ?_
            rintro e w8 ⟨x8, rfl, hx8, hb8⟩
            obtain ⟨ya, yc, rfl, _⟩ := hx8.val
            rw [mk_len] at hx8 ⊢
            have HBA8 := Lib.hid (balloc w8 (.cells #[.int .i64 5] 3))
            have HOA8 := Lib.hid (hx8.keep HBA8.out)
            have HRN8 := Lib.hid (show RowR TI (w8.alloc (.cells #[.int .i64 5] 3)) (fun b => Nobody b ∧ (Value.slice ya j yc).ownBlock ≠ some b) (.slice (some ⟨w8.heap.size, 0, none⟩) 1 1) [5] from rowR_new (q := []) #[.int .i64 5] 3 rfl rfl)
            have HLN8 := Lib.hid (show (mk j).length + [(5 : Int)].length ≤ 100000000000 from by rw [mk_len]; simp; omega)
            have HXA8 := Lib.hid (bnext hb8 HBA8.out)
            have HBS8 := Lib.hid HXA8.out.size
            clear hx8 hb8
            go_wp2_with (at_builtin; go_loud (refine wpList_row TI (w8.alloc (.cells #[.int .i64 5] 3)) rfl (.tmp 52) (.tmp 53) rfl wr.heap.size Nobody (.slice ya j yc) (.slice (some ⟨w8.heap.size, 0, none⟩) 1 1) (mk j) [5] rfl rfl HOA8.out HRN8.out HLN8.out HBS8.out ?_); intro ao9 n9 cap9 w9 hO9 hn9 hg9 ha9; clear hn9; have HO9 := Lib.hid hO9; have HX9 := Lib.hid (HXA8.out.trans (bgrown hg9 (fun b hb => (HOA8.out.own hb).1) HBS8.out)); clear hO9 hg9 ha9)
            obtain ⟨F, G, k1, k2, k3, k4, k5, k6⟩ := HT7.out
            have HSE := Lib.hid (HPP.out.set (HPP.out.on k1 (OnS.none HX9.out) (fun _ _ h => h)) HWG0.out (by omega) (.slice ao9 n9 cap9) (mk j ++ [5]) (has_row (row_has HO9.out.row)) (by rw [List.length_append, mk_len]; simp; omega) (fun b e hf => by have := HPP.out.low k1 b hf; have := (HO9.out.own e).1; omega))
            have HFS := Lib.hid (And.intro (k2.keep HX9.out) (And.intro k3 (And.intro k4 (And.intro (Nat.le_trans k5 HX9.out.size) (fun b hb => And.intro (k6 b hb).1 (Nat.lt_of_lt_of_le (k6 b hb).2 HX9.out.size))))))
            clear k1 k2 k3 k4 k5 k6
            refine HSE.out.mono ?_
            rintro e w10 ⟨rfl, ho, F', E1, ht, hg, _, hset⟩
            have he1 : E1 = E0 := by
              unfold SetR at hset
              rw [if_neg (by rw [List.length_append, mk_len, hWD.out, hnW.out]; simp)] at hset
              exact hset
            rw [he1] at ht
            clear he1
            obtain ⟨ht10, hb10, hr10⟩ := tp_p HFS.out.1 HFS.out.2.1 HFS.out.2.2.1 HFS.out.2.2.2.1 HFS.out.2.2.2.2 ho ht hg
            have HT10 := Lib.hid ht10
            have HB10 := Lib.hid (HB7.out.trans ((HX9.out.mono HB7.out.size).trans hb10))
            have HR10 := Lib.hid (hr10 _ _ (HR7.out.keep HX9.out) (fun b e => .inl (.inr e)))
            have HO10 := Lib.hid (hr10 _ _ (HORI.out.keep HX9.out) (fun b e => .inr (Option.some.inj e).symm))
            clear ho ht hg hset ht10 hb10 hr10 HFS HSE
            have j1 : (j : Int) > 0 := by omega
            obtain ⟨F, G, k1, k2, k3, k4, k5, k6⟩ := HT10.out
            have hjc : j ≤ oc := by
              obtain ⟨_, cap, hv, hc⟩ := HO10.out.val
              injection hv with _ _ q3
              rw [mk_len] at hc
              omega
            have HSE := Lib.hid (HPP.out.set k1 HWG0.out (by omega) (.slice (some ⟨ob, 0 + 1, none⟩) (j - 1) (oc - 1)) ((mk j).drop 1) (row_tail HO10.out (by omega)) (by rw [List.length_drop, mk_len]; omega) (fun b e hf => (k6 b (.inr (Option.some.inj e).symm)).1 hf))
            have HFS := Lib.hid (And.intro k2 (And.intro k3 (And.intro k4 (And.intro k5 k6))))
            clear k1 k2 k3 k4 k5 k6
            have c1 : 1 < oc := by omega
            have c2 : (1 : Int) ≤ (j : Int) := by omega
            have c3 : (1 : Int) ≤ (oc : Int) := by omega
            go_wp2_with fail
            refine HSE.out.mono ?_
            rintro e w11 ⟨rfl, ho, F', E1, ht, hg, _, hset⟩
            have he1 : E1 = E0 := by
              unfold SetR at hset
              rw [if_neg (by rw [List.length_drop, mk_len, hWD.out, hnW.out]; omega)] at hset
              exact hset
            rw [he1] at ht
            clear he1
            obtain ⟨ht11, hb11, hr11⟩ := tp_p HFS.out.1 HFS.out.2.1 HFS.out.2.2.1 HFS.out.2.2.2.1 HFS.out.2.2.2.2 ho ht hg
            have HT11 := Lib.hid ht11
            have HB11 := Lib.hid (HB10.out.trans hb11)
            have HR11 := Lib.hid (hr11 _ _ HR10.out (fun b e => .inl (.inr e)))
            have HO11 := Lib.hid (hr11 _ _ HO10.out (fun b e => .inr (Option.some.inj e).symm))
            clear ho ht hg hset ht11 hb11 hr11 HFS HSE
            obtain ⟨F, G, k1, k2, k3, k4, k5, k6⟩ := HT11.out
            have HX := Lib.hid (HPP.out.words k1 HWG0.out (by omega))
            rw [hWD.out] at HX
            clear k1 k2 k3 k4 k5 k6
            go_wp2_with fail
            refine HX.out.mono ?_
            rintro e w12 ⟨x12, rfl, hx12, _, hb⟩
            have HT12 := Lib.hid (tp_k HPP.out HT11.out hb)
            have HB12 := Lib.hid (bnext HB11.out hb)
            have HR12 := Lib.hid (HR11.out.keep hb)
            have HO12 := Lib.hid (HO11.out.keep hb)
            obtain ⟨za, zc, rfl, _⟩ := hx12.val
            rw [hnW.out] at hx12 ⊢
            have HSM := Lib.hid (same_c w12 (.slice za j zc) (.slice xa j xc) WD WD hx12 HR12.out (by rw [hnW.out]; omega))
            rw [decide_eq_true (show WD = WD from rfl)] at HSM
            clear hx12 hb HX
            go_wp2_with fail
            refine HSM.out.mono ?_
            rintro e w13 ⟨rfl, hb⟩
            have HT13 := Lib.hid (tp_k HPP.out HT12.out hb)
            have HB13 := Lib.hid (bnext HB12.out hb)
            have HO13 := Lib.hid (HO12.out.keep hb)
            clear hb HSM
            obtain ⟨F, G, k1, k2, k3, k4, k5, k6⟩ := HT13.out
            have HSE := Lib.hid (HPP.out.set k1 HWG0.out (by omega) (.slice (some ⟨ob, 0, none⟩) j oc) (mk j) HO13.out (by rw [mk_len]; omega) (fun b e hf => (k6 b (.inr (Option.some.inj e).symm)).1 hf))
            have HFS := Lib.hid (And.intro k2 (And.intro k3 (And.intro k4 (And.intro k5 k6))))
            clear k1 k2 k3 k4 k5 k6
            go_wp2_with fail
            refine HSE.out.mono ?_
            rintro e w14 ⟨rfl, ho, F', E1, ht, hg, _, hset⟩
            have hset2 : wordsR E1 = mk j ∧ E1.V.map (·.val) = (mk j).take E0.V.length ∧ ∀ m, Wg m E0 → Wg m E1 := by
              unfold SetR at hset
              rw [if_pos (by rw [mk_len, hWD.out, hnW.out])] at hset
              exact hset
            have HW1 := Lib.hid (show Wg (4 + 40) E1 from hset2.2.2 _ HWG0.out)
            have HWO := Lib.hid hset2.1
            have HVL := Lib.hid (show ∀ n : Nat, n < N → valueR E1 (n : Int) = (1000 + (n : Int), 0) from fun n hn => by
              have h := congrArg (fun l => l[n]?) hset2.2.1
              simp only [List.getElem?_map] at h
              rw [List.getElem?_take, if_pos (by rw [hN.out]; exact hn), mk_at (by omega)] at h
              unfold valueR
              rw [vrR_nat]
              cases hv : E1.V[n]? with
              | none => rw [hv] at h; cases h
              | some u =>
                rw [hv] at h
                have : u.val = 1000 + (n : Int) := Option.some.inj h
                show (u.val, (0 : Int)) = _
                rw [this])
            obtain ⟨ht14, hb14, hr14⟩ := tp_p HFS.out.1 HFS.out.2.1 HFS.out.2.2.1 HFS.out.2.2.2.1 HFS.out.2.2.2.2 ho ht hg
            have HT14 := Lib.hid ht14
            have HB14 := Lib.hid (HB13.out.trans hb14)
            have HO14 := Lib.hid (hr14 _ _ HO13.out (fun b e => .inr (Option.some.inj e).symm))
            clear ho ht hg hset hset2 ht14 hb14 hr14 HFS HSE
            obtain ⟨F, G, k1, k2, k3, k4, k5, k6⟩ := HT14.out
            have HX := Lib.hid (HPP.out.words k1 HW1.out (by omega))
            rw [HWO.out] at HX
            clear k1 k2 k3 k4 k5 k6
            go_wp2_with fail
            refine HX.out.mono ?_
            rintro e w15 ⟨x15, rfl, hx15, _, hb⟩
            have HT15 := Lib.hid (tp_k HPP.out HT14.out hb)
            have HB15 := Lib.hid (bnext HB14.out hb)
            obtain ⟨za2, zc2, rfl, _⟩ := hx15.val
            rw [mk_len] at hx15 ⊢
            have HSM := Lib.hid (same_c w15 (.slice za2 j zc2) (.slice (some ⟨ob, 0, none⟩) j oc) (mk j) (mk j) hx15 (HO14.out.keep hb) (by rw [mk_len]; omega))
            rw [decide_eq_true (show mk j = mk j from rfl)] at HSM
            clear hx15 hb HX
            go_wp2_with fail
            refine HSM.out.mono ?_
            rintro e w16 ⟨rfl, hb⟩
            have HT16 := Lib.hid (tp_k HPP.out HT15.out hb)
            have HB16 := Lib.hid (bnext HB15.out hb)
            clear hb HSM
            go_wp2_with fail
            go_loopg [11, 12, 13] N (fun g nv vv fv w17 => ∃ n : Nat, n + g = N ∧ nv = .int .i64 (n : Int) ∧ Hid (Below w16.heap.size w16 w17))
            case atStart => exact ⟨0, Nat.zero_add _, rfl, Lib.hid (Below.refl _ _)⟩
            case round =>
              obtain ⟨n, hn, rfl, HB17⟩ := hrel
              have HNN := Lib.hid hn
              obtain ⟨F, G, k1, ⟨vv, tv, Z, hd⟩, k3, k4, k5, k6⟩ := tp_k HPP.out HT16.out HB17.out
              obtain ⟨va1, vc1, hvv, _⟩ := hd.vs.val
              have y1 : wr.cell? ⟨r, 1, none⟩ = some vv := hd.bk.cell 1 _ rfl
              rw [hvv, hN.out] at y1
              have hrl := hd.bk.lt
              have HVV := Lib.hid (HPP.out.value k1 HW1.out (by omega) (n : Int) ⟨by omega, by omega⟩)
              clear k1 hd k3 k4 k5 k6 hvv
              by_cases hlt2 : n < N
              · obtain ⟨g', rfl⟩ : ∃ g, gk = g + 1 := ⟨gk - 1, by omega⟩
                have hvn := HVL.out n hlt2
                rw [hvn] at HVV
                have n0 : (0 : Int) ≤ (n : Int) := by omega
                have n1 : (n : Int) < (N : Int) := by omega
                clear hvn
                go_wp2_with fail
                refine HVV.out.mono ?_
                rintro e w18 ⟨rfl, hb⟩
                have HB18 := Lib.hid (bnext HB17.out hb)
                clear hb
                go_wp2_with fail
                go_roundg g'
                case rel => exact ⟨n + 1, by have := HNN.out; omega, by go_num, HB18⟩
                case measure => omega
              · have hnn : n = N := by omega
                subst hnn
                have HL18 := Lib.hid (HLIV.out wr)
                go_wp2_with fail
                refine HL18.out.mono ?_
                rintro e w18 ⟨rfl, hb⟩
                have HB18 := Lib.hid (bnext HB16.out (bnext HB17.out hb))
                clear hb
                go_wp2_with fail
                go_ret
                exact ⟨rfl, HB18.out⟩
end Go.Proofs.Ytjoifodjbdbicaa.VH
