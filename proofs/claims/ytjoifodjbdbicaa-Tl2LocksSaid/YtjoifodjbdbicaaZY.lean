/- ZY: several texts in one (PZ QA). -/
import Derived.Test.YtjoifodjbdbicaaPY1
import Derived.Test.YtjoifodjbdbicaaPY2

/- The program's engine: Words, Set. -/
namespace Go.Proofs.Ytjoifodjbdbicaa.PZ
open Go.RowKit Go.Proofs.Ytjoifodjbdbicaa.RG Go.Proofs.Ytjoifodjbdbicaa.RB Go.Proofs.Ytjoifodjbdbicaa.RI Go.Proofs.Ytjoifodjbdbicaa.RM Go.Proofs.Ytjoifodjbdbicaa.UA Go.Proofs.Ytjoifodjbdbicaa.UB Go.Proofs.Ytjoifodjbdbicaa.UD Go.Proofs.Ytjoifodjbdbicaa.UE Go.Proofs.Ytjoifodjbdbicaa.UG Go.Proofs.Ytjoifodjbdbicaa.UH Go.Proofs.Ytjoifodjbdbicaa.UI Go.Proofs.Ytjoifodjbdbicaa.UK Go.Proofs.Ytjoifodjbdbicaa.UQ Go.Proofs.Ytjoifodjbdbicaa.UR Go.Proofs.Ytjoifodjbdbicaa.UZ Go.Proofs.Ytjoifodjbdbicaa.PA Go.Proofs.Ytjoifodjbdbicaa.PB Go.Proofs.Ytjoifodjbdbicaa.PC Go.Proofs.Ytjoifodjbdbicaa.PD Go.Proofs.Ytjoifodjbdbicaa.PE Go.Proofs.Ytjoifodjbdbicaa.PF Go.Proofs.Ytjoifodjbdbicaa.PG Go.Proofs.Ytjoifodjbdbicaa.PJ Go.Proofs.Ytjoifodjbdbicaa.PK Go.Proofs.Ytjoifodjbdbicaa.PM Go.Proofs.Ytjoifodjbdbicaa.PN Go.Proofs.Ytjoifodjbdbicaa.PO Go.Proofs.Ytjoifodjbdbicaa.PP Go.Proofs.Ytjoifodjbdbicaa.PQ Go.Proofs.Ytjoifodjbdbicaa.PR Go.Proofs.Ytjoifodjbdbicaa.PU Go.Proofs.Ytjoifodjbdbicaa.PV Go.Proofs.Ytjoifodjbdbicaa.PW Go.Proofs.Ytjoifodjbdbicaa.PX
set_option linter.unusedVariables false
set_option maxRecDepth 100000
set_option maxRecDepth 100000

/-- Words' own: the box at B, of the row that it holds. -/
def CW (B : Nat) (l : List Int) (Φ : Nat → Prop) (w : World) : Prop := ∃ v, Bk w B #[v] 37 ∧ OwnF TI w v l ∧ ∀ b, Φ b ↔ (b = B ∨ v.ownBlock = some b)
set_option maxHeartbeats 1600000 in
theorem word_c {B : Nat} {l : List Int} {Φ : Nat → Prop} {w : World} (H : CW B l Φ w) (hl : l.length ≤ 20000000) (u : Int) :
    Calls Try.prog 50 (#[.int .i64 u] ++ #[.pointer (some ⟨B, 0, none⟩)]) w fun e w' => e = .returned (.int .i64 u) ∧ OnS Φ w w' ∧ ∃ Φ', CW B (l ++ [u]) Φ' w' ∧ Gr w Φ Φ' := by
  obtain ⟨v, hk, ho, hΦ⟩ := H
  obtain ⟨ra, rc, hrv, _⟩ := ho.val
  obtain ⟨rn, hrn⟩ : ∃ rn, Hid (l.length = rn) := ⟨_, Lib.hid rfl⟩
  rw [hrn.out] at hrv
  subst hrv
  have HL := Lib.hid hl
  have HO := Lib.hid ho
  have HK := Lib.hid hk
  have HP := Lib.hid hΦ
  have hne : ∀ b, (Value.slice ra rn rc).ownBlock = some b → b ≠ B := fun b e => own_typ ho hk (by decide) e
  have HNE := Lib.hid hne
  have c0 : w.cell? ⟨B, 0, none⟩ = some (.slice ra rn rc) := hk.cell 0 _ rfl
  have bl := hk.lt
  have bf := hk.free 0
  clear hl ho hk hΦ hne
  go_enter Try.func50, Try.ntmps50
  go_wp2_with (at_builtin; have HBA := Lib.hid (balloc w (.cells #[.int .i64 u] 3)); have HRN := Lib.hid (show RowR TI (w.alloc (.cells #[.int .i64 u] 3)) (fun b => Nobody b ∧ (Value.slice ra rn rc).ownBlock ≠ some b) (.slice (some ⟨w.heap.size, 0, none⟩) 1 1) [u] from rowR_new (R := TI) (q := []) #[.int .i64 u] 3 rfl rfl); go_loud (refine wpList_row TI (w.alloc (.cells #[.int .i64 u] 3)) rfl (.tmp 4) (.tmp 6) rfl 0 Nobody (.slice ra rn rc) (.slice (some ⟨w.heap.size, 0, none⟩) 1 1) l [u] rfl rfl (ownF_on HO.out (S := fun _ => False) (OnS.of HBA.out) (fun _ _ h => h)) HRN.out (by have := HL.out; rw [List.length_singleton]; omega) (Nat.zero_le _) ?_); intro ao6 n6 cap6 w6 hO6 hn6 hg6 ha6; have HN6 := Lib.hid hn6; have HO6 := Lib.hid hO6; have HG6 := Lib.hid hg6; have HA6 := Lib.hid ha6; have k6 := (HK.out.keep HBA.out).grown hg6 (fun e => HNE.out B e rfl); have K6 := Lib.hid k6; have f6 := k6.free 0; have r6 : w6.cell? ⟨B, 0, none⟩ = some (.slice ra rn rc) := k6.cell 0 _ rfl; have l6 := k6.lt; clear hO6 hn6 hg6 ha6 k6)
  go_ret
  have hn : n6 = rn + 1 := by rw [HN6.out, hrn.out]; rfl
  have hon1 : OnS (fun c => (Value.slice ra rn rc).ownBlock = some c) w w6 := (OnS.of HBA.out).trans (ons_grown HG6.out)
  have hsz := hon1.size
  have hk7 := K6.out.set 0 (.slice ao6 n6 cap6)
  have hne6 : ∀ b, (Value.slice ao6 n6 cap6).ownBlock = some b → b ≠ B := fun b e => own_typ HO6.out K6.out (by decide) e
  refine ⟨rfl, (hon1.weak fun c _ h => (HP.out c).2 (.inr h)).trans ((OnS.cell B 0 _).weak fun c _ h => (HP.out c).2 (.inl h)), fun b => b = B ∨ (Value.slice ao6 n6 cap6).ownBlock = some b, ⟨_, hk7, ownF_on HO6.out (OnS.cell B 0 _) (fun b e h => hne6 b e h), fun b => Iff.rfl⟩, fun b hb => ?_⟩
  rcases hb with hb | hb
  · exact .inl ((HP.out b).2 (.inl hb))
  · rcases HA6.out with e | e
    · exact .inl ((HP.out b).2 (.inr (e ▸ hb)))
    · rw [e, World.size_alloc] at hb
      injection hb with hb
      exact .inr (by omega)
theorem cl_word (F : Nat → Prop) (B N : Nat) (hN : N ≤ 20000000) : CL F 50 #[.pointer (some ⟨B, 0, none⟩)] (fun _ v => v) N (CW B) where
  low := fun {l Φ w} h b hb => by
    obtain ⟨v, hk, ho, hΦ⟩ := h
    rcases (hΦ b).1 hb with rfl | hb
    · exact hk.lt
    · exact (ho.own hb).2
  on := fun {l Φ w w' S} h ho hn _ => by
    obtain ⟨v, hk, hr, hΦ⟩ := h
    exact ⟨v, ho.bk hk (hn B ((hΦ B).2 (.inl rfl))), ownF_on hr ho (fun b e => hn b ((hΦ b).2 (.inr e))), hΦ⟩
  call := fun {l Φ w} h hl v => word_c h (by omega) v
theorem ans_id : ∀ (l pre : List Int), ans (fun _ v => v) pre l = l
  | [], _ => rfl
  | v :: l, pre => congrArg (v :: ·) (ans_id l _)
section
variable {F : Nat → Prop} {p : Nat} {E : Eg} {vv : Value} {tv : Nat → Option Nat} {G : Nat → Nat → Prop}
theorem words_c (w : World) (H : EI w F p E vv tv G) (h8 : E.T.length = 8) (hV : E.V.length ≤ 4000) (HQ : ∀ (i : Nat) (x : Tx), E.T[i]? = some x → x.is = true → TQ E i x) (hp : ∀ x, x ∈ E.T → x.is = true → 1 ≤ x.parts ∧ x.parts ≤ 1000000) (h0 : ∀ x, x ∈ E.T → ∀ p, p ∈ x.puts → 0 ≤ p.n) (hP : Pv E) (hN : (adE E).length ≤ 20000000) :
    Calls Try.prog 18 #[.pointer (some ⟨p, 0, none⟩)] w fun e w' => ∃ x, e = .returned x ∧ RowI w' x (wordsR E) ∧ (∀ b, x.ownBlock = some b → w.heap.size ≤ b) ∧ Below w.heap.size w w' := by
  obtain ⟨W1, hW1⟩ : ∃ W1, w.alloc (.cells #[.slice none 0 0] 37) = W1 := ⟨_, rfl⟩
  have hb1 : Below w.heap.size w W1 := hW1 ▸ balloc w _
  have hz1 : W1.heap.size = w.heap.size + 1 := hW1 ▸ World.size_alloc _ _
  have hk1 : Bk W1 w.heap.size #[.slice none 0 0] 37 := hW1 ▸ Bk.new w _ _
  have hcw : CW w.heap.size [] (fun b => b = w.heap.size) W1 := ⟨_, hk1, OwnR.nil W1 0 Nobody, fun b => ⟨.inl, fun h => h.elim id (fun h => by cases h)⟩⟩
  have HE := Lib.hid (PY1.each_c W1 (H.keep hb1) h8 hV HQ hp h0 rfl (cl_word F w.heap.size _ hN) hcw (fun b hb e => by have := H.lt b hb; omega))
  have HB1 := Lib.hid hb1
  have HZ1 := Lib.hid hz1
  have HP := Lib.hid hP
  have H00 := Lib.hid h0
  clear H h8 hV HQ hp h0 hP hN hb1 hz1 hk1 hcw
  go_enter Try.func18, Try.ntmps18
  go_wp2_with (go_at_call 49; refine HE.out.mono ?_; rintro e w2 ⟨rfl, Ec, done, Φ, hy⟩; have HY := Lib.hid hy; obtain ⟨v, hk, ho, hΦ⟩ := hy.cl; have HO := Lib.hid ho; have HPH := Lib.hid hΦ; have c0 : w2.cell? ⟨w.heap.size, 0, none⟩ = some v := hk.cell 0 _ rfl; have bl := hk.lt; clear hy hk ho hΦ)
  go_ret
  have hpc : Pv Ec := pv_sm HY.out.way.sm HP.out H00.out
  have hend := HY.out.way.end_ HP.out.un H00.out hpc.un
  have hon := HY.out.id fun _ _ => rfl
  refine ⟨v, rfl, ?_, fun b hb => ?_, HB1.out.trans (hon.below (by have := HZ1.out; omega) (fun b hb => by rw [hb]; exact Nat.le_refl _))⟩
  · have := HO.out.row
    rwa [hend.2] at this
  · rcases HY.out.gr b ((HPH.out b).2 (.inr hb)) with h | h
    · rw [h]; exact Nat.le_refl _
    · have := HZ1.out; omega
end
theorem partsW_len4 (x : Tx) (hp : x.puts.length ≤ 1000) : ∀ k : Nat, (partsW x k).length ≤ k * 1000
  | 0 => Nat.le_refl _
  | k + 1 => by
    have ih := partsW_len4 x hp k
    have := sortR_len x.puts ((k : Int) + 1)
    unfold partsW
    rw [List.length_append, List.length_map]
    omega
theorem txW_len4 {m N : Nat} {x : Tx} (h : WfT m N x) (hm : m ≤ 1000) : (txW x).length ≤ 1000000 := by
  unfold txW
  split
  · have := partsW_len4 x (Nat.le_trans h.puts hm) x.parts.toNat
    have := h.parts
    omega
  · exact Nat.zero_le _
theorem flat_len4 {m N : Nat} (hm : m ≤ 1000) : ∀ (l : List Tx), (∀ x, x ∈ l → WfT m N x) → ((l.map txW).flatten).length ≤ l.length * 1000000
  | [], _ => Nat.le_refl _
  | x :: l, h => by
    have ih := flat_len4 hm l (fun y hy => h y (List.mem_cons_of_mem _ hy))
    have := txW_len4 (h x List.mem_cons_self) hm
    rw [List.map_cons, List.flatten_cons, List.length_append, List.length_cons]
    omega
theorem words_len4 {m : Nat} {E : Eg} (h : Wf m E) (hm : m ≤ 1000) : (wordsR E).length ≤ 20000000 := by
  unfold wordsR
  have h2 := flat_len4 hm E.T h.tx
  have h3 := h.vs
  rw [h.th] at h2
  rw [List.length_append, List.length_map]
  omega
end Go.Proofs.Ytjoifodjbdbicaa.PZ

/- The program's engine: Set. -/
namespace Go.Proofs.Ytjoifodjbdbicaa.QA
open Go.RowKit Go.Proofs.Ytjoifodjbdbicaa.RG Go.Proofs.Ytjoifodjbdbicaa.RB Go.Proofs.Ytjoifodjbdbicaa.RI Go.Proofs.Ytjoifodjbdbicaa.RM Go.Proofs.Ytjoifodjbdbicaa.UA Go.Proofs.Ytjoifodjbdbicaa.UB Go.Proofs.Ytjoifodjbdbicaa.UD Go.Proofs.Ytjoifodjbdbicaa.UE Go.Proofs.Ytjoifodjbdbicaa.UG Go.Proofs.Ytjoifodjbdbicaa.UH Go.Proofs.Ytjoifodjbdbicaa.UI Go.Proofs.Ytjoifodjbdbicaa.UK Go.Proofs.Ytjoifodjbdbicaa.UQ Go.Proofs.Ytjoifodjbdbicaa.UR Go.Proofs.Ytjoifodjbdbicaa.UZ Go.Proofs.Ytjoifodjbdbicaa.PA Go.Proofs.Ytjoifodjbdbicaa.PB Go.Proofs.Ytjoifodjbdbicaa.PC Go.Proofs.Ytjoifodjbdbicaa.PD Go.Proofs.Ytjoifodjbdbicaa.PE Go.Proofs.Ytjoifodjbdbicaa.PF Go.Proofs.Ytjoifodjbdbicaa.PG Go.Proofs.Ytjoifodjbdbicaa.PJ Go.Proofs.Ytjoifodjbdbicaa.PK Go.Proofs.Ytjoifodjbdbicaa.PM Go.Proofs.Ytjoifodjbdbicaa.PN Go.Proofs.Ytjoifodjbdbicaa.PO Go.Proofs.Ytjoifodjbdbicaa.PP Go.Proofs.Ytjoifodjbdbicaa.PQ Go.Proofs.Ytjoifodjbdbicaa.PR Go.Proofs.Ytjoifodjbdbicaa.PU Go.Proofs.Ytjoifodjbdbicaa.PV Go.Proofs.Ytjoifodjbdbicaa.PW Go.Proofs.Ytjoifodjbdbicaa.PX Go.Proofs.Ytjoifodjbdbicaa.PZ
set_option linter.unusedVariables false
set_option maxRecDepth 100000
set_option maxRecDepth 100000

/-- Set's own: the box at A counts; the one at B holds the row. -/
def CS (A B : Nat) (v : Value) (ws : List Int) (l : List Int) (Φ : Nat → Prop) (w : World) : Prop := Bk w A #[.int .i64 (l.length : Int)] 3 ∧ Bk w B #[v] 37 ∧ RowI w v ws ∧ (ws ≠ [] → ∀ b, v.ownBlock = some b → ¬ b = A) ∧ A ≠ B ∧ ∀ b, Φ b ↔ (b = A ∨ b = B)
set_option maxHeartbeats 1600000 in
theorem next_c {A B : Nat} {v : Value} {ws l : List Int} {Φ : Nat → Prop} {w : World} (H : CS A B v ws l Φ w) (hl : l.length < ws.length) (hw : ws.length ≤ 20000000) (u : Int) :
    Calls Try.prog 51 (#[.int .i64 u] ++ #[.pointer (some ⟨A, 0, none⟩), .pointer (some ⟨B, 0, none⟩)]) w fun e w' => e = .returned (.int .i64 ((ws[l.length]?).getD 0)) ∧ OnS Φ w w' ∧ ∃ Φ', CS A B v ws (l ++ [u]) Φ' w' ∧ Gr w Φ Φ' := by
  obtain ⟨ha, hb, hr, hv, hab, hΦ⟩ := H
  have HALL := Lib.hid (And.intro ha (And.intro hb (And.intro hr (And.intro hv (And.intro hab hΦ)))))
  have h0 : ws ≠ [] := fun e => by rw [e] at hl; exact absurd hl (Nat.not_lt_zero _)
  obtain ⟨ao, cap, rfl, _, hc⟩ := row_has hr
  rcases hc with hc | ⟨g, off, rfl, hgl, hc⟩
  · exact absurd hc h0
  have hz := hc l.length hl
  have hga : g ≠ A := hv h0 g rfl
  have hag : A ≠ g := Ne.symm hga
  obtain ⟨k, hk⟩ : ∃ k, Hid (l.length = k) := ⟨_, Lib.hid rfl⟩
  obtain ⟨n, hn⟩ : ∃ n, Hid (ws.length = n) := ⟨_, Lib.hid rfl⟩
  have hz0 : (ws[l.length]?).getD 0 = ws[l.length] := by rw [List.getElem?_eq_getElem hl]; rfl
  rw [hz0]
  obtain ⟨z, hzz⟩ : ∃ z, ws[l.length] = z := ⟨_, rfl⟩
  rw [hzz] at hz ⊢
  rw [hk.out] at hz
  have c0 : w.cell? ⟨A, 0, none⟩ = some (.int .i64 (k : Int)) := by have h9 := ha.cell 0 _ rfl; rwa [hk.out] at h9
  have c1 : w.cell? ⟨B, 0, none⟩ = some (.slice (some ⟨g, off, none⟩) n cap) := by have h9 := hb.cell 0 _ rfl; rwa [hn.out] at h9
  have al := ha.lt
  have af := ha.free 0
  have k0 : (0 : Int) ≤ (k : Int) := by omega
  have k1 : (k : Int) < (n : Int) := by rw [hk.out, hn.out] at hl; omega
  have k2 : (n : Int) ≤ 20000000 := by rw [hn.out] at hw; omega
  clear ha hb hr hv hΦ hl hw hc hz0 hzz h0
  go_enter Try.func51, Try.ntmps51
  go_wp2_with fail
  go_ret
  obtain ⟨ha, hb, hr, hv, hab, hΦ⟩ := HALL.out
  refine ⟨rfl, (OnS.cell A 0 _).weak fun c _ h => (hΦ c).2 (.inl h), Φ, ⟨?_, hb.other (Ne.symm hab) _ _, row_onS hr (OnS.cell A 0 _) (fun b e h => ?_), hv, hab, hΦ⟩, Gr.refl _ _⟩
  · have h9 := ha.set 0 (.int .i64 ((k : Int) + 1))
    rw [List.length_append, hk.out]
    exact h9
  · injection e with e
    exact hga (e.trans h)
theorem cl_next (F : Nat → Prop) (A B : Nat) (v : Value) (ws : List Int) (hw : ws.length ≤ 20000000) (hF : ∀ b, v.ownBlock = some b → ¬ F b) : CL F 51 #[.pointer (some ⟨A, 0, none⟩), .pointer (some ⟨B, 0, none⟩)] (fun l _ => (ws[l.length]?).getD 0) ws.length (CS A B v ws) where
  low := fun {l Φ w} h b hb => by
    obtain ⟨h1, h2, _, _, _, hΦ⟩ := h
    rcases (hΦ b).1 hb with rfl | rfl
    · exact h1.lt
    · exact h2.lt
  on := fun {l Φ w w' S} h ho hn hS => by
    obtain ⟨h1, h2, h3, h4, h5, hΦ⟩ := h
    exact ⟨ho.bk h1 (hn A ((hΦ A).2 (.inl rfl))), ho.bk h2 (hn B ((hΦ B).2 (.inr rfl))), row_onS h3 ho (fun b e h => hF b e (hS b h)), h4, h5, hΦ⟩
  call := fun {l Φ w} h hl v => next_c h hl hw v
theorem ans_next (ws : List Int) : ∀ (l pre : List Int), pre.length + l.length ≤ ws.length → ans (fun l _ => (ws[l.length]?).getD 0) pre l = (ws.drop pre.length).take l.length
  | [], _, _ => rfl
  | v :: l, pre, h => by
    rw [List.length_cons] at h
    have hp : pre.length < ws.length := by omega
    show (ws[pre.length]?).getD 0 :: ans _ (pre ++ [v]) l = _
    rw [ans_next ws l (pre ++ [v]) (by rw [List.length_append, List.length_singleton]; omega), List.getElem?_eq_getElem hp, List.drop_eq_getElem_cons hp, List.length_append, List.length_singleton]
    rfl
section
variable {F : Nat → Prop} {p : Nat} {E : Eg} {vv : Value} {tv : Nat → Option Nat} {G : Nat → Nat → Prop}
set_option maxHeartbeats 1600000 in
theorem set_c (w : World) (H : EI w F p E vv tv G) (h8 : E.T.length = 8) (hV : E.V.length ≤ 4000) (HQ : ∀ (i : Nat) (x : Tx), E.T[i]? = some x → x.is = true → TQ E i x) (hp : ∀ x, x ∈ E.T → x.is = true → 1 ≤ x.parts ∧ x.parts ≤ 1000000) (h0 : ∀ x, x ∈ E.T → ∀ p, p ∈ x.puts → 0 ≤ p.n) (hP : Pv E) (hN : (adE E).length ≤ 20000000) (v : Value) (ws : List Int) (hr : RowI w v ws) (hv : ∀ b, v.ownBlock = some b → ¬ F b) (hw : ws.length ≤ 20000000) :
    Calls Try.prog 19 #[.pointer (some ⟨p, 0, none⟩), v] w fun e w' => e = .returned (.tuple #[]) ∧ OnS F w w' ∧ ∃ E', EI w' F p E' vv tv G ∧ Pv E' ∧ SetR E ws E' := by
  have hwl : (adE E).length = (wordsR E).length := by rw [← adE_val hP.un, List.length_map]
  obtain ⟨W1, hW1⟩ : ∃ W1, w.alloc (.cells #[v] 37) = W1 := ⟨_, rfl⟩
  have hb1 : Below w.heap.size w W1 := hW1 ▸ balloc w _
  have hz1 : W1.heap.size = w.heap.size + 1 := hW1 ▸ World.size_alloc _ _
  have hk1 : Bk W1 w.heap.size #[v] 37 := hW1 ▸ Bk.new w _ _
  have HWD := Lib.hid (words_c W1.drew ((H.keep hb1).keep (bdr W1)) h8 hV HQ hp h0 hP hN)
  have HALL := Lib.hid (And.intro H (And.intro h8 (And.intro hV (And.intro HQ (And.intro hp (And.intro h0 (And.intro hP hN)))))))
  have HWL := Lib.hid hwl
  have HR := Lib.hid hr
  have HVF := Lib.hid hv
  have HWS := Lib.hid hw
  have HB1 := Lib.hid hb1
  have HZ1 := Lib.hid hz1
  have HK1 := Lib.hid hk1
  obtain ⟨ao, cap, rfl, _, hc⟩ := row_has hr
  have HC := Lib.hid hc
  obtain ⟨n, hn⟩ : ∃ n, Hid (ws.length = n) := ⟨_, Lib.hid rfl⟩
  have c1 : W1.cell? ⟨w.heap.size, 0, none⟩ = some (.slice ao n cap) := by have h9 := hk1.cell 0 _ rfl; rwa [hn.out] at h9
  rw [hn.out] at hW1 ⊢
  obtain ⟨n2, hn2⟩ : ∃ n, Hid ((wordsR E).length = n) := ⟨_, Lib.hid rfl⟩
  have c1w : ∀ w2, Below W1.drew.heap.size W1.drew w2 → w2.cell? ⟨w.heap.size, 0, none⟩ = some (.slice ao n cap) := fun w2 h => (h.cell (p := ⟨w.heap.size, 0, none⟩) (by show w.heap.size < W1.heap.size; omega)).trans c1
  have HCW := Lib.hid c1w
  clear H h8 hV HQ hp h0 hP hN hb1 hz1 hk1 hwl hr hv hw c1w hc
  by_cases he : n = n2
  · subst he
    have HE := Lib.hid (fun w2 (h2 : Below w.heap.size w w2) (hB : Bk w2 w.heap.size #[.slice ao n cap] 37) (W : World) (hW : w2.alloc (.cells #[.int .i64 0] 3) = W) => by
      obtain ⟨H, h8, hV, HQ, hp, h0, hP, hN⟩ := HALL.out
      have hk := Bk.new w2 #[.int .i64 0] 3
      have hon : OnS (fun c => c = w2.heap.size) w2 W := hW ▸ OnS.of (balloc w2 _)
      have hbW : Below w.heap.size w W := h2.trans (hon.below h2.size (fun b e => by have := h2.size; omega))
      have hcs : CS w2.heap.size w.heap.size (.slice ao n cap) ws [] (fun b => b = w2.heap.size ∨ b = w.heap.size) W := ⟨hW ▸ hk, hon.bk hB (fun e => by have := hB.lt; omega), by
        have h9 := HR.out
        rw [hn.out] at h9
        exact row_onS h9 (OnS.of hbW) (S := fun _ => False) (fun _ _ h => h), fun h9 b hb e => by
        rcases HC.out with h | ⟨g, off, rfl, hg, _⟩
        · exact h9 h
        · injection hb with hb
          have := h2.size
          have hb : g = b := hb
          omega, fun e => by have := hB.lt; omega, fun b => Iff.rfl⟩
      have hcl := cl_next F w2.heap.size w.heap.size (.slice ao n cap) ws HWS.out (by have h9 := HVF.out; rw [hn.out] at h9; exact h9)
      have hlen : ws.length = (adE E).length := by rw [HWL.out, hn.out, hn2.out]
      rw [hlen] at hcl
      exact PY2.each_c W (H.keep hbW) h8 hV HQ hp h0 rfl hcl hcs (fun b hb e => by have := H.lt b hb; have := h2.size; rcases e with e | e <;> omega))
    go_enter Try.func19, Try.ntmps19
    go_wp2_with fail
    go_region_law (first | (go_simp; refine HWD.out.mono ?_; rintro e w2 ⟨x, rfl, hx, _, hb2⟩; have cw := HCW.out w2 hb2; have HB2 := Lib.hid hb2; obtain ⟨ao2, cap2, rfl, _, _⟩ := row_has hx; rw [hn2.out]; clear hx hb2))
    all_goals
      go_wp2_with (go_at_call 49; go_loud (refine (HE.out w2 (HB1.out.trans (((bdr W1).trans HB2.out).mono (by have := HZ1.out; omega))) (by have h9 := (HK1.out.keep (bdr W1)).keep HB2.out; rwa [hn.out] at h9) _ rfl).mono ?_); rintro e w4 ⟨rfl, Ec, done, Φ, hy⟩; have HY := Lib.hid hy; clear hy)
      go_end0
      obtain ⟨H, h8, hV, HQ, hp, h0, hP, hN⟩ := HALL.out
      have hy := HY.out
      have hpc : Pv Ec := pv_sm hy.way.sm hP h0
      have hend := hy.way.end_ hP.un h0 hpc.un
      have hws : wordsR Ec = ws := by
        rw [hend.1, ans_next ws (wordsR E) [] (by rw [hn.out, hn2.out]; exact Nat.le_of_eq (Nat.zero_add _)), hn2.out, ← hn.out]
        exact List.take_length
      have hb : Below w.heap.size w w2 := HB1.out.trans (((bdr W1).trans HB2.out).mono (by have := HZ1.out; omega))
      have hsz := hb.size
      refine ⟨rfl, ?_, Ec, hy.ei, hpc, ?_⟩
      · exact (OnS.of (hb.trans ((balloc w2 (.cells #[.int .i64 0] 3)).mono hsz))).next hy.on fun x hx => by
          rcases hx with h | h | h
          · exact .inl h
          · exact .inr (by omega)
          · exact .inr (by omega)
      · unfold SetR
        rw [if_pos (by rw [hn.out, hn2.out])]
        refine ⟨hws, ?_, fun m hm => wg_sm hy.way.sm hm⟩
        rw [← hws, ← hy.way.sm.vl]
        exact (List.take_left' (List.length_map _)).symm
  · have hb0 : ((n : Int) != (n2 : Int)) = true := by rw [bne_iff_ne]; omega
    go_enter Try.func19, Try.ntmps19
    go_wp2_with fail
    go_region_law (first | (go_simp; refine HWD.out.mono ?_; rintro e w2 ⟨x, rfl, hx, _, hb2⟩; have cw := HCW.out w2 hb2; have HB2 := Lib.hid hb2; obtain ⟨ao2, cap2, rfl, _, _⟩ := row_has hx; rw [hn2.out]; clear hx hb2))
    all_goals
      go_wp2_with fail
      refine bodyPost_ret (results_none rfl _ _ _) rfl ?_
      obtain ⟨H, h8, hV, HQ, hp, h0, hP, hN⟩ := HALL.out
      have hb : Below w.heap.size w w2 := HB1.out.trans (((bdr W1).trans HB2.out).mono (by have := HZ1.out; omega))
      refine ⟨rfl, OnS.of hb, E, H.keep hb, hP, ?_⟩
      unfold SetR
      rw [if_neg (by rw [hn.out, hn2.out]; exact he)]
end
end Go.Proofs.Ytjoifodjbdbicaa.QA
