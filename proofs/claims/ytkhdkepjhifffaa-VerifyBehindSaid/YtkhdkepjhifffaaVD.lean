/- The program's states: what is begun, what is over, what is the last. -/
import Derived.Test.YtkhdkepjhifffaaVC
import Derived.IntWalk
namespace Go.Proofs.Ytkhdkepjhifffaa.VD
open Go.RowKit Go.Proofs.Ytkhdkepjhifffaa.RG Go.Proofs.Ytkhdkepjhifffaa.RB Go.Proofs.Ytkhdkepjhifffaa.KA Go.Proofs.Ytkhdkepjhifffaa.KB Go.Proofs.Ytkhdkepjhifffaa.VA Go.Proofs.Ytkhdkepjhifffaa.VB Go.Proofs.Ytkhdkepjhifffaa.VC
set_option linter.unusedVariables false
set_option maxRecDepth 100000
set_option maxRecDepth 100000

theorem clip_c (ao : Option Addr) (n cap : Nat) (w : World) (hn : n ≤ cap) :
    Calls Try.prog 82 #[.slice ao n cap] w fun e w' => e = .returned (.slice ao n n) ∧ w = w' := by
  have i0 : (0 : Int) ≤ (n : Int) := by omega
  have i1 : (n : Int) ≤ (cap : Int) := by omega
  cases ao with
  | none =>
    go_enter Try.func82, Try.ntmps82
    go_wp2_with fail
    go_ret
    exact ⟨rfl, rfl⟩
  | some a =>
    go_enter Try.func82, Try.ntmps82
    go_wp2_with fail
    go_ret
    exact ⟨rfl, rfl⟩
/-- A row of marks, cut shorter. -/
theorem _root_.Go.Proofs.Ytkhdkepjhifffaa.VB.RowM.short {R : Ty Try.prog Mk} {w : World} {S : Nat → Prop} {a : Addr} {n cap m : Nat} {ms : List Mk} (h : RowM R w S (.slice (some a) n cap) ms) (hm : m ≤ ms.length) : RowM R w S (.slice (some a) m cap) (ms.take m) := by
  obtain ⟨q, qs2, h1, ⟨ao, cap', hv, hc, hr⟩, h3⟩ := h
  cases h1
  cases hv
  refine ⟨_, qs2.take m, rfl, ⟨some a, cap, by rw [List.length_take, Nat.min_eq_left hm], by rw [List.length_take]; omega, ?_⟩, Hs_take m h3⟩
  rcases hr with hr | ⟨b, off, hb, hS, hcell⟩
  · exact .inl (by rw [List.length_take, hr]; omega)
  · refine .inr ⟨b, off, hb, hS, fun j u hj => hcell j u ?_⟩
    rw [rowOf_take _ _ _ (Hs_len h3), List.getElem?_take] at hj
    split at hj
    · exact hj
    · cases hj
set_option maxHeartbeats 4000000 in
theorem without_c (s : Sx) (mv : Value) (w : World) (S : Nat → Prop) (h : RowM TM w S mv s.ms) (h0 : s.ms ≠ []) (hl : s.ms.length ≤ 1000000) :
    Calls Try.prog 80 #[.agg #[.int .i64 s.dep, mv]] w fun e w' => ∃ mv', e = .returned (.agg #[.int .i64 s.dep, mv']) ∧ RowM TM w' S mv' s.ms.dropLast ∧ Below w.heap.size w w' := by
  obtain ⟨M, hM⟩ : ∃ M, s.ms.length = M + 1 := ⟨s.ms.length - 1, by have := List.length_pos_iff.2 h0; omega⟩
  obtain ⟨b, off, cap, rfl, hc, hb, _⟩ := h.at h0
  have HS := Lib.hid (h.short (m := M) (by omega))
  have hdl : s.ms.take M = s.ms.dropLast := by rw [List.dropLast_eq_take, hM]; rfl
  rw [hdl] at HS
  rw [hM] at hc hl ⊢
  have i0 : (0 : Int) ≤ (M : Int) := by omega
  have i1 : (M : Int) ≤ (M : Int) + 1 := by omega
  have i2 : (M : Int) ≤ (cap : Int) := by omega
  have K1 := Lib.hid ((Bk.new w #[.int .i64 s.dep, .slice (some ⟨b, off, none⟩) (M + 1) cap] 72).alloc (.cells #[.int .i64 0, .slice none 0 0] 72))
  have K2 := Lib.hid (Bk.new (w.alloc (.cells #[.int .i64 s.dep, .slice (some ⟨b, off, none⟩) (M + 1) cap] 72)) #[.int .i64 0, .slice none 0 0] 72)
  have HX := Lib.hid (bnext (balloc w (.cells #[.int .i64 s.dep, .slice (some ⟨b, off, none⟩) (M + 1) cap] 72)) (balloc _ (.cells #[.int .i64 0, .slice none 0 0] 72)))
  have hwm : IntKind.i64.wrap (M : Int) = (M : Int) := IntWalk.i64_in _ (by omega)
  clear h h0 hdl hM
  go_enter Try.func80, Try.ntmps80
  go_wp2_with fail
  go_region
  go_wp2_with fail
  have K3 := Bk.drew (Bk.new (w.alloc (.cells #[.int .i64 s.dep, .slice (some ⟨b, off, none⟩) (M + 1) cap] 72)) #[.int .i64 s.dep, .slice (some ⟨b, off, none⟩) M cap] 72)
  have HX3 := below_dN (bnext (balloc w (.cells #[.int .i64 s.dep, .slice (some ⟨b, off, none⟩) (M + 1) cap] 72)) (balloc _ (.cells #[.int .i64 s.dep, .slice (some ⟨b, off, none⟩) M cap] 72))) 1
  have c0 := K3.cell 0 _ rfl
  have c1 := K3.cell 1 _ rfl
  rw [World.size_alloc] at c0 c1
  exact bodyPost_ret (v := .agg #[.int .i64 s.dep, .slice (some ⟨b, off, none⟩) M cap]) (by simp [results, Try.results80, go_sem, c0, c1]) rfl ⟨_, rfl, HS.out.mv (Mv.low HX3), HX3⟩
set_option maxHeartbeats 4000000 in
theorem with_c (s : Sx) (k : Int) (mv : Value) (w : World) (S : Nat → Prop) (h : RowM TM w S mv s.ms) (hl : s.ms.length ≤ 1000000) :
    Calls Try.prog 77 #[.agg #[.int .i64 s.dep, mv], .int .i64 k] w fun e w' => ∃ mv', e = .returned (.agg #[.int .i64 s.dep, mv']) ∧ RowM TM w' (fun b => w.heap.size ≤ b) mv' (s.ms ++ [⟨k, s.dep⟩]) ∧ Below w.heap.size w w' := by
  obtain ⟨ao, cap, rfl, hc⟩ := h.val
  have HROW := Lib.hid h.row
  obtain ⟨N, hN⟩ : ∃ N, Hid (s.ms.length = N) := ⟨_, Lib.hid rfl⟩
  obtain ⟨D, hD⟩ : ∃ D, Hid (s.dep = D) := ⟨_, Lib.hid rfl⟩
  obtain ⟨ms, hms⟩ : ∃ ms, Hid (s.ms = ms) := ⟨_, Lib.hid rfl⟩
  rw [hms.out] at HROW hN hl hc ⊢
  rw [hN.out] at hc hl HROW ⊢
  rw [hD.out]
  have K1 := Lib.hid ((Bk.new w #[.int .i64 D, .slice ao N cap] 72).alloc (.cells #[.int .i64 0, .slice none 0 0] 72))
  have K2 := Lib.hid (Bk.new (w.alloc (.cells #[.int .i64 D, .slice ao N cap] 72)) #[.int .i64 0, .slice none 0 0] 72)
  have HX := Lib.hid (bnext (balloc w (.cells #[.int .i64 D, .slice ao N cap] 72)) (balloc _ (.cells #[.int .i64 0, .slice none 0 0] 72)))
  clear h
  go_enter Try.func77, Try.ntmps77
  go_wp2_with fail
  have hws : ((w.alloc (.cells #[.int .i64 D, .slice ao N cap] 72)).alloc (.cells #[.int .i64 0, .slice none 0 0] 72)).heap.size = w.heap.size + 2 := by simp
  rw [World.size_alloc] at K2
  generalize World.alloc (World.alloc w _) _ = W at K1 K2 HX hws ⊢
  have x0 := K1.out.cell 0 _ rfl
  have x1 := K1.out.cell 1 _ rfl
  have x0a := (K1.out.alloc (.cells #[.int .i64 k, .int .i64 D] 113)).cell 0 _ rfl
  have x1a := (K1.out.alloc (.cells #[.int .i64 k, .int .i64 D] 113)).cell 1 _ rfl
  have HWS := Lib.hid hws
  have HRA := Lib.hid (show RowR TM (W.drew.alloc (.cells #[.int .i64 k, .int .i64 D] 113)) S (.slice ao N N) ms from by
    obtain ⟨qs, ⟨ao', cap', hv, hc', hr⟩, hq⟩ := (HROW.out.keep HX.out).keep ((bdr W).trans ((balloc W.drew (.cells #[.int .i64 k, .int .i64 D] 113)).mono (Nat.le_refl _)))
    cases hv
    exact ⟨qs, ⟨_, _, by rw [hN.out], Nat.le_of_eq hN.out, hr⟩, hq⟩)
  have HRB := Lib.hid (show RowR TM (W.drew.alloc (.cells #[.int .i64 k, .int .i64 D] 113)) (fun _ => True) (.slice (some ⟨W.heap.size, 0, none⟩) 1 1) [⟨k, D⟩] from rowR_new (q := []) #[.int .i64 k, .int .i64 D] 113 rfl rfl)
  have HLN := Lib.hid (show ms.length + [(⟨k, D⟩ : Mk)].length ≤ 100000000000 by have := hN.out; simp; omega)
  have HKA := Lib.hid ((K2.out.drew).alloc (.cells #[.int .i64 k, .int .i64 D] 113))
  have HXA := Lib.hid (bnext HX.out ((bdr W).trans (balloc W.drew (.cells #[.int .i64 k, .int .i64 D] 113))))
  clear hws hl
  have HKB := Lib.hid ((K1.out.drew).alloc (.cells #[.int .i64 k, .int .i64 D] 113))
  go_region_held3 (fun w' => w'.cell? ⟨w.heap.size, 0, none⟩ = some (.int .i64 D) ∧ w'.cell? ⟨w.heap.size, 1, none⟩ = some (.slice ao N cap)) (first | with_reducible exact ⟨HK8.out.cell 0 _ rfl, HK8.out.cell 1 _ rfl⟩ | go_keep) (first
    | (refine step_full TM (fun _ _ _ _ _ _ h => h) (W.drew.alloc (.cells #[.int .i64 k, .int .i64 D] 113)) rfl (.tmp 9) (.tmp 14) rfl ao N (.slice (some ⟨W.heap.size, 0, none⟩) 1 1) ms [⟨k, D⟩] (by rfl) (by rfl) HRA.out HRB.out (by simp) HLN.out ?_; intro ao9 n9 cap9 w9 hO9 hn9 hg9; clear hn9; have HO9 := Lib.hid hO9; have HK9 := Lib.hid (HKA.out.grown hg9 (fun e => by cases e)); have HK8 := Lib.hid (HKB.out.grown hg9 (fun e => by cases e)); have HX9 := Lib.hid (bnext HXA.out (bgrown hg9 (fun b e => by cases e) (Nat.le_refl _))); have f0 := HK9.out.free 0; have f1 := HK9.out.free 1; have r0 := HK9.out.cell 0 _ rfl; have r1 := HK9.out.cell 1 _ rfl; have l9 := HK9.out.lt; clear hO9 hg9)
    | (go_simp; go_at_call 82; refine (clip_c ao N cap _ hc).mono ?_; rintro e w3 ⟨rfl, rfl⟩))
  all_goals
    go_wp2_with fail
    have K9 := (HK9.out.set 0 (.int .i64 D)).set 1 (.slice ao9 n9 cap9)
    have c0 := K9.cell 0 _ rfl
    have c1 := K9.cell 1 _ rfl
    have HM9 := RowM.own HO9.out (fun b h => h.elim)
    refine bodyPost_ret (v := .agg #[.int .i64 D, .slice ao9 n9 cap9]) (by simp [results, Try.results77, go_sem, c0, c1]) rfl ⟨_, rfl, HM9.mv ⟨by simp, fun b hb _ => ?_⟩, (HX9.out.setCell (p := ⟨w.heap.size + 1, 0, none⟩) (Nat.le_succ _) _).setCell (p := ⟨w.heap.size + 1, 1, none⟩) (Nat.le_succ _) _⟩
    have hb : W.heap.size + 1 ≤ b := by simpa using hb
    have := HWS.out
    exact ⟨by omega, (Below.heap_setCell _ _ _ _ (show b ≠ w.heap.size + 1 by omega)).trans (Below.heap_setCell _ _ _ _ (show b ≠ w.heap.size + 1 by omega))⟩
/-- Whether there is a mark of a kind. -/
def IdxRes (b : Bool) (w : World) (e : Ending) (w' : World) : Prop := (∃ r : Int, e = .returned (.int .i64 r) ∧ (0 ≤ r ↔ b = true)) ∧ Below w.heap.size w w'
theorem kind_c (m : Mk) (k : Int) (z : Nat) (w : World) (hz : Bk w z #[.int .i64 k] 3) :
    Calls Try.prog 84 #[.agg #[.int .i64 m.kind, .int .i64 m.dep], .pointer (some ⟨z, 0, none⟩)] w fun e w' => e = .returned (.bool (m.kind == k)) ∧ Below w.heap.size w w' := by
  have HX := Lib.hid (balloc w (.cells #[.int .i64 m.kind, .int .i64 m.dep] 113))
  have z0 := (hz.alloc (.cells #[.int .i64 m.kind, .int .i64 m.dep] 113)).cell 0 _ rfl
  have z1 := hz.lt
  clear hz
  go_enter Try.func84, Try.ntmps84
  go_wp2_with fail
  go_ret
  exact ⟨rfl, HX.out⟩
theorem any_take {ms : List Mk} {k : Int} {i : Nat} {m : Mk} (h : ms[i]? = some m) (hb : (m.kind == k) = false) (ht : (ms.take i).any (fun m => m.kind == k) = false) : (ms.take (i + 1)).any (fun m => m.kind == k) = false := by
  rw [List.take_add_one, h, List.any_append, ht]
  simpa using hb
set_option maxHeartbeats 4000000 in
theorem index_c (ms : List Mk) (k : Int) (mv : Value) (z : Nat) (w : World) (S : Nat → Prop) (h : RowM TM w S mv ms) (hl : ms.length ≤ 1000000) (hz : Bk w z #[.int .i64 k] 3) :
    Calls Try.prog 85 #[mv, .func (.func 84) #[] #[.pointer (some ⟨z, 0, none⟩)]] w (IdxRes (ms.any (fun m => m.kind == k)) w) := by
  obtain ⟨R, HR⟩ : ∃ R, Hid (ms.any (fun m => m.kind == k) = R) := ⟨_, Lib.hid rfl⟩
  rw [HR.out]
  obtain ⟨a1, c1, e1, _⟩ := h.val
  have H1 := Lib.hid h.row
  obtain ⟨N, hN⟩ : ∃ N, Hid (ms.length = N) := ⟨_, Lib.hid rfl⟩
  rw [hN.out] at e1 hl
  subst e1
  have HZ := Lib.hid hz
  clear h hz
  go_enter Try.func85, Try.ntmps85
  go_wp2_with fail
  go_loopg [5, 8] N (fun g sv jv wr => ∃ i : Nat, i + g = N ∧ jv = .int .i64 (i : Int) ∧ Hid (Below w.heap.size w wr) ∧ Hid ((ms.take i).any (fun m => m.kind == k) = false))
  case atStart => exact ⟨0, Nat.zero_add _, rfl, Lib.hid (Below.refl _ _), Lib.hid rfl⟩
  case round =>
    obtain ⟨i, hi, rfl, HX, HE⟩ := hrel
    by_cases hlt : i < N
    · obtain ⟨g, rfl⟩ : ∃ g, gk = g + 1 := ⟨gk - 1, by omega⟩
      have hn1 : ms ≠ [] := by intro e; have := hN.out; rw [e] at this; simp at this; omega
      obtain ⟨b, off, cap, hv, _, hb, hcell⟩ := H1.out.open_ hn1
      rw [hN.out] at hv
      cases hv
      obtain ⟨m, hm⟩ := getElem?_of_lt (l := ms) (k := i) (by rw [hN.out]; exact hlt)
      obtain ⟨q, hL, _⟩ := hcell i m hm
      have hM := hL.keep HX.out hb
      have HMM := Lib.hid hm
      have x0 : wr.cell? ⟨b, off + i * 2, none⟩ = some (.int .i64 m.kind) := hM 0 _ rfl
      have x1 : wr.cell? ⟨b, off + i * 2 + 1, none⟩ = some (.int .i64 m.dep) := hM 1 _ rfl
      have i0 : (0 : Int) ≤ (i : Int) := by omega
      have i1 : (i : Int) < (N : Int) := by omega
      have HK := Lib.hid (kind_c m k z wr (HZ.out.keep HX.out))
      clear hcell hL hM hm hn1
      cases hk : (m.kind == k)
      · have HEN := Lib.hid (any_take HMM.out hk HE.out)
        rw [hk] at HK
        clear hk
        go_wp2_with (go_at_call 84; refine HK.out.mono ?_; rintro e w3 ⟨rfl, hb3⟩; have HX3 := Lib.hid (bnext HX.out hb3); clear hb3)
        go_roundg g
        case rel => exact ⟨i + 1, by omega, by go_num, HX3, HEN⟩
        case measure => omega
      · have HRR := Lib.hid (show R = true from by
          rw [← HR.out, List.any_eq_true]
          exact ⟨m, List.mem_of_getElem? HMM.out, hk⟩)
        rw [hk] at HK
        clear hk
        go_wp2_with (go_at_call 84; refine HK.out.mono ?_; rintro e w3 ⟨rfl, hb3⟩; have HX3 := Lib.hid (bnext HX.out hb3); clear hb3)
        go_ret
        exact ⟨⟨_, rfl, by rw [HRR.out]; simp⟩, HX3.out⟩
    · have HRR := Lib.hid (show R = false from by
        have := HE.out
        rw [List.take_of_length_le (by have := hN.out; omega)] at this
        rw [← HR.out, this])
      go_wp2_with fail
      go_ret
      exact ⟨⟨_, rfl, by rw [HRR.out]; decide⟩, HX.out⟩
set_option maxHeartbeats 4000000 in
theorem has_c (s : Sx) (k : Int) (mv : Value) (w : World) (S : Nat → Prop) (h : RowM TM w S mv s.ms) (hl : s.ms.length ≤ 1000000) :
    Calls Try.prog 78 #[.agg #[.int .i64 s.dep, mv], .int .i64 k] w fun e w' => e = .returned (.bool (s.ms.any (fun m => m.kind == k))) ∧ Below w.heap.size w w' := by
  have HI := Lib.hid (fun w' z (hb : Below w.heap.size w w') hz => index_c s.ms k mv z w' S (h.mv (Mv.low hb)) hl hz)
  obtain ⟨R, hR⟩ : ∃ R, Hid (s.ms.any (fun m => m.kind == k) = R) := ⟨_, Lib.hid rfl⟩
  rw [hR.out] at HI ⊢
  obtain ⟨a1, c1, e1, _⟩ := h.val
  obtain ⟨N, hN⟩ : ∃ N, s.ms.length = N := ⟨_, rfl⟩
  rw [hN] at e1
  subst e1
  have HX := Lib.hid (bnext (balloc w (.cells #[.int .i64 s.dep, .slice a1 N c1] 72)) (balloc _ (.cells #[.int .i64 k] 3)))
  have HZ := Lib.hid (Bk.new (w.alloc (.cells #[.int .i64 s.dep, .slice a1 N c1] 72)) #[.int .i64 k] 3)
  rw [World.size_alloc] at HZ
  clear h hl hN
  have HC : Hid (∀ w', Below w.heap.size w w' → Bk w' (w.heap.size + 1) #[.int .i64 k] 3 → Calls Try.prog 83 #[.slice a1 N c1, .func (.func 84) #[] #[.pointer (some ⟨w.heap.size + 1, 0, none⟩)]] w' fun e w'' => e = .returned (.bool R) ∧ Below w'.heap.size w' w'') := by
    refine Lib.hid fun w' hb hz => ?_
    have HI' := Lib.hid (HI.out w' _ hb hz)
    clear hb hz
    go_enter Try.func83, Try.ntmps83
    go_wp2_with fail
    refine HI'.out.mono ?_
    rintro e w3 ⟨⟨r, rfl, hr⟩, hb3⟩
    have HRR := Lib.hid hr
    have HB3 := Lib.hid hb3
    clear hr hb3
    go_wp2_with fail
    go_ret
    refine ⟨ret_bool ?_, HB3.out⟩
    rw [Bool.eq_iff_iff, decide_eq_true_iff]
    exact HRR.out
  go_enter Try.func78, Try.ntmps78
  go_wp2_with (go_at_call 83; refine (HC.out _ HX.out HZ.out).mono ?_; rintro e w3 ⟨rfl, hb3⟩; have HX3 := Lib.hid (bnext HX.out hb3); clear hb3)
  go_ret
  exact ⟨rfl, HX3.out⟩
theorem lastK_nil {k : Int} {s : Sx} (h : s.ms = []) : lastK k s = false := by unfold lastK; rw [h]; rfl
theorem lastK_at {k : Int} {s : Sx} {m : Mk} (h : s.ms.getLast? = some m) : lastK k s = (m.kind == k) := by unfold lastK; rw [h]; simp [Bool.beq_eq_decide_eq]
set_option maxHeartbeats 4000000 in
theorem last_c (s : Sx) (k : Int) (mv : Value) (w : World) (S : Nat → Prop) (h : RowM TM w S mv s.ms) (hl : s.ms.length ≤ 1000000) :
    Calls Try.prog 79 #[.agg #[.int .i64 s.dep, mv], .int .i64 k] w fun e w' => e = .returned (.bool (lastK k s)) ∧ Below w.heap.size w w' := by
  obtain ⟨R, HR⟩ : ∃ R, Hid (lastK k s = R) := ⟨_, Lib.hid rfl⟩
  rw [HR.out]
  by_cases h0 : s.ms = []
  · have hR := Lib.hid ((lastK_nil h0).symm.trans HR.out)
    rw [h0] at h
    obtain ⟨ao, cap, rfl, hc⟩ := h.val
    have HX := Lib.hid (balloc w (.cells #[.int .i64 s.dep, .slice ao 0 cap] 72))
    have hhl : ([] : List Mk).length = 0 := rfl
    clear h hc hl h0 HR
    go_enter Try.func79, Try.ntmps79
    go_wp2_with fail
    go_ret
    exact ⟨ret_bool hR.out, HX.out⟩
  · obtain ⟨M, hM⟩ : ∃ M, s.ms.length = M + 1 := ⟨s.ms.length - 1, by have := List.length_pos_iff.2 h0; omega⟩
    obtain ⟨m, hm, hlast⟩ := last_at hM
    obtain ⟨b, off, cap, rfl, hc, hb, hcell⟩ := h.at h0
    obtain ⟨q, hL⟩ := hcell M m hm
    rw [hM] at hc hl ⊢
    have hR := Lib.hid ((lastK_at hlast).symm.trans HR.out)
    have HX := Lib.hid (balloc w (.cells #[.int .i64 s.dep, .slice (some ⟨b, off, none⟩) (M + 1) cap] 72))
    have x1 : (w.alloc (.cells #[.int .i64 s.dep, .slice (some ⟨b, off, none⟩) (M + 1) cap] 72)).cell? ⟨b, off + M * 2, none⟩ = some (.int .i64 m.kind) := (HX.out.cell (p := ⟨b, off + M * 2, none⟩) hb).trans (hL 0 _ rfl)
    obtain ⟨D, hD⟩ : ∃ D, Hid (m.kind = D) := ⟨_, Lib.hid rfl⟩
    rw [hD.out] at x1 hR
    have i0 : (0 : Int) ≤ (M : Int) := by omega
    have i1 : (M : Int) < (M : Int) + 1 := by omega
    have i2 : (M : Int) + 1 > 0 := by omega
    clear h h0 hm hlast hcell hL HR hM
    go_enter Try.func79, Try.ntmps79
    go_wp2_with fail
    go_ret
    exact ⟨ret_bool hR.out, HX.out⟩
end Go.Proofs.Ytkhdkepjhifffaa.VD
