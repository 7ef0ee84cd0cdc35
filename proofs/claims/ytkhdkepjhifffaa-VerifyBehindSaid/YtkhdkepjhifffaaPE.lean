/- A code's bytes, by the program: the walk. -/
import Derived.Test.YtkhdkepjhifffaaKF
import Derived.Test.YtkhdkepjhifffaaPC
import Derived.Test.YtkhdkepjhifffaaPF
import Derived.Lib.SlBytesConst
import Derived.Deep.DrawnRows
import Derived.Deep.RegionHeld3
namespace Go.Proofs.Ytkhdkepjhifffaa.PE
open Go.RowKit Go.Proofs.Ytkhdkepjhifffaa.RG Go.Proofs.Ytkhdkepjhifffaa.KA Go.Proofs.Ytkhdkepjhifffaa.KB Go.Proofs.Ytkhdkepjhifffaa.KC Go.Proofs.Ytkhdkepjhifffaa.KD Go.Proofs.Ytkhdkepjhifffaa.KF Go.Proofs.Ytkhdkepjhifffaa.PA Go.Proofs.Ytkhdkepjhifffaa.PB Go.Proofs.Ytkhdkepjhifffaa.PC Go.Proofs.Ytkhdkepjhifffaa.PD Go.Proofs.Ytkhdkepjhifffaa.PF
set_option linter.unusedVariables false
set_option maxRecDepth 100000
set_option maxRecDepth 100000

theorem rowI (l : List Int) : rowOf TI l (l.map fun _ => []) = l.map fun n => Value.int .i64 n := by
  induction l with
  | nil => rfl
  | cons a l ih => show TI.enc a [] ++ rowOf TI l (l.map fun _ => []) = _; rw [ih]; rfl
theorem hsI {w : World} {S : Nat → Prop} (l : List Int) : Hs TI w S l (l.map fun _ => []) := by
  induction l with
  | nil => trivial
  | cons a l ih => exact ⟨rfl, ih⟩
theorem rowI_bk {w : World} {S : Nat → Prop} {x : Nat} {c : Array Value} (hK : Bk w x c 3) (ns : List Int) (hc : c.toList = ns.map fun m => Value.int .i64 m) : RowR TI w S (.slice (some ⟨x, 0, none⟩) ns.length ns.length) ns := by
  refine ⟨ns.map fun _ => [], ⟨_, _, rfl, Nat.le_refl _, .inr ⟨x, 0, rfl, ⟨trivial, hK.lt⟩, fun j u hj => ?_⟩⟩, hsI ns⟩
  rw [Nat.zero_add, cell_of_row _ _ _ _ _ (0, 0) hK]
  rw [rowI, ← hc] at hj
  simpa using hj
/-- Numbers in a block that is known. -/
theorem put_bk {w0 w : World} {B : Nat} {v0 v : Value} {l : By} (h : AppB w0 w B v0 v l) (hB : B ≤ w.heap.size) {x : Nat} {c : Array Value} (hK : Bk w x c 3) (hx : v.ownBlock ≠ some x) (k : Nat) (kz : Int) (hkz : kz = (k : Int)) (ns : List Int) (n : Nat) (hn : ns.length = n) (hc : c.toList = ns.map fun m => Value.int .i64 m) (hk : k ≤ 8) (hl : l.length ≤ 10000000000) (hnn : n ≤ 1000) :
    Calls Try.prog 30 #[v, .int .i64 kz, .slice (some ⟨x, 0, none⟩) n n] w fun e w' => ∃ v', e = .returned v' ∧ AppB w0 w' B v0 v' (l ++ ns.flatMap (leK k)) := by
  subst hkz
  subst hn
  refine (put_c v l k _ ns B w _ h.own hB (rowI_bk (S := fun _ => True) hK ns hc) (fun _ b o n c e => ?_) hk hl (by omega)).mono ?_
  · cases e; exact hx
  · rintro e w' ⟨v', rfl, h'⟩
    exact ⟨v', rfl, h.trans h'⟩
theorem le1 {n : Int} (h0 : 0 ≤ n) (h1 : n < 256) : leK 1 n = [by1 n] := by
  show [by1 (n % 256)] = _
  rw [show n % 256 = n by omega]
theorem own_far {w : World} {B : Nat} {v : Value} {l : By} (h : OwnB w B v l) {x : Nat} (hx : w.heap.size ≤ x) : v.ownBlock ≠ some x := fun e => by have := (h.own e).2; omega
theorem own_low {w : World} {B : Nat} {v : Value} {l : By} (h : OwnB w B v l) {x : Nat} (hx : x < B) : v.ownBlock ≠ some x := fun e => by have := (h.own e).1; omega
theorem new_at (w : World) (c : Array Value) (t : TypeId) {x : Nat} (h : w.heap.size = x) : Bk (w.alloc (.cells c t)) x c t := by subst h; exact Bk.new w c t
/-- Numbers in a new block. -/
theorem put_one {w : World} {B : Nat} {v : Value} {l : By} (h : OwnB w B v l) (hB : B ≤ w.heap.size) (k : Nat) (kz : Int) (hkz : kz = (k : Int)) (ns : List Int) (n : Nat) (hn : ns.length = n) (c : Array Value) (hc : c.toList = ns.map fun m => Value.int .i64 m) (x : Nat) (hx : w.heap.size = x) (hk : k ≤ 8) (hl : l.length ≤ 10000000000) (hnn : n ≤ 1000) :
    Calls Try.prog 30 #[v, .int .i64 kz, .slice (some ⟨x, 0, none⟩) n n] (w.alloc (.cells c 3)) fun e w' => ∃ v', e = .returned v' ∧ AppB w w' B v v' (l ++ ns.flatMap (leK k)) :=
  put_bk ((AppB.refl h).step (balloc w (.cells c 3))) (Nat.le_trans hB (balloc w _).size) (new_at w c _ hx) (own_far h (by omega)) k kz hkz ns n hn hc hk hl hnn
/-- An instruction's bytes: an Op, and behind it A and B; both rows of numbers lie there. -/
theorem pair_ab {w0 w : World} {B : Nat} {v0 v : Value} {l : By} {op ia ib : Int} (h : AppB w0 w B v0 v l) (hB : B ≤ w.heap.size) {Q : Nat} {c : Array Value} {ty : TypeId} (hQ : Bk w Q c ty) (fQ : v.ownBlock ≠ some Q) {x1 : Nat} (h1 : Bk w x1 #[.int .i64 op] 3) (f1 : v.ownBlock ≠ some x1) {x2 : Nat} (h2 : Bk w x2 #[.int .i64 ia, .int .i64 ib] 3) (f2 : v.ownBlock ≠ some x2) (hl : l.length ≤ 1000000000) (ho : 0 ≤ op ∧ op ≤ 33) :
    Calls Try.prog 30 #[v, .int .i64 1, .slice (some ⟨x1, 0, none⟩) 1 1] w fun e w' => ∃ v', e = .returned v' ∧ Bk w' Q c ty ∧ Calls Try.prog 30 #[v', .int .i64 2, .slice (some ⟨x2, 0, none⟩) 2 2] w' fun e w'' => ∃ v'', e = .returned v'' ∧ Bk w'' Q c ty ∧ AppB w0 w'' B v0 v'' (l ++ encIn ⟨op, ia, ib⟩) := by
  refine (put_bk ((AppB.refl h.own)) hB h1 f1 1 1 rfl [op] 1 rfl rfl (by decide) (by omega) (by decide)).mono ?_
  rintro e w' ⟨v', rfl, h'⟩
  have q' := h'.bk hQ fQ
  refine ⟨v', rfl, q', ?_⟩
  have hsz : B ≤ w'.heap.size := Nat.le_trans hB h'.gr.size
  refine (put_bk (AppB.refl h'.own) hsz (h'.bk h2 f2) (h'.far h2.lt f2) 2 2 rfl [ia, ib] 2 rfl rfl (by decide) (by rw [List.length_append, flat_len]; simp; omega) (by decide)).mono ?_
  rintro e w'' ⟨v'', rfl, h''⟩
  refine ⟨v'', rfl, h''.bk q' (h'.far hQ.lt fQ), ?_⟩
  have hh := h.trans (h'.trans h'')
  have e : (l ++ [op].flatMap (leK 1)) ++ [ia, ib].flatMap (leK 2) = l ++ encIn ⟨op, ia, ib⟩ := by
    rw [List.flatMap_cons, le1 ho.1 (by omega), List.flatMap_cons, List.flatMap_cons]
    simp [encIn]
  rw [← e]; exact hh
/-- The same, where the second row of numbers is laid between. -/
theorem pair_c {w0 w : World} {B : Nat} {v0 v : Value} {l : By} {op ia ib : Int} (h : AppB w0 w B v0 v l) (hB : B ≤ w.heap.size) {Q : Nat} {c : Array Value} {ty : TypeId} (hQ : Bk w Q c ty) (fQ : v.ownBlock ≠ some Q) {x1 : Nat} (h1 : Bk w x1 #[.int .i64 op] 3) (f1 : v.ownBlock ≠ some x1) (hl : l.length ≤ 1000000000) (ho : 0 ≤ op ∧ op ≤ 33) :
    Calls Try.prog 30 #[v, .int .i64 1, .slice (some ⟨x1, 0, none⟩) 1 1] w fun e w' => ∃ v', e = .returned v' ∧ Bk w' Q c ty ∧ Calls Try.prog 30 #[v', .int .i64 2, .slice (some ⟨w'.heap.size, 0, none⟩) 2 2] (w'.alloc (.cells #[.int .i64 ia, .int .i64 ib] 3)) fun e w'' => ∃ v'', e = .returned v'' ∧ Bk w'' Q c ty ∧ AppB w0 w'' B v0 v'' (l ++ encIn ⟨op, ia, ib⟩) := by
  refine (put_bk ((AppB.refl h.own)) hB h1 f1 1 1 rfl [op] 1 rfl rfl (by decide) (by omega) (by decide)).mono ?_
  rintro e w' ⟨v', rfl, h'⟩
  have q' := h'.bk hQ fQ
  refine ⟨v', rfl, q', ?_⟩
  have hsz : B ≤ w'.heap.size := Nat.le_trans hB h'.gr.size
  refine (put_one h'.own hsz 2 2 rfl [ia, ib] 2 rfl #[.int .i64 ia, .int .i64 ib] rfl _ rfl (by decide) (by rw [List.length_append, flat_len]; simp; omega) (by decide)).mono ?_
  rintro e w'' ⟨v'', rfl, h''⟩
  refine ⟨v'', rfl, h''.bk q' (h'.far hQ.lt fQ), ?_⟩
  have hh := h.trans (h'.trans h'')
  have e : (l ++ [op].flatMap (leK 1)) ++ [ia, ib].flatMap (leK 2) = l ++ encIn ⟨op, ia, ib⟩ := by
    rw [List.flatMap_cons, le1 ho.1 (by omega), List.flatMap_cons, List.flatMap_cons]
    simp [encIn]
  rw [← e]; exact hh
set_option maxHeartbeats 32000000 in
theorem pencode_c (c : Cd) (fv iv tv : Value) (w : World) (S : Nat → Prop) (h : HasC w S c fv iv tv) (hl : c.funs.length ≤ 100000000000 ∧ c.ints.length ≤ 100000000000 ∧ c.texts.length ≤ 100000000000 ∧ ∀ f, f ∈ c.funs → f.code.length ≤ 100000000000) :
    Calls Try.prog 15 #[.agg #[fv, iv, tv, .int .i64 c.lets]] w (EncRes c w) := by
  obtain ⟨fo, fc, rfl, hfc⟩ := h.funs.val
  obtain ⟨io, ic, rfl, hic⟩ := h.ints.val
  obtain ⟨to_, tc, rfl, htc⟩ := h.texts.val
  have HM := fun (w' : World) (hb : Below w.heap.size w w') => pmay_c c _ _ _ w' S (h.keep hb) hl
  have HH := Lib.hid h
  obtain ⟨NF, hNF⟩ : ∃ x, Hid (c.funs.length = x) := ⟨_, Lib.hid rfl⟩
  obtain ⟨NI, hNI⟩ : ∃ x, Hid (c.ints.length = x) := ⟨_, Lib.hid rfl⟩
  obtain ⟨NT, hNT⟩ : ∃ x, Hid (c.texts.length = x) := ⟨_, Lib.hid rfl⟩
  obtain ⟨LT, hLT⟩ : ∃ x, Hid (c.lets = x) := ⟨_, Lib.hid rfl⟩
  rw [hNF.out] at hfc HH HM ⊢
  rw [hNI.out] at hic HH HM ⊢
  rw [hNT.out] at htc HH HM ⊢
  rw [hLT.out] at HM ⊢
  have HK := Lib.hid (Bk.new w #[.slice fo NF fc, .slice io NI ic, .slice to_ NT tc, .int .i64 LT] 27)
  have HX := Lib.hid (balloc w (.cells #[.slice fo NF fc, .slice io NI ic, .slice to_ NT tc, .int .i64 LT] 27))
  have HM1 := Lib.hid (HM _ HX.out)
  clear h hl HM
  cases hm : mayB c
  · rw [hm] at HM1
    have HMF := Lib.hid hm
    clear hm
    go_enter Try.func15, Try.ntmps15
    go_wp2_with (go_at_call 26; refine HM1.out.mono ?_; rintro e w3 ⟨rfl, hb⟩; have HX3 := Lib.hid (bnext HX.out hb); clear hb)
    exact bodyPost_ret (v := .tuple #[.slice none 0 0, .int .i64 1]) (by simp [results, Try.results15, go_sem]) rfl (.inr ⟨HMF.out, rfl, HX3.out⟩)
  · rw [hm] at HM1
    have HMT := Lib.hid hm
    have HFC := Lib.hid (may_facts hm)
    have hNIb : NI ≤ 120 := by rw [← hNI.out]; exact HFC.out.ints
    have hNTb : NT ≤ 120 := by rw [← hNT.out]; exact HFC.out.texts
    have hNFb : NF ≤ 120 := by rw [← hNF.out]; exact HFC.out.funs
    have hLT0 : 0 ≤ LT := by rw [← hLT.out]; exact HFC.out.lets0
    have hLT1 : LT ≤ 60 := by rw [← hLT.out]; exact HFC.out.lets1
    obtain ⟨B0, hB0⟩ : ∃ B, Hid (w.heap.size = B) := ⟨_, Lib.hid rfl⟩
    clear hm
    go_enter Try.func15, Try.ntmps15
    go_wp2_with fail
    refine HM1.out.mono ?_
    rintro e w3 ⟨rfl, hb⟩
    have HX3 := Lib.hid (bnext HX.out hb)
    have HK3 := Lib.hid (HK.out.keep hb)
    have hlt0 : w.heap.size < w3.heap.size := HK3.out.lt
    have hwB : w.heap.size ≤ w3.heap.size := Nat.le_of_lt hlt0
    clear hb HX HK HM1
    have k1 := HK3.out.cell 1 _ rfl; have k3 := HK3.out.cell 3 _ rfl
    have hcv : (convert 22 22 (.slice (some ⟨w3.heap.size, 0, none⟩) 3 3)).run Try.prog (w3.alloc (.cells #[.int .u8 83, .int .u8 77, .int .u8 49] 5)) = .ok (.slice (some ⟨w3.heap.size, 0, none⟩) 3 3) (w3.alloc (.cells #[.int .u8 83, .int .u8 77, .int .u8 49] 5 (3, 4))) := Lib.run_convert_bytes_const w3 _ _ _ 3 3 Try.underlying22 (by kernel_rfl)
    have k1m := Lib.cell?_alloc_marked (.cells #[.int .u8 83, .int .u8 77, .int .u8 49] 5 (3, 4)) k1
    have k3m := Lib.cell?_alloc_marked (.cells #[.int .u8 83, .int .u8 77, .int .u8 49] 5 (3, 4)) k3
    have HXM := Lib.hid (bnext HX3.out (bnext (balloc w3 (.cells #[.int .u8 83, .int .u8 77, .int .u8 49] 5 (3, 4))) (balloc _ (.cells #[.int .i64 LT, .int .i64 (NI : Int)] 3))))
    have HKM := Lib.hid (show Bk ((w3.alloc (.cells #[.int .u8 83, .int .u8 77, .int .u8 49] 5 (3, 4))).alloc (.cells #[.int .i64 LT, .int .i64 (NI : Int)] 3)) w.heap.size _ _ from (HK3.out.alloc _).alloc _)
    have HP1 := Lib.hid (show Calls Try.prog 30 #[.slice (some ⟨w3.heap.size, 0, none⟩) 3 3, .int .i64 1, .slice (some ⟨w3.heap.size + 1, 0, none⟩) 2 2] ((w3.alloc (.cells #[.int .u8 83, .int .u8 77, .int .u8 49] 5 (3, 4))).alloc (.cells #[.int .i64 LT, .int .i64 (NI : Int)] 3)) _ from
      put_full w3.heap.size 3 [83, 77, 49] _ [LT, (NI : Int)] _ (fun _ => True) (fun j u hj => by
          have hb : ((w3.alloc (.cells #[.int .u8 83, .int .u8 77, .int .u8 49] 5 (3, 4))).alloc (.cells #[.int .i64 LT, .int .i64 (NI : Int)] 3)).heap[w3.heap.size]? = some (.cells #[.int .u8 83, .int .u8 77, .int .u8 49] 5 (3, 4)) := ((balloc _ _).block _ (by simp)).trans (heap_alloc_new w3 _)
          rw [Nat.zero_add, cell_of_row _ _ _ _ _ (3, 4) hb]
          simpa [bvs] using hj) (by simp; omega) rfl (by simp) (rowI_bk (new_at _ _ _ (by simp)) [LT, (NI : Int)] rfl) (by decide) (by simp))
    go_wp2_with fail
    refine HP1.out.mono ?_
    rintro e w4 ⟨v4, rfl, ho4, hb4⟩
    clear HP1
    have hs4 : w3.heap.size ≤ ((w3.alloc (.cells #[.int .u8 83, .int .u8 77, .int .u8 49] 5 (3, 4))).alloc (.cells #[.int .i64 LT, .int .i64 (NI : Int)] 3)).heap.size := by simp; omega
    have HO4 := Lib.hid (show OwnB w4 w3.heap.size v4 (pre1 c 0) from by
      have h := ownB_low hs4 ho4
      have e : ([83, 77, 49] : By) ++ [LT, (NI : Int)].flatMap (leK 1) = pre1 c 0 := by
        unfold pre1
        rw [hLT.out, hNI.out, List.flatMap_cons, List.flatMap_cons, le1 hLT0 (by omega), le1 (by omega) (by omega)]
        rfl
      rw [← e]; exact h)
    have HX4 := Lib.hid (bnext HXM.out hb4)
    have HK4 := Lib.hid (HKM.out.keep hb4)
    have HS4 := Lib.hid (show w3.heap.size ≤ w4.heap.size from Nat.le_trans hs4 hb4.size)
    have HP2 := Lib.hid (show Calls Try.prog 30 #[v4, .int .i64 8, .slice io NI ic] w4 _ from put_c v4 (pre1 c 0) 8 _ c.ints w3.heap.size w4 S HO4.out HS4.out (HH.out.ints.keep HX4.out) (fun hne b o n cc e => own_low HO4.out (by
        obtain ⟨b', off', cap', hve, _, hblt, _⟩ := HH.out.ints.open_ hne
        rw [e] at hve; cases hve
        have := HX3.out.size; omega)) (by decide) (Nat.le_trans (pre1_le HFC.out 0) (by decide)) (by have := hNI.out; omega))
    clear k1 k3 k1m k3m hcv ho4 hb4 hs4
    have k1 := HK4.out.cell 1 _ rfl
    go_wp2_with fail
    refine HP2.out.mono ?_
    rintro e w5 ⟨v5, rfl, ha5⟩
    clear HP2 k1
    have HO5 := Lib.hid (show OwnB w5 w3.heap.size v5 (pre1 c NI) from by
      have e : pre1 c 0 ++ c.ints.flatMap (leK 8) = pre1 c NI := by unfold pre1; rw [List.take_of_length_le (Nat.le_of_eq hNI.out)]; simp
      rw [← e]; exact ha5.own)
    have HB5 := Lib.hid (AppB.below ha5 HO4.out HS4.out)
    have HX5 := Lib.hid (HX4.out.trans (HB5.out.mono hwB))
    have HK5 := Lib.hid (show Bk w5 w.heap.size #[.slice fo NF fc, .slice io NI ic, .slice to_ NT tc, .int .i64 LT] 27 from (HB5.out.block _ hlt0).trans HK4.out)
    have HS5 := Lib.hid (show w3.heap.size ≤ w5.heap.size from Nat.le_trans HS4.out HB5.out.size)
    have HP3 := Lib.hid (put_one HO5.out HS5.out 1 1 rfl [(NT : Int)] 1 rfl #[.int .i64 (NT : Int)] rfl w5.heap.size rfl (by decide) (Nat.le_trans (pre1_le HFC.out NI) (by decide)) (by decide))
    clear ha5
    have k2 := HK5.out.cell 2 _ rfl
    go_wp2_with fail
    refine HP3.out.mono ?_
    rintro e w6 ⟨v6, rfl, ha6⟩
    clear HP3 k2
    have HO6 := Lib.hid (show OwnB w6 w3.heap.size v6 (pre2 c 0) from by
      have e : pre1 c NI ++ [(NT : Int)].flatMap (leK 1) = pre2 c 0 := by
        unfold pre2
        rw [hNI.out, hNT.out, List.flatMap_cons, le1 (by omega) (by omega)]
        simp
      rw [← e]; exact ha6.own)
    have HB6 := Lib.hid (AppB.below ha6 HO5.out HS5.out)
    have HX6 := Lib.hid (HX5.out.trans (HB6.out.mono hwB))
    have HK6 := Lib.hid (show Bk w6 w.heap.size #[.slice fo NF fc, .slice io NI ic, .slice to_ NT tc, .int .i64 LT] 27 from (HB6.out.block _ hlt0).trans HK5.out)
    have HS6 := Lib.hid (show w3.heap.size ≤ w6.heap.size from Nat.le_trans HS5.out HB6.out.size)
    have HBR := Lib.hid (Below.refl w3.heap.size w6)
    clear ha6
    have k2 := HK6.out.cell 2 _ rfl
    go_wp2_with fail
    clear k2
    go_loopg [4, 6, 36] NT (fun g bv s6 iv wr => ∃ i : Nat, i + g = NT ∧ iv = .int .i64 (i : Int) ∧ Hid (OwnB wr w3.heap.size bv (pre2 c i)) ∧ Hid (Below w3.heap.size w6 wr))
    case atStart => exact ⟨0, Nat.zero_add _, rfl, HO6, HBR⟩
    case round =>
      obtain ⟨i2, hi2, rfl, HO, HBW⟩ := hrel
      clear HO6 HBR
      have HX := Lib.hid (HX6.out.trans (HBW.out.mono hwB))
      have HK := Lib.hid (show Bk wr w.heap.size #[.slice fo NF fc, .slice io NI ic, .slice to_ NT tc, .int .i64 LT] 27 from (HBW.out.block _ hlt0).trans HK6.out)
      have HS := Lib.hid (show w3.heap.size ≤ wr.heap.size from Nat.le_trans HS6.out HBW.out.size)
      by_cases hlt2 : i2 < NT
      · obtain ⟨g, rfl⟩ : ∃ g, gk = g + 1 := ⟨gk - 1, by omega⟩
        have hne : c.texts ≠ [] := by intro e; have := hNT.out; rw [e] at this; simp at this; omega
        have hro := HH.out.texts
        obtain ⟨b, off, cap, hve, _, hblt, hcells⟩ := hro.open_ hne
        rw [hNT.out] at hve
        cases hve
        obtain ⟨s, hn⟩ := getElem?_of_lt (l := c.texts) (k := i2) (by rw [hNT.out]; exact hlt2)
        obtain ⟨q, hL, _⟩ := hcells i2 s hn
        have x0 : wr.cell? ⟨b, off + i2, none⟩ = some (.string ⟨s.toArray⟩) := (HX.out.cell (p := ⟨b, off + i2, none⟩) hblt).trans (by have := hL 0 _ rfl; simpa [TT, Ty.flat] using this)
        have hsl := HFC.out.etext s (List.mem_of_getElem? hn)
        have HSN := Lib.hid (show pre2 c (i2 + 1) = (pre2 c i2 ++ [by1 (s.length : Int)]) ++ s from by unfold pre2; rw [flat_snoc hn]; simp [encTx])
        have HPL := Lib.hid (pre2_le HFC.out i2)
        have hsz : (ByteArray.mk s.toArray).size = s.length := rfl
        have i0 : (0 : Int) ≤ (i2 : Int) := by omega
        have i1 : (i2 : Int) < (NT : Int) := by omega
        have HP4 := Lib.hid (put_one HO.out HS.out 1 1 rfl [(s.length : Int)] 1 rfl #[.int .i64 (s.length : Int)] rfl wr.heap.size rfl (by decide) (Nat.le_trans HPL.out (by decide)) (by decide))
        obtain ⟨iB, hiB, hzB, hsB', hbB⟩ := info_parts TB.info
        have HIB := Lib.hid (show Try.prog.info? 5 = some iB ∧ iB.zero = some (.int .u8 0) ∧ iB.size = 1 ∧ iB.bytes = 1 from ⟨hiB, hzB, hsB', hbB⟩)
        have HSL := Lib.hid (show (pre2 c i2 ++ [by1 (s.length : Int)]).length + (ByteArray.mk s.toArray).size ≤ maxLen ∧ (pre2 c i2 ++ [by1 (s.length : Int)]).length + (ByteArray.mk s.toArray).size ≤ 140737488355328 from by have := HPL.out; rw [hsz, List.length_append]; unfold maxLen; simp only [List.length_cons, List.length_nil]; omega)
        have HL1 := Lib.hid (le1 (n := (s.length : Int)) (by omega) (by omega))
        clear hcells hL hn hne hro hiB hzB hsB' hbB hsl
        go_wp2_with fail
        refine HP4.out.mono ?_
        rintro e w7 ⟨v7, rfl, ha7⟩
        clear HP4 x0
        have HO7 := Lib.hid (show OwnB w7 w3.heap.size v7 (pre2 c i2 ++ [by1 (s.length : Int)]) from by
          have h := ha7.own
          rw [List.flatMap_cons, HL1.out] at h
          simpa using h)
        have HB7 := Lib.hid (HBW.out.trans (AppB.below ha7 HO.out HS.out))
        have HS7 := Lib.hid (show w3.heap.size ≤ w7.heap.size from Nat.le_trans HS6.out HB7.out.size)
        clear ha7
        go_wp2_with (at_builtin; go_loud (refine Lib.wpList_append_own_string w7 rfl (.tmp 44) (.tmp 45) 22 9 rfl w3.heap.size 5 iB Try.underlying22 Try.underlying9 HIB.out.1 HIB.out.2.1 HIB.out.2.2.1 HIB.out.2.2.2 v7 (pre2 c i2 ++ [by1 (s.length : Int)]).length (bvs (pre2 c i2 ++ [by1 (s.length : Int)])) rfl (ownB_row HO7.out) ⟨s.toArray⟩ rfl HSL.out.1 HSL.out.2 HS7.out ?_); intro v8 w8 hO8 hg8 _; have HO8 := Lib.hid (show OwnB w8 w3.heap.size v8 (pre2 c (i2 + 1)) from by rw [HSN.out]; exact ownB_of (by rw [str_cells] at hO8; unfold bvs at hO8 ⊢; rw [List.map_append]; exact hO8) (by rw [hsz, ← List.length_append])); have HB8 := Lib.hid (HB7.out.trans (bgrown hg8 (fun b hb => (HO7.out.own hb).1) HS7.out)); clear hO8 hg8)
        go_roundg g
        case rel => exact ⟨i2 + 1, by omega, by go_num, HO8, HB8⟩
        case measure => omega
      · have hiT : i2 = c.texts.length := by rw [hNT.out]; omega
        have k0 := HK.out.cell 0 _ rfl
        have HP5 := Lib.hid (put_one HO.out HS.out 1 1 rfl [(NF : Int)] 1 rfl #[.int .i64 (NF : Int)] rfl wr.heap.size rfl (by decide) (Nat.le_trans (pre2_le HFC.out i2) (by decide)) (by decide))
        go_wp2_with fail
        refine HP5.out.mono ?_
        rintro e w7 ⟨v7, rfl, ha7⟩
        clear HP5 k0
        have HO7 := Lib.hid (show OwnB w7 w3.heap.size v7 (pre3 c 0) from by
          have e : pre2 c i2 ++ [(NF : Int)].flatMap (leK 1) = pre3 c 0 := by
            unfold pre3
            rw [hiT, hNF.out, List.flatMap_cons, le1 (by omega) (by omega)]
            simp
          rw [← e]; exact ha7.own)
        have HB7 := Lib.hid (AppB.below ha7 HO.out HS.out)
        have HX7 := Lib.hid (HX.out.trans (HB7.out.mono hwB))
        have HK7 := Lib.hid (show Bk w7 w.heap.size #[.slice fo NF fc, .slice io NI ic, .slice to_ NT tc, .int .i64 LT] 27 from (HB7.out.block _ hlt0).trans HK.out)
        have HS7 := Lib.hid (show w3.heap.size ≤ w7.heap.size from Nat.le_trans HS.out HB7.out.size)
        have HBR := Lib.hid (Below.refl w3.heap.size w7)
        clear ha7 HX HK HS HO HBW HX6 HK6 HS6
        have k0 := HK7.out.cell 0 _ rfl
        go_wp2_with fail
        clear k0
        go_loopg [4, 8, 10, 57] NF (fun g bv s8 s10 iv wr => ∃ i : Nat, i + g = NF ∧ iv = .int .i64 (i : Int) ∧ Hid (OwnB wr w3.heap.size bv (pre3 c i)) ∧ Hid (Below w3.heap.size w7 wr))
        case atStart => exact ⟨0, Nat.zero_add _, rfl, HO7, HBR⟩
        case round =>
          obtain ⟨i3, hi3, rfl, HO, HBW⟩ := hrel
          clear HO7 HBR
          have HX := Lib.hid (HX7.out.trans (HBW.out.mono hwB))
          have HS := Lib.hid (show w3.heap.size ≤ wr.heap.size from Nat.le_trans HS7.out HBW.out.size)
          by_cases hlt3 : i3 < NF
          · obtain ⟨g, rfl⟩ : ∃ g, gk = g + 1 := ⟨gk - 1, by omega⟩
            have hne : c.funs ≠ [] := by intro e; have := hNF.out; rw [e] at this; simp at this; omega
            have hro := HH.out.funs
            obtain ⟨b, off, cap, hve, _, hblt, hcells⟩ := hro.open_ hne
            rw [hNF.out] at hve
            cases hve
            obtain ⟨f, hf⟩ := getElem?_of_lt (l := c.funs) (k := i3) (by rw [hNF.out]; exact hlt3)
            obtain ⟨q, hL, hq⟩ := hcells i3 f hf
            obtain ⟨qv, rfl, hrow⟩ := hasBd_row hq
            obtain ⟨co, cc, rfl, hcc⟩ := hrow.val
            have hff := HFC.out.efun f (List.mem_of_getElem? hf)
            have HF := Lib.hid hf
            have hL2 := hL.keep HX.out hblt
            obtain ⟨ke, lo, st, code⟩ := f
            simp only at hcc hrow hL2 hff
            have HIns := Lib.hid hff.2.2.2.2
            obtain ⟨NC, hNC⟩ : ∃ x, Hid (code.length = x) := ⟨_, Lib.hid rfl⟩
            rw [hNC.out] at hcc hrow hL2 hff
            have x0 : wr.cell? ⟨b, off + i3 * 4, none⟩ = some (.int .i64 ke) := hL2 0 _ rfl
            have x1 : wr.cell? ⟨b, off + i3 * 4 + 1, none⟩ = some (.int .i64 lo) := hL2 1 _ rfl
            have x2 : wr.cell? ⟨b, off + i3 * 4 + 2, none⟩ = some (.int .i64 st) := hL2 2 _ rfl
            have x3 : wr.cell? ⟨b, off + i3 * 4 + 3, none⟩ = some (.slice co NC cc) := hL2 3 _ rfl
            have HROW := Lib.hid hrow
            have i0 : (0 : Int) ≤ (i3 : Int) := by omega
            have i1 : (i3 : Int) < (NF : Int) := by omega
            have hNCb : NC ≤ 400 := hff.2.2.2.1
            have HFF := Lib.hid hff
            have HPL := Lib.hid (pre3_le HFC.out i3)
            have HK1 := Lib.hid (show Bk (wr.alloc (.cells #[.int .i64 ke, .int .i64 lo, .int .i64 st, .slice co NC cc] 49)) wr.heap.size #[.int .i64 ke, .int .i64 lo, .int .i64 st, .slice co NC cc] 49 from Bk.new wr _ _)
            have HA1 := Lib.hid ((AppB.refl HO.out).step (balloc wr (.cells #[.int .i64 ke, .int .i64 lo, .int .i64 st, .slice co NC cc] 49)))
            have HS1 := Lib.hid (show w3.heap.size ≤ (wr.alloc (.cells #[.int .i64 ke, .int .i64 lo, .int .i64 st, .slice co NC cc] 49)).heap.size from Nat.le_trans HS.out (balloc wr _).size)
            have HP6 := Lib.hid (put_one HA1.out.own HS1.out 1 1 rfl [ke, lo, st] 3 rfl #[.int .i64 ke, .int .i64 lo, .int .i64 st] rfl (wr.heap.size + 1) (by simp) (by decide) (Nat.le_trans HPL.out (by decide)) (by decide))
            clear hcells hL hL2 hf hne hq hrow hro hff
            go_wp2_with fail
            refine HP6.out.mono ?_
            rintro e w8 ⟨v8, rfl, ha8⟩
            clear HP6 x0 x1 x2 x3
            have HK8 := Lib.hid (ha8.bk HK1.out (own_far HO.out (Nat.le_refl _)))
            have HS8 := Lib.hid (show w3.heap.size ≤ w8.heap.size from Nat.le_trans HS1.out ha8.gr.size)
            have HL8 := Lib.hid (show (pre3 c i3 ++ [ke, lo, st].flatMap (leK 1)).length ≤ 400000 from by rw [List.length_append, flat_len]; have := HPL.out; simp; omega)
            have HP7 := Lib.hid (put_one ha8.own HS8.out 2 2 rfl [(NC : Int)] 1 rfl #[.int .i64 (NC : Int)] rfl w8.heap.size rfl (by decide) (Nat.le_trans HL8.out (by decide)) (by decide))
            have HA8 := Lib.hid ha8
            clear ha8
            have y3 := HK8.out.cell 3 _ rfl
            go_wp2_with fail
            refine HP7.out.mono ?_
            rintro e w9 ⟨v9, rfl, ha9⟩
            clear HP7 y3
            have HL9 := Lib.hid (show AppB (wr.alloc (.cells #[.int .i64 ke, .int .i64 lo, .int .i64 st, .slice co NC cc] 49)) w9 w3.heap.size u4 v9 (pre4 c i3 ⟨ke, lo, st, code⟩ 0) from by
              have h := HA8.out.trans ha9
              have e : (pre3 c i3 ++ [ke, lo, st].flatMap (leK 1)) ++ [(NC : Int)].flatMap (leK 2) = pre4 c i3 ⟨ke, lo, st, code⟩ 0 := by
                have h := HFF.out
                unfold pre4
                rw [hNC.out, List.flatMap_cons, List.flatMap_cons, List.flatMap_cons, le1 h.1.1 (by omega), le1 h.2.1.1 (by omega), le1 (by omega) (by omega)]
                simp
              rw [← e]; exact h)
            have HK9 := Lib.hid (HL9.out.bk HK1.out (own_far HO.out (Nat.le_refl _)))
            have HN9 := Lib.hid (HL9.out.far (b := wr.heap.size) (by simp) (own_far HO.out (Nat.le_refl _)))
            have HS9 := Lib.hid (show w3.heap.size ≤ w9.heap.size from Nat.le_trans HS1.out HL9.out.gr.size)
            have HA9 := Lib.hid (HA1.out.trans HL9.out)
            have HB9 := Lib.hid (HBW.out.trans (AppB.below HA9.out HO.out HS.out))
            have HX9 := Lib.hid (HX7.out.trans (HB9.out.mono hwB))
            have HAR := Lib.hid (AppB.refl HL9.out.own)
            have HO9 := Lib.hid HL9.out.own
            have y3 := HK9.out.cell 3 _ rfl
            clear ha9 HL9 HA9 HA8 HA1 HK8 HS8 HK1 HX HS1 HL8
            go_wp2_with fail
            clear y3
            obtain ⟨PB, hPB⟩ : ∃ PB, Hid (wr.heap.size = PB) := ⟨_, Lib.hid rfl⟩
            rw [hPB.out] at HK9 HN9 ⊢
            go_loopg [4, 10, 79] NC (fun g bv s10 jv wr => ∃ j : Nat, j + g = NC ∧ jv = .int .i64 (j : Int) ∧ Hid (AppB w9 wr w3.heap.size v9 bv (pre4 c i3 ⟨ke, lo, st, code⟩ j)))
            case atStart => exact ⟨0, Nat.zero_add _, rfl, HAR⟩
            case round =>
              obtain ⟨j, hj, rfl, HAJ⟩ := hrel
              clear HAR
              have HBJ := Lib.hid (AppB.below HAJ.out HO9.out HS9.out)
              have HXJ := Lib.hid (HX9.out.trans (HBJ.out.mono hwB))
              have HSJ := Lib.hid (show w3.heap.size ≤ wr.heap.size from Nat.le_trans HS9.out HAJ.out.gr.size)
              by_cases hltj : j < NC
              · obtain ⟨g4, rfl⟩ : ∃ g, gk = g + 1 := ⟨gk - 1, by omega⟩
                have hne : code ≠ [] := by intro e; have := hNC.out; rw [e] at this; simp at this; omega
                have hro := HROW.out
                rw [← hNC.out] at hro
                obtain ⟨b5, off5, cap5, hve, _, hblt5, hcells⟩ := hro.open_ hne
                cases hve
                obtain ⟨ins, hi⟩ := getElem?_of_lt (l := code) (k := j) (by rw [hNC.out]; exact hltj)
                obtain ⟨q, hL, _⟩ := hcells j ins hi
                have hL2 := hL.keep HXJ.out hblt5
                have hii := HIns.out ins (List.mem_of_getElem? hi)
                have HSN := Lib.hid (show pre4 c i3 ⟨ke, lo, st, code⟩ (j + 1) = pre4 c i3 ⟨ke, lo, st, code⟩ j ++ encIn ins from by unfold pre4; rw [flat_snoc hi, List.append_assoc (_ ++ _)])
                obtain ⟨op, ia, ib⟩ := ins
                simp only at hii
                have x0 : wr.cell? ⟨b5, off5 + j * 3, none⟩ = some (.int .i64 op) := hL2 0 _ rfl
                have x1 : wr.cell? ⟨b5, off5 + j * 3 + 1, none⟩ = some (.int .i64 ia) := hL2 1 _ rfl
                have x2 : wr.cell? ⟨b5, off5 + j * 3 + 2, none⟩ = some (.int .i64 ib) := hL2 2 _ rfl
                have j0 : (0 : Int) ≤ (j : Int) := by omega
                have j1 : (j : Int) < (code.length : Int) := by rw [hNC.out]; omega
                have HII := Lib.hid hii
                clear hcells hL hL2 hi hne hro hii
                go_wp2_with fail
                obtain ⟨Q, hQ⟩ : ∃ Q, Hid (wr.heap.size = Q) := ⟨_, Lib.hid rfl⟩
                have hD := HAJ.out.step (balloc wr (.cells #[.int .i64 op, .int .i64 ia, .int .i64 ib] 45))
                have hDK : Bk (wr.alloc (.cells #[.int .i64 op, .int .i64 ia, .int .i64 ib] 45)) Q #[.int .i64 op, .int .i64 ia, .int .i64 ib] 45 := new_at wr _ _ hQ.out
                have hDF : ∀ x, Q ≤ x → u4.ownBlock ≠ some x := fun x hx => own_far HAJ.out.own (by rw [hQ.out]; exact hx)
                have hDS : (wr.alloc (.cells #[.int .i64 op, .int .i64 ia, .int .i64 ib] 45)).heap.size = Q + 1 := by simp [hQ.out]
                have hDB : w3.heap.size ≤ (wr.alloc (.cells #[.int .i64 op, .int .i64 ia, .int .i64 ib] 45)).heap.size := Nat.le_trans HSJ.out (balloc wr _).size
                have hPL : (pre4 c i3 ⟨ke, lo, st, code⟩ j).length ≤ 1000000000 := Nat.le_trans (pre4_le HFC.out i3 (f := ⟨ke, lo, st, code⟩) (show code.length ≤ 400 by rw [hNC.out]; exact hNCb) j) (by decide)
                rw [hQ.out]
                clear x0 x1 x2
                generalize wr.alloc (.cells #[.int .i64 op, .int .i64 ia, .int .i64 ib] 45) = D at hD hDK hDS hDB ⊢
                have hPA := Lib.hid (pair_ab (op := op) (ia := ia) (ib := ib) (((hD.step (balloc D (.cells #[.int .i64 ia, .int .i64 ib] 3))).step (balloc _ (.cells #[.int .i64 op] 3))).step (bdr _)) (by simp; omega) (((hDK.alloc _).alloc _).drew) (hDF Q (Nat.le_refl _)) (x1 := D.heap.size + 1) (new_at _ _ _ (by simp)).drew (hDF _ (by omega)) (x2 := D.heap.size) (((new_at D _ _ rfl).alloc _).drew) (hDF _ (by omega)) hPL HII.out.1)
                have hPB := Lib.hid (pair_ab (op := op) (ia := ia) (ib := ib) (((hD.step (balloc D (.cells #[.int .i64 op] 3))).step (balloc _ (.cells #[.int .i64 ia, .int .i64 ib] 3))).step (bdr _)) (by simp; omega) (((hDK.alloc _).alloc _).drew) (hDF Q (Nat.le_refl _)) (x1 := D.heap.size) (((new_at D _ _ rfl).alloc _).drew) (hDF _ (by omega)) (x2 := D.heap.size + 1) (new_at _ _ _ (by simp)).drew (hDF _ (by omega)) hPL HII.out.1)
                have hPC := Lib.hid (pair_c (op := op) (ia := ia) (ib := ib) ((hD.step (balloc D (.cells #[.int .i64 op] 3))).step (bdr _)) (by simp; omega) ((hDK.alloc _).drew) (hDF Q (Nat.le_refl _)) (x1 := D.heap.size) (new_at D _ _ rfl).drew (hDF _ (by omega)) hPL HII.out.1)
                have d0 := hDK.cell 0 _ rfl
                have d1 := hDK.cell 1 _ rfl
                have d2 := hDK.cell 2 _ rfl
                have dl := hDK.lt
                have HDS := Lib.hid hDS
                clear hDS hD hDK hDF hDB hPL
                go_region_held3 (fun w' => w'.cell? ⟨Q, 0, none⟩ = some (.int .i64 op) ∧ w'.cell? ⟨Q, 1, none⟩ = some (.int .i64 ia) ∧ w'.cell? ⟨Q, 2, none⟩ = some (.int .i64 ib)) (first | with_reducible exact ⟨hk11.out.cell 0 _ rfl, hk11.out.cell 1 _ rfl, hk11.out.cell 2 _ rfl⟩ | with_reducible exact ⟨hk12.out.cell 0 _ rfl, hk12.out.cell 1 _ rfl, hk12.out.cell 2 _ rfl⟩ | go_keep)
                  (first
                    | (go_at_call 30; with_reducible refine hPA.out.mono ?_; rintro e w11 ⟨v11, rfl, hk11, hP11⟩; replace hk11 := Lib.hid hk11; clear hPA hPB hPC)
                    | (go_at_call 30; with_reducible refine hPB.out.mono ?_; rintro e w11 ⟨v11, rfl, hk11, hP11⟩; replace hk11 := Lib.hid hk11; clear hPA hPB hPC)
                    | (go_at_call 30; with_reducible refine hPC.out.mono ?_; rintro e w11 ⟨v11, rfl, hk11, hP11⟩; replace hk11 := Lib.hid hk11; clear hPA hPB hPC)
                    | (go_at_call 30; with_reducible refine hP11.mono ?_; rintro e w12 ⟨v12, rfl, hk12, ha12⟩; replace hk12 := Lib.hid hk12; replace ha12 := Lib.hid ha12; clear hP11))
                all_goals
                  go_wp2_with fail
                  go_roundg g4
                  case rel => exact ⟨j + 1, by omega, by go_num, Lib.hid (by rw [HSN.out]; exact ha12.out)⟩
                  case measure => omega
              · have HJE := Lib.hid (show OwnB wr w3.heap.size u4 (pre3 c (i3 + 1)) from by
                  have e : pre4 c i3 ⟨ke, lo, st, code⟩ j = pre3 c (i3 + 1) := by
                    unfold pre4
                    have e2 : pre3 c (i3 + 1) = pre3 c i3 ++ encBd ⟨ke, lo, st, code⟩ := by unfold pre3; rw [flat_snoc HF.out, List.append_assoc (_ ++ _)]
                    rw [e2]
                    show (pre3 c i3 ++ ([by1 ke, by1 lo, by1 st] ++ leK 2 (code.length : Int))) ++ (code.take j).flatMap encIn = _
                    rw [List.take_of_length_le (by rw [hNC.out]; omega), List.append_assoc]; rfl
                  rw [← e]; exact HAJ.out.own)
                have HBE := Lib.hid (HB9.out.trans HBJ.out)
                go_wp2_with fail
                go_roundg g
                case rel => exact ⟨i3 + 1, by omega, by go_num, HJE, HBE⟩
                case measure => omega
          · have HFIN := Lib.hid (show OwnB wr w.heap.size u4 (enc c) from by
              have hiF : i3 = c.funs.length := by rw [hNF.out]; omega
              have h := ownB_low hwB HO.out
              rw [hiF, pre_all] at h
              exact h)
            go_wp2_with fail
            exact bodyPost_ret (v := .tuple #[_, .int .i64 0]) (by simp [results, Try.results15, go_sem]) rfl (.inl ⟨HMT.out, _, rfl, HFIN.out, HX.out⟩)
end Go.Proofs.Ytkhdkepjhifffaa.PE
