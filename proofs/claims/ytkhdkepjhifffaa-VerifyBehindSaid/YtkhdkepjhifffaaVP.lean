/- The program's Depths. -/
import Derived.Test.YtkhdkepjhifffaaVO
import Derived.BigRegion
import Derived.Deep.RegionHeld3
namespace Go.Proofs.Ytkhdkepjhifffaa.VP
open Go.RowKit Go.Proofs.Ytkhdkepjhifffaa.RG Go.Proofs.Ytkhdkepjhifffaa.RB Go.Proofs.Ytkhdkepjhifffaa.KA Go.Proofs.Ytkhdkepjhifffaa.KB Go.Proofs.Ytkhdkepjhifffaa.KH Go.Proofs.Ytkhdkepjhifffaa.PC Go.Proofs.Ytkhdkepjhifffaa.PE Go.Proofs.Ytkhdkepjhifffaa.VA Go.Proofs.Ytkhdkepjhifffaa.VB Go.Proofs.Ytkhdkepjhifffaa.VE Go.Proofs.Ytkhdkepjhifffaa.VF Go.Proofs.Ytkhdkepjhifffaa.VJ Go.Proofs.Ytkhdkepjhifffaa.VK Go.Proofs.Ytkhdkepjhifffaa.VL Go.Proofs.Ytkhdkepjhifffaa.VM Go.Proofs.Ytkhdkepjhifffaa.VN Go.Proofs.Ytkhdkepjhifffaa.VO
set_option linter.unusedVariables false
set_option maxRecDepth 100000
set_option maxRecDepth 100000

/-- Depths up to a place, and noughts behind it. -/
def upto (l : List Int) (N i : Nat) : List Int := l.take i ++ List.replicate (N - i) 0
theorem upto_len {l : List Int} {N i : Nat} (hl : l.length = N) (h : i ≤ N) : (upto l N i).length = N := by unfold upto; simp; omega
theorem upto_at {l : List Int} {N i : Nat} (hl : l.length = N) (h : i < N) : (upto l N i)[i]? = some 0 := by
  unfold upto
  rw [List.getElem?_append_right (by simp; omega), List.length_take, Nat.min_eq_left (by omega), Nat.sub_self, List.getElem?_replicate, if_pos (by omega)]
theorem upto_set {l : List Int} {N i : Nat} {d : Int} (hl : l.length = N) (h : i < N) (hd : l[i]? = some d) : (upto l N i).set i d = upto l N (i + 1) := by
  unfold upto
  have h1 : (l.take i).length = i := by simp; omega
  rw [List.set_append_right _ _ (by omega), h1, Nat.sub_self, show N - i = (N - (i + 1)) + 1 by omega, List.replicate_succ, List.set_cons_zero, List.take_add_one, hd]
  simp
theorem upto_end {l : List Int} {N : Nat} (hl : l.length = N) : upto l N N = l := by unfold upto; rw [List.take_of_length_le (by omega)]; simp
/-- What a list of depths says of a place. -/
def depO : Option Sx → Int
  | none => -1
  | some s => s.dep
theorem raw_dep (o : Option Sx) : (rawP o).dep = depO o := by cases o <;> rfl
/-- L is the list of depths of function fz. -/
def DepOf (c : Cd) (fz : Int) (L : List Int) : Prop :=
  ((mayB c = false ∨ fz < 0 ∨ (c.funs.length : Int) ≤ fz) ∧ L = []) ∨
  ∃ (n : Nat) (f : Bd), fz = (n : Int) ∧ mayB c = true ∧ c.funs[n]? = some f ∧ ((∃ A, Ans f.code.length f.stack (goes c n f) (some A) ∧ L = A.map depO) ∨ (Ans f.code.length f.stack (goes c n f) none ∧ L = []))
theorem DepOf.one {c : Cd} {fz : Int} {L L' : List Int} (h : DepOf c fz L) (h' : DepOf c fz L') : L = L' := by
  rcases h with ⟨h, rfl⟩ | ⟨n, f, rfl, hm, hf, h⟩
  · rcases h' with ⟨_, rfl⟩ | ⟨n, f, rfl, hm, hf, h'⟩
    · rfl
    · have := (List.getElem?_eq_some_iff.1 hf).1
      rcases h with h | h | h
      · rw [hm] at h; cases h
      · omega
      · omega
  · rcases h' with ⟨h', rfl⟩ | ⟨n', f', e, hm', hf', h'⟩
    · have := (List.getElem?_eq_some_iff.1 hf).1
      rcases h' with h | h | h
      · rw [hm] at h; cases h
      · omega
      · omega
    · have : n = n' := by omega
      subst this
      rw [hf] at hf'
      cases hf'
      rcases h with ⟨A, h, rfl⟩ | ⟨h, rfl⟩
      · rcases h' with ⟨A', h', rfl⟩ | ⟨h', rfl⟩
        · cases Ans.one h h'; rfl
        · cases Ans.one h h'
      · rcases h' with ⟨A', h', rfl⟩ | ⟨h', rfl⟩
        · cases Ans.one h h'
        · rfl
def DepthsRes (c : Cd) (fz : Int) (w : World) (e : Ending) (w' : World) : Prop :=
  Below w.heap.size w w' ∧ ∃ v L, e = .returned v ∧ RowR TI w' (fun _ => False) v L ∧ (∀ b, v.ownBlock = some b → w.heap.size ≤ b) ∧ DepOf c fz L
theorem depths_nil {c : Cd} {fz : Int} {w w' : World} (hb : Below w.heap.size w w') (h : mayB c = false ∨ fz < 0 ∨ (c.funs.length : Int) ≤ fz) : DepthsRes c fz w (.returned (.slice none 0 0)) w' :=
  ⟨hb, _, [], rfl, rowR_nil _ _, (fun b h => by cases h), .inl ⟨h, rfl⟩⟩
set_option maxHeartbeats 16000000 in
theorem depths_c (c : Cd) (fv iv tv : Value) (fz : Int) (w : World) (S : Nat → Prop) (h : HasC w S c fv iv tv) (hl : c.funs.length ≤ 100000000000 ∧ c.ints.length ≤ 100000000000 ∧ c.texts.length ≤ 100000000000 ∧ ∀ f, f ∈ c.funs → f.code.length ≤ 100000000000) :
    Calls Try.prog 20 #[.agg #[fv, iv, tv, .int .i64 c.lets], .int .i64 fz] w (DepthsRes c fz w) := by
  obtain ⟨fo, fc, rfl, _⟩ := h.funs.val
  obtain ⟨io, ic, rfl, _⟩ := h.ints.val
  obtain ⟨to_, tc, rfl, _⟩ := h.texts.val
  have HC := Lib.hid h
  have HMAY := Lib.hid (fun w' (hb : Below w.heap.size w w') => pmay_c c _ _ _ w' S (h.keep hb) hl)
  obtain ⟨NF, hNF⟩ : ∃ x, Hid (c.funs.length = x) := ⟨_, Lib.hid rfl⟩
  obtain ⟨NI, hNI⟩ : ∃ x, Hid (c.ints.length = x) := ⟨_, Lib.hid rfl⟩
  obtain ⟨NT, hNT⟩ : ∃ x, Hid (c.texts.length = x) := ⟨_, Lib.hid rfl⟩
  obtain ⟨LT, hLT⟩ : ∃ x, Hid (c.lets = x) := ⟨_, Lib.hid rfl⟩
  obtain ⟨MB, hMB⟩ : ∃ x, Hid (mayB c = x) := ⟨_, Lib.hid rfl⟩
  have HBEG : Hid (∀ (n : Nat) (f : Bd) (r : Nat) (w' : World), Below w.heap.size w w' → mayB c = true → c.funs[n]? = some f → Calls Try.prog 32 #[.agg #[.slice fo NF fc, .slice io NI ic, .slice to_ NT tc, .int .i64 LT], .int .i64 (n : Int), .map (some r)] w' (BeginRes c n f (.map (some r)) S w')) := Lib.hid fun n f r w' hb hm hf => by
    have F := fok_of hm hf
    have := begin_c c _ _ _ n f r w' S (h.keep hb) hf (Nat.le_trans F.n1 (by decide)) (Nat.le_trans (may_sizes hm).1 (by decide))
    rw [hNF.out, hNI.out, hNT.out, hLT.out] at this
    exact this
  rw [hNF.out, hNI.out, hNT.out, hLT.out] at HMAY ⊢
  rw [hMB.out] at HMAY
  have HNIL := Lib.hid (fun w' hb hn => @depths_nil c fz w w' hb hn)
  have HX := Lib.hid (balloc w (.cells #[.slice fo NF fc, .slice io NI ic, .slice to_ NT tc, .int .i64 LT] 27))
  have HK := Lib.hid (Bk.new w #[.slice fo NF fc, .slice io NI ic, .slice to_ NT tc, .int .i64 LT] 27)
  have c0 := HK.out.cell 0 (.slice fo NF fc) rfl
  have c1 := HK.out.cell 1 (.slice io NI ic) rfl
  have c2 := HK.out.cell 2 (.slice to_ NT tc) rfl
  have c3 := HK.out.cell 3 (.int .i64 LT) rfl
  clear h hl
  by_cases hz : fz < 0
  · have HR := Lib.hid (HNIL.out _ HX.out (.inr (.inl hz)))
    go_enter Try.func20, Try.ntmps20
    go_wp2_with fail
    go_ret
    exact HR.out
  obtain ⟨n, rfl⟩ := Int.eq_ofNat_of_zero_le (show 0 ≤ fz by omega)
  by_cases hn : NF ≤ n
  · have HR := Lib.hid (HNIL.out _ HX.out (.inr (.inr (by rw [hNF.out]; omega))))
    have i1 : (n : Int) ≥ (NF : Int) := by omega
    have i0 : ¬ (n : Int) < 0 := hz
    go_enter Try.func20, Try.ntmps20
    go_wp2_with fail
    go_ret
    exact HR.out
  have i1 : ¬ (n : Int) ≥ (NF : Int) := by omega
  go_enter Try.func20, Try.ntmps20
  go_wp2_with fail
  refine (HMAY.out _ HX.out).mono ?_
  rintro e w1 ⟨rfl, hb1⟩
  have HX1 := Lib.hid (bnext HX.out hb1)
  have HK1 := Lib.hid (HK.out.keep hb1)
  clear hb1 c0 c1 c2 c3
  cases MB
  · have HR := Lib.hid (HNIL.out _ HX1.out (.inl hMB.out))
    go_wp2_with fail
    go_ret
    exact HR.out
  · have k0 := HK1.out.cell 0 (.slice fo NF fc) rfl
    have k1 := HK1.out.cell 1 (.slice io NI ic) rfl
    have k2 := HK1.out.cell 2 (.slice to_ NT tc) rfl
    have k3 := HK1.out.cell 3 (.int .i64 LT) rfl
    obtain ⟨f, hf⟩ := getElem?_of_lt (l := c.funs) (k := n) (by rw [hNF.out]; omega)
    have HF := Lib.hid hf
    clear hf
    go_wp2_with fail
    have HC1 : Hid (w1.drew.cell? ⟨w.heap.size, 0, none⟩ = some (.slice fo NF fc) ∧ w1.drew.cell? ⟨w.heap.size, 1, none⟩ = some (.slice io NI ic) ∧ w1.drew.cell? ⟨w.heap.size, 2, none⟩ = some (.slice to_ NT tc) ∧ w1.drew.cell? ⟨w.heap.size, 3, none⟩ = some (.int .i64 LT)) := Lib.hid ⟨HK1.out.drew.cell 0 _ rfl, HK1.out.drew.cell 1 _ rfl, HK1.out.drew.cell 2 _ rfl, HK1.out.drew.cell 3 _ rfl⟩
    clear k0 k1 k2 k3
    go_region_held3 (fun w' => w'.cell? ⟨w.heap.size, 0, none⟩ = some (.slice fo NF fc) ∧ w'.cell? ⟨w.heap.size, 1, none⟩ = some (.slice io NI ic) ∧ w'.cell? ⟨w.heap.size, 2, none⟩ = some (.slice to_ NT tc) ∧ w'.cell? ⟨w.heap.size, 3, none⟩ = some (.int .i64 LT)) (first | with_reducible exact HC1.out | with_reducible exact HC2.out | with_reducible exact HC3.out | go_keep)
      (first
        | (go_at_call 31; (with_reducible refine (rules_c w1.drew).mono ?_); rintro e w2 ⟨r, vs, rfl, hri, hvs⟩; have HX2 := Lib.hid (bnext HX1.out ((bdr w1).trans (hri.bel.mono (bdr w1).size))); have HK2 := Lib.hid (HK1.out.drew.keep hri.bel); have HRI := Lib.hid hri; have HVS := Lib.hid hvs; have HC2 := Lib.hid (And.intro (HK2.out.cell 0 (.slice fo NF fc) rfl) (And.intro (HK2.out.cell 1 (.slice io NI ic) rfl) (And.intro (HK2.out.cell 2 (.slice to_ NT tc) rfl) (HK2.out.cell 3 (.int .i64 LT) rfl)))); clear hri hvs)
        | (go_at_call 32; (with_reducible refine (HBEG.out n f r w2 HX2.out hMB.out HF.out).mono ?_); rintro e w3 ⟨p, k, rfl, hwk, hwok, hmp, hb3⟩; have HX3 := Lib.hid (bnext HX2.out hb3); have HC3 := Lib.hid (And.intro ((HK2.out.keep hb3).cell 0 (.slice fo NF fc) rfl) (And.intro ((HK2.out.keep hb3).cell 1 (.slice io NI ic) rfl) (And.intro ((HK2.out.keep hb3).cell 2 (.slice to_ NT tc) rfl) ((HK2.out.keep hb3).cell 3 (.int .i64 LT) rfl)))); have HOL := Lib.hid (holds_c w2.heap.size w2 p k c n f S r vs w1.drew w3 hwk hwok HRI.out HVS.out hmp rfl hb3 (fok_of hMB.out HF.out)); have HWN := Lib.hid (And.intro hwok.N hwok.st); have HB3 := Lib.hid hb3; clear hwk hwok hmp hb3))
    go_wp2_with fail
    refine HOL.out.mono ?_
    rintro e w4 ⟨hb4, (⟨A, ov, hans, rfl, hwk⟩ | ⟨hans, rfl⟩)⟩
    rotate_left
    · rw [HWN.out.1, HWN.out.2] at hans
      have HR : Hid (DepthsRes c (n : Int) w (.returned (.slice none 0 0)) w4) := Lib.hid ⟨bnext HX2.out (HB3.out.trans hb4), _, [], rfl, rowR_nil _ _, (fun b h => by cases h), .inr ⟨n, f, rfl, hMB.out, HF.out, .inr ⟨hans, rfl⟩⟩⟩
      clear hans hb4
      go_wp2_with fail
      go_ret
      exact HR.out
    have hans2 := hans
    rw [HWN.out.1, HWN.out.2] at hans2
    have HANS := Lib.hid hans2
    have HB4 := Lib.hid (HB3.out.trans hb4)
    have HX4 := Lib.hid (bnext HX2.out HB4.out)
    have HWK := Lib.hid hwk
    have HN4 : Hid (k.N ≤ 400) := Lib.hid (by rw [HWN.out.1]; exact (fok_of hMB.out HF.out).n1)
    obtain ⟨N, hN⟩ : ∃ x, Hid (k.N = x) := ⟨_, Lib.hid rfl⟩
    have hsl := hwk.blk.cell 10 (.slice (some ⟨k.sb, 0, none⟩) k.N k.N) rfl
    rw [hN.out] at hsl HN4
    clear hans hans2 hb4 hwk
    have hmk1 := run_made TI .i64 .i64 N (Nat.le_trans HN4.out (by decide)) w4
    obtain ⟨MC, hMC⟩ : ∃ x, Hid (madeCells TI.z.cells (N * TI.size) = x) := ⟨_, Lib.hid rfl⟩
    rw [hMC.out] at hmk1
    have hmk2 : (Instr.makeSlice 24 (.int .i64 (N : Int)) (.int .i64 (N : Int))).run Try.prog w4 = .ok (.slice (some ⟨w4.heap.size, 0, none⟩) N N) (w4.alloc (.cells MC 3)) := hmk1
    have HWK5 := Lib.hid (HWK.out.keep (balloc w4 (.cells MC 3)))
    have HST5 := Lib.hid ((HWK.out.sts.mv (Mv.weak w4 (S' := fun b => b < w4.heap.size) fun b _ h => h) rfl).keep (balloc w4 (.cells MC 3)))
    have HX5 := Lib.hid (bnext HX4.out (balloc w4 (.cells MC 3)))
    have HR5 : Hid (RowB TI (w4.alloc (.cells MC 3)) (fun _ => False) w4.heap.size (List.replicate N 0)) := Lib.hid (by
      have := rowB_made (R := TI) (S := fun _ => False) w4 (0 : Int) [] rfl (fun w' => rfl) N
      rw [hMC.out] at this
      exact this)
    have HQ : Hid (w.heap.size ≤ w4.heap.size ∧ p ≠ w4.heap.size ∧ k.sb ≠ w4.heap.size) := Lib.hid ⟨HX4.out.size, Nat.ne_of_lt HWK.out.blk.lt, Nat.ne_of_lt HWK.out.sts.lt⟩
    clear hmk1
    go_upto_region 7 with fail
    obtain ⟨Q, hQ⟩ : ∃ x, Hid (w4.heap.size = x) := ⟨_, Lib.hid rfl⟩
    rw [hQ.out] at HR5 HQ HST5
    rw [hQ.out]
    clear hmk2 hsl HX3 HX4 HWK
    generalize World.alloc w4 _ = w5 at HWK5 HX5 HR5 HST5 ⊢
    have hsl := HWK5.out.blk.cell 10 (.slice (some ⟨k.sb, 0, none⟩) k.N k.N) rfl
    rw [hN.out] at hsl
    have HAL : Hid (A.length = N) := Lib.hid (by rw [HWK5.out.len]; exact hN.out)
    have HR5 : Hid (RowB TI w5 (fun _ => False) Q (upto (A.map depO) N 0)) := Lib.hid (by unfold upto; simpa using HR5.out)
    go_wp2_with fail
    go_loopg [7, 8, 41] N (fun g s7 s8 jv wr => ∃ i : Nat, i + g = N ∧ jv = .int .i64 (i : Int) ∧ Hid (Below w.heap.size w wr) ∧ Hid (RowB TS wr (fun b => b < Q) k.sb (A.map rawP)) ∧ Hid (RowB TI wr (fun _ => False) Q (upto (A.map depO) N i)))
    case atStart => exact ⟨0, Nat.zero_add _, rfl, HX5, HST5, HR5⟩
    case round =>
      clear HX5 HWK5 HST5 HR5 hsl
      obtain ⟨i, hin, rfl, HXR, HWR, HRR⟩ := hrel
      by_cases hlt : i < N
      · obtain ⟨g, rfl⟩ : ∃ g, gk = g + 1 := ⟨gk - 1, by omega⟩
        obtain ⟨o, ho⟩ := getElem?_of_lt (l := A) (k := i) (by rw [HAL.out]; exact hlt)
        obtain ⟨q3, hLs, hq3⟩ := HWR.out.at (at_map rawP ho)
        obtain ⟨sv, qs3, rfl, hsr⟩ := hq3
        have HMS0 : RowM TM wr (fun b => b < Q) sv (rawP o).ms := ⟨sv, qs3, rfl, hsr⟩
        obtain ⟨so, sc, rfl, _⟩ := HMS0.val
        obtain ⟨SN, hSN⟩ : ∃ x, Hid ((rawP o).ms.length = x) := ⟨_, Lib.hid rfl⟩
        obtain ⟨D, hD⟩ : ∃ x, Hid (depO o = x) := ⟨_, Lib.hid rfl⟩
        have x0 : wr.cell? ⟨k.sb, i * 2, none⟩ = some (.int .i64 D) := by
          have := hLs 0 _ rfl
          rw [raw_dep, hD.out] at this
          exact this
        have x1 : wr.cell? ⟨k.sb, i * 2 + 1, none⟩ = some (.slice so SN sc) := by
          have := hLs 1 _ rfl
          rw [hSN.out] at this
          exact this
        have HD : Hid ((A.map depO)[i]? = some D) := Lib.hid (by rw [← hD.out]; simp [ho])
        have HRA := Lib.hid (HRR.out.keep (balloc wr (.cells #[.int .i64 D, .slice so SN sc] 72)))
        obtain ⟨q4, hL4, _⟩ := HRA.out.at (upto_at (l := A.map depO) (by simpa using HAL.out) hlt)
        have y0 : (wr.alloc (.cells #[.int .i64 D, .slice so SN sc] 72)).cell? ⟨Q, i, none⟩ = some (.int .i64 0) := by
          have := hL4 0 _ rfl
          have e : i * TI.size + 0 = i := Nat.mul_one i
          rw [e] at this
          exact this
        have z0 := HRA.out.free i
        have i4 : (0 : Int) ≤ (i : Int) := by omega
        have i5 : (i : Int) < (N : Int) := by omega
        clear hLs hL4 ho hsr HMS0
        have HNX : Hid (RowB TI ((wr.alloc (.cells #[.int .i64 D, .slice so SN sc] 72)).setCell ⟨Q, i, none⟩ (.int .i64 D)) (fun _ => False) Q (upto (A.map depO) N (i + 1))) := Lib.hid (by
          have := HRA.out.set (i := i) (j := 0) (p := D) (v := .int .i64 D) (upto_at (l := A.map depO) (by simpa using HAL.out) hlt) (fun x h => h.elim) (by decide) (fun q hq => ⟨q, rfl, hq⟩)
          have e : i * TI.size + 0 = i := Nat.mul_one i
          rw [e, upto_set (by simpa using HAL.out) hlt HD.out] at this
          exact this)
        have HXN := Lib.hid ((bnext HXR.out (balloc wr (.cells #[.int .i64 D, .slice so SN sc] 72))).setCell (p := ⟨Q, i, none⟩) HQ.out.1 (.int .i64 D))
        have HWN2 := Lib.hid ((HWR.out.keep (balloc wr (.cells #[.int .i64 D, .slice so SN sc] 72))).other (b' := Q) (fun x h => Nat.ne_of_lt h) HQ.out.2.2 i (.int .i64 D))
        go_wp2_with fail
        go_roundg g
        case rel => exact ⟨i + 1, by omega, by have := HN4.out; congr 1; unfold wrap64; omega, HXN, HWN2, HNX⟩
        case measure => omega
      · have hiN : i = N := by omega
        have hrow := HRR.out
        rw [hiN, upto_end (by simpa using HAL.out)] at hrow
        have hrr := hrow.row N (by simp [HAL.out])
        rw [show (A.map depO).length = N by simpa using HAL.out] at hrr
        have HRES : Hid (DepthsRes c (n : Int) w (.returned (.slice (some ⟨Q, 0, none⟩) N N)) wr) := Lib.hid ⟨HXR.out, _, _, rfl, hrr, (fun b h => by cases h; exact HQ.out.1), .inr ⟨n, f, rfl, hMB.out, HF.out, .inl ⟨A, HANS.out, rfl⟩⟩⟩
        clear hrow hrr hiN
        go_wp2_with fail
        go_ret
        exact HRES.out
end Go.Proofs.Ytkhdkepjhifffaa.VP
