/- Rows of flat things read, by the program: the walks. -/
import Derived.Test.YtpommjmlenfknaaQG
namespace Go.Proofs.Ytpommjmlenfknaa.QH
open Go.RowKit Go.Proofs.Ytpommjmlenfknaa.RG Go.Proofs.Ytpommjmlenfknaa.KA Go.Proofs.Ytpommjmlenfknaa.KB Go.Proofs.Ytpommjmlenfknaa.KD Go.Proofs.Ytpommjmlenfknaa.KH Go.Proofs.Ytpommjmlenfknaa.PE Go.Proofs.Ytpommjmlenfknaa.PL Go.Proofs.Ytpommjmlenfknaa.QA Go.Proofs.Ytpommjmlenfknaa.QB Go.Proofs.Ytpommjmlenfknaa.QC Go.Proofs.Ytpommjmlenfknaa.QE Go.Proofs.Ytpommjmlenfknaa.QF Go.Proofs.Ytpommjmlenfknaa.QG
set_option linter.unusedVariables false
set_option maxRecDepth 100000
set_option maxRecDepth 100000

theorem _root_.Go.Proofs.Ytpommjmlenfknaa.QF.RdM.grown {w0 w w' : World} {B x y : Nat} {s : St} {row : Option Nat} (h : RdM w0 w x y s) (hg : w.grownBy w' row) (hr : ∀ b, row = some b → B ≤ b) (hx : x < B) (hy : y < B) : RdM w0 w' x y s := by
  obtain ⟨rv, h1, h2⟩ := h.rest
  have e0 : w0.heap.size ≤ B := by have := h.hx; omega
  exact ⟨⟨rv, h1.grown hg (fun e => by have := hr x e; omega), h2⟩, h.short.grown hg (fun e => by have := hr y e; omega), h.old.trans (bgrown hg (fun b hb => Nat.le_trans e0 (hr b hb)) h.old.size), h.hx, h.hy, h.hne, h.few⟩
theorem _root_.Go.Proofs.Ytpommjmlenfknaa.QF.On.grown {x y : Nat} {w0 w w' : World} {row : Option Nat} (h : On x y w0 w) (hg : w.grownBy w' row) (hr : ∀ b, row = some b → w0.heap.size ≤ b) : On x y w0 w' :=
  ⟨hg.os.trans h.os, hg.tape.trans h.tape, hg.output.trans h.output, Nat.le_trans h.size hg.size, fun k hk hx hy => (hg.block k (Nat.lt_of_lt_of_le hk h.size) (fun e => by have := hr k e.symm; omega)).trans (h.block k hk hx hy)⟩
set_option maxHeartbeats 8000000 in
theorem listI_c (w0 w : World) (x y z : Nat) (s : St) (h : RdM w0 w x y s) (hz : Bk w z #[NX x y] 77) (hzx : z ≠ x) (hzy : z ≠ y) :
    Calls Try.prog 38 #[NX x y, .int .i64 1, .int .i64 120, .func (.func 39) #[] #[.pointer (some ⟨z, 0, none⟩)]] w fun e w' => ∃ v, e = .returned v ∧ OwnF TI w' w.heap.size v (listP 1 120 (numP 8) s).1 ∧ RdM w0 w' x y (listP 1 120 (numP 8) s).2 ∧ On x y w w' := by
  obtain ⟨rv0, hbx0, _⟩ := h.rest
  have hxl := hbx0.lt
  have hyl := h.short.lt
  clear hbx0
  have HZ := Lib.hid hz
  have HN := Lib.hid (next_z w0 w x y s 1 1 rfl h (by decide))
  have hlen := nx_len 1 s
  have HL := Lib.hid hlen
  obtain ⟨k, hk⟩ : ∃ k : Nat, num (nx 1 s).1 = (k : Int) := ⟨le (nx 1 s).1, num_le (by omega)⟩
  have hkb : k ≤ 255 := by
    have h1 := le_lt (nx 1 s).1
    have h2 : 256 ^ (nx 1 s).1.length ≤ 256 ^ 1 := Nat.pow_le_pow_right (by decide) hlen
    have h3 := num_le (b := (nx 1 s).1) (by omega)
    omega
  obtain ⟨K, hK⟩ : ∃ K : Nat, min (k : Int) 121 = (K : Int) := ⟨min k 121, by omega⟩
  have hKb : K ≤ 121 := by omega
  have hlp : listP 1 120 (numP 8) s = many (numP 8) K (nx 1 s).2 := by
    show many (numP 8) (min (num (nx 1 s).1) (((120 : Nat) : Int) + 1)).toNat (nx 1 s).2 = _
    rw [hk, show min (k : Int) (((120 : Nat) : Int) + 1) = (K : Int) by omega]
    rfl
  rw [hlp]
  have HK := Lib.hid hk
  clear h hz hlen hlp hk
  generalize nx 1 s = r at HN HL HK ⊢
  have hcase : ((k : Int) ≤ 121 ∧ K = k) ∨ (¬ (k : Int) ≤ 121 ∧ K = 121) := by omega
  clear hK
  rcases hcase with ⟨q1, rfl⟩ | ⟨q1, rfl⟩
  · skip
    go_enter Try.func38, Try.ntmps38
    go_wp2_with fail
    refine HN.out.mono ?_
    rintro e w1 ⟨v1, rfl, hr1, hm1, ho1⟩
    have HNum := number_c v1 r.1 w1 _ (RowR.keep_old hr1 hm1) (by have := HL.out; omega)
    rw [HK.out] at HNum
    have HM1 := Lib.hid hm1
    have HO1 := Lib.hid ho1
    clear hr1 hm1 ho1 HN
    go_wp2_with fail
    refine HNum.mono ?_
    rintro e w2 ⟨rfl, he2⟩
    obtain rfl := he2.symm
    clear HNum
    have HO0 := Lib.hid (OwnR.nil (R := TI) w1 w.heap.size (fun _ => False))
    go_wp2_with fail
    go_loopg [9, 17] K (fun g lv iv wr => ∃ i : Nat, i + g = K ∧ iv = .int .i64 (i : Int) ∧ Hid (OwnF TI wr w.heap.size lv (many (numP 8) i r.2).1) ∧ Hid (RdM w0 wr x y (many (numP 8) i r.2).2) ∧ Hid (On x y w wr))
    case atStart => exact ⟨0, Nat.zero_add _, rfl, HO0, HM1, HO1⟩
    case round =>
      obtain ⟨i, hi, rfl, HO, HM, HW⟩ := hrel
      clear HO0 HM1 HO1
      by_cases hlt : i < K
      · obtain ⟨g, rfl⟩ : ∃ g, gk = g + 1 := ⟨gk - 1, by omega⟩
        have i0 : (0 : Int) ≤ (i : Int) := by omega
        have HT := Lib.hid (int_c w0 wr x y z _ HM.out (HW.out.bk HZ.out hzx hzy))
        have HSN := Lib.hid (many_snoc (p := (numP 8)) i r.2)
        obtain ⟨pr, hpr⟩ : ∃ pr, Hid ((numP 8) (many (numP 8) i r.2).2 = pr) := ⟨_, Lib.hid rfl⟩
        rw [hpr.out] at HT HSN
        have hml : (many (numP 8) i r.2).1.length = i := many_len _ _
        go_wp2_with fail
        refine HT.out.mono ?_
        rintro e w3 ⟨rfl, hm3, ho3⟩
        have HM3 := Lib.hid hm3
        have HO3 := Lib.hid ho3
        have hown := own_on HO.out ho3 hxl hyl (fun b hb => hb.elim)
        have HOW := Lib.hid (fun b hb => hown.own (b := b) hb)
        have HOA := Lib.hid (hown.keep (balloc w3 (.cells #[.int .i64 pr.1] 3)))
        have HR := Lib.hid (show RowR TI (w3.alloc (.cells #[.int .i64 pr.1] 3)) (fun b => False ∧ Value.ownBlock u9 ≠ some b) (.slice (some ⟨w3.heap.size, 0, none⟩) 1 1) [pr.1] from rowR_new (q := []) #[.int .i64 pr.1] 3 rfl rfl)
        have HLN := Lib.hid (show (many (numP 8) i r.2).1.length + [pr.1].length ≤ 100000000000 by rw [hml]; simp; omega)
        have HBS := Lib.hid (show w.heap.size ≤ (w3.alloc (.cells #[.int .i64 pr.1] 3)).heap.size from Nat.le_trans (HW.out.trans ho3).size (balloc w3 _).size)
        clear hm3 ho3 hown HT hml
        go_wp2_with (at_builtin; go_loud (refine wpList_row TI (w3.alloc (.cells #[.int .i64 pr.1] 3)) rfl (.tmp 19) (.tmp 22) rfl w.heap.size (fun _ => False) u9 (.slice (some ⟨w3.heap.size, 0, none⟩) 1 1) (many (numP 8) i r.2).1 [pr.1] rfl rfl HOA.out HR.out HLN.out HBS.out ?_); intro ao6 n6 cap6 w6 hO6 hn6 hg6 ha6; clear hn6; have HO6 := Lib.hid hO6; have HB6 := Lib.hid (bgrown hg6 (fun b hb => (HOW.out b hb).1) HBS.out); have HM6 := Lib.hid ((HM3.out.keep (balloc w3 (.cells #[.int .i64 pr.1] 3))).grown hg6 (fun b hb => (HOW.out b hb).1) hxl hyl); have HW6 := Lib.hid ((HW.out.trans (HO3.out.trans (On.of (balloc w3 (.cells #[.int .i64 pr.1] 3))))).grown hg6 (fun b hb => (HOW.out b hb).1)); clear hO6 hg6 ha6)
        go_roundg g
        case rel => exact ⟨i + 1, by omega, by go_num, Lib.hid (by rw [HSN.out]; exact HO6.out), Lib.hid (by rw [HSN.out]; exact HM6.out), HW6⟩
        case measure => omega
      · have hiK : i = K := by omega
        subst hiK
        go_wp2_with fail
        go_ret
        exact ⟨_, rfl, HO.out, HM.out, HW.out⟩
  · skip
    go_enter Try.func38, Try.ntmps38
    go_wp2_with fail
    refine HN.out.mono ?_
    rintro e w1 ⟨v1, rfl, hr1, hm1, ho1⟩
    have HNum := number_c v1 r.1 w1 _ (RowR.keep_old hr1 hm1) (by have := HL.out; omega)
    rw [HK.out] at HNum
    have HM1 := Lib.hid hm1
    have HO1 := Lib.hid ho1
    clear hr1 hm1 ho1 HN
    go_wp2_with fail
    refine HNum.mono ?_
    rintro e w2 ⟨rfl, he2⟩
    obtain rfl := he2.symm
    clear HNum
    have HO0 := Lib.hid (OwnR.nil (R := TI) w1 w.heap.size (fun _ => False))
    go_wp2_with fail
    go_loopg [9, 17] 121 (fun g lv iv wr => ∃ i : Nat, i + g = 121 ∧ iv = .int .i64 (i : Int) ∧ Hid (OwnF TI wr w.heap.size lv (many (numP 8) i r.2).1) ∧ Hid (RdM w0 wr x y (many (numP 8) i r.2).2) ∧ Hid (On x y w wr))
    case atStart => exact ⟨0, Nat.zero_add _, rfl, HO0, HM1, HO1⟩
    case round =>
      obtain ⟨i, hi, rfl, HO, HM, HW⟩ := hrel
      clear HO0 HM1 HO1
      by_cases hlt : i < 121
      · obtain ⟨g, rfl⟩ : ∃ g, gk = g + 1 := ⟨gk - 1, by omega⟩
        have i0 : (0 : Int) ≤ (i : Int) := by omega
        have HT := Lib.hid (int_c w0 wr x y z _ HM.out (HW.out.bk HZ.out hzx hzy))
        have HSN := Lib.hid (many_snoc (p := (numP 8)) i r.2)
        obtain ⟨pr, hpr⟩ : ∃ pr, Hid ((numP 8) (many (numP 8) i r.2).2 = pr) := ⟨_, Lib.hid rfl⟩
        rw [hpr.out] at HT HSN
        have hml : (many (numP 8) i r.2).1.length = i := many_len _ _
        go_wp2_with fail
        refine HT.out.mono ?_
        rintro e w3 ⟨rfl, hm3, ho3⟩
        have HM3 := Lib.hid hm3
        have HO3 := Lib.hid ho3
        have hown := own_on HO.out ho3 hxl hyl (fun b hb => hb.elim)
        have HOW := Lib.hid (fun b hb => hown.own (b := b) hb)
        have HOA := Lib.hid (hown.keep (balloc w3 (.cells #[.int .i64 pr.1] 3)))
        have HR := Lib.hid (show RowR TI (w3.alloc (.cells #[.int .i64 pr.1] 3)) (fun b => False ∧ Value.ownBlock u9 ≠ some b) (.slice (some ⟨w3.heap.size, 0, none⟩) 1 1) [pr.1] from rowR_new (q := []) #[.int .i64 pr.1] 3 rfl rfl)
        have HLN := Lib.hid (show (many (numP 8) i r.2).1.length + [pr.1].length ≤ 100000000000 by rw [hml]; simp; omega)
        have HBS := Lib.hid (show w.heap.size ≤ (w3.alloc (.cells #[.int .i64 pr.1] 3)).heap.size from Nat.le_trans (HW.out.trans ho3).size (balloc w3 _).size)
        clear hm3 ho3 hown HT hml
        go_wp2_with (at_builtin; go_loud (refine wpList_row TI (w3.alloc (.cells #[.int .i64 pr.1] 3)) rfl (.tmp 19) (.tmp 22) rfl w.heap.size (fun _ => False) u9 (.slice (some ⟨w3.heap.size, 0, none⟩) 1 1) (many (numP 8) i r.2).1 [pr.1] rfl rfl HOA.out HR.out HLN.out HBS.out ?_); intro ao6 n6 cap6 w6 hO6 hn6 hg6 ha6; clear hn6; have HO6 := Lib.hid hO6; have HB6 := Lib.hid (bgrown hg6 (fun b hb => (HOW.out b hb).1) HBS.out); have HM6 := Lib.hid ((HM3.out.keep (balloc w3 (.cells #[.int .i64 pr.1] 3))).grown hg6 (fun b hb => (HOW.out b hb).1) hxl hyl); have HW6 := Lib.hid ((HW.out.trans (HO3.out.trans (On.of (balloc w3 (.cells #[.int .i64 pr.1] 3))))).grown hg6 (fun b hb => (HOW.out b hb).1)); clear hO6 hg6 ha6)
        go_roundg g
        case rel => exact ⟨i + 1, by omega, by go_num, Lib.hid (by rw [HSN.out]; exact HO6.out), Lib.hid (by rw [HSN.out]; exact HM6.out), HW6⟩
        case measure => omega
      · have hiK : i = 121 := by omega
        subst hiK
        go_wp2_with fail
        go_ret
        exact ⟨_, rfl, HO.out, HM.out, HW.out⟩

set_option maxHeartbeats 8000000 in
theorem listT_c (w0 w : World) (x y z : Nat) (s : St) (h : RdM w0 w x y s) (hz : Bk w z #[NX x y] 77) (hzx : z ≠ x) (hzy : z ≠ y) :
    Calls Try.prog 40 #[NX x y, .int .i64 1, .int .i64 120, .func (.func 41) #[] #[.pointer (some ⟨z, 0, none⟩)]] w fun e w' => ∃ v, e = .returned v ∧ OwnF TT w' w.heap.size v (listP 1 120 textP s).1 ∧ RdM w0 w' x y (listP 1 120 textP s).2 ∧ On x y w w' := by
  obtain ⟨rv0, hbx0, _⟩ := h.rest
  have hxl := hbx0.lt
  have hyl := h.short.lt
  clear hbx0
  have HZ := Lib.hid hz
  have HN := Lib.hid (next_z w0 w x y s 1 1 rfl h (by decide))
  have hlen := nx_len 1 s
  have HL := Lib.hid hlen
  obtain ⟨k, hk⟩ : ∃ k : Nat, num (nx 1 s).1 = (k : Int) := ⟨le (nx 1 s).1, num_le (by omega)⟩
  have hkb : k ≤ 255 := by
    have h1 := le_lt (nx 1 s).1
    have h2 : 256 ^ (nx 1 s).1.length ≤ 256 ^ 1 := Nat.pow_le_pow_right (by decide) hlen
    have h3 := num_le (b := (nx 1 s).1) (by omega)
    omega
  obtain ⟨K, hK⟩ : ∃ K : Nat, min (k : Int) 121 = (K : Int) := ⟨min k 121, by omega⟩
  have hKb : K ≤ 121 := by omega
  have hlp : listP 1 120 textP s = many textP K (nx 1 s).2 := by
    show many textP (min (num (nx 1 s).1) (((120 : Nat) : Int) + 1)).toNat (nx 1 s).2 = _
    rw [hk, show min (k : Int) (((120 : Nat) : Int) + 1) = (K : Int) by omega]
    rfl
  rw [hlp]
  have HK := Lib.hid hk
  clear h hz hlen hlp hk
  generalize nx 1 s = r at HN HL HK ⊢
  have hcase : ((k : Int) ≤ 121 ∧ K = k) ∨ (¬ (k : Int) ≤ 121 ∧ K = 121) := by omega
  clear hK
  rcases hcase with ⟨q1, rfl⟩ | ⟨q1, rfl⟩
  · skip
    go_enter Try.func40, Try.ntmps40
    go_wp2_with fail
    refine HN.out.mono ?_
    rintro e w1 ⟨v1, rfl, hr1, hm1, ho1⟩
    have HNum := number_c v1 r.1 w1 _ (RowR.keep_old hr1 hm1) (by have := HL.out; omega)
    rw [HK.out] at HNum
    have HM1 := Lib.hid hm1
    have HO1 := Lib.hid ho1
    clear hr1 hm1 ho1 HN
    go_wp2_with fail
    refine HNum.mono ?_
    rintro e w2 ⟨rfl, he2⟩
    obtain rfl := he2.symm
    clear HNum
    have HO0 := Lib.hid (OwnR.nil (R := TT) w1 w.heap.size (fun _ => False))
    go_wp2_with fail
    go_loopg [9, 17] K (fun g lv iv wr => ∃ i : Nat, i + g = K ∧ iv = .int .i64 (i : Int) ∧ Hid (OwnF TT wr w.heap.size lv (many textP i r.2).1) ∧ Hid (RdM w0 wr x y (many textP i r.2).2) ∧ Hid (On x y w wr))
    case atStart => exact ⟨0, Nat.zero_add _, rfl, HO0, HM1, HO1⟩
    case round =>
      obtain ⟨i, hi, rfl, HO, HM, HW⟩ := hrel
      clear HO0 HM1 HO1
      by_cases hlt : i < K
      · obtain ⟨g, rfl⟩ : ∃ g, gk = g + 1 := ⟨gk - 1, by omega⟩
        have i0 : (0 : Int) ≤ (i : Int) := by omega
        have HT := Lib.hid (text_c w0 wr x y z _ HM.out (HW.out.bk HZ.out hzx hzy) hzx hzy)
        have HSN := Lib.hid (many_snoc (p := textP) i r.2)
        obtain ⟨pr, hpr⟩ : ∃ pr, Hid (textP (many textP i r.2).2 = pr) := ⟨_, Lib.hid rfl⟩
        rw [hpr.out] at HT HSN
        have hml : (many textP i r.2).1.length = i := many_len _ _
        go_wp2_with fail
        refine HT.out.mono ?_
        rintro e w3 ⟨rfl, hm3, ho3⟩
        have HM3 := Lib.hid hm3
        have HO3 := Lib.hid ho3
        have hown := own_on HO.out ho3 hxl hyl (fun b hb => hb.elim)
        have HOW := Lib.hid (fun b hb => hown.own (b := b) hb)
        have HOA := Lib.hid (hown.keep (balloc w3 (.cells #[.string ⟨pr.1.toArray⟩] 9)))
        have HR := Lib.hid (show RowR TT (w3.alloc (.cells #[.string ⟨pr.1.toArray⟩] 9)) (fun b => False ∧ Value.ownBlock u9 ≠ some b) (.slice (some ⟨w3.heap.size, 0, none⟩) 1 1) [pr.1] from rowR_new (q := []) #[.string ⟨pr.1.toArray⟩] 9 rfl rfl)
        have HLN := Lib.hid (show (many textP i r.2).1.length + [pr.1].length ≤ 100000000000 by rw [hml]; simp; omega)
        have HBS := Lib.hid (show w.heap.size ≤ (w3.alloc (.cells #[.string ⟨pr.1.toArray⟩] 9)).heap.size from Nat.le_trans (HW.out.trans ho3).size (balloc w3 _).size)
        clear hm3 ho3 hown HT hml
        go_wp2_with (at_builtin; go_loud (refine wpList_row TT (w3.alloc (.cells #[.string ⟨pr.1.toArray⟩] 9)) rfl (.tmp 19) (.tmp 22) rfl w.heap.size (fun _ => False) u9 (.slice (some ⟨w3.heap.size, 0, none⟩) 1 1) (many textP i r.2).1 [pr.1] rfl rfl HOA.out HR.out HLN.out HBS.out ?_); intro ao6 n6 cap6 w6 hO6 hn6 hg6 ha6; clear hn6; have HO6 := Lib.hid hO6; have HB6 := Lib.hid (bgrown hg6 (fun b hb => (HOW.out b hb).1) HBS.out); have HM6 := Lib.hid ((HM3.out.keep (balloc w3 (.cells #[.string ⟨pr.1.toArray⟩] 9))).grown hg6 (fun b hb => (HOW.out b hb).1) hxl hyl); have HW6 := Lib.hid ((HW.out.trans (HO3.out.trans (On.of (balloc w3 (.cells #[.string ⟨pr.1.toArray⟩] 9))))).grown hg6 (fun b hb => (HOW.out b hb).1)); clear hO6 hg6 ha6)
        go_roundg g
        case rel => exact ⟨i + 1, by omega, by go_num, Lib.hid (by rw [HSN.out]; exact HO6.out), Lib.hid (by rw [HSN.out]; exact HM6.out), HW6⟩
        case measure => omega
      · have hiK : i = K := by omega
        subst hiK
        go_wp2_with fail
        go_ret
        exact ⟨_, rfl, HO.out, HM.out, HW.out⟩
  · skip
    go_enter Try.func40, Try.ntmps40
    go_wp2_with fail
    refine HN.out.mono ?_
    rintro e w1 ⟨v1, rfl, hr1, hm1, ho1⟩
    have HNum := number_c v1 r.1 w1 _ (RowR.keep_old hr1 hm1) (by have := HL.out; omega)
    rw [HK.out] at HNum
    have HM1 := Lib.hid hm1
    have HO1 := Lib.hid ho1
    clear hr1 hm1 ho1 HN
    go_wp2_with fail
    refine HNum.mono ?_
    rintro e w2 ⟨rfl, he2⟩
    obtain rfl := he2.symm
    clear HNum
    have HO0 := Lib.hid (OwnR.nil (R := TT) w1 w.heap.size (fun _ => False))
    go_wp2_with fail
    go_loopg [9, 17] 121 (fun g lv iv wr => ∃ i : Nat, i + g = 121 ∧ iv = .int .i64 (i : Int) ∧ Hid (OwnF TT wr w.heap.size lv (many textP i r.2).1) ∧ Hid (RdM w0 wr x y (many textP i r.2).2) ∧ Hid (On x y w wr))
    case atStart => exact ⟨0, Nat.zero_add _, rfl, HO0, HM1, HO1⟩
    case round =>
      obtain ⟨i, hi, rfl, HO, HM, HW⟩ := hrel
      clear HO0 HM1 HO1
      by_cases hlt : i < 121
      · obtain ⟨g, rfl⟩ : ∃ g, gk = g + 1 := ⟨gk - 1, by omega⟩
        have i0 : (0 : Int) ≤ (i : Int) := by omega
        have HT := Lib.hid (text_c w0 wr x y z _ HM.out (HW.out.bk HZ.out hzx hzy) hzx hzy)
        have HSN := Lib.hid (many_snoc (p := textP) i r.2)
        obtain ⟨pr, hpr⟩ : ∃ pr, Hid (textP (many textP i r.2).2 = pr) := ⟨_, Lib.hid rfl⟩
        rw [hpr.out] at HT HSN
        have hml : (many textP i r.2).1.length = i := many_len _ _
        go_wp2_with fail
        refine HT.out.mono ?_
        rintro e w3 ⟨rfl, hm3, ho3⟩
        have HM3 := Lib.hid hm3
        have HO3 := Lib.hid ho3
        have hown := own_on HO.out ho3 hxl hyl (fun b hb => hb.elim)
        have HOW := Lib.hid (fun b hb => hown.own (b := b) hb)
        have HOA := Lib.hid (hown.keep (balloc w3 (.cells #[.string ⟨pr.1.toArray⟩] 9)))
        have HR := Lib.hid (show RowR TT (w3.alloc (.cells #[.string ⟨pr.1.toArray⟩] 9)) (fun b => False ∧ Value.ownBlock u9 ≠ some b) (.slice (some ⟨w3.heap.size, 0, none⟩) 1 1) [pr.1] from rowR_new (q := []) #[.string ⟨pr.1.toArray⟩] 9 rfl rfl)
        have HLN := Lib.hid (show (many textP i r.2).1.length + [pr.1].length ≤ 100000000000 by rw [hml]; simp; omega)
        have HBS := Lib.hid (show w.heap.size ≤ (w3.alloc (.cells #[.string ⟨pr.1.toArray⟩] 9)).heap.size from Nat.le_trans (HW.out.trans ho3).size (balloc w3 _).size)
        clear hm3 ho3 hown HT hml
        go_wp2_with (at_builtin; go_loud (refine wpList_row TT (w3.alloc (.cells #[.string ⟨pr.1.toArray⟩] 9)) rfl (.tmp 19) (.tmp 22) rfl w.heap.size (fun _ => False) u9 (.slice (some ⟨w3.heap.size, 0, none⟩) 1 1) (many textP i r.2).1 [pr.1] rfl rfl HOA.out HR.out HLN.out HBS.out ?_); intro ao6 n6 cap6 w6 hO6 hn6 hg6 ha6; clear hn6; have HO6 := Lib.hid hO6; have HB6 := Lib.hid (bgrown hg6 (fun b hb => (HOW.out b hb).1) HBS.out); have HM6 := Lib.hid ((HM3.out.keep (balloc w3 (.cells #[.string ⟨pr.1.toArray⟩] 9))).grown hg6 (fun b hb => (HOW.out b hb).1) hxl hyl); have HW6 := Lib.hid ((HW.out.trans (HO3.out.trans (On.of (balloc w3 (.cells #[.string ⟨pr.1.toArray⟩] 9))))).grown hg6 (fun b hb => (HOW.out b hb).1)); clear hO6 hg6 ha6)
        go_roundg g
        case rel => exact ⟨i + 1, by omega, by go_num, Lib.hid (by rw [HSN.out]; exact HO6.out), Lib.hid (by rw [HSN.out]; exact HM6.out), HW6⟩
        case measure => omega
      · have hiK : i = 121 := by omega
        subst hiK
        go_wp2_with fail
        go_ret
        exact ⟨_, rfl, HO.out, HM.out, HW.out⟩

set_option maxHeartbeats 8000000 in
theorem listN_c (w0 w : World) (x y z : Nat) (s : St) (h : RdM w0 w x y s) (hz : Bk w z #[NX x y] 77) (hzx : z ≠ x) (hzy : z ≠ y) :
    Calls Try.prog 64 #[NX x y, .int .i64 2, .int .i64 400, .func (.func 65) #[] #[.pointer (some ⟨z, 0, none⟩)]] w fun e w' => ∃ v, e = .returned v ∧ OwnF TN w' w.heap.size v (listP 2 400 insP s).1 ∧ RdM w0 w' x y (listP 2 400 insP s).2 ∧ On x y w w' := by
  obtain ⟨rv0, hbx0, _⟩ := h.rest
  have hxl := hbx0.lt
  have hyl := h.short.lt
  clear hbx0
  have HZ := Lib.hid hz
  have HN := Lib.hid (next_z w0 w x y s 2 2 rfl h (by decide))
  have hlen := nx_len 2 s
  have HL := Lib.hid hlen
  obtain ⟨k, hk⟩ : ∃ k : Nat, num (nx 2 s).1 = (k : Int) := ⟨le (nx 2 s).1, num_le (by omega)⟩
  have hkb : k ≤ 65535 := by
    have h1 := le_lt (nx 2 s).1
    have h2 : 256 ^ (nx 2 s).1.length ≤ 256 ^ 2 := Nat.pow_le_pow_right (by decide) hlen
    have h3 := num_le (b := (nx 2 s).1) (by omega)
    omega
  obtain ⟨K, hK⟩ : ∃ K : Nat, min (k : Int) 401 = (K : Int) := ⟨min k 401, by omega⟩
  have hKb : K ≤ 401 := by omega
  have hlp : listP 2 400 insP s = many insP K (nx 2 s).2 := by
    show many insP (min (num (nx 2 s).1) (((400 : Nat) : Int) + 1)).toNat (nx 2 s).2 = _
    rw [hk, show min (k : Int) (((400 : Nat) : Int) + 1) = (K : Int) by omega]
    rfl
  rw [hlp]
  have HK := Lib.hid hk
  clear h hz hlen hlp hk
  generalize nx 2 s = r at HN HL HK ⊢
  have hcase : ((k : Int) ≤ 401 ∧ K = k) ∨ (¬ (k : Int) ≤ 401 ∧ K = 401) := by omega
  clear hK
  rcases hcase with ⟨q1, rfl⟩ | ⟨q1, rfl⟩
  · skip
    go_enter Try.func64, Try.ntmps64
    go_wp2_with fail
    refine HN.out.mono ?_
    rintro e w1 ⟨v1, rfl, hr1, hm1, ho1⟩
    have HNum := number_c v1 r.1 w1 _ (RowR.keep_old hr1 hm1) (by have := HL.out; omega)
    rw [HK.out] at HNum
    have HM1 := Lib.hid hm1
    have HO1 := Lib.hid ho1
    clear hr1 hm1 ho1 HN
    go_wp2_with fail
    refine HNum.mono ?_
    rintro e w2 ⟨rfl, he2⟩
    obtain rfl := he2.symm
    clear HNum
    have HO0 := Lib.hid (OwnR.nil (R := TN) w1 w.heap.size (fun _ => False))
    go_wp2_with fail
    go_loopg [9, 17] K (fun g lv iv wr => ∃ i : Nat, i + g = K ∧ iv = .int .i64 (i : Int) ∧ Hid (OwnF TN wr w.heap.size lv (many insP i r.2).1) ∧ Hid (RdM w0 wr x y (many insP i r.2).2) ∧ Hid (On x y w wr))
    case atStart => exact ⟨0, Nat.zero_add _, rfl, HO0, HM1, HO1⟩
    case round =>
      obtain ⟨i, hi, rfl, HO, HM, HW⟩ := hrel
      clear HO0 HM1 HO1
      by_cases hlt : i < K
      · obtain ⟨g, rfl⟩ : ∃ g, gk = g + 1 := ⟨gk - 1, by omega⟩
        have i0 : (0 : Int) ≤ (i : Int) := by omega
        have HT := Lib.hid (ins_c w0 wr x y z _ HM.out (HW.out.bk HZ.out hzx hzy) hzx hzy (Nat.lt_of_lt_of_le hxl HW.out.size) (Nat.lt_of_lt_of_le hyl HW.out.size))
        have HSN := Lib.hid (many_snoc (p := insP) i r.2)
        obtain ⟨pr, hpr⟩ : ∃ pr, Hid (insP (many insP i r.2).2 = pr) := ⟨_, Lib.hid rfl⟩
        rw [hpr.out] at HT HSN
        have hml : (many insP i r.2).1.length = i := many_len _ _
        go_wp2_with fail
        refine HT.out.mono ?_
        rintro e w3 ⟨rfl, hm3, ho3⟩
        have HM3 := Lib.hid hm3
        have HO3 := Lib.hid ho3
        have hown := own_on HO.out ho3 hxl hyl (fun b hb => hb.elim)
        have HOW := Lib.hid (fun b hb => hown.own (b := b) hb)
        have HOA := Lib.hid (hown.keep (balloc w3 (.cells #[.int .i64 pr.1.op, .int .i64 pr.1.a, .int .i64 pr.1.b] 45)))
        have HR := Lib.hid (show RowR TN (w3.alloc (.cells #[.int .i64 pr.1.op, .int .i64 pr.1.a, .int .i64 pr.1.b] 45)) (fun b => False ∧ Value.ownBlock u9 ≠ some b) (.slice (some ⟨w3.heap.size, 0, none⟩) 1 1) [pr.1] from rowR_new (q := []) #[.int .i64 pr.1.op, .int .i64 pr.1.a, .int .i64 pr.1.b] 45 rfl rfl)
        have HLN := Lib.hid (show (many insP i r.2).1.length + [pr.1].length ≤ 100000000000 by rw [hml]; simp; omega)
        have HBS := Lib.hid (show w.heap.size ≤ (w3.alloc (.cells #[.int .i64 pr.1.op, .int .i64 pr.1.a, .int .i64 pr.1.b] 45)).heap.size from Nat.le_trans (HW.out.trans ho3).size (balloc w3 _).size)
        clear hm3 ho3 hown HT hml
        go_wp2_with (at_builtin; go_loud (refine wpList_row TN (w3.alloc (.cells #[.int .i64 pr.1.op, .int .i64 pr.1.a, .int .i64 pr.1.b] 45)) rfl (.tmp 19) (.tmp 22) rfl w.heap.size (fun _ => False) u9 (.slice (some ⟨w3.heap.size, 0, none⟩) 1 1) (many insP i r.2).1 [pr.1] rfl rfl HOA.out HR.out HLN.out HBS.out ?_); intro ao6 n6 cap6 w6 hO6 hn6 hg6 ha6; clear hn6; have HO6 := Lib.hid hO6; have HB6 := Lib.hid (bgrown hg6 (fun b hb => (HOW.out b hb).1) HBS.out); have HM6 := Lib.hid ((HM3.out.keep (balloc w3 (.cells #[.int .i64 pr.1.op, .int .i64 pr.1.a, .int .i64 pr.1.b] 45))).grown hg6 (fun b hb => (HOW.out b hb).1) hxl hyl); have HW6 := Lib.hid ((HW.out.trans (HO3.out.trans (On.of (balloc w3 (.cells #[.int .i64 pr.1.op, .int .i64 pr.1.a, .int .i64 pr.1.b] 45))))).grown hg6 (fun b hb => (HOW.out b hb).1)); clear hO6 hg6 ha6)
        go_roundg g
        case rel => exact ⟨i + 1, by omega, by go_num, Lib.hid (by rw [HSN.out]; exact HO6.out), Lib.hid (by rw [HSN.out]; exact HM6.out), HW6⟩
        case measure => omega
      · have hiK : i = K := by omega
        subst hiK
        go_wp2_with fail
        go_ret
        exact ⟨_, rfl, HO.out, HM.out, HW.out⟩
  · skip
    go_enter Try.func64, Try.ntmps64
    go_wp2_with fail
    refine HN.out.mono ?_
    rintro e w1 ⟨v1, rfl, hr1, hm1, ho1⟩
    have HNum := number_c v1 r.1 w1 _ (RowR.keep_old hr1 hm1) (by have := HL.out; omega)
    rw [HK.out] at HNum
    have HM1 := Lib.hid hm1
    have HO1 := Lib.hid ho1
    clear hr1 hm1 ho1 HN
    go_wp2_with fail
    refine HNum.mono ?_
    rintro e w2 ⟨rfl, he2⟩
    obtain rfl := he2.symm
    clear HNum
    have HO0 := Lib.hid (OwnR.nil (R := TN) w1 w.heap.size (fun _ => False))
    go_wp2_with fail
    go_loopg [9, 17] 401 (fun g lv iv wr => ∃ i : Nat, i + g = 401 ∧ iv = .int .i64 (i : Int) ∧ Hid (OwnF TN wr w.heap.size lv (many insP i r.2).1) ∧ Hid (RdM w0 wr x y (many insP i r.2).2) ∧ Hid (On x y w wr))
    case atStart => exact ⟨0, Nat.zero_add _, rfl, HO0, HM1, HO1⟩
    case round =>
      obtain ⟨i, hi, rfl, HO, HM, HW⟩ := hrel
      clear HO0 HM1 HO1
      by_cases hlt : i < 401
      · obtain ⟨g, rfl⟩ : ∃ g, gk = g + 1 := ⟨gk - 1, by omega⟩
        have i0 : (0 : Int) ≤ (i : Int) := by omega
        have HT := Lib.hid (ins_c w0 wr x y z _ HM.out (HW.out.bk HZ.out hzx hzy) hzx hzy (Nat.lt_of_lt_of_le hxl HW.out.size) (Nat.lt_of_lt_of_le hyl HW.out.size))
        have HSN := Lib.hid (many_snoc (p := insP) i r.2)
        obtain ⟨pr, hpr⟩ : ∃ pr, Hid (insP (many insP i r.2).2 = pr) := ⟨_, Lib.hid rfl⟩
        rw [hpr.out] at HT HSN
        have hml : (many insP i r.2).1.length = i := many_len _ _
        go_wp2_with fail
        refine HT.out.mono ?_
        rintro e w3 ⟨rfl, hm3, ho3⟩
        have HM3 := Lib.hid hm3
        have HO3 := Lib.hid ho3
        have hown := own_on HO.out ho3 hxl hyl (fun b hb => hb.elim)
        have HOW := Lib.hid (fun b hb => hown.own (b := b) hb)
        have HOA := Lib.hid (hown.keep (balloc w3 (.cells #[.int .i64 pr.1.op, .int .i64 pr.1.a, .int .i64 pr.1.b] 45)))
        have HR := Lib.hid (show RowR TN (w3.alloc (.cells #[.int .i64 pr.1.op, .int .i64 pr.1.a, .int .i64 pr.1.b] 45)) (fun b => False ∧ Value.ownBlock u9 ≠ some b) (.slice (some ⟨w3.heap.size, 0, none⟩) 1 1) [pr.1] from rowR_new (q := []) #[.int .i64 pr.1.op, .int .i64 pr.1.a, .int .i64 pr.1.b] 45 rfl rfl)
        have HLN := Lib.hid (show (many insP i r.2).1.length + [pr.1].length ≤ 100000000000 by rw [hml]; simp; omega)
        have HBS := Lib.hid (show w.heap.size ≤ (w3.alloc (.cells #[.int .i64 pr.1.op, .int .i64 pr.1.a, .int .i64 pr.1.b] 45)).heap.size from Nat.le_trans (HW.out.trans ho3).size (balloc w3 _).size)
        clear hm3 ho3 hown HT hml
        go_wp2_with (at_builtin; go_loud (refine wpList_row TN (w3.alloc (.cells #[.int .i64 pr.1.op, .int .i64 pr.1.a, .int .i64 pr.1.b] 45)) rfl (.tmp 19) (.tmp 22) rfl w.heap.size (fun _ => False) u9 (.slice (some ⟨w3.heap.size, 0, none⟩) 1 1) (many insP i r.2).1 [pr.1] rfl rfl HOA.out HR.out HLN.out HBS.out ?_); intro ao6 n6 cap6 w6 hO6 hn6 hg6 ha6; clear hn6; have HO6 := Lib.hid hO6; have HB6 := Lib.hid (bgrown hg6 (fun b hb => (HOW.out b hb).1) HBS.out); have HM6 := Lib.hid ((HM3.out.keep (balloc w3 (.cells #[.int .i64 pr.1.op, .int .i64 pr.1.a, .int .i64 pr.1.b] 45))).grown hg6 (fun b hb => (HOW.out b hb).1) hxl hyl); have HW6 := Lib.hid ((HW.out.trans (HO3.out.trans (On.of (balloc w3 (.cells #[.int .i64 pr.1.op, .int .i64 pr.1.a, .int .i64 pr.1.b] 45))))).grown hg6 (fun b hb => (HOW.out b hb).1)); clear hO6 hg6 ha6)
        go_roundg g
        case rel => exact ⟨i + 1, by omega, by go_num, Lib.hid (by rw [HSN.out]; exact HO6.out), Lib.hid (by rw [HSN.out]; exact HM6.out), HW6⟩
        case measure => omega
      · have hiK : i = 401 := by omega
        subst hiK
        go_wp2_with fail
        go_ret
        exact ⟨_, rfl, HO.out, HM.out, HW.out⟩

end Go.Proofs.Ytpommjmlenfknaa.QH
