/- Functions read, by the program: the walks. -/
import Derived.Test.YtpommjmlenfknaaQI
namespace Go.Proofs.Ytpommjmlenfknaa.QJ
open Go.RowKit Go.Proofs.Ytpommjmlenfknaa.RG Go.Proofs.Ytpommjmlenfknaa.KA Go.Proofs.Ytpommjmlenfknaa.KB Go.Proofs.Ytpommjmlenfknaa.KD Go.Proofs.Ytpommjmlenfknaa.KH Go.Proofs.Ytpommjmlenfknaa.PE Go.Proofs.Ytpommjmlenfknaa.PL Go.Proofs.Ytpommjmlenfknaa.QA Go.Proofs.Ytpommjmlenfknaa.QB Go.Proofs.Ytpommjmlenfknaa.QC Go.Proofs.Ytpommjmlenfknaa.QE Go.Proofs.Ytpommjmlenfknaa.QF Go.Proofs.Ytpommjmlenfknaa.QG Go.Proofs.Ytpommjmlenfknaa.QH Go.Proofs.Ytpommjmlenfknaa.QI
set_option linter.unusedVariables false
set_option maxRecDepth 100000
set_option maxRecDepth 100000

set_option maxHeartbeats 8000000 in
theorem bodycl_c (w0 w : World) (x y z : Nat) (s : St) (h : RdM w0 w x y s) (hz : Bk w z #[NX x y] 77) (hzx : z ≠ x) (hzy : z ≠ y) :
    Calls Try.prog 43 #[.pointer (some ⟨z, 0, none⟩)] w fun e w' => ∃ cv, e = .returned (.agg #[.int .i64 (bodyP s).1.kept, .int .i64 (bodyP s).1.locals, .int .i64 (bodyP s).1.stack, cv]) ∧ OwnF TN w' w.heap.size cv (bodyP s).1.code ∧ RdM w0 w' x y (bodyP s).2 ∧ On x y w w' := by
  obtain ⟨rv0, hbx0, _⟩ := h.rest
  have hxl := hbx0.lt
  have hyl := h.short.lt
  clear hbx0
  have hsz0 : w0.heap.size ≤ w.heap.size := h.old.size
  obtain ⟨Z, hZ⟩ : ∃ Z, Hid (w.heap.size = Z) := ⟨_, Lib.hid rfl⟩
  have hZx : Z ≠ x := by rw [← hZ.out]; omega
  have hZy : Z ≠ y := by rw [← hZ.out]; omega
  have HK := Lib.hid (new_at w #[.int .i64 0, .int .i64 0, .int .i64 0, .slice none 0 0] 49 hZ.out)
  have HC := Lib.hid (fun_c w0 (w.alloc (.cells #[.int .i64 0, .int .i64 0, .int .i64 0, .slice none 0 0] 49)) x y s (h.keep (balloc w _)))
  have hoA : On x y w (w.alloc (.cells #[.int .i64 0, .int .i64 0, .int .i64 0, .slice none 0 0] 49)) := On.of (balloc w _)
  have z0 := (hz.alloc (.cells #[.int .i64 0, .int .i64 0, .int .i64 0, .slice none 0 0] 49)).cell 0 _ rfl
  have hzl := hz.lt
  have hWs : (w.alloc (.cells #[.int .i64 0, .int .i64 0, .int .i64 0, .slice none 0 0] 49)).heap.size = Z + 1 := by simp [hZ.out]
  clear h hz
  generalize bodyP s = r at HC ⊢
  go_enter Try.func43, Try.ntmps43
  go_wp2_with fail
  rw [hZ.out]
  refine HC.out.mono ?_
  rintro e w6 ⟨v6, rfl, ho6, hm6, hn6⟩
  clear HC
  rw [hWs] at ho6
  obtain ⟨ca, cc, rfl, _⟩ := ho6.val
  obtain ⟨NC, hNC⟩ : ∃ x, Hid (r.1.code.length = x) := ⟨_, Lib.hid rfl⟩
  rw [hNC.out] at ho6 ⊢
  have hwo : w0.heap.size ≤ Z := by rw [← hZ.out]; exact hsz0
  have hwZ : w.heap.size ≤ Z := by rw [hZ.out]; exact Nat.le_refl _
  have HK6 := Lib.hid (hn6.bk HK.out hZx hZy)
  have HK8 := Lib.hid (set4 HK6.out (a' := .int .i64 r.1.kept) (b' := .int .i64 r.1.locals) (c' := .int .i64 r.1.stack) (d' := .slice ca NC cc))
  have HO8 := Lib.hid (((((hoA.trans hn6).setz hwZ 0 (.int .i64 r.1.kept)).setz hwZ 1 (.int .i64 r.1.locals)).setz hwZ 2 (.int .i64 r.1.stack)).setz hwZ 3 (.slice ca NC cc))
  have HM8 := Lib.hid ((((hm6.set hZx hZy hwo 0 (.int .i64 r.1.kept)).set hZx hZy hwo 1 (.int .i64 r.1.locals)).set hZx hZy hwo 2 (.int .i64 r.1.stack)).set hZx hZy hwo 3 (.slice ca NC cc))
  have hlt : Z < Z + 1 := Nat.lt_succ_self Z
  have HW8 := Lib.hid (ownR_low ((((ownF_set ho6 hlt 0 (.int .i64 r.1.kept)).other (fun b h => h.elim) hlt 1 (.int .i64 r.1.locals)).other (fun b h => h.elim) hlt 2 (.int .i64 r.1.stack)).other (fun b h => h.elim) hlt 3 (.slice ca NC cc)) (Nat.le_succ_of_le hwZ) (fun b h => h))
  have s0 := HK6.out.cell 0 _ rfl
  have s1 := HK6.out.cell 1 _ rfl
  have s2 := HK6.out.cell 2 _ rfl
  have s3 := HK6.out.cell 3 _ rfl
  have fs0 := HK6.out.free 0
  have fs1 := HK6.out.free 1
  have fs2 := HK6.out.free 2
  have fs3 := HK6.out.free 3
  have ls := HK6.out.lt
  clear ho6 hm6 hn6 z0 hoA hWs
  go_wp2_with fail
  have g0 := HK8.out.cell 0 _ rfl
  have g1 := HK8.out.cell 1 _ rfl
  have g2 := HK8.out.cell 2 _ rfl
  have g3 := HK8.out.cell 3 _ rfl
  exact bodyPost_ret (v := .agg #[.int .i64 r.1.kept, .int .i64 r.1.locals, .int .i64 r.1.stack, .slice ca NC cc]) (by simp [results, Try.results43, go_sem, g0, g1, g2, g3]) rfl ⟨_, rfl, HW8.out, HM8.out, HO8.out⟩
set_option maxHeartbeats 8000000 in
theorem listB_c (w0 w : World) (x y z : Nat) (s : St) (h : RdM w0 w x y s) (hz : Bk w z #[NX x y] 77) (hzx : z ≠ x) (hzy : z ≠ y) :
    Calls Try.prog 42 #[NX x y, .int .i64 1, .int .i64 120, .func (.func 43) #[] #[.pointer (some ⟨z, 0, none⟩)]] w fun e w' => ∃ v, e = .returned v ∧ OwnR TF w' w.heap.size (fun b => w.heap.size ≤ b) v (listP 1 120 bodyP s).1 ∧ RdM w0 w' x y (listP 1 120 bodyP s).2 ∧ On x y w w' := by
  obtain ⟨rv0, hbx0, _⟩ := h.rest
  have hxl := hbx0.lt
  have hyl := h.short.lt
  clear hbx0
  have HZ := Lib.hid hz
  have HN := Lib.hid (next_z w0 w x y s 1 1 rfl h (by decide))
  have hlen := nx_len 1 s
  have HL := Lib.hid hlen
  obtain ⟨k, hk⟩ : ∃ k : Nat, num (nx 1 s).1 = (k : Int) := ⟨le (nx 1 s).1, num_le (by omega)⟩
  have hkb : k ≤ 255 := by
    have h1 := le_lt (nx 1 s).1
    have h2 : 256 ^ (nx 1 s).1.length ≤ 256 ^ 1 := Nat.pow_le_pow_right (by decide) hlen
    have h3 := num_le (b := (nx 1 s).1) (by omega)
    omega
  obtain ⟨K, hK⟩ : ∃ K : Nat, min (k : Int) 121 = (K : Int) := ⟨min k 121, by omega⟩
  have hKb : K ≤ 121 := by omega
  have hlp : listP 1 120 bodyP s = many bodyP K (nx 1 s).2 := by
    show many bodyP (min (num (nx 1 s).1) (((120 : Nat) : Int) + 1)).toNat (nx 1 s).2 = _
    rw [hk, show min (k : Int) (((120 : Nat) : Int) + 1) = (K : Int) by omega]
    rfl
  rw [hlp]
  have HK := Lib.hid hk
  clear h hz hlen hlp hk
  generalize nx 1 s = r at HN HL HK ⊢
  have hcase : ((k : Int) ≤ 121 ∧ K = k) ∨ (¬ (k : Int) ≤ 121 ∧ K = 121) := by omega
  clear hK
  rcases hcase with ⟨q1, rfl⟩ | ⟨q1, rfl⟩
  · skip
    go_enter Try.func42, Try.ntmps42
    go_wp2_with fail
    refine HN.out.mono ?_
    rintro e w1 ⟨v1, rfl, hr1, hm1, ho1⟩
    have HNum := number_c v1 r.1 w1 _ (RowR.keep_old hr1 hm1) (by have := HL.out; omega)
    rw [HK.out] at HNum
    have HM1 := Lib.hid hm1
    have HO1 := Lib.hid ho1
    clear hr1 hm1 ho1 HN
    go_wp2_with fail
    refine HNum.mono ?_
    rintro e w2 ⟨rfl, he2⟩
    obtain rfl := he2.symm
    clear HNum
    have HO0 := Lib.hid (OwnR.nil (R := TF) w1 w.heap.size (fun b => w.heap.size ≤ b))
    go_wp2_with fail
    go_loopg [9, 17] K (fun g lv iv wr => ∃ i : Nat, i + g = K ∧ iv = .int .i64 (i : Int) ∧ Hid (OwnR TF wr w.heap.size (fun b => w.heap.size ≤ b) lv (many bodyP i r.2).1) ∧ Hid (RdM w0 wr x y (many bodyP i r.2).2) ∧ Hid (On x y w wr))
    case atStart => exact ⟨0, Nat.zero_add _, rfl, HO0, HM1, HO1⟩
    case round =>
      obtain ⟨i, hi, rfl, HO, HM, HW⟩ := hrel
      clear HO0 HM1 HO1
      by_cases hlt : i < K
      · obtain ⟨g, rfl⟩ : ∃ g, gk = g + 1 := ⟨gk - 1, by omega⟩
        have i0 : (0 : Int) ≤ (i : Int) := by omega
        have HT := Lib.hid (bodycl_c w0 wr x y z _ HM.out (HW.out.bk HZ.out hzx hzy) hzx hzy)
        have HSN := Lib.hid (many_snoc (p := bodyP) i r.2)
        obtain ⟨pr, hpr⟩ : ∃ pr, Hid (bodyP (many bodyP i r.2).2 = pr) := ⟨_, Lib.hid rfl⟩
        rw [hpr.out] at HT HSN
        have hml : (many bodyP i r.2).1.length = i := many_len _ _
        go_wp2_with fail
        refine HT.out.mono ?_
        rintro e w3 ⟨cv, rfl, hcv, hm3, ho3⟩
        obtain ⟨ca, cc, rfl, _⟩ := hcv.val
        have HCV := Lib.hid hcv
        obtain ⟨NC, hNC⟩ : ∃ x, Hid (pr.1.code.length = x) := ⟨_, Lib.hid rfl⟩
        rw [hNC.out] at HCV ⊢
        clear hcv
        have HM3 := Lib.hid hm3
        have HO3 := Lib.hid ho3
        have hown := own_on HO.out ho3 hxl hyl (fun b hb => by have hb : w.heap.size ≤ b := hb; omega)
        have HOW := Lib.hid (fun b hb => hown.own (b := b) hb)
        have HOA := Lib.hid (hown.keep (balloc w3 (.cells #[.int .i64 pr.1.kept, .int .i64 pr.1.locals, .int .i64 pr.1.stack, .slice ca NC cc] 49)))
        have HUW := Lib.hid (fun b hb => HO.out.own (b := b) hb)
        have HR := Lib.hid (show RowR TF (w3.alloc (.cells #[.int .i64 pr.1.kept, .int .i64 pr.1.locals, .int .i64 pr.1.stack, .slice ca NC cc] 49)) (fun b => w.heap.size ≤ b ∧ Value.ownBlock u9 ≠ some b) (.slice (some ⟨w3.heap.size, 0, none⟩) 1 1) [pr.1] from by
          refine rowR_new (q := [.slice ca NC cc]) #[.int .i64 pr.1.kept, .int .i64 pr.1.locals, .int .i64 pr.1.stack, .slice ca NC cc] 49 rfl ?_
          obtain ⟨qs, g1, g2⟩ := HCV.out.rw
          exact ⟨_, qs, rfl, g1.mv (Mv.weak _ fun b hb _ => ⟨Nat.le_trans HW.out.size hb, fun e => by have hb : wr.heap.size ≤ b := hb; have := (HUW.out b e).2; omega⟩), Hs.mv (Mv.weak _ fun b hb _ => hb.elim) _ _ g2⟩)
        have HLN := Lib.hid (show (many bodyP i r.2).1.length + [pr.1].length ≤ 100000000000 by rw [hml]; simp; omega)
        have HBS := Lib.hid (show w.heap.size ≤ (w3.alloc (.cells #[.int .i64 pr.1.kept, .int .i64 pr.1.locals, .int .i64 pr.1.stack, .slice ca NC cc] 49)).heap.size from Nat.le_trans (HW.out.trans ho3).size (balloc w3 _).size)
        clear hm3 ho3 hown HT hml
        go_wp2_with (at_builtin; go_loud (refine wpList_row TF (w3.alloc (.cells #[.int .i64 pr.1.kept, .int .i64 pr.1.locals, .int .i64 pr.1.stack, .slice ca NC cc] 49)) rfl (.tmp 19) (.tmp 22) rfl w.heap.size (fun b => w.heap.size ≤ b) u9 (.slice (some ⟨w3.heap.size, 0, none⟩) 1 1) (many bodyP i r.2).1 [pr.1] rfl rfl HOA.out HR.out HLN.out HBS.out ?_); intro ao6 n6 cap6 w6 hO6 hn6 hg6 ha6; clear hn6; have HO6 := Lib.hid hO6; have HB6 := Lib.hid (bgrown hg6 (fun b hb => (HOW.out b hb).1) HBS.out); have HM6 := Lib.hid ((HM3.out.keep (balloc w3 (.cells #[.int .i64 pr.1.kept, .int .i64 pr.1.locals, .int .i64 pr.1.stack, .slice ca NC cc] 49))).grown hg6 (fun b hb => (HOW.out b hb).1) hxl hyl); have HW6 := Lib.hid ((HW.out.trans (HO3.out.trans (On.of (balloc w3 (.cells #[.int .i64 pr.1.kept, .int .i64 pr.1.locals, .int .i64 pr.1.stack, .slice ca NC cc] 49))))).grown hg6 (fun b hb => (HOW.out b hb).1)); clear hO6 hg6 ha6)
        go_roundg g
        case rel => exact ⟨i + 1, by omega, by go_num, Lib.hid (by rw [HSN.out]; exact HO6.out), Lib.hid (by rw [HSN.out]; exact HM6.out), HW6⟩
        case measure => omega
      · have hiK : i = K := by omega
        subst hiK
        go_wp2_with fail
        go_ret
        exact ⟨_, rfl, HO.out, HM.out, HW.out⟩
  · skip
    go_enter Try.func42, Try.ntmps42
    go_wp2_with fail
    refine HN.out.mono ?_
    rintro e w1 ⟨v1, rfl, hr1, hm1, ho1⟩
    have HNum := number_c v1 r.1 w1 _ (RowR.keep_old hr1 hm1) (by have := HL.out; omega)
    rw [HK.out] at HNum
    have HM1 := Lib.hid hm1
    have HO1 := Lib.hid ho1
    clear hr1 hm1 ho1 HN
    go_wp2_with fail
    refine HNum.mono ?_
    rintro e w2 ⟨rfl, he2⟩
    obtain rfl := he2.symm
    clear HNum
    have HO0 := Lib.hid (OwnR.nil (R := TF) w1 w.heap.size (fun b => w.heap.size ≤ b))
    go_wp2_with fail
    go_loopg [9, 17] 121 (fun g lv iv wr => ∃ i : Nat, i + g = 121 ∧ iv = .int .i64 (i : Int) ∧ Hid (OwnR TF wr w.heap.size (fun b => w.heap.size ≤ b) lv (many bodyP i r.2).1) ∧ Hid (RdM w0 wr x y (many bodyP i r.2).2) ∧ Hid (On x y w wr))
    case atStart => exact ⟨0, Nat.zero_add _, rfl, HO0, HM1, HO1⟩
    case round =>
      obtain ⟨i, hi, rfl, HO, HM, HW⟩ := hrel
      clear HO0 HM1 HO1
      by_cases hlt : i < 121
      · obtain ⟨g, rfl⟩ : ∃ g, gk = g + 1 := ⟨gk - 1, by omega⟩
        have i0 : (0 : Int) ≤ (i : Int) := by omega
        have HT := Lib.hid (bodycl_c w0 wr x y z _ HM.out (HW.out.bk HZ.out hzx hzy) hzx hzy)
        have HSN := Lib.hid (many_snoc (p := bodyP) i r.2)
        obtain ⟨pr, hpr⟩ : ∃ pr, Hid (bodyP (many bodyP i r.2).2 = pr) := ⟨_, Lib.hid rfl⟩
        rw [hpr.out] at HT HSN
        have hml : (many bodyP i r.2).1.length = i := many_len _ _
        go_wp2_with fail
        refine HT.out.mono ?_
        rintro e w3 ⟨cv, rfl, hcv, hm3, ho3⟩
        obtain ⟨ca, cc, rfl, _⟩ := hcv.val
        have HCV := Lib.hid hcv
        obtain ⟨NC, hNC⟩ : ∃ x, Hid (pr.1.code.length = x) := ⟨_, Lib.hid rfl⟩
        rw [hNC.out] at HCV ⊢
        clear hcv
        have HM3 := Lib.hid hm3
        have HO3 := Lib.hid ho3
        have hown := own_on HO.out ho3 hxl hyl (fun b hb => by have hb : w.heap.size ≤ b := hb; omega)
        have HOW := Lib.hid (fun b hb => hown.own (b := b) hb)
        have HOA := Lib.hid (hown.keep (balloc w3 (.cells #[.int .i64 pr.1.kept, .int .i64 pr.1.locals, .int .i64 pr.1.stack, .slice ca NC cc] 49)))
        have HUW := Lib.hid (fun b hb => HO.out.own (b := b) hb)
        have HR := Lib.hid (show RowR TF (w3.alloc (.cells #[.int .i64 pr.1.kept, .int .i64 pr.1.locals, .int .i64 pr.1.stack, .slice ca NC cc] 49)) (fun b => w.heap.size ≤ b ∧ Value.ownBlock u9 ≠ some b) (.slice (some ⟨w3.heap.size, 0, none⟩) 1 1) [pr.1] from by
          refine rowR_new (q := [.slice ca NC cc]) #[.int .i64 pr.1.kept, .int .i64 pr.1.locals, .int .i64 pr.1.stack, .slice ca NC cc] 49 rfl ?_
          obtain ⟨qs, g1, g2⟩ := HCV.out.rw
          exact ⟨_, qs, rfl, g1.mv (Mv.weak _ fun b hb _ => ⟨Nat.le_trans HW.out.size hb, fun e => by have hb : wr.heap.size ≤ b := hb; have := (HUW.out b e).2; omega⟩), Hs.mv (Mv.weak _ fun b hb _ => hb.elim) _ _ g2⟩)
        have HLN := Lib.hid (show (many bodyP i r.2).1.length + [pr.1].length ≤ 100000000000 by rw [hml]; simp; omega)
        have HBS := Lib.hid (show w.heap.size ≤ (w3.alloc (.cells #[.int .i64 pr.1.kept, .int .i64 pr.1.locals, .int .i64 pr.1.stack, .slice ca NC cc] 49)).heap.size from Nat.le_trans (HW.out.trans ho3).size (balloc w3 _).size)
        clear hm3 ho3 hown HT hml
        go_wp2_with (at_builtin; go_loud (refine wpList_row TF (w3.alloc (.cells #[.int .i64 pr.1.kept, .int .i64 pr.1.locals, .int .i64 pr.1.stack, .slice ca NC cc] 49)) rfl (.tmp 19) (.tmp 22) rfl w.heap.size (fun b => w.heap.size ≤ b) u9 (.slice (some ⟨w3.heap.size, 0, none⟩) 1 1) (many bodyP i r.2).1 [pr.1] rfl rfl HOA.out HR.out HLN.out HBS.out ?_); intro ao6 n6 cap6 w6 hO6 hn6 hg6 ha6; clear hn6; have HO6 := Lib.hid hO6; have HB6 := Lib.hid (bgrown hg6 (fun b hb => (HOW.out b hb).1) HBS.out); have HM6 := Lib.hid ((HM3.out.keep (balloc w3 (.cells #[.int .i64 pr.1.kept, .int .i64 pr.1.locals, .int .i64 pr.1.stack, .slice ca NC cc] 49))).grown hg6 (fun b hb => (HOW.out b hb).1) hxl hyl); have HW6 := Lib.hid ((HW.out.trans (HO3.out.trans (On.of (balloc w3 (.cells #[.int .i64 pr.1.kept, .int .i64 pr.1.locals, .int .i64 pr.1.stack, .slice ca NC cc] 49))))).grown hg6 (fun b hb => (HOW.out b hb).1)); clear hO6 hg6 ha6)
        go_roundg g
        case rel => exact ⟨i + 1, by omega, by go_num, Lib.hid (by rw [HSN.out]; exact HO6.out), Lib.hid (by rw [HSN.out]; exact HM6.out), HW6⟩
        case measure => omega
      · have hiK : i = 121 := by omega
        subst hiK
        go_wp2_with fail
        go_ret
        exact ⟨_, rfl, HO.out, HM.out, HW.out⟩

end Go.Proofs.Ytpommjmlenfknaa.QJ
