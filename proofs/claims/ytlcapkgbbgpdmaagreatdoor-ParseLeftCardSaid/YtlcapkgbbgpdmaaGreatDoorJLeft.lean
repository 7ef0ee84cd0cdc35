/- ParseLeft: the walk. -/
import Derived.Test.YtlcapkgbbgpdmaaGreatDoorZF
import Derived.Test.YtlcapkgbbgpdmaaGreatDoorDL
namespace Go.Proofs.YtlcapkgbbgpdmaaGreatDoor.parseLeft
open Go.RowKit Go.Maps
open Go.Proofs.YtlcapkgbbgpdmaaGreatDoor.P Go.Proofs.YtlcapkgbbgpdmaaGreatDoor.A Go.Proofs.YtlcapkgbbgpdmaaGreatDoor.PS Go.Proofs.YtlcapkgbbgpdmaaGreatDoor.QE Go.Proofs.YtlcapkgbbgpdmaaGreatDoor.DL Go.Proofs.YtlcapkgbbgpdmaaGreatDoor.GR Go.Proofs.YtlcapkgbbgpdmaaGreatDoor.MB Go.Proofs.YtlcapkgbbgpdmaaGreatDoor.QH
set_option linter.unusedVariables false
set_option maxRecDepth 100000

theorem neg_mod (n k : Int) (h : n < 0) (hk : 0 < k) : ∃ m : Nat, -(n + 1).tmod k = (m : Int) ∧ (m : Int) < k := by
  have e : (n + 1).tmod k = -((-(n + 1)) % k) := by
    conv => lhs; rw [← Int.neg_neg (n + 1), Int.neg_tmod, Int.tmod_eq_emod_of_nonneg (by omega)]
  have h1 := Int.emod_nonneg (-(n + 1)) (show k ≠ 0 by omega)
  have h2 := Int.emod_lt_of_pos (-(n + 1)) hk
  exact ⟨((-(n + 1)) % k).toNat, by rw [e]; omega, by omega⟩
theorem pos_mod (n k : Int) (h : 0 ≤ n) (hk : 0 < k) : ∃ m : Nat, n % k = (m : Int) ∧ (m : Int) < k := by
  have h1 := Int.emod_nonneg n (show k ≠ 0 by omega)
  have h2 := Int.emod_lt_of_pos n hk
  exact ⟨(n % k).toNat, by omega, by omega⟩
theorem pick7 (c : Int) (hl : -9223372036854775808 ≤ c) (hu : c ≤ 9223372036854775807) (w : World) : Calls Tryz.prog 23 #[.int .i64 c, .int .i64 7] w fun e w' => (∃ m : Nat, m < 7 ∧ e = .returned (.int .i64 (m : Int))) ∧ w' = w := by
  by_cases h0 : c < 0
  · obtain ⟨m, hm, hml⟩ := neg_mod c 7 h0 (by decide)
    go_enter Tryz.func23, Tryz.ntmps23
    go_wp2
    go_ret
    exact ⟨⟨m, by omega, rfl⟩, rfl⟩
  · obtain ⟨m, hm, hml⟩ := pos_mod c 7 (by omega) (by decide)
    go_enter Tryz.func23, Tryz.ntmps23
    go_wp2
    go_ret
    exact ⟨⟨m, by omega, rfl⟩, rfl⟩
theorem pick6 (c : Int) (hl : -9223372036854775808 ≤ c) (hu : c ≤ 9223372036854775807) (w : World) : Calls Tryz.prog 23 #[.int .i64 c, .int .i64 6] w fun e w' => (∃ m : Nat, m < 6 ∧ e = .returned (.int .i64 (m : Int))) ∧ w' = w := by
  by_cases h0 : c < 0
  · obtain ⟨m, hm, hml⟩ := neg_mod c 6 h0 (by decide)
    go_enter Tryz.func23, Tryz.ntmps23
    go_wp2
    go_ret
    exact ⟨⟨m, by omega, rfl⟩, rfl⟩
  · obtain ⟨m, hm, hml⟩ := pos_mod c 6 (by omega) (by decide)
    go_enter Tryz.func23, Tryz.ntmps23
    go_wp2
    go_ret
    exact ⟨⟨m, by omega, rfl⟩, rfl⟩
/-- The signs' row, and how loose they are. -/
structure Signs (w : World) (b : Nat) : Prop where
  lt : b < w.heap.size
  lt2 : b + 1 < w.heap.size
  s : ∀ m, m < 7 → w.cell? ⟨b, m, none⟩ = some (.string ⟨#[sg m]⟩)
  l : ∀ m, m < 7 → w.cell? ⟨b + 1, m, none⟩ = some (.int .i64 (lo m : Int))
theorem Signs.mk2 (w : World) (C D : Array Value) (tc td : TypeId) (hc : C = #[.string ⟨#[43]⟩, .string ⟨#[45]⟩, .string ⟨#[94]⟩, .string ⟨#[42]⟩, .string ⟨#[47]⟩, .string ⟨#[37]⟩, .string ⟨#[61]⟩]) (hd : D = #[.int .i64 1, .int .i64 1, .int .i64 1, .int .i64 2, .int .i64 2, .int .i64 2, .int .i64 0]) : Signs ((w.alloc (.cells C tc)).alloc (.cells D td)) w.heap.size := by
  subst hc; subst hd
  refine ⟨by simp; omega, by simp, fun m hm => ?_, fun m hm => ?_⟩
  · rw [World.cell?_alloc_lt _ _ _ (by simp), World.cell?_alloc_new]
    match m, hm with
    | 0, _ | 1, _ | 2, _ | 3, _ | 4, _ | 5, _ | 6, _ => rfl
  · have e : w.heap.size + 1 = (w.alloc (.cells #[.string ⟨#[43]⟩, .string ⟨#[45]⟩, .string ⟨#[94]⟩, .string ⟨#[42]⟩, .string ⟨#[47]⟩, .string ⟨#[37]⟩, .string ⟨#[61]⟩] tc)).heap.size := by simp
    rw [e, World.cell?_alloc_new]
    match m, hm with
    | 0, _ | 1, _ | 2, _ | 3, _ | 4, _ | 5, _ | 6, _ => rfl
theorem Signs.below {w w' : World} {b B : Nat} (h : Signs w b) (hb : Below B w w') (h1 : b < B) (h2 : b + 1 < B) : Signs w' b :=
  ⟨Nat.lt_of_lt_of_le h.lt hb.size, Nat.lt_of_lt_of_le h.lt2 hb.size, fun m hm => (hb.cell (p := ⟨b, m, none⟩) h1).trans (h.s m hm), fun m hm => (hb.cell (p := ⟨b + 1, m, none⟩) h2).trans (h.l m hm)⟩
theorem Signs.drew {w : World} {b : Nat} (h : Signs w b) (n : Nat) : Signs (w.drewN n) b := ⟨h.lt, h.lt2, h.s, h.l⟩
theorem src_eq (i j : Nat) : ((⟨#[100, 111, 32, 120, 32]⟩ : ByteArray) ++ ⟨#[sg i]⟩ ++ ⟨#[32, 121, 32]⟩ ++ ⟨#[sg j]⟩ ++ ⟨#[32, 122]⟩).data.toList = src i j := by
  simp [ByteArray.data_append, src]
theorem src2_eq (k : Nat) : ((⟨#[100, 111, 32, 102, 32, 120, 32]⟩ : ByteArray) ++ ⟨#[sg k]⟩ ++ ⟨#[32, 103, 32, 121]⟩).data.toList = src2 k := by
  simp [ByteArray.data_append, src2]
theorem set_six {w w3 : World} (h : Below w.heap.size w w3) (v0 v1 v2 v3 v4 v5 : Value) : Below w.heap.size w ((((((w3.setCell ⟨w.heap.size, 0, none⟩ v0).setCell ⟨w.heap.size, 1, none⟩ v1).setCell ⟨w.heap.size, 2, none⟩ v2).setCell ⟨w.heap.size, 3, none⟩ v3).setCell ⟨w.heap.size, 4, none⟩ v4).setCell ⟨w.heap.size, 5, none⟩ v5) :=
  set_below (set_below (set_below (set_below (set_below (set_below h (Nat.le_refl _) 0 _) (Nat.le_refl _) 1 _) (Nat.le_refl _) 2 _) (Nat.le_refl _) 3 _) (Nat.le_refl _) 4 _) (Nat.le_refl _) 5 _
theorem set_six_cell {w3 : World} {b : Nat} {q : Addr} (h : q.block ≠ b) (v0 v1 v2 v3 v4 v5 : Value) : ((((((w3.setCell ⟨b, 0, none⟩ v0).setCell ⟨b, 1, none⟩ v1).setCell ⟨b, 2, none⟩ v2).setCell ⟨b, 3, none⟩ v3).setCell ⟨b, 4, none⟩ v4).setCell ⟨b, 5, none⟩ v5).cell? q = w3.cell? q := by
  have e : ∀ (w : World) (i : Nat) (v : Value), (w.setCell ⟨b, i, none⟩ v).cell? q = w.cell? q := fun w i v => World.cell?_setCell_other _ _ _ _ (fun k => h (by rw [← k]))
  rw [e, e, e, e, e, e]
theorem out_node {w : World} {x : Ending} {w' : World} {t : Tree} {p e : Nat} (P E : Int) (hP : (p : Int) = P) (hE : (e : Int) = E) (h : ROut w (t, p, e) x w') :
    ∃ v0 v1 v2 v3 a4 l4 c4 a5 l5 c5, x = .returned (.tuple #[.agg #[.int .i64 v0, .string v1, .int .i64 v2, .int .i64 v3, .slice a4 l4 c4, .slice a5 l5 c5], .int .i64 P, .int .i64 E]) ∧ Below w.heap.size w w' := by
  subst hP; subst hE
  obtain ⟨ao, ac, bo, bc, rfl, hb, hn⟩ := h
  exact ⟨_, _, _, _, _, _, _, _, _, _, rfl, hb⟩

set_option maxRecDepth 100000 in
set_option maxHeartbeats 4000000 in
theorem walk (w : World) (n0 : Int) (l0 : -9223372036854775808 ≤ n0) (u0 : n0 ≤ 9223372036854775807) (n1 : Int) (l1 : -9223372036854775808 ≤ n1) (u1 : n1 ≤ 9223372036854775807) (n2 : Int) (l2 : -9223372036854775808 ≤ n2) (u2 : n2 ≤ 9223372036854775807) (hd : Dig w) :
    Calls Tryz.prog 8 #[.int .i64 n0, .int .i64 n1, .int .i64 n2] w fun e w' => e = .returned (.bool true) ∧ Below w.heap.size w w' := by
  have HD := Lib.hid hd
  clear hd
  go_enter Tryz.func8, Tryz.ntmps8
  go_wp2_with fail
  refine (pick7 n0 l0 u0 _).mono ?_
  rintro x w1 ⟨⟨i, hi, rfl⟩, rfl⟩
  go_wp2_with fail
  refine (pick7 n1 l1 u1 _).mono ?_
  rintro x w1 ⟨⟨j, hj, rfl⟩, rfl⟩
  go_wp2_with fail
  refine (pick6 n2 l2 u2 _).mono ?_
  rintro x w1 ⟨⟨k, hk, rfl⟩, rfl⟩
  have S0 := Signs.mk2 w _ _ 9 3 (rfl : #[Value.string ⟨#[43]⟩, .string ⟨#[45]⟩, .string ⟨#[94]⟩, .string ⟨#[42]⟩, .string ⟨#[47]⟩, .string ⟨#[37]⟩, .string ⟨#[61]⟩] = _) (rfl : #[Value.int .i64 1, .int .i64 1, .int .i64 1, .int .i64 2, .int .i64 2, .int .i64 2, .int .i64 0] = _)
  have hB0 := Lib.hid (((Below.refl w.heap.size w).alloc (Nat.le_refl _) (.cells #[.string ⟨#[43]⟩, .string ⟨#[45]⟩, .string ⟨#[94]⟩, .string ⟨#[42]⟩, .string ⟨#[47]⟩, .string ⟨#[37]⟩, .string ⟨#[61]⟩] 9)).alloc (by simp) (.cells #[.int .i64 1, .int .i64 1, .int .i64 1, .int .i64 2, .int .i64 2, .int .i64 2, .int .i64 0] 3))
  have HD0 := Lib.hid (HD.out.below hB0.out)
  have S0 := Lib.hid S0
  go_wp2
  obtain ⟨H, hH⟩ : ∃ H, w.heap.size = H := ⟨_, rfl⟩
  rw [hH] at S0 hB0 ⊢
  generalize (w.alloc _).alloc _ = w1 at S0 hB0 HD0 ⊢
  have hBs : H ≤ w1.heap.size := hH ▸ hB0.out.size
  have c1 := S0.out.s i hi
  have c2 := S0.out.s j hj
  have i0 : (0 : Int) ≤ (i : Int) := by omega
  have i7 : (i : Int) < 7 := by omega
  have j0 : (0 : Int) ≤ (j : Int) := by omega
  have j7 : (j : Int) < 7 := by omega
  have hsz : ((⟨#[100, 111, 32, 120, 32]⟩ : ByteArray) ++ ⟨#[sg i]⟩ ++ ⟨#[32, 121, 32]⟩ ++ ⟨#[sg j]⟩ ++ ⟨#[32, 122]⟩).size ≤ maxLen := by simp only [ByteArray.size_append]; show (5 + 1 + 3 + 1 + 2 : Nat) ≤ 2 ^ 63 - 1; decide
  have TP := fun W (hW : Dig W) => QG.program_is _ W hsz hW
  rw [src_eq] at TP
  have hsz2 : ((⟨#[100, 111, 32, 102, 32, 120, 32]⟩ : ByteArray) ++ ⟨#[sg k]⟩ ++ ⟨#[32, 103, 32, 121]⟩).size ≤ maxLen := by simp only [ByteArray.size_append]; show (7 + 1 + 4 : Nat) ≤ 2 ^ 63 - 1; decide
  have TQ := fun W (hW : Dig W) => QG.program_is _ W hsz2 hW
  rw [src2_eq, call_of k hk] at TQ
  have TQ := Lib.hid TQ
  clear hsz hsz2
  by_cases h66 : i = 6 ∧ j = 6
  · have TP : ∀ W, Dig W → Calls Tryz.prog 21 #[.string ((⟨#[100, 111, 32, 120, 32]⟩ : ByteArray) ++ ⟨#[sg i]⟩ ++ ⟨#[32, 121, 32]⟩ ++ ⟨#[sg j]⟩ ++ ⟨#[32, 122]⟩)] W (ROut W (MP.zero, 9, 14)) := by
      have e : gparsed (src i j) = (MP.zero, 9, 14) := by rw [h66.1, h66.2]; exact both_of
      rw [← e]; exact TP
    have t1 : ((i : Int) == 6) = true := by rw [beq_iff_eq]; omega
    have t2 : ((j : Int) == 6) = true := by rw [beq_iff_eq]; omega
    clear h66 TQ
    have TP := Lib.hid TP
    have c1' : (w1.alloc (.cells #[.int .i64 0, .string ⟨#[]⟩, .int .i64 0, .int .i64 0, .slice none 0 0, .slice none 0 0] 25)).cell? ⟨H, i, none⟩ = some (.string ⟨#[sg i]⟩) := (World.cell?_alloc_lt _ _ _ S0.out.lt).trans c1
    have c2' : (w1.alloc (.cells #[.int .i64 0, .string ⟨#[]⟩, .int .i64 0, .int .i64 0, .slice none 0 0, .slice none 0 0] 25)).cell? ⟨H, j, none⟩ = some (.string ⟨#[sg j]⟩) := (World.cell?_alloc_lt _ _ _ S0.out.lt).trans c2
    have c1d : w1.drew.cell? ⟨H, i, none⟩ = some (.string ⟨#[sg i]⟩) := c1
    have c2d : w1.drew.cell? ⟨H, j, none⟩ = some (.string ⟨#[sg j]⟩) := c2
    have c1'd : (w1.alloc (.cells #[.int .i64 0, .string ⟨#[]⟩, .int .i64 0, .int .i64 0, .slice none 0 0, .slice none 0 0] 25)).drew.cell? ⟨H, i, none⟩ = some (.string ⟨#[sg i]⟩) := c1'
    have c2'd : (w1.alloc (.cells #[.int .i64 0, .string ⟨#[]⟩, .int .i64 0, .int .i64 0, .slice none 0 0, .slice none 0 0] 25)).drew.cell? ⟨H, j, none⟩ = some (.string ⟨#[sg j]⟩) := c2'
    have HA := Lib.hid ((Below.refl w1.heap.size w1).alloc (Nat.le_refl _) (.cells #[.int .i64 0, .string ⟨#[]⟩, .int .i64 0, .int .i64 0, .slice none 0 0, .slice none 0 0] 25))
    have HK := Lib.hid (Bk.new w1 #[.int .i64 0, .string ⟨#[]⟩, .int .i64 0, .int .i64 0, .slice none 0 0, .slice none 0 0] 25)
    have HD1 : Hid (Dig w1.drew) := HD0.out
    have HD2 : Hid (Dig (w1.alloc (.cells #[.int .i64 0, .string ⟨#[]⟩, .int .i64 0, .int .i64 0, .slice none 0 0, .slice none 0 0] 25)).drew) := HD0.out.below (below_drew HA.out)
    have hb1 : Hid (∀ w3, Below w1.drew.heap.size w1.drew w3 → Below w1.heap.size w1 w3) := fun w3 h => (below_drew (Below.refl w1.heap.size w1)).trans h
    have hb2 : Hid (∀ w3, Below (w1.alloc (.cells #[.int .i64 0, .string ⟨#[]⟩, .int .i64 0, .int .i64 0, .slice none 0 0, .slice none 0 0] 25)).drew.heap.size (w1.alloc (.cells #[.int .i64 0, .string ⟨#[]⟩, .int .i64 0, .int .i64 0, .slice none 0 0, .slice none 0 0] 25)).drew w3 → Below w1.heap.size w1 w3 ∧ Bk w3 w1.heap.size #[.int .i64 0, .string ⟨#[]⟩, .int .i64 0, .int .i64 0, .slice none 0 0, .slice none 0 0] 25) := fun w3 h => ⟨(below_drew HA.out).trans (h.mono HA.out.size), Bk.below HK.out.drew h HK.out.lt⟩
    go_region_held3 (fun w' => w'.cell? ⟨H, i, none⟩ = some (.string ⟨#[sg i]⟩) ∧ w'.cell? ⟨H, j, none⟩ = some (.string ⟨#[sg j]⟩)) (first | with_reducible exact ⟨c1d, c2d⟩ | with_reducible exact ⟨c1', c2'⟩ | with_reducible exact ⟨c1'd, c2'd⟩ | with_reducible exact ⟨hS3.out.s i hi, hS3.out.s j hj⟩ | with_reducible exact ⟨(World.cell?_alloc_lt _ _ _ hS3.out.lt).trans (hS3.out.s i hi), (World.cell?_alloc_lt _ _ _ hS3.out.lt).trans (hS3.out.s j hj)⟩ | with_reducible exact ⟨((set_six HB3.out _ _ _ _ _ _).cell (p := ⟨H, i, none⟩) S0.out.lt).trans c1, ((set_six HB3.out _ _ _ _ _ _).cell (p := ⟨H, j, none⟩) S0.out.lt).trans c2⟩ | fail)
      (first | (go_at_call 21; refine (TP.out _ (by first | with_reducible exact HD1.out | with_reducible exact HD2.out)).mono ?_; intro x w3 h3; obtain ⟨a1, d1, b, o, rfl, B3⟩ := out_err h3; first | (have B4 := (by with_reducible exact hb1.out w3 B3); have hS3 := Lib.hid (S0.out.below B4 S0.out.lt S0.out.lt2); have HB3 := Lib.hid B4; clear h3 B3 B4) | (have B4 := (by with_reducible exact hb2.out w3 B3); have hS3 := Lib.hid (S0.out.below B4.1 S0.out.lt S0.out.lt2); have HB3 := Lib.hid B4.1; have KZ := Lib.hid B4.2; have z1 := B4.2.lt; obtain ⟨g0, g1, g2, g3, g4, g5⟩ := B4.2.c6; obtain ⟨f0, f1, f2, f3, f4, f5⟩ := B4.2.f6; clear h3 B3 B4)))
    · have KB := Lib.hid (Bk.new w3 #[.int .i64 0, .string ⟨#[]⟩, .int .i64 0, .int .i64 0, .slice a1 0 d1, .slice b 0 o] 25)
      have HX := Lib.hid (HB3.out.alloc HB3.out.size (.cells #[.int .i64 0, .string ⟨#[]⟩, .int .i64 0, .int .i64 0, .slice a1 0 d1, .slice b 0 o] 25))
      have HD4 := Lib.hid (HD0.out.below HX.out)
      have S4 := Lib.hid (S0.out.below HX.out S0.out.lt S0.out.lt2)
      clear hS3 HB3 HA HK HD1 HD2 hb1 hb2 c1 c2 c1' c2' c1d c2d c1'd c2'd TP
      obtain ⟨w4, hw4⟩ : ∃ w4, (w3.alloc (.cells #[.int .i64 0, .string ⟨#[]⟩, .int .i64 0, .int .i64 0, .slice a1 0 d1, .slice b 0 o] 25)) = w4 := ⟨_, rfl⟩
      rw [hw4] at KB HX HD4 S4 ⊢
      clear hw4
      generalize w3.heap.size = pb at KB ⊢
      go_wp2_with (first | (go_at_call 19; refine (QH.lives_any _ HD4.out).mono ?_; rintro e w5 ⟨rfl, hb5⟩; have HB5 := Lib.hid hb5; clear hb5))
      go_ret
      rw [hH]
      exact ⟨rfl, (hB0.out.trans (HX.out.mono hBs)).trans (HB5.out.mono (Nat.le_trans hBs HX.out.size))⟩
    · have KB := Lib.hid (Bk.put6 KZ.out (.int .i64 0) (.string ⟨#[]⟩) (.int .i64 0) (.int .i64 0) (.slice a1 0 d1) (.slice b 0 o))
      have HX := Lib.hid (set_six HB3.out (.int .i64 0) (.string ⟨#[]⟩) (.int .i64 0) (.int .i64 0) (.slice a1 0 d1) (.slice b 0 o))
      have HD4 := Lib.hid (HD0.out.below HX.out)
      have S4 := Lib.hid (S0.out.below HX.out S0.out.lt S0.out.lt2)
      clear hS3 HB3 HA HK HD1 HD2 hb1 hb2 c1 c2 c1' c2' c1d c2d c1'd c2'd TP KZ z1 g0 g1 g2 g3 g4 g5 f0 f1 f2 f3 f4 f5
      obtain ⟨w4, hw4⟩ : ∃ w4, ((((((w3.setCell ⟨w1.heap.size, 0, none⟩ (.int .i64 0)).setCell ⟨w1.heap.size, 1, none⟩ (.string ⟨#[]⟩)).setCell ⟨w1.heap.size, 2, none⟩ (.int .i64 0)).setCell ⟨w1.heap.size, 3, none⟩ (.int .i64 0)).setCell ⟨w1.heap.size, 4, none⟩ (.slice a1 0 d1)).setCell ⟨w1.heap.size, 5, none⟩ (.slice b 0 o)) = w4 := ⟨_, rfl⟩
      rw [hw4] at KB HX HD4 S4 ⊢
      clear hw4
      generalize w1.heap.size = pb at KB ⊢
      go_wp2_with (first | (go_at_call 19; refine (QH.lives_any _ HD4.out).mono ?_; rintro e w5 ⟨rfl, hb5⟩; have HB5 := Lib.hid hb5; clear hb5))
      go_ret
      rw [hH]
      exact ⟨rfl, (hB0.out.trans (HX.out.mono hBs)).trans (HB5.out.mono (Nat.le_trans hBs HX.out.size))⟩
  · by_cases hl : lo j ≤ lo i
    · rw [left_of i j hi hj hl h66] at TP
      by_cases hi6 : i = 6
      · have t1 : ((i : Int) == 6) = true := by rw [beq_iff_eq]; omega
        have t2 : ((j : Int) == 6) = false := by rw [beq_eq_false_iff_ne]; intro e; exact h66 ⟨hi6, by omega⟩
        clear h66 hi6
        have TP := Lib.hid TP
        have c1' : (w1.alloc (.cells #[.int .i64 0, .string ⟨#[]⟩, .int .i64 0, .int .i64 0, .slice none 0 0, .slice none 0 0] 25)).cell? ⟨H, i, none⟩ = some (.string ⟨#[sg i]⟩) := (World.cell?_alloc_lt _ _ _ S0.out.lt).trans c1
        have c2' : (w1.alloc (.cells #[.int .i64 0, .string ⟨#[]⟩, .int .i64 0, .int .i64 0, .slice none 0 0, .slice none 0 0] 25)).cell? ⟨H, j, none⟩ = some (.string ⟨#[sg j]⟩) := (World.cell?_alloc_lt _ _ _ S0.out.lt).trans c2
        have c1d : w1.drew.cell? ⟨H, i, none⟩ = some (.string ⟨#[sg i]⟩) := c1
        have c2d : w1.drew.cell? ⟨H, j, none⟩ = some (.string ⟨#[sg j]⟩) := c2
        have c1'd : (w1.alloc (.cells #[.int .i64 0, .string ⟨#[]⟩, .int .i64 0, .int .i64 0, .slice none 0 0, .slice none 0 0] 25)).drew.cell? ⟨H, i, none⟩ = some (.string ⟨#[sg i]⟩) := c1'
        have c2'd : (w1.alloc (.cells #[.int .i64 0, .string ⟨#[]⟩, .int .i64 0, .int .i64 0, .slice none 0 0, .slice none 0 0] 25)).drew.cell? ⟨H, j, none⟩ = some (.string ⟨#[sg j]⟩) := c2'
        have HA := Lib.hid ((Below.refl w1.heap.size w1).alloc (Nat.le_refl _) (.cells #[.int .i64 0, .string ⟨#[]⟩, .int .i64 0, .int .i64 0, .slice none 0 0, .slice none 0 0] 25))
        have HK := Lib.hid (Bk.new w1 #[.int .i64 0, .string ⟨#[]⟩, .int .i64 0, .int .i64 0, .slice none 0 0, .slice none 0 0] 25)
        have HD1 : Hid (Dig w1.drew) := HD0.out
        have HD2 : Hid (Dig (w1.alloc (.cells #[.int .i64 0, .string ⟨#[]⟩, .int .i64 0, .int .i64 0, .slice none 0 0, .slice none 0 0] 25)).drew) := HD0.out.below (below_drew HA.out)
        have hb1 : Hid (∀ w3, Below w1.drew.heap.size w1.drew w3 → Below w1.heap.size w1 w3) := fun w3 h => (below_drew (Below.refl w1.heap.size w1)).trans h
        have hb2 : Hid (∀ w3, Below (w1.alloc (.cells #[.int .i64 0, .string ⟨#[]⟩, .int .i64 0, .int .i64 0, .slice none 0 0, .slice none 0 0] 25)).drew.heap.size (w1.alloc (.cells #[.int .i64 0, .string ⟨#[]⟩, .int .i64 0, .int .i64 0, .slice none 0 0, .slice none 0 0] 25)).drew w3 → Below w1.heap.size w1 w3 ∧ Bk w3 w1.heap.size #[.int .i64 0, .string ⟨#[]⟩, .int .i64 0, .int .i64 0, .slice none 0 0, .slice none 0 0] 25) := fun w3 h => ⟨(below_drew HA.out).trans (h.mono HA.out.size), Bk.below HK.out.drew h HK.out.lt⟩
        go_region_held3 (fun w' => w'.cell? ⟨H, i, none⟩ = some (.string ⟨#[sg i]⟩) ∧ w'.cell? ⟨H, j, none⟩ = some (.string ⟨#[sg j]⟩)) (first | with_reducible exact ⟨c1d, c2d⟩ | with_reducible exact ⟨c1', c2'⟩ | with_reducible exact ⟨c1'd, c2'd⟩ | with_reducible exact ⟨hS3.out.s i hi, hS3.out.s j hj⟩ | with_reducible exact ⟨(World.cell?_alloc_lt _ _ _ hS3.out.lt).trans (hS3.out.s i hi), (World.cell?_alloc_lt _ _ _ hS3.out.lt).trans (hS3.out.s j hj)⟩ | with_reducible exact ⟨((set_six HB3.out _ _ _ _ _ _).cell (p := ⟨H, i, none⟩) S0.out.lt).trans c1, ((set_six HB3.out _ _ _ _ _ _).cell (p := ⟨H, j, none⟩) S0.out.lt).trans c2⟩ | fail)
          (first | (go_at_call 21; refine (TP.out _ (by first | with_reducible exact HD1.out | with_reducible exact HD2.out)).mono ?_; intro x w3 h3; obtain ⟨a1, d1, b, o, d, b2, o2, d2, b3, o3, rfl, B3, s0, s1, e0, e1, e2, e3, C0, C1, C2, C3, C4, C5, D0, D1, D6, D7⟩ := out_two h3; first | (have B4 := (by with_reducible exact hb1.out w3 B3); have hS3 := Lib.hid (S0.out.below B4 S0.out.lt S0.out.lt2); have HB3 := Lib.hid B4; clear h3 B3 B4) | (have B4 := (by with_reducible exact hb2.out w3 B3); have hS3 := Lib.hid (S0.out.below B4.1 S0.out.lt S0.out.lt2); have HB3 := Lib.hid B4.1; have KZ := Lib.hid B4.2; have z1 := B4.2.lt; obtain ⟨g0, g1, g2, g3, g4, g5⟩ := B4.2.c6; obtain ⟨f0, f1, f2, f3, f4, f5⟩ := B4.2.f6; clear h3 B3 B4)))
        · have KB := Lib.hid (Bk.new w3 #[.int .i64 30, .string ⟨#[]⟩, .int .i64 0, .int .i64 0, .slice a1 0 d1, .slice (some ⟨b, o, none⟩) 1 d] 25)
          have HX := Lib.hid (HB3.out.alloc HB3.out.size (.cells #[.int .i64 30, .string ⟨#[]⟩, .int .i64 0, .int .i64 0, .slice a1 0 d1, .slice (some ⟨b, o, none⟩) 1 d] 25))
          have up : ∀ {q : Addr} {v : Value}, q.block < w3.heap.size → w3.cell? q = some v → (w3.alloc (.cells #[.int .i64 30, .string ⟨#[]⟩, .int .i64 0, .int .i64 0, .slice a1 0 d1, .slice (some ⟨b, o, none⟩) 1 d] 25)).cell? q = some v := fun {q v} hq hv => (World.cell?_alloc_lt _ _ _ hq).trans hv
          have E0 := Lib.hid (And.intro (show b < (w3.alloc (.cells #[.int .i64 30, .string ⟨#[]⟩, .int .i64 0, .int .i64 0, .slice a1 0 d1, .slice (some ⟨b, o, none⟩) 1 d] 25)).heap.size by simp; omega) (show b2 < (w3.alloc (.cells #[.int .i64 30, .string ⟨#[]⟩, .int .i64 0, .int .i64 0, .slice a1 0 d1, .slice (some ⟨b, o, none⟩) 1 d] 25)).heap.size by simp; omega))
          have C0 := Lib.hid (up (by exact e0) C0)
          have C1 := Lib.hid (up (by exact e0) C1)
          have C2 := Lib.hid (up (by exact e0) C2)
          have C3 := Lib.hid (up (by exact e0) C3)
          have C4 := Lib.hid (up (by exact e0) C4)
          have C5 := Lib.hid (up (by exact e0) C5)
          have D0 := Lib.hid (up (by exact e1) D0)
          have D1 := Lib.hid (up (by exact e1) D1)
          have D6 := Lib.hid (up (by exact e1) D6)
          have D7 := Lib.hid (up (by exact e1) D7)
          have HD4 := Lib.hid (HD0.out.below HX.out)
          have S4 := Lib.hid (S0.out.below HX.out S0.out.lt S0.out.lt2)
          clear hS3 HB3 HA HK HD1 HD2 hb1 hb2 c1 c2 c1' c2' c1d c2d c1'd c2'd TP up e0 e1 s0 s1
          obtain ⟨w4, hw4⟩ : ∃ w4, (w3.alloc (.cells #[.int .i64 30, .string ⟨#[]⟩, .int .i64 0, .int .i64 0, .slice a1 0 d1, .slice (some ⟨b, o, none⟩) 1 d] 25)) = w4 := ⟨_, rfl⟩
          rw [hw4] at KB HX HD4 S4 ⊢
          rw [hw4] at E0 C0 C1 C2 C3 C4 C5 D0 D1 D6 D7
          clear hw4
          generalize w3.heap.size = pb at KB ⊢
          have k5 := KB.out.cell 5 _ rfl
          have kl := KB.out.lt
          obtain ⟨E0, E1⟩ := E0.out
          have C0 := C0.out; have C1 := C1.out; have C2 := C2.out; have C3 := C3.out; have C4 := C4.out; have C5 := C5.out
          have l1 := S4.out.l i hi; have l2 := S4.out.l j hj; have hlt := S4.out.lt; have hlt2 := S4.out.lt2
          go_wp2_with fail
          have KT := Lib.hid (Bk.new w4 #[.int .i64 13, .string ⟨#[sg j]⟩, .int .i64 0, .int .i64 3, .slice b3 0 o3, .slice (some ⟨b2, o2, none⟩) 2 d2] 25)
          have HX6 := Lib.hid (HX.out.alloc HX.out.size (.cells #[.int .i64 13, .string ⟨#[sg j]⟩, .int .i64 0, .int .i64 3, .slice b3 0 o3, .slice (some ⟨b2, o2, none⟩) 2 d2] 25))
          have F1 : Hid ((w4.alloc (.cells #[.int .i64 13, .string ⟨#[sg j]⟩, .int .i64 0, .int .i64 3, .slice b3 0 o3, .slice (some ⟨b2, o2, none⟩) 2 d2] 25)).cell? ⟨b2, o2 + 1, none⟩ = some (.string ⟨#[sg i]⟩)) := Lib.hid ((World.cell?_alloc_lt _ (.cells #[.int .i64 13, .string ⟨#[sg j]⟩, .int .i64 0, .int .i64 3, .slice b3 0 o3, .slice (some ⟨b2, o2, none⟩) 2 d2] 25) ⟨b2, o2 + 1, none⟩ E1).trans D1.out)
          have F7 : Hid ((w4.alloc (.cells #[.int .i64 13, .string ⟨#[sg j]⟩, .int .i64 0, .int .i64 3, .slice b3 0 o3, .slice (some ⟨b2, o2, none⟩) 2 d2] 25)).cell? ⟨b2, o2 + 7, none⟩ = some (.string ⟨#[122]⟩)) := Lib.hid ((World.cell?_alloc_lt _ (.cells #[.int .i64 13, .string ⟨#[sg j]⟩, .int .i64 0, .int .i64 3, .slice b3 0 o3, .slice (some ⟨b2, o2, none⟩) 2 d2] 25) ⟨b2, o2 + 7, none⟩ E1).trans D7.out)
          have E6 := Lib.hid (show b2 < (w4.alloc (.cells #[.int .i64 13, .string ⟨#[sg j]⟩, .int .i64 0, .int .i64 3, .slice b3 0 o3, .slice (some ⟨b2, o2, none⟩) 2 d2] 25)).heap.size by simp; omega)
          have HD6 := Lib.hid (HD0.out.below HX6.out)
          have S6 := Lib.hid (S0.out.below HX6.out S0.out.lt S0.out.lt2)
          clear C0 C1 C2 C3 C4 C5 D0 D1 D6 D7 k5 kl l1 l2 hlt hlt2 E0 E1 S4 HD4 HX KB
          obtain ⟨w6, hw6⟩ : ∃ w6, (w4.alloc (.cells #[.int .i64 13, .string ⟨#[sg j]⟩, .int .i64 0, .int .i64 3, .slice b3 0 o3, .slice (some ⟨b2, o2, none⟩) 2 d2] 25)) = w6 := ⟨_, rfl⟩
          rw [hw6] at KT HX6 F1 F7 E6 HD6 S6
          try rw [hw6]
          clear hw6
          generalize w4.heap.size = pt at KT ⊢
          have l1 := S6.out.l i hi; have l2 := S6.out.l j hj; have s1 := S6.out.s i hi; have s2 := S6.out.s j hj
          have hlt := S6.out.lt; have hlt2 := S6.out.lt2; have kl := KT.out.lt; have k1 := KT.out.cell 1 _ rfl; have k5 := KT.out.cell 5 _ rfl
          have e6 := E6.out; have f1 := F1.out; have f7 := F7.out
          have cmpd : decide (lo j ≤ lo i) = true := by simpa using hl
          clear hl
          go_quiet (fail)
          obtain ⟨w7, hw7⟩ : ∃ u, w6.drewN nq = u := ⟨_, rfl⟩
          have KT : Hid (Bk w7 pt #[.int .i64 13, .string ⟨#[sg j]⟩, .int .i64 0, .int .i64 3, .slice b3 0 o3, .slice (some ⟨b2, o2, none⟩) 2 d2] 25) := by rw [← hw7]; exact KT
          have HX6 : Hid (Below w1.heap.size w1 w7) := by rw [← hw7]; exact HX6.out.trans ⟨rfl, rfl, rfl, Nat.le_refl _, fun _ _ => rfl⟩
          have E6 : Hid (b2 < w7.heap.size) := by rw [← hw7]; exact E6
          have F1 : Hid (w7.cell? ⟨b2, o2 + 1, none⟩ = some (.string ⟨#[sg i]⟩)) := by rw [← hw7]; exact F1
          have F7 : Hid (w7.cell? ⟨b2, o2 + 7, none⟩ = some (.string ⟨#[122]⟩)) := by rw [← hw7]; exact F7
          have HD6 := Lib.hid (HD0.out.below HX6.out)
          have S6 := Lib.hid (S0.out.below HX6.out S0.out.lt S0.out.lt2)
          clear l1 l2 s1 s2 hlt hlt2 kl k1 k5 e6 f1 f7
          rw [hw7]
          clear hw7
          have l1 := S6.out.l i hi; have l2 := S6.out.l j hj; have s1 := S6.out.s i hi; have s2 := S6.out.s j hj
          have hlt := S6.out.lt; have hlt2 := S6.out.lt2; have kl := KT.out.lt; have k1 := KT.out.cell 1 _ rfl; have k5 := KT.out.cell 5 _ rfl
          have e6 := E6.out; have f1 := F1.out; have f7 := F7.out
          go_wp2_with fail
          go_quiet (fail)
          obtain ⟨w8, hw8⟩ : ∃ u, w7.drewN nq = u := ⟨_, rfl⟩
          have KT : Hid (Bk w8 pt #[.int .i64 13, .string ⟨#[sg j]⟩, .int .i64 0, .int .i64 3, .slice b3 0 o3, .slice (some ⟨b2, o2, none⟩) 2 d2] 25) := by rw [← hw8]; exact KT
          have HX6 : Hid (Below w1.heap.size w1 w8) := by rw [← hw8]; exact HX6.out.trans ⟨rfl, rfl, rfl, Nat.le_refl _, fun _ _ => rfl⟩
          have E6 : Hid (b2 < w8.heap.size) := by rw [← hw8]; exact E6
          have F1 : Hid (w8.cell? ⟨b2, o2 + 1, none⟩ = some (.string ⟨#[sg i]⟩)) := by rw [← hw8]; exact F1
          have F7 : Hid (w8.cell? ⟨b2, o2 + 7, none⟩ = some (.string ⟨#[122]⟩)) := by rw [← hw8]; exact F7
          have HD6 := Lib.hid (HD0.out.below HX6.out)
          have S6 := Lib.hid (S0.out.below HX6.out S0.out.lt S0.out.lt2)
          clear l1 l2 s1 s2 hlt hlt2 kl k1 k5 e6 f1 f7
          rw [hw8]
          clear hw8
          have l1 := S6.out.l i hi; have l2 := S6.out.l j hj; have s1 := S6.out.s i hi; have s2 := S6.out.s j hj
          have hlt := S6.out.lt; have hlt2 := S6.out.lt2; have kl := KT.out.lt; have k1 := KT.out.cell 1 _ rfl; have k5 := KT.out.cell 5 _ rfl
          have e6 := E6.out; have f1 := F1.out; have f7 := F7.out
          go_wp2_with fail
          go_quiet (fail)
          obtain ⟨w9, hw9⟩ : ∃ u, w8.drewN nq = u := ⟨_, rfl⟩
          have KT : Hid (Bk w9 pt #[.int .i64 13, .string ⟨#[sg j]⟩, .int .i64 0, .int .i64 3, .slice b3 0 o3, .slice (some ⟨b2, o2, none⟩) 2 d2] 25) := by rw [← hw9]; exact KT
          have HX6 : Hid (Below w1.heap.size w1 w9) := by rw [← hw9]; exact HX6.out.trans ⟨rfl, rfl, rfl, Nat.le_refl _, fun _ _ => rfl⟩
          have E6 : Hid (b2 < w9.heap.size) := by rw [← hw9]; exact E6
          have F1 : Hid (w9.cell? ⟨b2, o2 + 1, none⟩ = some (.string ⟨#[sg i]⟩)) := by rw [← hw9]; exact F1
          have F7 : Hid (w9.cell? ⟨b2, o2 + 7, none⟩ = some (.string ⟨#[122]⟩)) := by rw [← hw9]; exact F7
          have HD6 := Lib.hid (HD0.out.below HX6.out)
          have S6 := Lib.hid (S0.out.below HX6.out S0.out.lt S0.out.lt2)
          clear l1 l2 s1 s2 hlt hlt2 kl k1 k5 e6 f1 f7
          rw [hw9]
          clear hw9
          have l1 := S6.out.l i hi; have l2 := S6.out.l j hj; have s1 := S6.out.s i hi; have s2 := S6.out.s j hj
          have hlt := S6.out.lt; have hlt2 := S6.out.lt2; have kl := KT.out.lt; have k1 := KT.out.cell 1 _ rfl; have k5 := KT.out.cell 5 _ rfl
          have e6 := E6.out; have f1 := F1.out; have f7 := F7.out
          have m1 := S6.out.s k (by omega)
          have k0 : (0 : Int) ≤ (k : Int) := by omega
          have k7 : (k : Int) < 7 := by omega
          go_wp2_with fail
          refine (TQ.out w9 HD6.out).mono ?_
          intro x u h
          obtain ⟨a1', d1', c, p, c', c2, p2, c2', b3', o3', rfl, B3, -, -, e0, e1, g2, g3, -, -, -, -, -, G5, G0, -, G6, -⟩ := out_two h
          have HXA := Lib.hid (HX6.out.trans (B3.mono HX6.out.size))
          have HX9 := Lib.hid (HXA.out.alloc HXA.out.size (.cells #[.int .i64 30, .string ⟨#[]⟩, .int .i64 0, .int .i64 0, .slice a1' 0 d1', .slice (some ⟨c, p, none⟩) 1 c'] 25))
          have HD9 := Lib.hid (HD0.out.below HX9.out)
          have G0 : u.cell? ⟨c2, p2, none⟩ = some (.int .i64 7) := G0
          have G6 : u.cell? ⟨c2, p2 + 6, none⟩ = some (.int .i64 7) := G6
          clear h TQ l1 l2 s1 s2 hlt hlt2 kl k1 k5 e6 f1 f7 B3 HX6 HXA KT E6 F1 F7 S6 HD6 m1
          go_wp2_with (first | (go_at_call 19; refine (QH.lives_any _ HD9.out).mono ?_; rintro e w5 ⟨rfl, hb5⟩; have HB5 := Lib.hid hb5; clear hb5))
          go_ret
          rw [hH]
          exact ⟨rfl, (hB0.out.trans (HX9.out.mono hBs)).trans (HB5.out.mono (Nat.le_trans hBs HX9.out.size))⟩
        · have KB := Lib.hid (Bk.put6 KZ.out (.int .i64 30) (.string ⟨#[]⟩) (.int .i64 0) (.int .i64 0) (.slice a1 0 d1) (.slice (some ⟨b, o, none⟩) 1 d))
          have HX := Lib.hid (set_six HB3.out (.int .i64 30) (.string ⟨#[]⟩) (.int .i64 0) (.int .i64 0) (.slice a1 0 d1) (.slice (some ⟨b, o, none⟩) 1 d))
          have zz : (w1.alloc (.cells #[.int .i64 0, .string ⟨#[]⟩, .int .i64 0, .int .i64 0, .slice none 0 0, .slice none 0 0] 25)).drew.heap.size = w1.heap.size + 1 := by simp [World.drew]
          have y0 : b ≠ w1.heap.size := by omega
          have y1 : b2 ≠ w1.heap.size := by omega
          clear zz
          have up : ∀ {q : Addr} {v : Value}, q.block ≠ w1.heap.size → w3.cell? q = some v → ((((((w3.setCell ⟨w1.heap.size, 0, none⟩ (.int .i64 30)).setCell ⟨w1.heap.size, 1, none⟩ (.string ⟨#[]⟩)).setCell ⟨w1.heap.size, 2, none⟩ (.int .i64 0)).setCell ⟨w1.heap.size, 3, none⟩ (.int .i64 0)).setCell ⟨w1.heap.size, 4, none⟩ (.slice a1 0 d1)).setCell ⟨w1.heap.size, 5, none⟩ (.slice (some ⟨b, o, none⟩) 1 d)).cell? q = some v := fun {q v} hq hv => (set_six_cell hq _ _ _ _ _ _).trans hv
          have E0 := Lib.hid (And.intro (show b < ((((((w3.setCell ⟨w1.heap.size, 0, none⟩ (.int .i64 30)).setCell ⟨w1.heap.size, 1, none⟩ (.string ⟨#[]⟩)).setCell ⟨w1.heap.size, 2, none⟩ (.int .i64 0)).setCell ⟨w1.heap.size, 3, none⟩ (.int .i64 0)).setCell ⟨w1.heap.size, 4, none⟩ (.slice a1 0 d1)).setCell ⟨w1.heap.size, 5, none⟩ (.slice (some ⟨b, o, none⟩) 1 d)).heap.size by simp only [PS.set_size]; exact e0) (show b2 < ((((((w3.setCell ⟨w1.heap.size, 0, none⟩ (.int .i64 30)).setCell ⟨w1.heap.size, 1, none⟩ (.string ⟨#[]⟩)).setCell ⟨w1.heap.size, 2, none⟩ (.int .i64 0)).setCell ⟨w1.heap.size, 3, none⟩ (.int .i64 0)).setCell ⟨w1.heap.size, 4, none⟩ (.slice a1 0 d1)).setCell ⟨w1.heap.size, 5, none⟩ (.slice (some ⟨b, o, none⟩) 1 d)).heap.size by simp only [PS.set_size]; exact e1))
          have C0 := Lib.hid (up (by exact y0) C0)
          have C1 := Lib.hid (up (by exact y0) C1)
          have C2 := Lib.hid (up (by exact y0) C2)
          have C3 := Lib.hid (up (by exact y0) C3)
          have C4 := Lib.hid (up (by exact y0) C4)
          have C5 := Lib.hid (up (by exact y0) C5)
          have D0 := Lib.hid (up (by exact y1) D0)
          have D1 := Lib.hid (up (by exact y1) D1)
          have D6 := Lib.hid (up (by exact y1) D6)
          have D7 := Lib.hid (up (by exact y1) D7)
          have HD4 := Lib.hid (HD0.out.below HX.out)
          have S4 := Lib.hid (S0.out.below HX.out S0.out.lt S0.out.lt2)
          clear hS3 HB3 HA HK HD1 HD2 hb1 hb2 c1 c2 c1' c2' c1d c2d c1'd c2'd TP KZ z1 g0 g1 g2 g3 g4 g5 f0 f1 f2 f3 f4 f5 up e0 e1 s0 s1 y0 y1
          obtain ⟨w4, hw4⟩ : ∃ w4, ((((((w3.setCell ⟨w1.heap.size, 0, none⟩ (.int .i64 30)).setCell ⟨w1.heap.size, 1, none⟩ (.string ⟨#[]⟩)).setCell ⟨w1.heap.size, 2, none⟩ (.int .i64 0)).setCell ⟨w1.heap.size, 3, none⟩ (.int .i64 0)).setCell ⟨w1.heap.size, 4, none⟩ (.slice a1 0 d1)).setCell ⟨w1.heap.size, 5, none⟩ (.slice (some ⟨b, o, none⟩) 1 d)) = w4 := ⟨_, rfl⟩
          rw [hw4] at KB HX HD4 S4 ⊢
          rw [hw4] at E0 C0 C1 C2 C3 C4 C5 D0 D1 D6 D7
          clear hw4
          generalize w1.heap.size = pb at KB ⊢
          have k5 := KB.out.cell 5 _ rfl
          have kl := KB.out.lt
          obtain ⟨E0, E1⟩ := E0.out
          have C0 := C0.out; have C1 := C1.out; have C2 := C2.out; have C3 := C3.out; have C4 := C4.out; have C5 := C5.out
          have l1 := S4.out.l i hi; have l2 := S4.out.l j hj; have hlt := S4.out.lt; have hlt2 := S4.out.lt2
          go_wp2_with fail
          have KT := Lib.hid (Bk.new w4 #[.int .i64 13, .string ⟨#[sg j]⟩, .int .i64 0, .int .i64 3, .slice b3 0 o3, .slice (some ⟨b2, o2, none⟩) 2 d2] 25)
          have HX6 := Lib.hid (HX.out.alloc HX.out.size (.cells #[.int .i64 13, .string ⟨#[sg j]⟩, .int .i64 0, .int .i64 3, .slice b3 0 o3, .slice (some ⟨b2, o2, none⟩) 2 d2] 25))
          have F1 : Hid ((w4.alloc (.cells #[.int .i64 13, .string ⟨#[sg j]⟩, .int .i64 0, .int .i64 3, .slice b3 0 o3, .slice (some ⟨b2, o2, none⟩) 2 d2] 25)).cell? ⟨b2, o2 + 1, none⟩ = some (.string ⟨#[sg i]⟩)) := Lib.hid ((World.cell?_alloc_lt _ (.cells #[.int .i64 13, .string ⟨#[sg j]⟩, .int .i64 0, .int .i64 3, .slice b3 0 o3, .slice (some ⟨b2, o2, none⟩) 2 d2] 25) ⟨b2, o2 + 1, none⟩ E1).trans D1.out)
          have F7 : Hid ((w4.alloc (.cells #[.int .i64 13, .string ⟨#[sg j]⟩, .int .i64 0, .int .i64 3, .slice b3 0 o3, .slice (some ⟨b2, o2, none⟩) 2 d2] 25)).cell? ⟨b2, o2 + 7, none⟩ = some (.string ⟨#[122]⟩)) := Lib.hid ((World.cell?_alloc_lt _ (.cells #[.int .i64 13, .string ⟨#[sg j]⟩, .int .i64 0, .int .i64 3, .slice b3 0 o3, .slice (some ⟨b2, o2, none⟩) 2 d2] 25) ⟨b2, o2 + 7, none⟩ E1).trans D7.out)
          have E6 := Lib.hid (show b2 < (w4.alloc (.cells #[.int .i64 13, .string ⟨#[sg j]⟩, .int .i64 0, .int .i64 3, .slice b3 0 o3, .slice (some ⟨b2, o2, none⟩) 2 d2] 25)).heap.size by simp; omega)
          have HD6 := Lib.hid (HD0.out.below HX6.out)
          have S6 := Lib.hid (S0.out.below HX6.out S0.out.lt S0.out.lt2)
          clear C0 C1 C2 C3 C4 C5 D0 D1 D6 D7 k5 kl l1 l2 hlt hlt2 E0 E1 S4 HD4 HX KB
          obtain ⟨w6, hw6⟩ : ∃ w6, (w4.alloc (.cells #[.int .i64 13, .string ⟨#[sg j]⟩, .int .i64 0, .int .i64 3, .slice b3 0 o3, .slice (some ⟨b2, o2, none⟩) 2 d2] 25)) = w6 := ⟨_, rfl⟩
          rw [hw6] at KT HX6 F1 F7 E6 HD6 S6
          try rw [hw6]
          clear hw6
          generalize w4.heap.size = pt at KT ⊢
          have l1 := S6.out.l i hi; have l2 := S6.out.l j hj; have s1 := S6.out.s i hi; have s2 := S6.out.s j hj
          have hlt := S6.out.lt; have hlt2 := S6.out.lt2; have kl := KT.out.lt; have k1 := KT.out.cell 1 _ rfl; have k5 := KT.out.cell 5 _ rfl
          have e6 := E6.out; have f1 := F1.out; have f7 := F7.out
          have cmpd : decide (lo j ≤ lo i) = true := by simpa using hl
          clear hl
          go_quiet (fail)
          obtain ⟨w7, hw7⟩ : ∃ u, w6.drewN nq = u := ⟨_, rfl⟩
          have KT : Hid (Bk w7 pt #[.int .i64 13, .string ⟨#[sg j]⟩, .int .i64 0, .int .i64 3, .slice b3 0 o3, .slice (some ⟨b2, o2, none⟩) 2 d2] 25) := by rw [← hw7]; exact KT
          have HX6 : Hid (Below w1.heap.size w1 w7) := by rw [← hw7]; exact HX6.out.trans ⟨rfl, rfl, rfl, Nat.le_refl _, fun _ _ => rfl⟩
          have E6 : Hid (b2 < w7.heap.size) := by rw [← hw7]; exact E6
          have F1 : Hid (w7.cell? ⟨b2, o2 + 1, none⟩ = some (.string ⟨#[sg i]⟩)) := by rw [← hw7]; exact F1
          have F7 : Hid (w7.cell? ⟨b2, o2 + 7, none⟩ = some (.string ⟨#[122]⟩)) := by rw [← hw7]; exact F7
          have HD6 := Lib.hid (HD0.out.below HX6.out)
          have S6 := Lib.hid (S0.out.below HX6.out S0.out.lt S0.out.lt2)
          clear l1 l2 s1 s2 hlt hlt2 kl k1 k5 e6 f1 f7
          rw [hw7]
          clear hw7
          have l1 := S6.out.l i hi; have l2 := S6.out.l j hj; have s1 := S6.out.s i hi; have s2 := S6.out.s j hj
          have hlt := S6.out.lt; have hlt2 := S6.out.lt2; have kl := KT.out.lt; have k1 := KT.out.cell 1 _ rfl; have k5 := KT.out.cell 5 _ rfl
          have e6 := E6.out; have f1 := F1.out; have f7 := F7.out
          go_wp2_with fail
          go_quiet (fail)
          obtain ⟨w8, hw8⟩ : ∃ u, w7.drewN nq = u := ⟨_, rfl⟩
          have KT : Hid (Bk w8 pt #[.int .i64 13, .string ⟨#[sg j]⟩, .int .i64 0, .int .i64 3, .slice b3 0 o3, .slice (some ⟨b2, o2, none⟩) 2 d2] 25) := by rw [← hw8]; exact KT
          have HX6 : Hid (Below w1.heap.size w1 w8) := by rw [← hw8]; exact HX6.out.trans ⟨rfl, rfl, rfl, Nat.le_refl _, fun _ _ => rfl⟩
          have E6 : Hid (b2 < w8.heap.size) := by rw [← hw8]; exact E6
          have F1 : Hid (w8.cell? ⟨b2, o2 + 1, none⟩ = some (.string ⟨#[sg i]⟩)) := by rw [← hw8]; exact F1
          have F7 : Hid (w8.cell? ⟨b2, o2 + 7, none⟩ = some (.string ⟨#[122]⟩)) := by rw [← hw8]; exact F7
          have HD6 := Lib.hid (HD0.out.below HX6.out)
          have S6 := Lib.hid (S0.out.below HX6.out S0.out.lt S0.out.lt2)
          clear l1 l2 s1 s2 hlt hlt2 kl k1 k5 e6 f1 f7
          rw [hw8]
          clear hw8
          have l1 := S6.out.l i hi; have l2 := S6.out.l j hj; have s1 := S6.out.s i hi; have s2 := S6.out.s j hj
          have hlt := S6.out.lt; have hlt2 := S6.out.lt2; have kl := KT.out.lt; have k1 := KT.out.cell 1 _ rfl; have k5 := KT.out.cell 5 _ rfl
          have e6 := E6.out; have f1 := F1.out; have f7 := F7.out
          go_wp2_with fail
          go_quiet (fail)
          obtain ⟨w9, hw9⟩ : ∃ u, w8.drewN nq = u := ⟨_, rfl⟩
          have KT : Hid (Bk w9 pt #[.int .i64 13, .string ⟨#[sg j]⟩, .int .i64 0, .int .i64 3, .slice b3 0 o3, .slice (some ⟨b2, o2, none⟩) 2 d2] 25) := by rw [← hw9]; exact KT
          have HX6 : Hid (Below w1.heap.size w1 w9) := by rw [← hw9]; exact HX6.out.trans ⟨rfl, rfl, rfl, Nat.le_refl _, fun _ _ => rfl⟩
          have E6 : Hid (b2 < w9.heap.size) := by rw [← hw9]; exact E6
          have F1 : Hid (w9.cell? ⟨b2, o2 + 1, none⟩ = some (.string ⟨#[sg i]⟩)) := by rw [← hw9]; exact F1
          have F7 : Hid (w9.cell? ⟨b2, o2 + 7, none⟩ = some (.string ⟨#[122]⟩)) := by rw [← hw9]; exact F7
          have HD6 := Lib.hid (HD0.out.below HX6.out)
          have S6 := Lib.hid (S0.out.below HX6.out S0.out.lt S0.out.lt2)
          clear l1 l2 s1 s2 hlt hlt2 kl k1 k5 e6 f1 f7
          rw [hw9]
          clear hw9
          have l1 := S6.out.l i hi; have l2 := S6.out.l j hj; have s1 := S6.out.s i hi; have s2 := S6.out.s j hj
          have hlt := S6.out.lt; have hlt2 := S6.out.lt2; have kl := KT.out.lt; have k1 := KT.out.cell 1 _ rfl; have k5 := KT.out.cell 5 _ rfl
          have e6 := E6.out; have f1 := F1.out; have f7 := F7.out
          have m1 := S6.out.s k (by omega)
          have k0 : (0 : Int) ≤ (k : Int) := by omega
          have k7 : (k : Int) < 7 := by omega
          go_wp2_with fail
          refine (TQ.out w9 HD6.out).mono ?_
          intro x u h
          obtain ⟨a1', d1', c, p, c', c2, p2, c2', b3', o3', rfl, B3, -, -, e0, e1, g2, g3, -, -, -, -, -, G5, G0, -, G6, -⟩ := out_two h
          have HXA := Lib.hid (HX6.out.trans (B3.mono HX6.out.size))
          have HX9 := Lib.hid (HXA.out.alloc HXA.out.size (.cells #[.int .i64 30, .string ⟨#[]⟩, .int .i64 0, .int .i64 0, .slice a1' 0 d1', .slice (some ⟨c, p, none⟩) 1 c'] 25))
          have HD9 := Lib.hid (HD0.out.below HX9.out)
          have G0 : u.cell? ⟨c2, p2, none⟩ = some (.int .i64 7) := G0
          have G6 : u.cell? ⟨c2, p2 + 6, none⟩ = some (.int .i64 7) := G6
          clear h TQ l1 l2 s1 s2 hlt hlt2 kl k1 k5 e6 f1 f7 B3 HX6 HXA KT E6 F1 F7 S6 HD6 m1
          go_wp2_with (first | (go_at_call 19; refine (QH.lives_any _ HD9.out).mono ?_; rintro e w5 ⟨rfl, hb5⟩; have HB5 := Lib.hid hb5; clear hb5))
          go_ret
          rw [hH]
          exact ⟨rfl, (hB0.out.trans (HX9.out.mono hBs)).trans (HB5.out.mono (Nat.le_trans hBs HX9.out.size))⟩
      · have t1 : ((i : Int) == 6) = false := by rw [beq_eq_false_iff_ne]; intro e; exact hi6 (by omega)
        clear h66 hi6
        have TP := Lib.hid TP
        have c1' : (w1.alloc (.cells #[.int .i64 0, .string ⟨#[]⟩, .int .i64 0, .int .i64 0, .slice none 0 0, .slice none 0 0] 25)).cell? ⟨H, i, none⟩ = some (.string ⟨#[sg i]⟩) := (World.cell?_alloc_lt _ _ _ S0.out.lt).trans c1
        have c2' : (w1.alloc (.cells #[.int .i64 0, .string ⟨#[]⟩, .int .i64 0, .int .i64 0, .slice none 0 0, .slice none 0 0] 25)).cell? ⟨H, j, none⟩ = some (.string ⟨#[sg j]⟩) := (World.cell?_alloc_lt _ _ _ S0.out.lt).trans c2
        have c1d : w1.drew.cell? ⟨H, i, none⟩ = some (.string ⟨#[sg i]⟩) := c1
        have c2d : w1.drew.cell? ⟨H, j, none⟩ = some (.string ⟨#[sg j]⟩) := c2
        have c1'd : (w1.alloc (.cells #[.int .i64 0, .string ⟨#[]⟩, .int .i64 0, .int .i64 0, .slice none 0 0, .slice none 0 0] 25)).drew.cell? ⟨H, i, none⟩ = some (.string ⟨#[sg i]⟩) := c1'
        have c2'd : (w1.alloc (.cells #[.int .i64 0, .string ⟨#[]⟩, .int .i64 0, .int .i64 0, .slice none 0 0, .slice none 0 0] 25)).drew.cell? ⟨H, j, none⟩ = some (.string ⟨#[sg j]⟩) := c2'
        have HA := Lib.hid ((Below.refl w1.heap.size w1).alloc (Nat.le_refl _) (.cells #[.int .i64 0, .string ⟨#[]⟩, .int .i64 0, .int .i64 0, .slice none 0 0, .slice none 0 0] 25))
        have HK := Lib.hid (Bk.new w1 #[.int .i64 0, .string ⟨#[]⟩, .int .i64 0, .int .i64 0, .slice none 0 0, .slice none 0 0] 25)
        have HD1 : Hid (Dig w1.drew) := HD0.out
        have HD2 : Hid (Dig (w1.alloc (.cells #[.int .i64 0, .string ⟨#[]⟩, .int .i64 0, .int .i64 0, .slice none 0 0, .slice none 0 0] 25)).drew) := HD0.out.below (below_drew HA.out)
        have hb1 : Hid (∀ w3, Below w1.drew.heap.size w1.drew w3 → Below w1.heap.size w1 w3) := fun w3 h => (below_drew (Below.refl w1.heap.size w1)).trans h
        have hb2 : Hid (∀ w3, Below (w1.alloc (.cells #[.int .i64 0, .string ⟨#[]⟩, .int .i64 0, .int .i64 0, .slice none 0 0, .slice none 0 0] 25)).drew.heap.size (w1.alloc (.cells #[.int .i64 0, .string ⟨#[]⟩, .int .i64 0, .int .i64 0, .slice none 0 0, .slice none 0 0] 25)).drew w3 → Below w1.heap.size w1 w3 ∧ Bk w3 w1.heap.size #[.int .i64 0, .string ⟨#[]⟩, .int .i64 0, .int .i64 0, .slice none 0 0, .slice none 0 0] 25) := fun w3 h => ⟨(below_drew HA.out).trans (h.mono HA.out.size), Bk.below HK.out.drew h HK.out.lt⟩
        go_region_held3 (fun w' => w'.cell? ⟨H, i, none⟩ = some (.string ⟨#[sg i]⟩) ∧ w'.cell? ⟨H, j, none⟩ = some (.string ⟨#[sg j]⟩)) (first | with_reducible exact ⟨c1d, c2d⟩ | with_reducible exact ⟨c1', c2'⟩ | with_reducible exact ⟨c1'd, c2'd⟩ | with_reducible exact ⟨hS3.out.s i hi, hS3.out.s j hj⟩ | with_reducible exact ⟨(World.cell?_alloc_lt _ _ _ hS3.out.lt).trans (hS3.out.s i hi), (World.cell?_alloc_lt _ _ _ hS3.out.lt).trans (hS3.out.s j hj)⟩ | with_reducible exact ⟨((set_six HB3.out _ _ _ _ _ _).cell (p := ⟨H, i, none⟩) S0.out.lt).trans c1, ((set_six HB3.out _ _ _ _ _ _).cell (p := ⟨H, j, none⟩) S0.out.lt).trans c2⟩ | fail)
          (first | (go_at_call 21; refine (TP.out _ (by first | with_reducible exact HD1.out | with_reducible exact HD2.out)).mono ?_; intro x w3 h3; obtain ⟨a1, d1, b, o, d, b2, o2, d2, b3, o3, rfl, B3, s0, s1, e0, e1, e2, e3, C0, C1, C2, C3, C4, C5, D0, D1, D6, D7⟩ := out_two h3; first | (have B4 := (by with_reducible exact hb1.out w3 B3); have hS3 := Lib.hid (S0.out.below B4 S0.out.lt S0.out.lt2); have HB3 := Lib.hid B4; clear h3 B3 B4) | (have B4 := (by with_reducible exact hb2.out w3 B3); have hS3 := Lib.hid (S0.out.below B4.1 S0.out.lt S0.out.lt2); have HB3 := Lib.hid B4.1; have KZ := Lib.hid B4.2; have z1 := B4.2.lt; obtain ⟨g0, g1, g2, g3, g4, g5⟩ := B4.2.c6; obtain ⟨f0, f1, f2, f3, f4, f5⟩ := B4.2.f6; clear h3 B3 B4)))
        · have KB := Lib.hid (Bk.new w3 #[.int .i64 30, .string ⟨#[]⟩, .int .i64 0, .int .i64 0, .slice a1 0 d1, .slice (some ⟨b, o, none⟩) 1 d] 25)
          have HX := Lib.hid (HB3.out.alloc HB3.out.size (.cells #[.int .i64 30, .string ⟨#[]⟩, .int .i64 0, .int .i64 0, .slice a1 0 d1, .slice (some ⟨b, o, none⟩) 1 d] 25))
          have up : ∀ {q : Addr} {v : Value}, q.block < w3.heap.size → w3.cell? q = some v → (w3.alloc (.cells #[.int .i64 30, .string ⟨#[]⟩, .int .i64 0, .int .i64 0, .slice a1 0 d1, .slice (some ⟨b, o, none⟩) 1 d] 25)).cell? q = some v := fun {q v} hq hv => (World.cell?_alloc_lt _ _ _ hq).trans hv
          have E0 := Lib.hid (And.intro (show b < (w3.alloc (.cells #[.int .i64 30, .string ⟨#[]⟩, .int .i64 0, .int .i64 0, .slice a1 0 d1, .slice (some ⟨b, o, none⟩) 1 d] 25)).heap.size by simp; omega) (show b2 < (w3.alloc (.cells #[.int .i64 30, .string ⟨#[]⟩, .int .i64 0, .int .i64 0, .slice a1 0 d1, .slice (some ⟨b, o, none⟩) 1 d] 25)).heap.size by simp; omega))
          have C0 := Lib.hid (up (by exact e0) C0)
          have C1 := Lib.hid (up (by exact e0) C1)
          have C2 := Lib.hid (up (by exact e0) C2)
          have C3 := Lib.hid (up (by exact e0) C3)
          have C4 := Lib.hid (up (by exact e0) C4)
          have C5 := Lib.hid (up (by exact e0) C5)
          have D0 := Lib.hid (up (by exact e1) D0)
          have D1 := Lib.hid (up (by exact e1) D1)
          have D6 := Lib.hid (up (by exact e1) D6)
          have D7 := Lib.hid (up (by exact e1) D7)
          have HD4 := Lib.hid (HD0.out.below HX.out)
          have S4 := Lib.hid (S0.out.below HX.out S0.out.lt S0.out.lt2)
          clear hS3 HB3 HA HK HD1 HD2 hb1 hb2 c1 c2 c1' c2' c1d c2d c1'd c2'd TP up e0 e1 s0 s1
          obtain ⟨w4, hw4⟩ : ∃ w4, (w3.alloc (.cells #[.int .i64 30, .string ⟨#[]⟩, .int .i64 0, .int .i64 0, .slice a1 0 d1, .slice (some ⟨b, o, none⟩) 1 d] 25)) = w4 := ⟨_, rfl⟩
          rw [hw4] at KB HX HD4 S4 ⊢
          rw [hw4] at E0 C0 C1 C2 C3 C4 C5 D0 D1 D6 D7
          clear hw4
          generalize w3.heap.size = pb at KB ⊢
          have k5 := KB.out.cell 5 _ rfl
          have kl := KB.out.lt
          obtain ⟨E0, E1⟩ := E0.out
          have C0 := C0.out; have C1 := C1.out; have C2 := C2.out; have C3 := C3.out; have C4 := C4.out; have C5 := C5.out
          have l1 := S4.out.l i hi; have l2 := S4.out.l j hj; have hlt := S4.out.lt; have hlt2 := S4.out.lt2
          go_wp2_with fail
          have KT := Lib.hid (Bk.new w4 #[.int .i64 13, .string ⟨#[sg j]⟩, .int .i64 0, .int .i64 3, .slice b3 0 o3, .slice (some ⟨b2, o2, none⟩) 2 d2] 25)
          have HX6 := Lib.hid (HX.out.alloc HX.out.size (.cells #[.int .i64 13, .string ⟨#[sg j]⟩, .int .i64 0, .int .i64 3, .slice b3 0 o3, .slice (some ⟨b2, o2, none⟩) 2 d2] 25))
          have F1 : Hid ((w4.alloc (.cells #[.int .i64 13, .string ⟨#[sg j]⟩, .int .i64 0, .int .i64 3, .slice b3 0 o3, .slice (some ⟨b2, o2, none⟩) 2 d2] 25)).cell? ⟨b2, o2 + 1, none⟩ = some (.string ⟨#[sg i]⟩)) := Lib.hid ((World.cell?_alloc_lt _ (.cells #[.int .i64 13, .string ⟨#[sg j]⟩, .int .i64 0, .int .i64 3, .slice b3 0 o3, .slice (some ⟨b2, o2, none⟩) 2 d2] 25) ⟨b2, o2 + 1, none⟩ E1).trans D1.out)
          have F7 : Hid ((w4.alloc (.cells #[.int .i64 13, .string ⟨#[sg j]⟩, .int .i64 0, .int .i64 3, .slice b3 0 o3, .slice (some ⟨b2, o2, none⟩) 2 d2] 25)).cell? ⟨b2, o2 + 7, none⟩ = some (.string ⟨#[122]⟩)) := Lib.hid ((World.cell?_alloc_lt _ (.cells #[.int .i64 13, .string ⟨#[sg j]⟩, .int .i64 0, .int .i64 3, .slice b3 0 o3, .slice (some ⟨b2, o2, none⟩) 2 d2] 25) ⟨b2, o2 + 7, none⟩ E1).trans D7.out)
          have E6 := Lib.hid (show b2 < (w4.alloc (.cells #[.int .i64 13, .string ⟨#[sg j]⟩, .int .i64 0, .int .i64 3, .slice b3 0 o3, .slice (some ⟨b2, o2, none⟩) 2 d2] 25)).heap.size by simp; omega)
          have HD6 := Lib.hid (HD0.out.below HX6.out)
          have S6 := Lib.hid (S0.out.below HX6.out S0.out.lt S0.out.lt2)
          clear C0 C1 C2 C3 C4 C5 D0 D1 D6 D7 k5 kl l1 l2 hlt hlt2 E0 E1 S4 HD4 HX KB
          obtain ⟨w6, hw6⟩ : ∃ w6, (w4.alloc (.cells #[.int .i64 13, .string ⟨#[sg j]⟩, .int .i64 0, .int .i64 3, .slice b3 0 o3, .slice (some ⟨b2, o2, none⟩) 2 d2] 25)) = w6 := ⟨_, rfl⟩
          rw [hw6] at KT HX6 F1 F7 E6 HD6 S6
          try rw [hw6]
          clear hw6
          generalize w4.heap.size = pt at KT ⊢
          have l1 := S6.out.l i hi; have l2 := S6.out.l j hj; have s1 := S6.out.s i hi; have s2 := S6.out.s j hj
          have hlt := S6.out.lt; have hlt2 := S6.out.lt2; have kl := KT.out.lt; have k1 := KT.out.cell 1 _ rfl; have k5 := KT.out.cell 5 _ rfl
          have e6 := E6.out; have f1 := F1.out; have f7 := F7.out
          have cmpd : decide (lo j ≤ lo i) = true := by simpa using hl
          clear hl
          go_quiet (fail)
          obtain ⟨w7, hw7⟩ : ∃ u, w6.drewN nq = u := ⟨_, rfl⟩
          have KT : Hid (Bk w7 pt #[.int .i64 13, .string ⟨#[sg j]⟩, .int .i64 0, .int .i64 3, .slice b3 0 o3, .slice (some ⟨b2, o2, none⟩) 2 d2] 25) := by rw [← hw7]; exact KT
          have HX6 : Hid (Below w1.heap.size w1 w7) := by rw [← hw7]; exact HX6.out.trans ⟨rfl, rfl, rfl, Nat.le_refl _, fun _ _ => rfl⟩
          have E6 : Hid (b2 < w7.heap.size) := by rw [← hw7]; exact E6
          have F1 : Hid (w7.cell? ⟨b2, o2 + 1, none⟩ = some (.string ⟨#[sg i]⟩)) := by rw [← hw7]; exact F1
          have F7 : Hid (w7.cell? ⟨b2, o2 + 7, none⟩ = some (.string ⟨#[122]⟩)) := by rw [← hw7]; exact F7
          have HD6 := Lib.hid (HD0.out.below HX6.out)
          have S6 := Lib.hid (S0.out.below HX6.out S0.out.lt S0.out.lt2)
          clear l1 l2 s1 s2 hlt hlt2 kl k1 k5 e6 f1 f7
          rw [hw7]
          clear hw7
          have l1 := S6.out.l i hi; have l2 := S6.out.l j hj; have s1 := S6.out.s i hi; have s2 := S6.out.s j hj
          have hlt := S6.out.lt; have hlt2 := S6.out.lt2; have kl := KT.out.lt; have k1 := KT.out.cell 1 _ rfl; have k5 := KT.out.cell 5 _ rfl
          have e6 := E6.out; have f1 := F1.out; have f7 := F7.out
          go_wp2_with fail
          go_quiet (fail)
          obtain ⟨w8, hw8⟩ : ∃ u, w7.drewN nq = u := ⟨_, rfl⟩
          have KT : Hid (Bk w8 pt #[.int .i64 13, .string ⟨#[sg j]⟩, .int .i64 0, .int .i64 3, .slice b3 0 o3, .slice (some ⟨b2, o2, none⟩) 2 d2] 25) := by rw [← hw8]; exact KT
          have HX6 : Hid (Below w1.heap.size w1 w8) := by rw [← hw8]; exact HX6.out.trans ⟨rfl, rfl, rfl, Nat.le_refl _, fun _ _ => rfl⟩
          have E6 : Hid (b2 < w8.heap.size) := by rw [← hw8]; exact E6
          have F1 : Hid (w8.cell? ⟨b2, o2 + 1, none⟩ = some (.string ⟨#[sg i]⟩)) := by rw [← hw8]; exact F1
          have F7 : Hid (w8.cell? ⟨b2, o2 + 7, none⟩ = some (.string ⟨#[122]⟩)) := by rw [← hw8]; exact F7
          have HD6 := Lib.hid (HD0.out.below HX6.out)
          have S6 := Lib.hid (S0.out.below HX6.out S0.out.lt S0.out.lt2)
          clear l1 l2 s1 s2 hlt hlt2 kl k1 k5 e6 f1 f7
          rw [hw8]
          clear hw8
          have l1 := S6.out.l i hi; have l2 := S6.out.l j hj; have s1 := S6.out.s i hi; have s2 := S6.out.s j hj
          have hlt := S6.out.lt; have hlt2 := S6.out.lt2; have kl := KT.out.lt; have k1 := KT.out.cell 1 _ rfl; have k5 := KT.out.cell 5 _ rfl
          have e6 := E6.out; have f1 := F1.out; have f7 := F7.out
          go_wp2_with fail
          go_quiet (fail)
          obtain ⟨w9, hw9⟩ : ∃ u, w8.drewN nq = u := ⟨_, rfl⟩
          have KT : Hid (Bk w9 pt #[.int .i64 13, .string ⟨#[sg j]⟩, .int .i64 0, .int .i64 3, .slice b3 0 o3, .slice (some ⟨b2, o2, none⟩) 2 d2] 25) := by rw [← hw9]; exact KT
          have HX6 : Hid (Below w1.heap.size w1 w9) := by rw [← hw9]; exact HX6.out.trans ⟨rfl, rfl, rfl, Nat.le_refl _, fun _ _ => rfl⟩
          have E6 : Hid (b2 < w9.heap.size) := by rw [← hw9]; exact E6
          have F1 : Hid (w9.cell? ⟨b2, o2 + 1, none⟩ = some (.string ⟨#[sg i]⟩)) := by rw [← hw9]; exact F1
          have F7 : Hid (w9.cell? ⟨b2, o2 + 7, none⟩ = some (.string ⟨#[122]⟩)) := by rw [← hw9]; exact F7
          have HD6 := Lib.hid (HD0.out.below HX6.out)
          have S6 := Lib.hid (S0.out.below HX6.out S0.out.lt S0.out.lt2)
          clear l1 l2 s1 s2 hlt hlt2 kl k1 k5 e6 f1 f7
          rw [hw9]
          clear hw9
          have l1 := S6.out.l i hi; have l2 := S6.out.l j hj; have s1 := S6.out.s i hi; have s2 := S6.out.s j hj
          have hlt := S6.out.lt; have hlt2 := S6.out.lt2; have kl := KT.out.lt; have k1 := KT.out.cell 1 _ rfl; have k5 := KT.out.cell 5 _ rfl
          have e6 := E6.out; have f1 := F1.out; have f7 := F7.out
          have m1 := S6.out.s k (by omega)
          have k0 : (0 : Int) ≤ (k : Int) := by omega
          have k7 : (k : Int) < 7 := by omega
          go_wp2_with fail
          refine (TQ.out w9 HD6.out).mono ?_
          intro x u h
          obtain ⟨a1', d1', c, p, c', c2, p2, c2', b3', o3', rfl, B3, -, -, e0, e1, g2, g3, -, -, -, -, -, G5, G0, -, G6, -⟩ := out_two h
          have HXA := Lib.hid (HX6.out.trans (B3.mono HX6.out.size))
          have HX9 := Lib.hid (HXA.out.alloc HXA.out.size (.cells #[.int .i64 30, .string ⟨#[]⟩, .int .i64 0, .int .i64 0, .slice a1' 0 d1', .slice (some ⟨c, p, none⟩) 1 c'] 25))
          have HD9 := Lib.hid (HD0.out.below HX9.out)
          have G0 : u.cell? ⟨c2, p2, none⟩ = some (.int .i64 7) := G0
          have G6 : u.cell? ⟨c2, p2 + 6, none⟩ = some (.int .i64 7) := G6
          clear h TQ l1 l2 s1 s2 hlt hlt2 kl k1 k5 e6 f1 f7 B3 HX6 HXA KT E6 F1 F7 S6 HD6 m1
          go_wp2_with (first | (go_at_call 19; refine (QH.lives_any _ HD9.out).mono ?_; rintro e w5 ⟨rfl, hb5⟩; have HB5 := Lib.hid hb5; clear hb5))
          go_ret
          rw [hH]
          exact ⟨rfl, (hB0.out.trans (HX9.out.mono hBs)).trans (HB5.out.mono (Nat.le_trans hBs HX9.out.size))⟩
        · have KB := Lib.hid (Bk.put6 KZ.out (.int .i64 30) (.string ⟨#[]⟩) (.int .i64 0) (.int .i64 0) (.slice a1 0 d1) (.slice (some ⟨b, o, none⟩) 1 d))
          have HX := Lib.hid (set_six HB3.out (.int .i64 30) (.string ⟨#[]⟩) (.int .i64 0) (.int .i64 0) (.slice a1 0 d1) (.slice (some ⟨b, o, none⟩) 1 d))
          have zz : (w1.alloc (.cells #[.int .i64 0, .string ⟨#[]⟩, .int .i64 0, .int .i64 0, .slice none 0 0, .slice none 0 0] 25)).drew.heap.size = w1.heap.size + 1 := by simp [World.drew]
          have y0 : b ≠ w1.heap.size := by omega
          have y1 : b2 ≠ w1.heap.size := by omega
          clear zz
          have up : ∀ {q : Addr} {v : Value}, q.block ≠ w1.heap.size → w3.cell? q = some v → ((((((w3.setCell ⟨w1.heap.size, 0, none⟩ (.int .i64 30)).setCell ⟨w1.heap.size, 1, none⟩ (.string ⟨#[]⟩)).setCell ⟨w1.heap.size, 2, none⟩ (.int .i64 0)).setCell ⟨w1.heap.size, 3, none⟩ (.int .i64 0)).setCell ⟨w1.heap.size, 4, none⟩ (.slice a1 0 d1)).setCell ⟨w1.heap.size, 5, none⟩ (.slice (some ⟨b, o, none⟩) 1 d)).cell? q = some v := fun {q v} hq hv => (set_six_cell hq _ _ _ _ _ _).trans hv
          have E0 := Lib.hid (And.intro (show b < ((((((w3.setCell ⟨w1.heap.size, 0, none⟩ (.int .i64 30)).setCell ⟨w1.heap.size, 1, none⟩ (.string ⟨#[]⟩)).setCell ⟨w1.heap.size, 2, none⟩ (.int .i64 0)).setCell ⟨w1.heap.size, 3, none⟩ (.int .i64 0)).setCell ⟨w1.heap.size, 4, none⟩ (.slice a1 0 d1)).setCell ⟨w1.heap.size, 5, none⟩ (.slice (some ⟨b, o, none⟩) 1 d)).heap.size by simp only [PS.set_size]; exact e0) (show b2 < ((((((w3.setCell ⟨w1.heap.size, 0, none⟩ (.int .i64 30)).setCell ⟨w1.heap.size, 1, none⟩ (.string ⟨#[]⟩)).setCell ⟨w1.heap.size, 2, none⟩ (.int .i64 0)).setCell ⟨w1.heap.size, 3, none⟩ (.int .i64 0)).setCell ⟨w1.heap.size, 4, none⟩ (.slice a1 0 d1)).setCell ⟨w1.heap.size, 5, none⟩ (.slice (some ⟨b, o, none⟩) 1 d)).heap.size by simp only [PS.set_size]; exact e1))
          have C0 := Lib.hid (up (by exact y0) C0)
          have C1 := Lib.hid (up (by exact y0) C1)
          have C2 := Lib.hid (up (by exact y0) C2)
          have C3 := Lib.hid (up (by exact y0) C3)
          have C4 := Lib.hid (up (by exact y0) C4)
          have C5 := Lib.hid (up (by exact y0) C5)
          have D0 := Lib.hid (up (by exact y1) D0)
          have D1 := Lib.hid (up (by exact y1) D1)
          have D6 := Lib.hid (up (by exact y1) D6)
          have D7 := Lib.hid (up (by exact y1) D7)
          have HD4 := Lib.hid (HD0.out.below HX.out)
          have S4 := Lib.hid (S0.out.below HX.out S0.out.lt S0.out.lt2)
          clear hS3 HB3 HA HK HD1 HD2 hb1 hb2 c1 c2 c1' c2' c1d c2d c1'd c2'd TP KZ z1 g0 g1 g2 g3 g4 g5 f0 f1 f2 f3 f4 f5 up e0 e1 s0 s1 y0 y1
          obtain ⟨w4, hw4⟩ : ∃ w4, ((((((w3.setCell ⟨w1.heap.size, 0, none⟩ (.int .i64 30)).setCell ⟨w1.heap.size, 1, none⟩ (.string ⟨#[]⟩)).setCell ⟨w1.heap.size, 2, none⟩ (.int .i64 0)).setCell ⟨w1.heap.size, 3, none⟩ (.int .i64 0)).setCell ⟨w1.heap.size, 4, none⟩ (.slice a1 0 d1)).setCell ⟨w1.heap.size, 5, none⟩ (.slice (some ⟨b, o, none⟩) 1 d)) = w4 := ⟨_, rfl⟩
          rw [hw4] at KB HX HD4 S4 ⊢
          rw [hw4] at E0 C0 C1 C2 C3 C4 C5 D0 D1 D6 D7
          clear hw4
          generalize w1.heap.size = pb at KB ⊢
          have k5 := KB.out.cell 5 _ rfl
          have kl := KB.out.lt
          obtain ⟨E0, E1⟩ := E0.out
          have C0 := C0.out; have C1 := C1.out; have C2 := C2.out; have C3 := C3.out; have C4 := C4.out; have C5 := C5.out
          have l1 := S4.out.l i hi; have l2 := S4.out.l j hj; have hlt := S4.out.lt; have hlt2 := S4.out.lt2
          go_wp2_with fail
          have KT := Lib.hid (Bk.new w4 #[.int .i64 13, .string ⟨#[sg j]⟩, .int .i64 0, .int .i64 3, .slice b3 0 o3, .slice (some ⟨b2, o2, none⟩) 2 d2] 25)
          have HX6 := Lib.hid (HX.out.alloc HX.out.size (.cells #[.int .i64 13, .string ⟨#[sg j]⟩, .int .i64 0, .int .i64 3, .slice b3 0 o3, .slice (some ⟨b2, o2, none⟩) 2 d2] 25))
          have F1 : Hid ((w4.alloc (.cells #[.int .i64 13, .string ⟨#[sg j]⟩, .int .i64 0, .int .i64 3, .slice b3 0 o3, .slice (some ⟨b2, o2, none⟩) 2 d2] 25)).cell? ⟨b2, o2 + 1, none⟩ = some (.string ⟨#[sg i]⟩)) := Lib.hid ((World.cell?_alloc_lt _ (.cells #[.int .i64 13, .string ⟨#[sg j]⟩, .int .i64 0, .int .i64 3, .slice b3 0 o3, .slice (some ⟨b2, o2, none⟩) 2 d2] 25) ⟨b2, o2 + 1, none⟩ E1).trans D1.out)
          have F7 : Hid ((w4.alloc (.cells #[.int .i64 13, .string ⟨#[sg j]⟩, .int .i64 0, .int .i64 3, .slice b3 0 o3, .slice (some ⟨b2, o2, none⟩) 2 d2] 25)).cell? ⟨b2, o2 + 7, none⟩ = some (.string ⟨#[122]⟩)) := Lib.hid ((World.cell?_alloc_lt _ (.cells #[.int .i64 13, .string ⟨#[sg j]⟩, .int .i64 0, .int .i64 3, .slice b3 0 o3, .slice (some ⟨b2, o2, none⟩) 2 d2] 25) ⟨b2, o2 + 7, none⟩ E1).trans D7.out)
          have E6 := Lib.hid (show b2 < (w4.alloc (.cells #[.int .i64 13, .string ⟨#[sg j]⟩, .int .i64 0, .int .i64 3, .slice b3 0 o3, .slice (some ⟨b2, o2, none⟩) 2 d2] 25)).heap.size by simp; omega)
          have HD6 := Lib.hid (HD0.out.below HX6.out)
          have S6 := Lib.hid (S0.out.below HX6.out S0.out.lt S0.out.lt2)
          clear C0 C1 C2 C3 C4 C5 D0 D1 D6 D7 k5 kl l1 l2 hlt hlt2 E0 E1 S4 HD4 HX KB
          obtain ⟨w6, hw6⟩ : ∃ w6, (w4.alloc (.cells #[.int .i64 13, .string ⟨#[sg j]⟩, .int .i64 0, .int .i64 3, .slice b3 0 o3, .slice (some ⟨b2, o2, none⟩) 2 d2] 25)) = w6 := ⟨_, rfl⟩
          rw [hw6] at KT HX6 F1 F7 E6 HD6 S6
          try rw [hw6]
          clear hw6
          generalize w4.heap.size = pt at KT ⊢
          have l1 := S6.out.l i hi; have l2 := S6.out.l j hj; have s1 := S6.out.s i hi; have s2 := S6.out.s j hj
          have hlt := S6.out.lt; have hlt2 := S6.out.lt2; have kl := KT.out.lt; have k1 := KT.out.cell 1 _ rfl; have k5 := KT.out.cell 5 _ rfl
          have e6 := E6.out; have f1 := F1.out; have f7 := F7.out
          have cmpd : decide (lo j ≤ lo i) = true := by simpa using hl
          clear hl
          go_quiet (fail)
          obtain ⟨w7, hw7⟩ : ∃ u, w6.drewN nq = u := ⟨_, rfl⟩
          have KT : Hid (Bk w7 pt #[.int .i64 13, .string ⟨#[sg j]⟩, .int .i64 0, .int .i64 3, .slice b3 0 o3, .slice (some ⟨b2, o2, none⟩) 2 d2] 25) := by rw [← hw7]; exact KT
          have HX6 : Hid (Below w1.heap.size w1 w7) := by rw [← hw7]; exact HX6.out.trans ⟨rfl, rfl, rfl, Nat.le_refl _, fun _ _ => rfl⟩
          have E6 : Hid (b2 < w7.heap.size) := by rw [← hw7]; exact E6
          have F1 : Hid (w7.cell? ⟨b2, o2 + 1, none⟩ = some (.string ⟨#[sg i]⟩)) := by rw [← hw7]; exact F1
          have F7 : Hid (w7.cell? ⟨b2, o2 + 7, none⟩ = some (.string ⟨#[122]⟩)) := by rw [← hw7]; exact F7
          have HD6 := Lib.hid (HD0.out.below HX6.out)
          have S6 := Lib.hid (S0.out.below HX6.out S0.out.lt S0.out.lt2)
          clear l1 l2 s1 s2 hlt hlt2 kl k1 k5 e6 f1 f7
          rw [hw7]
          clear hw7
          have l1 := S6.out.l i hi; have l2 := S6.out.l j hj; have s1 := S6.out.s i hi; have s2 := S6.out.s j hj
          have hlt := S6.out.lt; have hlt2 := S6.out.lt2; have kl := KT.out.lt; have k1 := KT.out.cell 1 _ rfl; have k5 := KT.out.cell 5 _ rfl
          have e6 := E6.out; have f1 := F1.out; have f7 := F7.out
          go_wp2_with fail
          go_quiet (fail)
          obtain ⟨w8, hw8⟩ : ∃ u, w7.drewN nq = u := ⟨_, rfl⟩
          have KT : Hid (Bk w8 pt #[.int .i64 13, .string ⟨#[sg j]⟩, .int .i64 0, .int .i64 3, .slice b3 0 o3, .slice (some ⟨b2, o2, none⟩) 2 d2] 25) := by rw [← hw8]; exact KT
          have HX6 : Hid (Below w1.heap.size w1 w8) := by rw [← hw8]; exact HX6.out.trans ⟨rfl, rfl, rfl, Nat.le_refl _, fun _ _ => rfl⟩
          have E6 : Hid (b2 < w8.heap.size) := by rw [← hw8]; exact E6
          have F1 : Hid (w8.cell? ⟨b2, o2 + 1, none⟩ = some (.string ⟨#[sg i]⟩)) := by rw [← hw8]; exact F1
          have F7 : Hid (w8.cell? ⟨b2, o2 + 7, none⟩ = some (.string ⟨#[122]⟩)) := by rw [← hw8]; exact F7
          have HD6 := Lib.hid (HD0.out.below HX6.out)
          have S6 := Lib.hid (S0.out.below HX6.out S0.out.lt S0.out.lt2)
          clear l1 l2 s1 s2 hlt hlt2 kl k1 k5 e6 f1 f7
          rw [hw8]
          clear hw8
          have l1 := S6.out.l i hi; have l2 := S6.out.l j hj; have s1 := S6.out.s i hi; have s2 := S6.out.s j hj
          have hlt := S6.out.lt; have hlt2 := S6.out.lt2; have kl := KT.out.lt; have k1 := KT.out.cell 1 _ rfl; have k5 := KT.out.cell 5 _ rfl
          have e6 := E6.out; have f1 := F1.out; have f7 := F7.out
          go_wp2_with fail
          go_quiet (fail)
          obtain ⟨w9, hw9⟩ : ∃ u, w8.drewN nq = u := ⟨_, rfl⟩
          have KT : Hid (Bk w9 pt #[.int .i64 13, .string ⟨#[sg j]⟩, .int .i64 0, .int .i64 3, .slice b3 0 o3, .slice (some ⟨b2, o2, none⟩) 2 d2] 25) := by rw [← hw9]; exact KT
          have HX6 : Hid (Below w1.heap.size w1 w9) := by rw [← hw9]; exact HX6.out.trans ⟨rfl, rfl, rfl, Nat.le_refl _, fun _ _ => rfl⟩
          have E6 : Hid (b2 < w9.heap.size) := by rw [← hw9]; exact E6
          have F1 : Hid (w9.cell? ⟨b2, o2 + 1, none⟩ = some (.string ⟨#[sg i]⟩)) := by rw [← hw9]; exact F1
          have F7 : Hid (w9.cell? ⟨b2, o2 + 7, none⟩ = some (.string ⟨#[122]⟩)) := by rw [← hw9]; exact F7
          have HD6 := Lib.hid (HD0.out.below HX6.out)
          have S6 := Lib.hid (S0.out.below HX6.out S0.out.lt S0.out.lt2)
          clear l1 l2 s1 s2 hlt hlt2 kl k1 k5 e6 f1 f7
          rw [hw9]
          clear hw9
          have l1 := S6.out.l i hi; have l2 := S6.out.l j hj; have s1 := S6.out.s i hi; have s2 := S6.out.s j hj
          have hlt := S6.out.lt; have hlt2 := S6.out.lt2; have kl := KT.out.lt; have k1 := KT.out.cell 1 _ rfl; have k5 := KT.out.cell 5 _ rfl
          have e6 := E6.out; have f1 := F1.out; have f7 := F7.out
          have m1 := S6.out.s k (by omega)
          have k0 : (0 : Int) ≤ (k : Int) := by omega
          have k7 : (k : Int) < 7 := by omega
          go_wp2_with fail
          refine (TQ.out w9 HD6.out).mono ?_
          intro x u h
          obtain ⟨a1', d1', c, p, c', c2, p2, c2', b3', o3', rfl, B3, -, -, e0, e1, g2, g3, -, -, -, -, -, G5, G0, -, G6, -⟩ := out_two h
          have HXA := Lib.hid (HX6.out.trans (B3.mono HX6.out.size))
          have HX9 := Lib.hid (HXA.out.alloc HXA.out.size (.cells #[.int .i64 30, .string ⟨#[]⟩, .int .i64 0, .int .i64 0, .slice a1' 0 d1', .slice (some ⟨c, p, none⟩) 1 c'] 25))
          have HD9 := Lib.hid (HD0.out.below HX9.out)
          have G0 : u.cell? ⟨c2, p2, none⟩ = some (.int .i64 7) := G0
          have G6 : u.cell? ⟨c2, p2 + 6, none⟩ = some (.int .i64 7) := G6
          clear h TQ l1 l2 s1 s2 hlt hlt2 kl k1 k5 e6 f1 f7 B3 HX6 HXA KT E6 F1 F7 S6 HD6 m1
          go_wp2_with (first | (go_at_call 19; refine (QH.lives_any _ HD9.out).mono ?_; rintro e w5 ⟨rfl, hb5⟩; have HB5 := Lib.hid hb5; clear hb5))
          go_ret
          rw [hH]
          exact ⟨rfl, (hB0.out.trans (HX9.out.mono hBs)).trans (HB5.out.mono (Nat.le_trans hBs HX9.out.size))⟩
    · rw [right_of i j hi hj hl] at TP
      by_cases hi6 : i = 6
      · have t1 : ((i : Int) == 6) = true := by rw [beq_iff_eq]; omega
        have t2 : ((j : Int) == 6) = false := by rw [beq_eq_false_iff_ne]; intro e; exact h66 ⟨hi6, by omega⟩
        clear h66 hi6
        have TP := Lib.hid TP
        have c1' : (w1.alloc (.cells #[.int .i64 0, .string ⟨#[]⟩, .int .i64 0, .int .i64 0, .slice none 0 0, .slice none 0 0] 25)).cell? ⟨H, i, none⟩ = some (.string ⟨#[sg i]⟩) := (World.cell?_alloc_lt _ _ _ S0.out.lt).trans c1
        have c2' : (w1.alloc (.cells #[.int .i64 0, .string ⟨#[]⟩, .int .i64 0, .int .i64 0, .slice none 0 0, .slice none 0 0] 25)).cell? ⟨H, j, none⟩ = some (.string ⟨#[sg j]⟩) := (World.cell?_alloc_lt _ _ _ S0.out.lt).trans c2
        have c1d : w1.drew.cell? ⟨H, i, none⟩ = some (.string ⟨#[sg i]⟩) := c1
        have c2d : w1.drew.cell? ⟨H, j, none⟩ = some (.string ⟨#[sg j]⟩) := c2
        have c1'd : (w1.alloc (.cells #[.int .i64 0, .string ⟨#[]⟩, .int .i64 0, .int .i64 0, .slice none 0 0, .slice none 0 0] 25)).drew.cell? ⟨H, i, none⟩ = some (.string ⟨#[sg i]⟩) := c1'
        have c2'd : (w1.alloc (.cells #[.int .i64 0, .string ⟨#[]⟩, .int .i64 0, .int .i64 0, .slice none 0 0, .slice none 0 0] 25)).drew.cell? ⟨H, j, none⟩ = some (.string ⟨#[sg j]⟩) := c2'
        have HA := Lib.hid ((Below.refl w1.heap.size w1).alloc (Nat.le_refl _) (.cells #[.int .i64 0, .string ⟨#[]⟩, .int .i64 0, .int .i64 0, .slice none 0 0, .slice none 0 0] 25))
        have HK := Lib.hid (Bk.new w1 #[.int .i64 0, .string ⟨#[]⟩, .int .i64 0, .int .i64 0, .slice none 0 0, .slice none 0 0] 25)
        have HD1 : Hid (Dig w1.drew) := HD0.out
        have HD2 : Hid (Dig (w1.alloc (.cells #[.int .i64 0, .string ⟨#[]⟩, .int .i64 0, .int .i64 0, .slice none 0 0, .slice none 0 0] 25)).drew) := HD0.out.below (below_drew HA.out)
        have hb1 : Hid (∀ w3, Below w1.drew.heap.size w1.drew w3 → Below w1.heap.size w1 w3) := fun w3 h => (below_drew (Below.refl w1.heap.size w1)).trans h
        have hb2 : Hid (∀ w3, Below (w1.alloc (.cells #[.int .i64 0, .string ⟨#[]⟩, .int .i64 0, .int .i64 0, .slice none 0 0, .slice none 0 0] 25)).drew.heap.size (w1.alloc (.cells #[.int .i64 0, .string ⟨#[]⟩, .int .i64 0, .int .i64 0, .slice none 0 0, .slice none 0 0] 25)).drew w3 → Below w1.heap.size w1 w3 ∧ Bk w3 w1.heap.size #[.int .i64 0, .string ⟨#[]⟩, .int .i64 0, .int .i64 0, .slice none 0 0, .slice none 0 0] 25) := fun w3 h => ⟨(below_drew HA.out).trans (h.mono HA.out.size), Bk.below HK.out.drew h HK.out.lt⟩
        go_region_held3 (fun w' => w'.cell? ⟨H, i, none⟩ = some (.string ⟨#[sg i]⟩) ∧ w'.cell? ⟨H, j, none⟩ = some (.string ⟨#[sg j]⟩)) (first | with_reducible exact ⟨c1d, c2d⟩ | with_reducible exact ⟨c1', c2'⟩ | with_reducible exact ⟨c1'd, c2'd⟩ | with_reducible exact ⟨hS3.out.s i hi, hS3.out.s j hj⟩ | with_reducible exact ⟨(World.cell?_alloc_lt _ _ _ hS3.out.lt).trans (hS3.out.s i hi), (World.cell?_alloc_lt _ _ _ hS3.out.lt).trans (hS3.out.s j hj)⟩ | with_reducible exact ⟨((set_six HB3.out _ _ _ _ _ _).cell (p := ⟨H, i, none⟩) S0.out.lt).trans c1, ((set_six HB3.out _ _ _ _ _ _).cell (p := ⟨H, j, none⟩) S0.out.lt).trans c2⟩ | fail)
          (first | (go_at_call 21; refine (TP.out _ (by first | with_reducible exact HD1.out | with_reducible exact HD2.out)).mono ?_; intro x w3 h3; obtain ⟨a1, d1, b, o, d, b2, o2, d2, b3, o3, rfl, B3, s0, s1, e0, e1, e2, e3, C0, C1, C2, C3, C4, C5, D0, D1, D6, D7⟩ := out_two h3; first | (have B4 := (by with_reducible exact hb1.out w3 B3); have hS3 := Lib.hid (S0.out.below B4 S0.out.lt S0.out.lt2); have HB3 := Lib.hid B4; clear h3 B3 B4) | (have B4 := (by with_reducible exact hb2.out w3 B3); have hS3 := Lib.hid (S0.out.below B4.1 S0.out.lt S0.out.lt2); have HB3 := Lib.hid B4.1; have KZ := Lib.hid B4.2; have z1 := B4.2.lt; obtain ⟨g0, g1, g2, g3, g4, g5⟩ := B4.2.c6; obtain ⟨f0, f1, f2, f3, f4, f5⟩ := B4.2.f6; clear h3 B3 B4)))
        · have KB := Lib.hid (Bk.new w3 #[.int .i64 30, .string ⟨#[]⟩, .int .i64 0, .int .i64 0, .slice a1 0 d1, .slice (some ⟨b, o, none⟩) 1 d] 25)
          have HX := Lib.hid (HB3.out.alloc HB3.out.size (.cells #[.int .i64 30, .string ⟨#[]⟩, .int .i64 0, .int .i64 0, .slice a1 0 d1, .slice (some ⟨b, o, none⟩) 1 d] 25))
          have up : ∀ {q : Addr} {v : Value}, q.block < w3.heap.size → w3.cell? q = some v → (w3.alloc (.cells #[.int .i64 30, .string ⟨#[]⟩, .int .i64 0, .int .i64 0, .slice a1 0 d1, .slice (some ⟨b, o, none⟩) 1 d] 25)).cell? q = some v := fun {q v} hq hv => (World.cell?_alloc_lt _ _ _ hq).trans hv
          have E0 := Lib.hid (And.intro (show b < (w3.alloc (.cells #[.int .i64 30, .string ⟨#[]⟩, .int .i64 0, .int .i64 0, .slice a1 0 d1, .slice (some ⟨b, o, none⟩) 1 d] 25)).heap.size by simp; omega) (show b2 < (w3.alloc (.cells #[.int .i64 30, .string ⟨#[]⟩, .int .i64 0, .int .i64 0, .slice a1 0 d1, .slice (some ⟨b, o, none⟩) 1 d] 25)).heap.size by simp; omega))
          have C0 := Lib.hid (up (by exact e0) C0)
          have C1 := Lib.hid (up (by exact e0) C1)
          have C2 := Lib.hid (up (by exact e0) C2)
          have C3 := Lib.hid (up (by exact e0) C3)
          have C4 := Lib.hid (up (by exact e0) C4)
          have C5 := Lib.hid (up (by exact e0) C5)
          have D0 := Lib.hid (up (by exact e1) D0)
          have D1 := Lib.hid (up (by exact e1) D1)
          have D6 := Lib.hid (up (by exact e1) D6)
          have D7 := Lib.hid (up (by exact e1) D7)
          have HD4 := Lib.hid (HD0.out.below HX.out)
          have S4 := Lib.hid (S0.out.below HX.out S0.out.lt S0.out.lt2)
          clear hS3 HB3 HA HK HD1 HD2 hb1 hb2 c1 c2 c1' c2' c1d c2d c1'd c2'd TP up e0 e1 s0 s1
          obtain ⟨w4, hw4⟩ : ∃ w4, (w3.alloc (.cells #[.int .i64 30, .string ⟨#[]⟩, .int .i64 0, .int .i64 0, .slice a1 0 d1, .slice (some ⟨b, o, none⟩) 1 d] 25)) = w4 := ⟨_, rfl⟩
          rw [hw4] at KB HX HD4 S4 ⊢
          rw [hw4] at E0 C0 C1 C2 C3 C4 C5 D0 D1 D6 D7
          clear hw4
          generalize w3.heap.size = pb at KB ⊢
          have k5 := KB.out.cell 5 _ rfl
          have kl := KB.out.lt
          obtain ⟨E0, E1⟩ := E0.out
          have C0 := C0.out; have C1 := C1.out; have C2 := C2.out; have C3 := C3.out; have C4 := C4.out; have C5 := C5.out
          have l1 := S4.out.l i hi; have l2 := S4.out.l j hj; have hlt := S4.out.lt; have hlt2 := S4.out.lt2
          go_wp2_with fail
          have KT := Lib.hid (Bk.new w4 #[.int .i64 13, .string ⟨#[sg i]⟩, .int .i64 0, .int .i64 3, .slice b3 0 o3, .slice (some ⟨b2, o2, none⟩) 2 d2] 25)
          have HX6 := Lib.hid (HX.out.alloc HX.out.size (.cells #[.int .i64 13, .string ⟨#[sg i]⟩, .int .i64 0, .int .i64 3, .slice b3 0 o3, .slice (some ⟨b2, o2, none⟩) 2 d2] 25))
          have F1 : Hid ((w4.alloc (.cells #[.int .i64 13, .string ⟨#[sg i]⟩, .int .i64 0, .int .i64 3, .slice b3 0 o3, .slice (some ⟨b2, o2, none⟩) 2 d2] 25)).cell? ⟨b2, o2 + 1, none⟩ = some (.string ⟨#[120]⟩)) := Lib.hid ((World.cell?_alloc_lt _ (.cells #[.int .i64 13, .string ⟨#[sg i]⟩, .int .i64 0, .int .i64 3, .slice b3 0 o3, .slice (some ⟨b2, o2, none⟩) 2 d2] 25) ⟨b2, o2 + 1, none⟩ E1).trans D1.out)
          have F7 : Hid ((w4.alloc (.cells #[.int .i64 13, .string ⟨#[sg i]⟩, .int .i64 0, .int .i64 3, .slice b3 0 o3, .slice (some ⟨b2, o2, none⟩) 2 d2] 25)).cell? ⟨b2, o2 + 7, none⟩ = some (.string ⟨#[sg j]⟩)) := Lib.hid ((World.cell?_alloc_lt _ (.cells #[.int .i64 13, .string ⟨#[sg i]⟩, .int .i64 0, .int .i64 3, .slice b3 0 o3, .slice (some ⟨b2, o2, none⟩) 2 d2] 25) ⟨b2, o2 + 7, none⟩ E1).trans D7.out)
          have E6 := Lib.hid (show b2 < (w4.alloc (.cells #[.int .i64 13, .string ⟨#[sg i]⟩, .int .i64 0, .int .i64 3, .slice b3 0 o3, .slice (some ⟨b2, o2, none⟩) 2 d2] 25)).heap.size by simp; omega)
          have HD6 := Lib.hid (HD0.out.below HX6.out)
          have S6 := Lib.hid (S0.out.below HX6.out S0.out.lt S0.out.lt2)
          clear C0 C1 C2 C3 C4 C5 D0 D1 D6 D7 k5 kl l1 l2 hlt hlt2 E0 E1 S4 HD4 HX KB
          obtain ⟨w6, hw6⟩ : ∃ w6, (w4.alloc (.cells #[.int .i64 13, .string ⟨#[sg i]⟩, .int .i64 0, .int .i64 3, .slice b3 0 o3, .slice (some ⟨b2, o2, none⟩) 2 d2] 25)) = w6 := ⟨_, rfl⟩
          rw [hw6] at KT HX6 F1 F7 E6 HD6 S6
          try rw [hw6]
          clear hw6
          generalize w4.heap.size = pt at KT ⊢
          have l1 := S6.out.l i hi; have l2 := S6.out.l j hj; have s1 := S6.out.s i hi; have s2 := S6.out.s j hj
          have hlt := S6.out.lt; have hlt2 := S6.out.lt2; have kl := KT.out.lt; have k1 := KT.out.cell 1 _ rfl; have k5 := KT.out.cell 5 _ rfl
          have e6 := E6.out; have f1 := F1.out; have f7 := F7.out
          have cmpd : decide (lo j ≤ lo i) = false := by simpa using hl
          clear hl
          go_quiet (fail)
          obtain ⟨w7, hw7⟩ : ∃ u, w6.drewN nq = u := ⟨_, rfl⟩
          have KT : Hid (Bk w7 pt #[.int .i64 13, .string ⟨#[sg i]⟩, .int .i64 0, .int .i64 3, .slice b3 0 o3, .slice (some ⟨b2, o2, none⟩) 2 d2] 25) := by rw [← hw7]; exact KT
          have HX6 : Hid (Below w1.heap.size w1 w7) := by rw [← hw7]; exact HX6.out.trans ⟨rfl, rfl, rfl, Nat.le_refl _, fun _ _ => rfl⟩
          have E6 : Hid (b2 < w7.heap.size) := by rw [← hw7]; exact E6
          have F1 : Hid (w7.cell? ⟨b2, o2 + 1, none⟩ = some (.string ⟨#[120]⟩)) := by rw [← hw7]; exact F1
          have F7 : Hid (w7.cell? ⟨b2, o2 + 7, none⟩ = some (.string ⟨#[sg j]⟩)) := by rw [← hw7]; exact F7
          have HD6 := Lib.hid (HD0.out.below HX6.out)
          have S6 := Lib.hid (S0.out.below HX6.out S0.out.lt S0.out.lt2)
          clear l1 l2 s1 s2 hlt hlt2 kl k1 k5 e6 f1 f7
          rw [hw7]
          clear hw7
          have l1 := S6.out.l i hi; have l2 := S6.out.l j hj; have s1 := S6.out.s i hi; have s2 := S6.out.s j hj
          have hlt := S6.out.lt; have hlt2 := S6.out.lt2; have kl := KT.out.lt; have k1 := KT.out.cell 1 _ rfl; have k5 := KT.out.cell 5 _ rfl
          have e6 := E6.out; have f1 := F1.out; have f7 := F7.out
          go_wp2_with fail
          go_quiet (fail)
          obtain ⟨w8, hw8⟩ : ∃ u, w7.drewN nq = u := ⟨_, rfl⟩
          have KT : Hid (Bk w8 pt #[.int .i64 13, .string ⟨#[sg i]⟩, .int .i64 0, .int .i64 3, .slice b3 0 o3, .slice (some ⟨b2, o2, none⟩) 2 d2] 25) := by rw [← hw8]; exact KT
          have HX6 : Hid (Below w1.heap.size w1 w8) := by rw [← hw8]; exact HX6.out.trans ⟨rfl, rfl, rfl, Nat.le_refl _, fun _ _ => rfl⟩
          have E6 : Hid (b2 < w8.heap.size) := by rw [← hw8]; exact E6
          have F1 : Hid (w8.cell? ⟨b2, o2 + 1, none⟩ = some (.string ⟨#[120]⟩)) := by rw [← hw8]; exact F1
          have F7 : Hid (w8.cell? ⟨b2, o2 + 7, none⟩ = some (.string ⟨#[sg j]⟩)) := by rw [← hw8]; exact F7
          have HD6 := Lib.hid (HD0.out.below HX6.out)
          have S6 := Lib.hid (S0.out.below HX6.out S0.out.lt S0.out.lt2)
          clear l1 l2 s1 s2 hlt hlt2 kl k1 k5 e6 f1 f7
          rw [hw8]
          clear hw8
          have l1 := S6.out.l i hi; have l2 := S6.out.l j hj; have s1 := S6.out.s i hi; have s2 := S6.out.s j hj
          have hlt := S6.out.lt; have hlt2 := S6.out.lt2; have kl := KT.out.lt; have k1 := KT.out.cell 1 _ rfl; have k5 := KT.out.cell 5 _ rfl
          have e6 := E6.out; have f1 := F1.out; have f7 := F7.out
          go_wp2_with fail
          go_quiet (fail)
          obtain ⟨w9, hw9⟩ : ∃ u, w8.drewN nq = u := ⟨_, rfl⟩
          have KT : Hid (Bk w9 pt #[.int .i64 13, .string ⟨#[sg i]⟩, .int .i64 0, .int .i64 3, .slice b3 0 o3, .slice (some ⟨b2, o2, none⟩) 2 d2] 25) := by rw [← hw9]; exact KT
          have HX6 : Hid (Below w1.heap.size w1 w9) := by rw [← hw9]; exact HX6.out.trans ⟨rfl, rfl, rfl, Nat.le_refl _, fun _ _ => rfl⟩
          have E6 : Hid (b2 < w9.heap.size) := by rw [← hw9]; exact E6
          have F1 : Hid (w9.cell? ⟨b2, o2 + 1, none⟩ = some (.string ⟨#[120]⟩)) := by rw [← hw9]; exact F1
          have F7 : Hid (w9.cell? ⟨b2, o2 + 7, none⟩ = some (.string ⟨#[sg j]⟩)) := by rw [← hw9]; exact F7
          have HD6 := Lib.hid (HD0.out.below HX6.out)
          have S6 := Lib.hid (S0.out.below HX6.out S0.out.lt S0.out.lt2)
          clear l1 l2 s1 s2 hlt hlt2 kl k1 k5 e6 f1 f7
          rw [hw9]
          clear hw9
          have l1 := S6.out.l i hi; have l2 := S6.out.l j hj; have s1 := S6.out.s i hi; have s2 := S6.out.s j hj
          have hlt := S6.out.lt; have hlt2 := S6.out.lt2; have kl := KT.out.lt; have k1 := KT.out.cell 1 _ rfl; have k5 := KT.out.cell 5 _ rfl
          have e6 := E6.out; have f1 := F1.out; have f7 := F7.out
          have m1 := S6.out.s k (by omega)
          have k0 : (0 : Int) ≤ (k : Int) := by omega
          have k7 : (k : Int) < 7 := by omega
          go_wp2_with fail
          refine (TQ.out w9 HD6.out).mono ?_
          intro x u h
          obtain ⟨a1', d1', c, p, c', c2, p2, c2', b3', o3', rfl, B3, -, -, e0, e1, g2, g3, -, -, -, -, -, G5, G0, -, G6, -⟩ := out_two h
          have HXA := Lib.hid (HX6.out.trans (B3.mono HX6.out.size))
          have HX9 := Lib.hid (HXA.out.alloc HXA.out.size (.cells #[.int .i64 30, .string ⟨#[]⟩, .int .i64 0, .int .i64 0, .slice a1' 0 d1', .slice (some ⟨c, p, none⟩) 1 c'] 25))
          have HD9 := Lib.hid (HD0.out.below HX9.out)
          have G0 : u.cell? ⟨c2, p2, none⟩ = some (.int .i64 7) := G0
          have G6 : u.cell? ⟨c2, p2 + 6, none⟩ = some (.int .i64 7) := G6
          clear h TQ l1 l2 s1 s2 hlt hlt2 kl k1 k5 e6 f1 f7 B3 HX6 HXA KT E6 F1 F7 S6 HD6 m1
          go_wp2_with (first | (go_at_call 19; refine (QH.lives_any _ HD9.out).mono ?_; rintro e w5 ⟨rfl, hb5⟩; have HB5 := Lib.hid hb5; clear hb5))
          go_ret
          rw [hH]
          exact ⟨rfl, (hB0.out.trans (HX9.out.mono hBs)).trans (HB5.out.mono (Nat.le_trans hBs HX9.out.size))⟩
        · have KB := Lib.hid (Bk.put6 KZ.out (.int .i64 30) (.string ⟨#[]⟩) (.int .i64 0) (.int .i64 0) (.slice a1 0 d1) (.slice (some ⟨b, o, none⟩) 1 d))
          have HX := Lib.hid (set_six HB3.out (.int .i64 30) (.string ⟨#[]⟩) (.int .i64 0) (.int .i64 0) (.slice a1 0 d1) (.slice (some ⟨b, o, none⟩) 1 d))
          have zz : (w1.alloc (.cells #[.int .i64 0, .string ⟨#[]⟩, .int .i64 0, .int .i64 0, .slice none 0 0, .slice none 0 0] 25)).drew.heap.size = w1.heap.size + 1 := by simp [World.drew]
          have y0 : b ≠ w1.heap.size := by omega
          have y1 : b2 ≠ w1.heap.size := by omega
          clear zz
          have up : ∀ {q : Addr} {v : Value}, q.block ≠ w1.heap.size → w3.cell? q = some v → ((((((w3.setCell ⟨w1.heap.size, 0, none⟩ (.int .i64 30)).setCell ⟨w1.heap.size, 1, none⟩ (.string ⟨#[]⟩)).setCell ⟨w1.heap.size, 2, none⟩ (.int .i64 0)).setCell ⟨w1.heap.size, 3, none⟩ (.int .i64 0)).setCell ⟨w1.heap.size, 4, none⟩ (.slice a1 0 d1)).setCell ⟨w1.heap.size, 5, none⟩ (.slice (some ⟨b, o, none⟩) 1 d)).cell? q = some v := fun {q v} hq hv => (set_six_cell hq _ _ _ _ _ _).trans hv
          have E0 := Lib.hid (And.intro (show b < ((((((w3.setCell ⟨w1.heap.size, 0, none⟩ (.int .i64 30)).setCell ⟨w1.heap.size, 1, none⟩ (.string ⟨#[]⟩)).setCell ⟨w1.heap.size, 2, none⟩ (.int .i64 0)).setCell ⟨w1.heap.size, 3, none⟩ (.int .i64 0)).setCell ⟨w1.heap.size, 4, none⟩ (.slice a1 0 d1)).setCell ⟨w1.heap.size, 5, none⟩ (.slice (some ⟨b, o, none⟩) 1 d)).heap.size by simp only [PS.set_size]; exact e0) (show b2 < ((((((w3.setCell ⟨w1.heap.size, 0, none⟩ (.int .i64 30)).setCell ⟨w1.heap.size, 1, none⟩ (.string ⟨#[]⟩)).setCell ⟨w1.heap.size, 2, none⟩ (.int .i64 0)).setCell ⟨w1.heap.size, 3, none⟩ (.int .i64 0)).setCell ⟨w1.heap.size, 4, none⟩ (.slice a1 0 d1)).setCell ⟨w1.heap.size, 5, none⟩ (.slice (some ⟨b, o, none⟩) 1 d)).heap.size by simp only [PS.set_size]; exact e1))
          have C0 := Lib.hid (up (by exact y0) C0)
          have C1 := Lib.hid (up (by exact y0) C1)
          have C2 := Lib.hid (up (by exact y0) C2)
          have C3 := Lib.hid (up (by exact y0) C3)
          have C4 := Lib.hid (up (by exact y0) C4)
          have C5 := Lib.hid (up (by exact y0) C5)
          have D0 := Lib.hid (up (by exact y1) D0)
          have D1 := Lib.hid (up (by exact y1) D1)
          have D6 := Lib.hid (up (by exact y1) D6)
          have D7 := Lib.hid (up (by exact y1) D7)
          have HD4 := Lib.hid (HD0.out.below HX.out)
          have S4 := Lib.hid (S0.out.below HX.out S0.out.lt S0.out.lt2)
          clear hS3 HB3 HA HK HD1 HD2 hb1 hb2 c1 c2 c1' c2' c1d c2d c1'd c2'd TP KZ z1 g0 g1 g2 g3 g4 g5 f0 f1 f2 f3 f4 f5 up e0 e1 s0 s1 y0 y1
          obtain ⟨w4, hw4⟩ : ∃ w4, ((((((w3.setCell ⟨w1.heap.size, 0, none⟩ (.int .i64 30)).setCell ⟨w1.heap.size, 1, none⟩ (.string ⟨#[]⟩)).setCell ⟨w1.heap.size, 2, none⟩ (.int .i64 0)).setCell ⟨w1.heap.size, 3, none⟩ (.int .i64 0)).setCell ⟨w1.heap.size, 4, none⟩ (.slice a1 0 d1)).setCell ⟨w1.heap.size, 5, none⟩ (.slice (some ⟨b, o, none⟩) 1 d)) = w4 := ⟨_, rfl⟩
          rw [hw4] at KB HX HD4 S4 ⊢
          rw [hw4] at E0 C0 C1 C2 C3 C4 C5 D0 D1 D6 D7
          clear hw4
          generalize w1.heap.size = pb at KB ⊢
          have k5 := KB.out.cell 5 _ rfl
          have kl := KB.out.lt
          obtain ⟨E0, E1⟩ := E0.out
          have C0 := C0.out; have C1 := C1.out; have C2 := C2.out; have C3 := C3.out; have C4 := C4.out; have C5 := C5.out
          have l1 := S4.out.l i hi; have l2 := S4.out.l j hj; have hlt := S4.out.lt; have hlt2 := S4.out.lt2
          go_wp2_with fail
          have KT := Lib.hid (Bk.new w4 #[.int .i64 13, .string ⟨#[sg i]⟩, .int .i64 0, .int .i64 3, .slice b3 0 o3, .slice (some ⟨b2, o2, none⟩) 2 d2] 25)
          have HX6 := Lib.hid (HX.out.alloc HX.out.size (.cells #[.int .i64 13, .string ⟨#[sg i]⟩, .int .i64 0, .int .i64 3, .slice b3 0 o3, .slice (some ⟨b2, o2, none⟩) 2 d2] 25))
          have F1 : Hid ((w4.alloc (.cells #[.int .i64 13, .string ⟨#[sg i]⟩, .int .i64 0, .int .i64 3, .slice b3 0 o3, .slice (some ⟨b2, o2, none⟩) 2 d2] 25)).cell? ⟨b2, o2 + 1, none⟩ = some (.string ⟨#[120]⟩)) := Lib.hid ((World.cell?_alloc_lt _ (.cells #[.int .i64 13, .string ⟨#[sg i]⟩, .int .i64 0, .int .i64 3, .slice b3 0 o3, .slice (some ⟨b2, o2, none⟩) 2 d2] 25) ⟨b2, o2 + 1, none⟩ E1).trans D1.out)
          have F7 : Hid ((w4.alloc (.cells #[.int .i64 13, .string ⟨#[sg i]⟩, .int .i64 0, .int .i64 3, .slice b3 0 o3, .slice (some ⟨b2, o2, none⟩) 2 d2] 25)).cell? ⟨b2, o2 + 7, none⟩ = some (.string ⟨#[sg j]⟩)) := Lib.hid ((World.cell?_alloc_lt _ (.cells #[.int .i64 13, .string ⟨#[sg i]⟩, .int .i64 0, .int .i64 3, .slice b3 0 o3, .slice (some ⟨b2, o2, none⟩) 2 d2] 25) ⟨b2, o2 + 7, none⟩ E1).trans D7.out)
          have E6 := Lib.hid (show b2 < (w4.alloc (.cells #[.int .i64 13, .string ⟨#[sg i]⟩, .int .i64 0, .int .i64 3, .slice b3 0 o3, .slice (some ⟨b2, o2, none⟩) 2 d2] 25)).heap.size by simp; omega)
          have HD6 := Lib.hid (HD0.out.below HX6.out)
          have S6 := Lib.hid (S0.out.below HX6.out S0.out.lt S0.out.lt2)
          clear C0 C1 C2 C3 C4 C5 D0 D1 D6 D7 k5 kl l1 l2 hlt hlt2 E0 E1 S4 HD4 HX KB
          obtain ⟨w6, hw6⟩ : ∃ w6, (w4.alloc (.cells #[.int .i64 13, .string ⟨#[sg i]⟩, .int .i64 0, .int .i64 3, .slice b3 0 o3, .slice (some ⟨b2, o2, none⟩) 2 d2] 25)) = w6 := ⟨_, rfl⟩
          rw [hw6] at KT HX6 F1 F7 E6 HD6 S6
          try rw [hw6]
          clear hw6
          generalize w4.heap.size = pt at KT ⊢
          have l1 := S6.out.l i hi; have l2 := S6.out.l j hj; have s1 := S6.out.s i hi; have s2 := S6.out.s j hj
          have hlt := S6.out.lt; have hlt2 := S6.out.lt2; have kl := KT.out.lt; have k1 := KT.out.cell 1 _ rfl; have k5 := KT.out.cell 5 _ rfl
          have e6 := E6.out; have f1 := F1.out; have f7 := F7.out
          have cmpd : decide (lo j ≤ lo i) = false := by simpa using hl
          clear hl
          go_quiet (fail)
          obtain ⟨w7, hw7⟩ : ∃ u, w6.drewN nq = u := ⟨_, rfl⟩
          have KT : Hid (Bk w7 pt #[.int .i64 13, .string ⟨#[sg i]⟩, .int .i64 0, .int .i64 3, .slice b3 0 o3, .slice (some ⟨b2, o2, none⟩) 2 d2] 25) := by rw [← hw7]; exact KT
          have HX6 : Hid (Below w1.heap.size w1 w7) := by rw [← hw7]; exact HX6.out.trans ⟨rfl, rfl, rfl, Nat.le_refl _, fun _ _ => rfl⟩
          have E6 : Hid (b2 < w7.heap.size) := by rw [← hw7]; exact E6
          have F1 : Hid (w7.cell? ⟨b2, o2 + 1, none⟩ = some (.string ⟨#[120]⟩)) := by rw [← hw7]; exact F1
          have F7 : Hid (w7.cell? ⟨b2, o2 + 7, none⟩ = some (.string ⟨#[sg j]⟩)) := by rw [← hw7]; exact F7
          have HD6 := Lib.hid (HD0.out.below HX6.out)
          have S6 := Lib.hid (S0.out.below HX6.out S0.out.lt S0.out.lt2)
          clear l1 l2 s1 s2 hlt hlt2 kl k1 k5 e6 f1 f7
          rw [hw7]
          clear hw7
          have l1 := S6.out.l i hi; have l2 := S6.out.l j hj; have s1 := S6.out.s i hi; have s2 := S6.out.s j hj
          have hlt := S6.out.lt; have hlt2 := S6.out.lt2; have kl := KT.out.lt; have k1 := KT.out.cell 1 _ rfl; have k5 := KT.out.cell 5 _ rfl
          have e6 := E6.out; have f1 := F1.out; have f7 := F7.out
          go_wp2_with fail
          go_quiet (fail)
          obtain ⟨w8, hw8⟩ : ∃ u, w7.drewN nq = u := ⟨_, rfl⟩
          have KT : Hid (Bk w8 pt #[.int .i64 13, .string ⟨#[sg i]⟩, .int .i64 0, .int .i64 3, .slice b3 0 o3, .slice (some ⟨b2, o2, none⟩) 2 d2] 25) := by rw [← hw8]; exact KT
          have HX6 : Hid (Below w1.heap.size w1 w8) := by rw [← hw8]; exact HX6.out.trans ⟨rfl, rfl, rfl, Nat.le_refl _, fun _ _ => rfl⟩
          have E6 : Hid (b2 < w8.heap.size) := by rw [← hw8]; exact E6
          have F1 : Hid (w8.cell? ⟨b2, o2 + 1, none⟩ = some (.string ⟨#[120]⟩)) := by rw [← hw8]; exact F1
          have F7 : Hid (w8.cell? ⟨b2, o2 + 7, none⟩ = some (.string ⟨#[sg j]⟩)) := by rw [← hw8]; exact F7
          have HD6 := Lib.hid (HD0.out.below HX6.out)
          have S6 := Lib.hid (S0.out.below HX6.out S0.out.lt S0.out.lt2)
          clear l1 l2 s1 s2 hlt hlt2 kl k1 k5 e6 f1 f7
          rw [hw8]
          clear hw8
          have l1 := S6.out.l i hi; have l2 := S6.out.l j hj; have s1 := S6.out.s i hi; have s2 := S6.out.s j hj
          have hlt := S6.out.lt; have hlt2 := S6.out.lt2; have kl := KT.out.lt; have k1 := KT.out.cell 1 _ rfl; have k5 := KT.out.cell 5 _ rfl
          have e6 := E6.out; have f1 := F1.out; have f7 := F7.out
          go_wp2_with fail
          go_quiet (fail)
          obtain ⟨w9, hw9⟩ : ∃ u, w8.drewN nq = u := ⟨_, rfl⟩
          have KT : Hid (Bk w9 pt #[.int .i64 13, .string ⟨#[sg i]⟩, .int .i64 0, .int .i64 3, .slice b3 0 o3, .slice (some ⟨b2, o2, none⟩) 2 d2] 25) := by rw [← hw9]; exact KT
          have HX6 : Hid (Below w1.heap.size w1 w9) := by rw [← hw9]; exact HX6.out.trans ⟨rfl, rfl, rfl, Nat.le_refl _, fun _ _ => rfl⟩
          have E6 : Hid (b2 < w9.heap.size) := by rw [← hw9]; exact E6
          have F1 : Hid (w9.cell? ⟨b2, o2 + 1, none⟩ = some (.string ⟨#[120]⟩)) := by rw [← hw9]; exact F1
          have F7 : Hid (w9.cell? ⟨b2, o2 + 7, none⟩ = some (.string ⟨#[sg j]⟩)) := by rw [← hw9]; exact F7
          have HD6 := Lib.hid (HD0.out.below HX6.out)
          have S6 := Lib.hid (S0.out.below HX6.out S0.out.lt S0.out.lt2)
          clear l1 l2 s1 s2 hlt hlt2 kl k1 k5 e6 f1 f7
          rw [hw9]
          clear hw9
          have l1 := S6.out.l i hi; have l2 := S6.out.l j hj; have s1 := S6.out.s i hi; have s2 := S6.out.s j hj
          have hlt := S6.out.lt; have hlt2 := S6.out.lt2; have kl := KT.out.lt; have k1 := KT.out.cell 1 _ rfl; have k5 := KT.out.cell 5 _ rfl
          have e6 := E6.out; have f1 := F1.out; have f7 := F7.out
          have m1 := S6.out.s k (by omega)
          have k0 : (0 : Int) ≤ (k : Int) := by omega
          have k7 : (k : Int) < 7 := by omega
          go_wp2_with fail
          refine (TQ.out w9 HD6.out).mono ?_
          intro x u h
          obtain ⟨a1', d1', c, p, c', c2, p2, c2', b3', o3', rfl, B3, -, -, e0, e1, g2, g3, -, -, -, -, -, G5, G0, -, G6, -⟩ := out_two h
          have HXA := Lib.hid (HX6.out.trans (B3.mono HX6.out.size))
          have HX9 := Lib.hid (HXA.out.alloc HXA.out.size (.cells #[.int .i64 30, .string ⟨#[]⟩, .int .i64 0, .int .i64 0, .slice a1' 0 d1', .slice (some ⟨c, p, none⟩) 1 c'] 25))
          have HD9 := Lib.hid (HD0.out.below HX9.out)
          have G0 : u.cell? ⟨c2, p2, none⟩ = some (.int .i64 7) := G0
          have G6 : u.cell? ⟨c2, p2 + 6, none⟩ = some (.int .i64 7) := G6
          clear h TQ l1 l2 s1 s2 hlt hlt2 kl k1 k5 e6 f1 f7 B3 HX6 HXA KT E6 F1 F7 S6 HD6 m1
          go_wp2_with (first | (go_at_call 19; refine (QH.lives_any _ HD9.out).mono ?_; rintro e w5 ⟨rfl, hb5⟩; have HB5 := Lib.hid hb5; clear hb5))
          go_ret
          rw [hH]
          exact ⟨rfl, (hB0.out.trans (HX9.out.mono hBs)).trans (HB5.out.mono (Nat.le_trans hBs HX9.out.size))⟩
      · have t1 : ((i : Int) == 6) = false := by rw [beq_eq_false_iff_ne]; intro e; exact hi6 (by omega)
        clear h66 hi6
        have TP := Lib.hid TP
        have c1' : (w1.alloc (.cells #[.int .i64 0, .string ⟨#[]⟩, .int .i64 0, .int .i64 0, .slice none 0 0, .slice none 0 0] 25)).cell? ⟨H, i, none⟩ = some (.string ⟨#[sg i]⟩) := (World.cell?_alloc_lt _ _ _ S0.out.lt).trans c1
        have c2' : (w1.alloc (.cells #[.int .i64 0, .string ⟨#[]⟩, .int .i64 0, .int .i64 0, .slice none 0 0, .slice none 0 0] 25)).cell? ⟨H, j, none⟩ = some (.string ⟨#[sg j]⟩) := (World.cell?_alloc_lt _ _ _ S0.out.lt).trans c2
        have c1d : w1.drew.cell? ⟨H, i, none⟩ = some (.string ⟨#[sg i]⟩) := c1
        have c2d : w1.drew.cell? ⟨H, j, none⟩ = some (.string ⟨#[sg j]⟩) := c2
        have c1'd : (w1.alloc (.cells #[.int .i64 0, .string ⟨#[]⟩, .int .i64 0, .int .i64 0, .slice none 0 0, .slice none 0 0] 25)).drew.cell? ⟨H, i, none⟩ = some (.string ⟨#[sg i]⟩) := c1'
        have c2'd : (w1.alloc (.cells #[.int .i64 0, .string ⟨#[]⟩, .int .i64 0, .int .i64 0, .slice none 0 0, .slice none 0 0] 25)).drew.cell? ⟨H, j, none⟩ = some (.string ⟨#[sg j]⟩) := c2'
        have HA := Lib.hid ((Below.refl w1.heap.size w1).alloc (Nat.le_refl _) (.cells #[.int .i64 0, .string ⟨#[]⟩, .int .i64 0, .int .i64 0, .slice none 0 0, .slice none 0 0] 25))
        have HK := Lib.hid (Bk.new w1 #[.int .i64 0, .string ⟨#[]⟩, .int .i64 0, .int .i64 0, .slice none 0 0, .slice none 0 0] 25)
        have HD1 : Hid (Dig w1.drew) := HD0.out
        have HD2 : Hid (Dig (w1.alloc (.cells #[.int .i64 0, .string ⟨#[]⟩, .int .i64 0, .int .i64 0, .slice none 0 0, .slice none 0 0] 25)).drew) := HD0.out.below (below_drew HA.out)
        have hb1 : Hid (∀ w3, Below w1.drew.heap.size w1.drew w3 → Below w1.heap.size w1 w3) := fun w3 h => (below_drew (Below.refl w1.heap.size w1)).trans h
        have hb2 : Hid (∀ w3, Below (w1.alloc (.cells #[.int .i64 0, .string ⟨#[]⟩, .int .i64 0, .int .i64 0, .slice none 0 0, .slice none 0 0] 25)).drew.heap.size (w1.alloc (.cells #[.int .i64 0, .string ⟨#[]⟩, .int .i64 0, .int .i64 0, .slice none 0 0, .slice none 0 0] 25)).drew w3 → Below w1.heap.size w1 w3 ∧ Bk w3 w1.heap.size #[.int .i64 0, .string ⟨#[]⟩, .int .i64 0, .int .i64 0, .slice none 0 0, .slice none 0 0] 25) := fun w3 h => ⟨(below_drew HA.out).trans (h.mono HA.out.size), Bk.below HK.out.drew h HK.out.lt⟩
        go_region_held3 (fun w' => w'.cell? ⟨H, i, none⟩ = some (.string ⟨#[sg i]⟩) ∧ w'.cell? ⟨H, j, none⟩ = some (.string ⟨#[sg j]⟩)) (first | with_reducible exact ⟨c1d, c2d⟩ | with_reducible exact ⟨c1', c2'⟩ | with_reducible exact ⟨c1'd, c2'd⟩ | with_reducible exact ⟨hS3.out.s i hi, hS3.out.s j hj⟩ | with_reducible exact ⟨(World.cell?_alloc_lt _ _ _ hS3.out.lt).trans (hS3.out.s i hi), (World.cell?_alloc_lt _ _ _ hS3.out.lt).trans (hS3.out.s j hj)⟩ | with_reducible exact ⟨((set_six HB3.out _ _ _ _ _ _).cell (p := ⟨H, i, none⟩) S0.out.lt).trans c1, ((set_six HB3.out _ _ _ _ _ _).cell (p := ⟨H, j, none⟩) S0.out.lt).trans c2⟩ | fail)
          (first | (go_at_call 21; refine (TP.out _ (by first | with_reducible exact HD1.out | with_reducible exact HD2.out)).mono ?_; intro x w3 h3; obtain ⟨a1, d1, b, o, d, b2, o2, d2, b3, o3, rfl, B3, s0, s1, e0, e1, e2, e3, C0, C1, C2, C3, C4, C5, D0, D1, D6, D7⟩ := out_two h3; first | (have B4 := (by with_reducible exact hb1.out w3 B3); have hS3 := Lib.hid (S0.out.below B4 S0.out.lt S0.out.lt2); have HB3 := Lib.hid B4; clear h3 B3 B4) | (have B4 := (by with_reducible exact hb2.out w3 B3); have hS3 := Lib.hid (S0.out.below B4.1 S0.out.lt S0.out.lt2); have HB3 := Lib.hid B4.1; have KZ := Lib.hid B4.2; have z1 := B4.2.lt; obtain ⟨g0, g1, g2, g3, g4, g5⟩ := B4.2.c6; obtain ⟨f0, f1, f2, f3, f4, f5⟩ := B4.2.f6; clear h3 B3 B4)))
        · have KB := Lib.hid (Bk.new w3 #[.int .i64 30, .string ⟨#[]⟩, .int .i64 0, .int .i64 0, .slice a1 0 d1, .slice (some ⟨b, o, none⟩) 1 d] 25)
          have HX := Lib.hid (HB3.out.alloc HB3.out.size (.cells #[.int .i64 30, .string ⟨#[]⟩, .int .i64 0, .int .i64 0, .slice a1 0 d1, .slice (some ⟨b, o, none⟩) 1 d] 25))
          have up : ∀ {q : Addr} {v : Value}, q.block < w3.heap.size → w3.cell? q = some v → (w3.alloc (.cells #[.int .i64 30, .string ⟨#[]⟩, .int .i64 0, .int .i64 0, .slice a1 0 d1, .slice (some ⟨b, o, none⟩) 1 d] 25)).cell? q = some v := fun {q v} hq hv => (World.cell?_alloc_lt _ _ _ hq).trans hv
          have E0 := Lib.hid (And.intro (show b < (w3.alloc (.cells #[.int .i64 30, .string ⟨#[]⟩, .int .i64 0, .int .i64 0, .slice a1 0 d1, .slice (some ⟨b, o, none⟩) 1 d] 25)).heap.size by simp; omega) (show b2 < (w3.alloc (.cells #[.int .i64 30, .string ⟨#[]⟩, .int .i64 0, .int .i64 0, .slice a1 0 d1, .slice (some ⟨b, o, none⟩) 1 d] 25)).heap.size by simp; omega))
          have C0 := Lib.hid (up (by exact e0) C0)
          have C1 := Lib.hid (up (by exact e0) C1)
          have C2 := Lib.hid (up (by exact e0) C2)
          have C3 := Lib.hid (up (by exact e0) C3)
          have C4 := Lib.hid (up (by exact e0) C4)
          have C5 := Lib.hid (up (by exact e0) C5)
          have D0 := Lib.hid (up (by exact e1) D0)
          have D1 := Lib.hid (up (by exact e1) D1)
          have D6 := Lib.hid (up (by exact e1) D6)
          have D7 := Lib.hid (up (by exact e1) D7)
          have HD4 := Lib.hid (HD0.out.below HX.out)
          have S4 := Lib.hid (S0.out.below HX.out S0.out.lt S0.out.lt2)
          clear hS3 HB3 HA HK HD1 HD2 hb1 hb2 c1 c2 c1' c2' c1d c2d c1'd c2'd TP up e0 e1 s0 s1
          obtain ⟨w4, hw4⟩ : ∃ w4, (w3.alloc (.cells #[.int .i64 30, .string ⟨#[]⟩, .int .i64 0, .int .i64 0, .slice a1 0 d1, .slice (some ⟨b, o, none⟩) 1 d] 25)) = w4 := ⟨_, rfl⟩
          rw [hw4] at KB HX HD4 S4 ⊢
          rw [hw4] at E0 C0 C1 C2 C3 C4 C5 D0 D1 D6 D7
          clear hw4
          generalize w3.heap.size = pb at KB ⊢
          have k5 := KB.out.cell 5 _ rfl
          have kl := KB.out.lt
          obtain ⟨E0, E1⟩ := E0.out
          have C0 := C0.out; have C1 := C1.out; have C2 := C2.out; have C3 := C3.out; have C4 := C4.out; have C5 := C5.out
          have l1 := S4.out.l i hi; have l2 := S4.out.l j hj; have hlt := S4.out.lt; have hlt2 := S4.out.lt2
          go_wp2_with fail
          have KT := Lib.hid (Bk.new w4 #[.int .i64 13, .string ⟨#[sg i]⟩, .int .i64 0, .int .i64 3, .slice b3 0 o3, .slice (some ⟨b2, o2, none⟩) 2 d2] 25)
          have HX6 := Lib.hid (HX.out.alloc HX.out.size (.cells #[.int .i64 13, .string ⟨#[sg i]⟩, .int .i64 0, .int .i64 3, .slice b3 0 o3, .slice (some ⟨b2, o2, none⟩) 2 d2] 25))
          have F1 : Hid ((w4.alloc (.cells #[.int .i64 13, .string ⟨#[sg i]⟩, .int .i64 0, .int .i64 3, .slice b3 0 o3, .slice (some ⟨b2, o2, none⟩) 2 d2] 25)).cell? ⟨b2, o2 + 1, none⟩ = some (.string ⟨#[120]⟩)) := Lib.hid ((World.cell?_alloc_lt _ (.cells #[.int .i64 13, .string ⟨#[sg i]⟩, .int .i64 0, .int .i64 3, .slice b3 0 o3, .slice (some ⟨b2, o2, none⟩) 2 d2] 25) ⟨b2, o2 + 1, none⟩ E1).trans D1.out)
          have F7 : Hid ((w4.alloc (.cells #[.int .i64 13, .string ⟨#[sg i]⟩, .int .i64 0, .int .i64 3, .slice b3 0 o3, .slice (some ⟨b2, o2, none⟩) 2 d2] 25)).cell? ⟨b2, o2 + 7, none⟩ = some (.string ⟨#[sg j]⟩)) := Lib.hid ((World.cell?_alloc_lt _ (.cells #[.int .i64 13, .string ⟨#[sg i]⟩, .int .i64 0, .int .i64 3, .slice b3 0 o3, .slice (some ⟨b2, o2, none⟩) 2 d2] 25) ⟨b2, o2 + 7, none⟩ E1).trans D7.out)
          have E6 := Lib.hid (show b2 < (w4.alloc (.cells #[.int .i64 13, .string ⟨#[sg i]⟩, .int .i64 0, .int .i64 3, .slice b3 0 o3, .slice (some ⟨b2, o2, none⟩) 2 d2] 25)).heap.size by simp; omega)
          have HD6 := Lib.hid (HD0.out.below HX6.out)
          have S6 := Lib.hid (S0.out.below HX6.out S0.out.lt S0.out.lt2)
          clear C0 C1 C2 C3 C4 C5 D0 D1 D6 D7 k5 kl l1 l2 hlt hlt2 E0 E1 S4 HD4 HX KB
          obtain ⟨w6, hw6⟩ : ∃ w6, (w4.alloc (.cells #[.int .i64 13, .string ⟨#[sg i]⟩, .int .i64 0, .int .i64 3, .slice b3 0 o3, .slice (some ⟨b2, o2, none⟩) 2 d2] 25)) = w6 := ⟨_, rfl⟩
          rw [hw6] at KT HX6 F1 F7 E6 HD6 S6
          try rw [hw6]
          clear hw6
          generalize w4.heap.size = pt at KT ⊢
          have l1 := S6.out.l i hi; have l2 := S6.out.l j hj; have s1 := S6.out.s i hi; have s2 := S6.out.s j hj
          have hlt := S6.out.lt; have hlt2 := S6.out.lt2; have kl := KT.out.lt; have k1 := KT.out.cell 1 _ rfl; have k5 := KT.out.cell 5 _ rfl
          have e6 := E6.out; have f1 := F1.out; have f7 := F7.out
          have cmpd : decide (lo j ≤ lo i) = false := by simpa using hl
          clear hl
          go_quiet (fail)
          obtain ⟨w7, hw7⟩ : ∃ u, w6.drewN nq = u := ⟨_, rfl⟩
          have KT : Hid (Bk w7 pt #[.int .i64 13, .string ⟨#[sg i]⟩, .int .i64 0, .int .i64 3, .slice b3 0 o3, .slice (some ⟨b2, o2, none⟩) 2 d2] 25) := by rw [← hw7]; exact KT
          have HX6 : Hid (Below w1.heap.size w1 w7) := by rw [← hw7]; exact HX6.out.trans ⟨rfl, rfl, rfl, Nat.le_refl _, fun _ _ => rfl⟩
          have E6 : Hid (b2 < w7.heap.size) := by rw [← hw7]; exact E6
          have F1 : Hid (w7.cell? ⟨b2, o2 + 1, none⟩ = some (.string ⟨#[120]⟩)) := by rw [← hw7]; exact F1
          have F7 : Hid (w7.cell? ⟨b2, o2 + 7, none⟩ = some (.string ⟨#[sg j]⟩)) := by rw [← hw7]; exact F7
          have HD6 := Lib.hid (HD0.out.below HX6.out)
          have S6 := Lib.hid (S0.out.below HX6.out S0.out.lt S0.out.lt2)
          clear l1 l2 s1 s2 hlt hlt2 kl k1 k5 e6 f1 f7
          rw [hw7]
          clear hw7
          have l1 := S6.out.l i hi; have l2 := S6.out.l j hj; have s1 := S6.out.s i hi; have s2 := S6.out.s j hj
          have hlt := S6.out.lt; have hlt2 := S6.out.lt2; have kl := KT.out.lt; have k1 := KT.out.cell 1 _ rfl; have k5 := KT.out.cell 5 _ rfl
          have e6 := E6.out; have f1 := F1.out; have f7 := F7.out
          go_wp2_with fail
          go_quiet (fail)
          obtain ⟨w8, hw8⟩ : ∃ u, w7.drewN nq = u := ⟨_, rfl⟩
          have KT : Hid (Bk w8 pt #[.int .i64 13, .string ⟨#[sg i]⟩, .int .i64 0, .int .i64 3, .slice b3 0 o3, .slice (some ⟨b2, o2, none⟩) 2 d2] 25) := by rw [← hw8]; exact KT
          have HX6 : Hid (Below w1.heap.size w1 w8) := by rw [← hw8]; exact HX6.out.trans ⟨rfl, rfl, rfl, Nat.le_refl _, fun _ _ => rfl⟩
          have E6 : Hid (b2 < w8.heap.size) := by rw [← hw8]; exact E6
          have F1 : Hid (w8.cell? ⟨b2, o2 + 1, none⟩ = some (.string ⟨#[120]⟩)) := by rw [← hw8]; exact F1
          have F7 : Hid (w8.cell? ⟨b2, o2 + 7, none⟩ = some (.string ⟨#[sg j]⟩)) := by rw [← hw8]; exact F7
          have HD6 := Lib.hid (HD0.out.below HX6.out)
          have S6 := Lib.hid (S0.out.below HX6.out S0.out.lt S0.out.lt2)
          clear l1 l2 s1 s2 hlt hlt2 kl k1 k5 e6 f1 f7
          rw [hw8]
          clear hw8
          have l1 := S6.out.l i hi; have l2 := S6.out.l j hj; have s1 := S6.out.s i hi; have s2 := S6.out.s j hj
          have hlt := S6.out.lt; have hlt2 := S6.out.lt2; have kl := KT.out.lt; have k1 := KT.out.cell 1 _ rfl; have k5 := KT.out.cell 5 _ rfl
          have e6 := E6.out; have f1 := F1.out; have f7 := F7.out
          go_wp2_with fail
          go_quiet (fail)
          obtain ⟨w9, hw9⟩ : ∃ u, w8.drewN nq = u := ⟨_, rfl⟩
          have KT : Hid (Bk w9 pt #[.int .i64 13, .string ⟨#[sg i]⟩, .int .i64 0, .int .i64 3, .slice b3 0 o3, .slice (some ⟨b2, o2, none⟩) 2 d2] 25) := by rw [← hw9]; exact KT
          have HX6 : Hid (Below w1.heap.size w1 w9) := by rw [← hw9]; exact HX6.out.trans ⟨rfl, rfl, rfl, Nat.le_refl _, fun _ _ => rfl⟩
          have E6 : Hid (b2 < w9.heap.size) := by rw [← hw9]; exact E6
          have F1 : Hid (w9.cell? ⟨b2, o2 + 1, none⟩ = some (.string ⟨#[120]⟩)) := by rw [← hw9]; exact F1
          have F7 : Hid (w9.cell? ⟨b2, o2 + 7, none⟩ = some (.string ⟨#[sg j]⟩)) := by rw [← hw9]; exact F7
          have HD6 := Lib.hid (HD0.out.below HX6.out)
          have S6 := Lib.hid (S0.out.below HX6.out S0.out.lt S0.out.lt2)
          clear l1 l2 s1 s2 hlt hlt2 kl k1 k5 e6 f1 f7
          rw [hw9]
          clear hw9
          have l1 := S6.out.l i hi; have l2 := S6.out.l j hj; have s1 := S6.out.s i hi; have s2 := S6.out.s j hj
          have hlt := S6.out.lt; have hlt2 := S6.out.lt2; have kl := KT.out.lt; have k1 := KT.out.cell 1 _ rfl; have k5 := KT.out.cell 5 _ rfl
          have e6 := E6.out; have f1 := F1.out; have f7 := F7.out
          have m1 := S6.out.s k (by omega)
          have k0 : (0 : Int) ≤ (k : Int) := by omega
          have k7 : (k : Int) < 7 := by omega
          go_wp2_with fail
          refine (TQ.out w9 HD6.out).mono ?_
          intro x u h
          obtain ⟨a1', d1', c, p, c', c2, p2, c2', b3', o3', rfl, B3, -, -, e0, e1, g2, g3, -, -, -, -, -, G5, G0, -, G6, -⟩ := out_two h
          have HXA := Lib.hid (HX6.out.trans (B3.mono HX6.out.size))
          have HX9 := Lib.hid (HXA.out.alloc HXA.out.size (.cells #[.int .i64 30, .string ⟨#[]⟩, .int .i64 0, .int .i64 0, .slice a1' 0 d1', .slice (some ⟨c, p, none⟩) 1 c'] 25))
          have HD9 := Lib.hid (HD0.out.below HX9.out)
          have G0 : u.cell? ⟨c2, p2, none⟩ = some (.int .i64 7) := G0
          have G6 : u.cell? ⟨c2, p2 + 6, none⟩ = some (.int .i64 7) := G6
          clear h TQ l1 l2 s1 s2 hlt hlt2 kl k1 k5 e6 f1 f7 B3 HX6 HXA KT E6 F1 F7 S6 HD6 m1
          go_wp2_with (first | (go_at_call 19; refine (QH.lives_any _ HD9.out).mono ?_; rintro e w5 ⟨rfl, hb5⟩; have HB5 := Lib.hid hb5; clear hb5))
          go_ret
          rw [hH]
          exact ⟨rfl, (hB0.out.trans (HX9.out.mono hBs)).trans (HB5.out.mono (Nat.le_trans hBs HX9.out.size))⟩
        · have KB := Lib.hid (Bk.put6 KZ.out (.int .i64 30) (.string ⟨#[]⟩) (.int .i64 0) (.int .i64 0) (.slice a1 0 d1) (.slice (some ⟨b, o, none⟩) 1 d))
          have HX := Lib.hid (set_six HB3.out (.int .i64 30) (.string ⟨#[]⟩) (.int .i64 0) (.int .i64 0) (.slice a1 0 d1) (.slice (some ⟨b, o, none⟩) 1 d))
          have zz : (w1.alloc (.cells #[.int .i64 0, .string ⟨#[]⟩, .int .i64 0, .int .i64 0, .slice none 0 0, .slice none 0 0] 25)).drew.heap.size = w1.heap.size + 1 := by simp [World.drew]
          have y0 : b ≠ w1.heap.size := by omega
          have y1 : b2 ≠ w1.heap.size := by omega
          clear zz
          have up : ∀ {q : Addr} {v : Value}, q.block ≠ w1.heap.size → w3.cell? q = some v → ((((((w3.setCell ⟨w1.heap.size, 0, none⟩ (.int .i64 30)).setCell ⟨w1.heap.size, 1, none⟩ (.string ⟨#[]⟩)).setCell ⟨w1.heap.size, 2, none⟩ (.int .i64 0)).setCell ⟨w1.heap.size, 3, none⟩ (.int .i64 0)).setCell ⟨w1.heap.size, 4, none⟩ (.slice a1 0 d1)).setCell ⟨w1.heap.size, 5, none⟩ (.slice (some ⟨b, o, none⟩) 1 d)).cell? q = some v := fun {q v} hq hv => (set_six_cell hq _ _ _ _ _ _).trans hv
          have E0 := Lib.hid (And.intro (show b < ((((((w3.setCell ⟨w1.heap.size, 0, none⟩ (.int .i64 30)).setCell ⟨w1.heap.size, 1, none⟩ (.string ⟨#[]⟩)).setCell ⟨w1.heap.size, 2, none⟩ (.int .i64 0)).setCell ⟨w1.heap.size, 3, none⟩ (.int .i64 0)).setCell ⟨w1.heap.size, 4, none⟩ (.slice a1 0 d1)).setCell ⟨w1.heap.size, 5, none⟩ (.slice (some ⟨b, o, none⟩) 1 d)).heap.size by simp only [PS.set_size]; exact e0) (show b2 < ((((((w3.setCell ⟨w1.heap.size, 0, none⟩ (.int .i64 30)).setCell ⟨w1.heap.size, 1, none⟩ (.string ⟨#[]⟩)).setCell ⟨w1.heap.size, 2, none⟩ (.int .i64 0)).setCell ⟨w1.heap.size, 3, none⟩ (.int .i64 0)).setCell ⟨w1.heap.size, 4, none⟩ (.slice a1 0 d1)).setCell ⟨w1.heap.size, 5, none⟩ (.slice (some ⟨b, o, none⟩) 1 d)).heap.size by simp only [PS.set_size]; exact e1))
          have C0 := Lib.hid (up (by exact y0) C0)
          have C1 := Lib.hid (up (by exact y0) C1)
          have C2 := Lib.hid (up (by exact y0) C2)
          have C3 := Lib.hid (up (by exact y0) C3)
          have C4 := Lib.hid (up (by exact y0) C4)
          have C5 := Lib.hid (up (by exact y0) C5)
          have D0 := Lib.hid (up (by exact y1) D0)
          have D1 := Lib.hid (up (by exact y1) D1)
          have D6 := Lib.hid (up (by exact y1) D6)
          have D7 := Lib.hid (up (by exact y1) D7)
          have HD4 := Lib.hid (HD0.out.below HX.out)
          have S4 := Lib.hid (S0.out.below HX.out S0.out.lt S0.out.lt2)
          clear hS3 HB3 HA HK HD1 HD2 hb1 hb2 c1 c2 c1' c2' c1d c2d c1'd c2'd TP KZ z1 g0 g1 g2 g3 g4 g5 f0 f1 f2 f3 f4 f5 up e0 e1 s0 s1 y0 y1
          obtain ⟨w4, hw4⟩ : ∃ w4, ((((((w3.setCell ⟨w1.heap.size, 0, none⟩ (.int .i64 30)).setCell ⟨w1.heap.size, 1, none⟩ (.string ⟨#[]⟩)).setCell ⟨w1.heap.size, 2, none⟩ (.int .i64 0)).setCell ⟨w1.heap.size, 3, none⟩ (.int .i64 0)).setCell ⟨w1.heap.size, 4, none⟩ (.slice a1 0 d1)).setCell ⟨w1.heap.size, 5, none⟩ (.slice (some ⟨b, o, none⟩) 1 d)) = w4 := ⟨_, rfl⟩
          rw [hw4] at KB HX HD4 S4 ⊢
          rw [hw4] at E0 C0 C1 C2 C3 C4 C5 D0 D1 D6 D7
          clear hw4
          generalize w1.heap.size = pb at KB ⊢
          have k5 := KB.out.cell 5 _ rfl
          have kl := KB.out.lt
          obtain ⟨E0, E1⟩ := E0.out
          have C0 := C0.out; have C1 := C1.out; have C2 := C2.out; have C3 := C3.out; have C4 := C4.out; have C5 := C5.out
          have l1 := S4.out.l i hi; have l2 := S4.out.l j hj; have hlt := S4.out.lt; have hlt2 := S4.out.lt2
          go_wp2_with fail
          have KT := Lib.hid (Bk.new w4 #[.int .i64 13, .string ⟨#[sg i]⟩, .int .i64 0, .int .i64 3, .slice b3 0 o3, .slice (some ⟨b2, o2, none⟩) 2 d2] 25)
          have HX6 := Lib.hid (HX.out.alloc HX.out.size (.cells #[.int .i64 13, .string ⟨#[sg i]⟩, .int .i64 0, .int .i64 3, .slice b3 0 o3, .slice (some ⟨b2, o2, none⟩) 2 d2] 25))
          have F1 : Hid ((w4.alloc (.cells #[.int .i64 13, .string ⟨#[sg i]⟩, .int .i64 0, .int .i64 3, .slice b3 0 o3, .slice (some ⟨b2, o2, none⟩) 2 d2] 25)).cell? ⟨b2, o2 + 1, none⟩ = some (.string ⟨#[120]⟩)) := Lib.hid ((World.cell?_alloc_lt _ (.cells #[.int .i64 13, .string ⟨#[sg i]⟩, .int .i64 0, .int .i64 3, .slice b3 0 o3, .slice (some ⟨b2, o2, none⟩) 2 d2] 25) ⟨b2, o2 + 1, none⟩ E1).trans D1.out)
          have F7 : Hid ((w4.alloc (.cells #[.int .i64 13, .string ⟨#[sg i]⟩, .int .i64 0, .int .i64 3, .slice b3 0 o3, .slice (some ⟨b2, o2, none⟩) 2 d2] 25)).cell? ⟨b2, o2 + 7, none⟩ = some (.string ⟨#[sg j]⟩)) := Lib.hid ((World.cell?_alloc_lt _ (.cells #[.int .i64 13, .string ⟨#[sg i]⟩, .int .i64 0, .int .i64 3, .slice b3 0 o3, .slice (some ⟨b2, o2, none⟩) 2 d2] 25) ⟨b2, o2 + 7, none⟩ E1).trans D7.out)
          have E6 := Lib.hid (show b2 < (w4.alloc (.cells #[.int .i64 13, .string ⟨#[sg i]⟩, .int .i64 0, .int .i64 3, .slice b3 0 o3, .slice (some ⟨b2, o2, none⟩) 2 d2] 25)).heap.size by simp; omega)
          have HD6 := Lib.hid (HD0.out.below HX6.out)
          have S6 := Lib.hid (S0.out.below HX6.out S0.out.lt S0.out.lt2)
          clear C0 C1 C2 C3 C4 C5 D0 D1 D6 D7 k5 kl l1 l2 hlt hlt2 E0 E1 S4 HD4 HX KB
          obtain ⟨w6, hw6⟩ : ∃ w6, (w4.alloc (.cells #[.int .i64 13, .string ⟨#[sg i]⟩, .int .i64 0, .int .i64 3, .slice b3 0 o3, .slice (some ⟨b2, o2, none⟩) 2 d2] 25)) = w6 := ⟨_, rfl⟩
          rw [hw6] at KT HX6 F1 F7 E6 HD6 S6
          try rw [hw6]
          clear hw6
          generalize w4.heap.size = pt at KT ⊢
          have l1 := S6.out.l i hi; have l2 := S6.out.l j hj; have s1 := S6.out.s i hi; have s2 := S6.out.s j hj
          have hlt := S6.out.lt; have hlt2 := S6.out.lt2; have kl := KT.out.lt; have k1 := KT.out.cell 1 _ rfl; have k5 := KT.out.cell 5 _ rfl
          have e6 := E6.out; have f1 := F1.out; have f7 := F7.out
          have cmpd : decide (lo j ≤ lo i) = false := by simpa using hl
          clear hl
          go_quiet (fail)
          obtain ⟨w7, hw7⟩ : ∃ u, w6.drewN nq = u := ⟨_, rfl⟩
          have KT : Hid (Bk w7 pt #[.int .i64 13, .string ⟨#[sg i]⟩, .int .i64 0, .int .i64 3, .slice b3 0 o3, .slice (some ⟨b2, o2, none⟩) 2 d2] 25) := by rw [← hw7]; exact KT
          have HX6 : Hid (Below w1.heap.size w1 w7) := by rw [← hw7]; exact HX6.out.trans ⟨rfl, rfl, rfl, Nat.le_refl _, fun _ _ => rfl⟩
          have E6 : Hid (b2 < w7.heap.size) := by rw [← hw7]; exact E6
          have F1 : Hid (w7.cell? ⟨b2, o2 + 1, none⟩ = some (.string ⟨#[120]⟩)) := by rw [← hw7]; exact F1
          have F7 : Hid (w7.cell? ⟨b2, o2 + 7, none⟩ = some (.string ⟨#[sg j]⟩)) := by rw [← hw7]; exact F7
          have HD6 := Lib.hid (HD0.out.below HX6.out)
          have S6 := Lib.hid (S0.out.below HX6.out S0.out.lt S0.out.lt2)
          clear l1 l2 s1 s2 hlt hlt2 kl k1 k5 e6 f1 f7
          rw [hw7]
          clear hw7
          have l1 := S6.out.l i hi; have l2 := S6.out.l j hj; have s1 := S6.out.s i hi; have s2 := S6.out.s j hj
          have hlt := S6.out.lt; have hlt2 := S6.out.lt2; have kl := KT.out.lt; have k1 := KT.out.cell 1 _ rfl; have k5 := KT.out.cell 5 _ rfl
          have e6 := E6.out; have f1 := F1.out; have f7 := F7.out
          go_wp2_with fail
          go_quiet (fail)
          obtain ⟨w8, hw8⟩ : ∃ u, w7.drewN nq = u := ⟨_, rfl⟩
          have KT : Hid (Bk w8 pt #[.int .i64 13, .string ⟨#[sg i]⟩, .int .i64 0, .int .i64 3, .slice b3 0 o3, .slice (some ⟨b2, o2, none⟩) 2 d2] 25) := by rw [← hw8]; exact KT
          have HX6 : Hid (Below w1.heap.size w1 w8) := by rw [← hw8]; exact HX6.out.trans ⟨rfl, rfl, rfl, Nat.le_refl _, fun _ _ => rfl⟩
          have E6 : Hid (b2 < w8.heap.size) := by rw [← hw8]; exact E6
          have F1 : Hid (w8.cell? ⟨b2, o2 + 1, none⟩ = some (.string ⟨#[120]⟩)) := by rw [← hw8]; exact F1
          have F7 : Hid (w8.cell? ⟨b2, o2 + 7, none⟩ = some (.string ⟨#[sg j]⟩)) := by rw [← hw8]; exact F7
          have HD6 := Lib.hid (HD0.out.below HX6.out)
          have S6 := Lib.hid (S0.out.below HX6.out S0.out.lt S0.out.lt2)
          clear l1 l2 s1 s2 hlt hlt2 kl k1 k5 e6 f1 f7
          rw [hw8]
          clear hw8
          have l1 := S6.out.l i hi; have l2 := S6.out.l j hj; have s1 := S6.out.s i hi; have s2 := S6.out.s j hj
          have hlt := S6.out.lt; have hlt2 := S6.out.lt2; have kl := KT.out.lt; have k1 := KT.out.cell 1 _ rfl; have k5 := KT.out.cell 5 _ rfl
          have e6 := E6.out; have f1 := F1.out; have f7 := F7.out
          go_wp2_with fail
          go_quiet (fail)
          obtain ⟨w9, hw9⟩ : ∃ u, w8.drewN nq = u := ⟨_, rfl⟩
          have KT : Hid (Bk w9 pt #[.int .i64 13, .string ⟨#[sg i]⟩, .int .i64 0, .int .i64 3, .slice b3 0 o3, .slice (some ⟨b2, o2, none⟩) 2 d2] 25) := by rw [← hw9]; exact KT
          have HX6 : Hid (Below w1.heap.size w1 w9) := by rw [← hw9]; exact HX6.out.trans ⟨rfl, rfl, rfl, Nat.le_refl _, fun _ _ => rfl⟩
          have E6 : Hid (b2 < w9.heap.size) := by rw [← hw9]; exact E6
          have F1 : Hid (w9.cell? ⟨b2, o2 + 1, none⟩ = some (.string ⟨#[120]⟩)) := by rw [← hw9]; exact F1
          have F7 : Hid (w9.cell? ⟨b2, o2 + 7, none⟩ = some (.string ⟨#[sg j]⟩)) := by rw [← hw9]; exact F7
          have HD6 := Lib.hid (HD0.out.below HX6.out)
          have S6 := Lib.hid (S0.out.below HX6.out S0.out.lt S0.out.lt2)
          clear l1 l2 s1 s2 hlt hlt2 kl k1 k5 e6 f1 f7
          rw [hw9]
          clear hw9
          have l1 := S6.out.l i hi; have l2 := S6.out.l j hj; have s1 := S6.out.s i hi; have s2 := S6.out.s j hj
          have hlt := S6.out.lt; have hlt2 := S6.out.lt2; have kl := KT.out.lt; have k1 := KT.out.cell 1 _ rfl; have k5 := KT.out.cell 5 _ rfl
          have e6 := E6.out; have f1 := F1.out; have f7 := F7.out
          have m1 := S6.out.s k (by omega)
          have k0 : (0 : Int) ≤ (k : Int) := by omega
          have k7 : (k : Int) < 7 := by omega
          go_wp2_with fail
          refine (TQ.out w9 HD6.out).mono ?_
          intro x u h
          obtain ⟨a1', d1', c, p, c', c2, p2, c2', b3', o3', rfl, B3, -, -, e0, e1, g2, g3, -, -, -, -, -, G5, G0, -, G6, -⟩ := out_two h
          have HXA := Lib.hid (HX6.out.trans (B3.mono HX6.out.size))
          have HX9 := Lib.hid (HXA.out.alloc HXA.out.size (.cells #[.int .i64 30, .string ⟨#[]⟩, .int .i64 0, .int .i64 0, .slice a1' 0 d1', .slice (some ⟨c, p, none⟩) 1 c'] 25))
          have HD9 := Lib.hid (HD0.out.below HX9.out)
          have G0 : u.cell? ⟨c2, p2, none⟩ = some (.int .i64 7) := G0
          have G6 : u.cell? ⟨c2, p2 + 6, none⟩ = some (.int .i64 7) := G6
          clear h TQ l1 l2 s1 s2 hlt hlt2 kl k1 k5 e6 f1 f7 B3 HX6 HXA KT E6 F1 F7 S6 HD6 m1
          go_wp2_with (first | (go_at_call 19; refine (QH.lives_any _ HD9.out).mono ?_; rintro e w5 ⟨rfl, hb5⟩; have HB5 := Lib.hid hb5; clear hb5))
          go_ret
          rw [hH]
          exact ⟨rfl, (hB0.out.trans (HX9.out.mono hBs)).trans (HB5.out.mono (Nat.le_trans hBs HX9.out.size))⟩

end Go.Proofs.YtlcapkgbbgpdmaaGreatDoor.parseLeft
