/- The program's Close. -/
import Derived.Test.YtphebogjmbaboaaDoorIA
namespace Go.Proofs.YtphebogjmbaboaaDoor.IG
open Go.RowKit Go.Proofs.YtphebogjmbaboaaDoor.RG Go.Proofs.YtphebogjmbaboaaDoor.RB Go.Proofs.YtphebogjmbaboaaDoor.HA Go.Proofs.YtphebogjmbaboaaDoor.HB Go.Proofs.YtphebogjmbaboaaDoor.HD Go.Proofs.YtphebogjmbaboaaDoor.HE Go.Proofs.YtphebogjmbaboaaDoor.HF Go.Proofs.YtphebogjmbaboaaDoor.HN Go.Proofs.YtphebogjmbaboaaDoor.HP Go.Proofs.YtphebogjmbaboaaDoor.M Go.Proofs.YtphebogjmbaboaaDoor.K1 Go.Proofs.YtphebogjmbaboaaDoor.IA
set_option linter.unusedVariables false
set_option maxRecDepth 100000
set_option maxRecDepth 100000

/-- Of a row that is too long no more is needed than one that is too many. -/
theorem make_take (N : Nat) (h : Hp) (z : Int) (l : List Int) : make 2 N h 200 (z :: l.take 60) = make 2 N h 200 (z :: l) := by
  by_cases hl : l.length ≤ 60
  · rw [List.take_of_length_le hl]
  · unfold make
    rw [if_neg (by rw [List.length_cons, List.length_take]; omega), if_neg (by rw [List.length_cons]; omega)]
/-- A block of numbers, of whatever type, is a row. -/
theorem bk_row {w : World} {b : Nat} {L : List Int} {T : TypeId} (h : Bk w b (xints L) T) (off n cap : Nat) (h1 : off + n ≤ L.length) (h2 : n ≤ cap) : RowI w (.slice (some ⟨b, off, none⟩) n cap) ((L.drop off).take n) := by
  have hl : ((L.drop off).take n).length = n := by rw [List.length_take, List.length_drop]; omega
  refine ⟨((L.drop off).take n).map fun _ => [], ⟨_, cap, by rw [hl], by rw [hl]; exact h2, .inr ⟨b, off, rfl, ⟨trivial, h.lt⟩, fun j u hj => ?_⟩⟩, ?_⟩
  · have hr : ∀ l : List Int, rowOf TI l (l.map fun _ => []) = l.map (Value.int .i64) := fun l => by
      induction l with
      | nil => rfl
      | cons x l ih => show [Value.int .i64 x] ++ rowOf TI l (l.map fun _ => []) = _; rw [ih]; rfl
    rw [hr, List.getElem?_map, Option.map_eq_some_iff] at hj
    obtain ⟨z, hz, rfl⟩ := hj
    rw [List.getElem?_take] at hz
    split at hz
    · rw [List.getElem?_drop] at hz
      exact h.cell _ _ (xints_at hz)
    · cases hz
  · generalize (L.drop off).take n = l
    induction l with
    | nil => trivial
    | cons x l ih => exact ⟨rfl, ih⟩
theorem splice_row (z : Int) (l : List Int) (hl : l.length ≤ 60) : (splice (z :: List.replicate 60 (0 : Int)) 1 l).take (1 + l.length) = z :: l ∧ (splice (z :: List.replicate 60 (0 : Int)) 1 l).length = 61 := by
  constructor
  · unfold splice
    rw [List.take_succ_cons, List.take_zero, List.singleton_append, show 1 + l.length = l.length + 1 by omega, List.take_succ_cons, List.take_append_of_le_length (Nat.le_refl _), List.take_length]
  · rw [length_splice _ _ _ (by simp; omega)]
    simp
theorem pclose_c (w : World) (p x m o N : Nat) (h : Hp) (H : HP w p x m o N h) (fn : Int) (v : Value) (l : List Int) (hv : RowI w v l) (hx : ∀ b, v.ownBlock = some b → b ≠ x) (hl : l.length ≤ 1000000) :
    Calls Tryd.prog 29 #[.pointer (some ⟨p, 0, none⟩), .int .i64 fn, v] w fun e w' => e = .returned (.tuple #[.int .i64 (closeR N h fn l).2.1, .int .i64 (closeR N h fn l).2.2]) ∧ HP w' p x m o N (closeR N h fn l).1 ∧ On3 p x m w w' := by
  obtain ⟨ao, cap, rfl, hcap⟩ := hv.val
  by_cases hf : fn < 0 ∨ fn > 2147483647
  · have hc : closeR N h fn l = (h, 0, 1) := if_pos hf
    rw [hc]
    have HI := Lib.hid (fun w1 => isfun_c fn w1)
    rw [show isF fn = false from decide_eq_false (by omega)] at HI
    have HH := Lib.hid H
    clear hf hc hv hx hl H
    go_enter Tryd.func29, Tryd.ntmps29
    go_wp2_with fail
    refine (HI.out _).mono ?_
    rintro e w1 ⟨rfl, rfl⟩
    go_wp2_with fail
    go_ret2
    exact ⟨rfl, HH.out, On3.refl _ _ _ _⟩
  · have HI := Lib.hid (fun w1 => isfun_c fn w1)
    rw [show isF fn = true from decide_eq_true (by omega)] at HI
    have HTG := Lib.hid (fun w1 => tag_any fn w1 (by omega) (by omega))
    rw [w63_id fn (by omega) (by omega)] at HTG
    have hc : closeR N h fn l = make 2 N h 200 ((2 * fn + 1) :: l) := if_neg hf
    rw [hc, ← make_take]
    have HMK := Lib.hid (fun (w2 : World) v2 (H2 : HP w2 p x m o N h) (hv2 : RowI w2 v2 ((2 * fn + 1) :: l.take 60)) (hx2 : ∀ b, v2.ownBlock = some b → b ≠ x) => make_c w2 p x m o N h H2 200 v2 _ hv2 hx2 (by rw [List.length_cons, List.length_take]; omega))
    obtain ⟨⟨M1, M2, M3⟩, hM⟩ : ∃ x, make 2 N h 200 ((2 * fn + 1) :: l.take 60) = x := ⟨_, rfl⟩
    rw [hM] at HMK ⊢
    simp only at HMK ⊢
    obtain ⟨n, hn⟩ : ∃ n, Hid (l.length = n) := ⟨_, Lib.hid rfl⟩
    have HH := Lib.hid H
    have hxl := H.lt.2.1
    obtain ⟨cur, hcur⟩ : ∃ cur, Hid (((2 * fn + 1) :: List.replicate 60 (0 : Int)).map (Value.int .i64) = cur) := ⟨_, Lib.hid rfl⟩
    obtain ⟨cs, hcs⟩ : ∃ cs, Hid ((l.take 60).map (Value.int .i64) = cs) := ⟨_, Lib.hid rfl⟩
    obtain ⟨c, hcl⟩ : ∃ c, Hid (cs.length = c) := ⟨_, Lib.hid rfl⟩
    have hcn : c = min 60 n := by rw [← hcl.out, ← hcs.out, List.length_map, List.length_take, hn.out]
    have HCUR := Lib.hid (fun w : World => show (w.alloc (.cells cur.toArray 89)).heap[w.heap.size]? = some (.cells cur.toArray 89 (0, 0)) from heap_alloc_new w _)
    have HUL := Lib.hid (show cur.length = 61 from by rw [← hcur.out]; rfl)
    have HN := Lib.hid (show cs.length = Nat.min n 60 from by rw [hcl.out, hcn]; exact Nat.min_comm _ _)
    have HFIT := Lib.hid (show 1 + cs.length ≤ cur.length from by rw [hcl.out, HUL.out]; omega)
    have HONE := Lib.hid (show ∀ v ∈ cs, v.oneCell' = true from fun v hv => by
      rw [← hcs.out] at hv
      obtain ⟨z, _, rfl⟩ := List.mem_map.1 hv
      rfl)
    have hrow1 : ∀ o : Obj, ∀ (j : Nat) z, l[j]? = some z → ∃ ad, ao = some ad ∧ (w.alloc o).cell? (ad.add j) = some (.int .i64 z) := by
      intro o j z hz
      obtain ⟨b, off, cp, hve, _, hblt, hcells⟩ := (hv.keep (balloc w o)).open_ (by intro e; rw [e] at hz; simp at hz)
      cases hve
      obtain ⟨q, hLI, _⟩ := hcells j z hz
      have := hLI 0 _ rfl
      refine ⟨_, rfl, ?_⟩
      rw [add_plain]
      simpa [TI, Ty.flat] using this
    have HSRC := Lib.hid (fun o : Obj => show 0 < cs.length → ∃ ad, ao = some ad ∧ ∀ j v, cs[j]? = some v → (w.alloc o).cell? (ad.add j) = some v from fun h0 => by
      have hl0 : 0 < l.length := by rw [hcl.out] at h0; rw [hn.out]; omega
      obtain ⟨z0, hz0⟩ := getElem?_of_lt hl0
      obtain ⟨ad, had, _⟩ := hrow1 o 0 z0 hz0
      refine ⟨ad, had, fun j v hv => ?_⟩
      rw [← hcs.out, List.getElem?_map, Option.map_eq_some_iff] at hv
      obtain ⟨z, hz, rfl⟩ := hv
      rw [List.getElem?_take] at hz
      split at hz
      · obtain ⟨ad2, had2, hc2⟩ := hrow1 o j z hz
        rw [had] at had2
        cases had2
        exact hc2
      · cases hz)
    have HAR := Lib.hid (show (#[.int .i64 (2 * fn + 1), .int .i64 0, .int .i64 0, .int .i64 0, .int .i64 0, .int .i64 0, .int .i64 0, .int .i64 0, .int .i64 0, .int .i64 0, .int .i64 0, .int .i64 0, .int .i64 0, .int .i64 0, .int .i64 0, .int .i64 0, .int .i64 0, .int .i64 0, .int .i64 0, .int .i64 0, .int .i64 0, .int .i64 0, .int .i64 0, .int .i64 0, .int .i64 0, .int .i64 0, .int .i64 0, .int .i64 0, .int .i64 0, .int .i64 0, .int .i64 0, .int .i64 0, .int .i64 0, .int .i64 0, .int .i64 0, .int .i64 0, .int .i64 0, .int .i64 0, .int .i64 0, .int .i64 0, .int .i64 0, .int .i64 0, .int .i64 0, .int .i64 0, .int .i64 0, .int .i64 0, .int .i64 0, .int .i64 0, .int .i64 0, .int .i64 0, .int .i64 0, .int .i64 0, .int .i64 0, .int .i64 0, .int .i64 0, .int .i64 0, .int .i64 0, .int .i64 0, .int .i64 0, .int .i64 0, .int .i64 0] : Array Value) = cur.toArray from by rw [← hcur.out]; rfl)
    have HBA := Lib.hid (balloc w (.cells #[.int .i64 (2 * fn + 1), .int .i64 0, .int .i64 0, .int .i64 0, .int .i64 0, .int .i64 0, .int .i64 0, .int .i64 0, .int .i64 0, .int .i64 0, .int .i64 0, .int .i64 0, .int .i64 0, .int .i64 0, .int .i64 0, .int .i64 0, .int .i64 0, .int .i64 0, .int .i64 0, .int .i64 0, .int .i64 0, .int .i64 0, .int .i64 0, .int .i64 0, .int .i64 0, .int .i64 0, .int .i64 0, .int .i64 0, .int .i64 0, .int .i64 0, .int .i64 0, .int .i64 0, .int .i64 0, .int .i64 0, .int .i64 0, .int .i64 0, .int .i64 0, .int .i64 0, .int .i64 0, .int .i64 0, .int .i64 0, .int .i64 0, .int .i64 0, .int .i64 0, .int .i64 0, .int .i64 0, .int .i64 0, .int .i64 0, .int .i64 0, .int .i64 0, .int .i64 0, .int .i64 0, .int .i64 0, .int .i64 0, .int .i64 0, .int .i64 0, .int .i64 0, .int .i64 0, .int .i64 0, .int .i64 0, .int .i64 0] 89))
    rw [HAR.out] at HBA
    have hc6 : c ≤ 60 := by omega
    have i3 : 1 + (c : Int) ≤ 61 := by omega
    have i4 : (0 : Int) ≤ 1 + (c : Int) := by omega
    rw [hn.out] at hcap ⊢
    have HV := Lib.hid hv
    have HCN := Lib.hid hcn
    clear hf hc hM hx hl hrow1 hv H hcn hcap
    go_enter Tryd.func29, Tryd.ntmps29
    go_wp2_with fail
    refine (HI.out _).mono ?_
    rintro e w1 ⟨rfl, rfl⟩
    go_wp2_with fail
    refine (HTG.out _).mono ?_
    rintro e w2 ⟨rfl, rfl⟩
    have HCUR2 := HCUR.out w
    have HBA2 := HBA.out
    have HSRC2 := HSRC.out (.cells cur.toArray 89)
    rw [← HAR.out] at HCUR2 HBA2 HSRC2
    go_wp2_with (refine wpList_copy_splice rfl (.tmp 16) (.tmp 17) 28 28 rfl 3 Tryd.underlying28 (by kernel_rfl) (some ⟨_, 1, none⟩) ao 60 60 n cap rfl rfl w.heap.size 1 cur 89 (by rw [← HAR.out]; exact HCUR2) cs HN.out (fun h0 => ⟨rfl, HSRC2 h0⟩) HFIT.out HONE.out w.heap.size w HBA2 (Nat.le_refl _) ?_; intro w2 hg2 hb2; have HB2 := Lib.hid hb2; clear hb2; rw [hcl.out])
    have HR2 := Lib.hid (show RowI w2 (.slice (some ⟨w.heap.size, 0, none⟩) (1 + c) 61) ((2 * fn + 1) :: l.take 60) from by
      have hg := hg2.out
      rw [← hcur.out, ← hcs.out, splice_map] at hg
      have l6 : (l.take 60).length = c := by rw [List.length_take, hn.out, HCN.out]
      obtain ⟨e1, e2⟩ := splice_row (2 * fn + 1) (l.take 60) (by rw [l6]; exact hc6)
      rw [l6] at e1
      have := bk_row (L := splice ((2 * fn + 1) :: List.replicate 60 (0 : Int)) 1 (l.take 60)) hg 0 (1 + c) 61 (by rw [e2]; omega) (by omega)
      rw [List.drop_zero, e1] at this
      exact this)
    have HO2 := Lib.hid (On3.of (p := p) (x := x) (m := m) HB2.out)
    refine (HMK.out _ _ (HH.out.keep HB2.out) HR2.out (fun b hb => by cases hb; exact Nat.ne_of_gt hxl)).mono ?_
    rintro e w3 ⟨rfl, hd, ho⟩
    have HD3 := Lib.hid hd
    have HO3 := Lib.hid (On3.trans HO2.out ho)
    clear hd ho
    go_wp2_with fail
    go_ret2
    exact ⟨rfl, HD3.out, HO3.out⟩
end Go.Proofs.YtphebogjmbaboaaDoor.IG
