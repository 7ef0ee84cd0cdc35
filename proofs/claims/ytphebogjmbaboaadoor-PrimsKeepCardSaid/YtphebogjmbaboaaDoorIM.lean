/- A word's block is moved. -/
import Derived.Test.YtphebogjmbaboaaDoorIJ
import Derived.Test.YtphebogjmbaboaaDoorIK
import Derived.Test.YtphebogjmbaboaaDoorIL
import Derived.Test.YtphebogjmbaboaaDoorHN
import Derived.Test.YtphebogjmbaboaaDoorIF
namespace Go.Proofs.YtphebogjmbaboaaDoor.IM
open Go.RowKit Go.Proofs.YtphebogjmbaboaaDoor.RG Go.Proofs.YtphebogjmbaboaaDoor.RB Go.Proofs.YtphebogjmbaboaaDoor.RM Go.Proofs.YtphebogjmbaboaaDoor.HA Go.Proofs.YtphebogjmbaboaaDoor.HB Go.Proofs.YtphebogjmbaboaaDoor.HC Go.Proofs.YtphebogjmbaboaaDoor.HD Go.Proofs.YtphebogjmbaboaaDoor.HE Go.Proofs.YtphebogjmbaboaaDoor.HN Go.Proofs.YtphebogjmbaboaaDoor.IJ Go.Proofs.YtphebogjmbaboaaDoor.IK Go.Proofs.YtphebogjmbaboaaDoor.IL Go.Proofs.YtphebogjmbaboaaDoor.K1
set_option linter.unusedVariables false
set_option maxRecDepth 100000
set_option maxRecDepth 100000

/-- Nothing but these blocks has turned. -/
structure OnS (S : Nat → Prop) (w w' : World) : Prop where
  os : w'.os = w.os
  tape : w'.tape = w.tape
  output : w'.output = w.output
  size : w.heap.size ≤ w'.heap.size
  block : ∀ k, k < w.heap.size → ¬ S k → w'.heap[k]? = w.heap[k]?
theorem OnS.refl (S : Nat → Prop) (w : World) : OnS S w w := ⟨rfl, rfl, rfl, Nat.le_refl _, fun _ _ _ => rfl⟩
theorem OnS.trans {S : Nat → Prop} {a b c : World} (h : OnS S a b) (k : OnS S b c) : OnS S a c :=
  ⟨k.os.trans h.os, k.tape.trans h.tape, k.output.trans h.output, Nat.le_trans h.size k.size, fun i hi h1 => (k.block i (Nat.lt_of_lt_of_le hi h.size) h1).trans (h.block i hi h1)⟩
theorem OnS.of {S : Nat → Prop} {w w' : World} (h : Below w.heap.size w w') : OnS S w w' := ⟨h.os, h.tape, h.output, h.size, fun k hk _ => h.block k hk⟩
theorem OnS.of3 {S : Nat → Prop} {p x m : Nat} {w w' : World} (h : On3 p x m w w') (h1 : S p) (h2 : S x) (h3 : S m) : OnS S w w' :=
  ⟨h.os, h.tape, h.output, h.size, fun k hk hs => h.block k hk (fun e => hs (e ▸ h1)) (fun e => hs (e ▸ h2)) (fun e => hs (e ▸ h3))⟩
theorem OnS.bk {S : Nat → Prop} {w w' : World} {b : Nat} {c : Array Value} {T : TypeId} (h : OnS S w w') (hk : Bk w b c T) (hn : ¬ S b) : Bk w' b c T := (h.block b hk.lt hn).trans hk
/-- The pairs of places. -/
def ents (h : Hp) (src : List Nat) : List (Int × Int) := (List.range src.length).map fun j => ((place h (src.getD j 0) : Int), (place (cpy h src) j : Int))
theorem ents_snoc (h : Hp) (src : List Nat) (s : Nat) : ents h (src ++ [s]) = ents h src ++ [((place h s : Int), (place (cpy h src) src.length : Int))] := by
  unfold ents
  rw [List.length_append, List.length_singleton, List.range_succ, List.map_append]
  congr 1
  · apply List.map_congr_left
    intro j hj
    have hj := List.mem_range.1 hj
    rw [cpy_app, place_app _ _ (by rw [cpy_len]; omega)]
    congr 3
    simp [List.getD, List.getElem?_append_left hj]
  · simp only [List.map_cons, List.map_nil]
    rw [cpy_app, place_app _ _ (by rw [cpy_len]; exact Nat.le_refl _)]
    congr 3
    simp [List.getD]
theorem ents_in {h : Hp} {src : List Nat} {K V : Int} (hm : (K, V) ∈ ents h src) : ∃ j s, src[j]? = some s ∧ K = (place h s : Int) ∧ V = (place (cpy h src) j : Int) := by
  obtain ⟨j, hj, e⟩ := List.mem_map.1 hm
  have hj := List.mem_range.1 hj
  cases e
  exact ⟨j, src[j], List.getElem?_eq_getElem hj, by simp [List.getD, hj], rfl⟩
theorem nd_inj : ∀ (l : List Nat), l.Nodup → ∀ (j j' s : Nat), l[j]? = some s → l[j']? = some s → j = j'
  | [], _, j, j', s, h, _ => by simp at h
  | a :: l, hn, 0, 0, s, _, _ => rfl
  | a :: l, hn, 0, j' + 1, s, h, h' => by
    simp at h h'
    subst h
    exact absurd (List.mem_of_getElem? h') (List.nodup_cons.1 hn).1
  | a :: l, hn, j + 1, 0, s, h, h' => by
    simp at h h'
    subst h'
    exact absurd (List.mem_of_getElem? h) (List.nodup_cons.1 hn).1
  | a :: l, hn, j + 1, j' + 1, s, h, h' => by rw [nd_inj l (List.nodup_cons.1 hn).2 j j' s (by simpa using h) (by simpa using h')]
theorem ents_one {h : Hp} {src : List Nat} (H : Ok h src) : One (ents h src) := by
  intro K v v' h1 h2
  obtain ⟨j, s, e1, e2, rfl⟩ := ents_in h1
  obtain ⟨j', s', e1', e2', rfl⟩ := ents_in h2
  have hp : place h s = place h s' := by omega
  have hs := place_inj (Nat.le_of_lt (H.lt s (List.mem_of_getElem? e1))) (Nat.le_of_lt (H.lt s' (List.mem_of_getElem? e1'))) hp
  subst hs
  rw [nd_inj src H.nd _ _ _ e1 e1']
theorem ents_mem {h : Hp} {src : List Nat} {s : Nat} (hs : s ∈ src) : ((place h s : Int), (place (cpy h src) (src.idxOf s) : Int)) ∈ ents h src := by
  have hl : src.idxOf s < src.length := List.idxOf_lt_length_iff.2 hs
  refine List.mem_map.2 ⟨src.idxOf s, List.mem_range.2 hl, ?_⟩
  congr 3
  simp [List.getD, hl]
theorem ents_no {h : Hp} {src : List Nat} (H : Ok h src) {s : Nat} (hs : s ∉ src) (hl : s < h.length) (v : Int) : ((place h s : Int), v) ∉ ents h src := fun hm => by
  obtain ⟨j, s', e1, e2, _⟩ := ents_in hm
  have := place_inj (Nat.le_of_lt hl) (Nat.le_of_lt (H.lt s' (List.mem_of_getElem? e1))) (by omega)
  subst this
  exact hs (List.mem_of_getElem? e1)
/-- While it is moved: the heap, the half there, the pairs of places, the captured variables' blocks. -/
structure Mov (w : World) (D p x m o N : Nat) (h : Hp) (t m2 q qb hb : Nat) (src : List Nat) (k i : Nat) (g : Hp) : Prop where
  hp : HP w p x m o N h
  hf : HF w t o m2 N g
  mp : MapB w q (ents h src)
  bq : Bk w qb #[.map (some q)] 102
  bh : Bk w hb #[.pointer (some ⟨p, 0, none⟩)] 23
  ok : Ok h src
  isg : IsG h src k i g
  lo : p < D ∧ x < D ∧ m < D ∧ o < D
  hi : D ≤ t ∧ D ≤ m2 ∧ D ≤ q ∧ D ≤ qb ∧ D ≤ hb
  ne : t ≠ q ∧ t ≠ qb ∧ t ≠ hb ∧ m2 ≠ q ∧ m2 ≠ qb ∧ m2 ≠ hb ∧ q ≠ qb ∧ q ≠ hb
/-- What moving turns. -/
def Trn (t o m2 q : Nat) : Nat → Prop := fun b => b = t ∨ b = o ∨ b = m2 ∨ b = q
theorem hp_on {w w' : World} {p x m o N : Nat} {h : Hp} (H : HP w p x m o N h) {S : Nat → Prop} (ho : OnS S w w') (n1 : ¬ S p) (n2 : ¬ S x) (n3 : ¬ S m) (hr : ∃ L, RowN w' o L ∧ L.length = N) : HP w' p x m o N h := by
  obtain ⟨L, h1, h2⟩ := H.ws
  exact ⟨ho.bk H.blk n1, ⟨L, ho.bk h1 n2, h2⟩, (ho.block m H.set.lt n3).trans H.set, hr, H.ne, H.fit, H.good⟩
theorem Mov.keep {w w' : World} {D p x m o N : Nat} {h : Hp} {t m2 q qb hb : Nat} {src : List Nat} {k i : Nat} {g : Hp} (M : Mov w D p x m o N h t m2 q qb hb src k i g) (h' : Below w.heap.size w w') : Mov w' D p x m o N h t m2 q qb hb src k i g :=
  ⟨M.hp.keep h', M.hf.keep h', M.mp.keep h', M.bq.keep h', M.bh.keep h', M.ok, M.isg, M.lo, M.hi, M.ne⟩
theorem OnS.map {S : Nat → Prop} {w : World} {q : Nat} (hq : S q) (o : Obj) : OnS S w (setMap w q o) :=
  ⟨rfl, rfl, rfl, by rw [setMap_size]; exact Nat.le_refl _, fun k hk hs => setMap_other q o (fun e => hs (e ▸ hq))⟩
theorem hf_on {w w' : World} {p x m N : Nat} {h : Hp} (H : HF w p x m N h) {S : Nat → Prop} (ho : OnS S w w') (n1 : ¬ S p) (n2 : ¬ S x) (n3 : ¬ S m) : HF w' p x m N h := by
  obtain ⟨L, h1, h2⟩ := H.ws
  exact ⟨ho.bk H.blk n1, ⟨L, ho.bk h1 n2, h2⟩, (ho.block m H.set.lt n3).trans H.set, H.ne, H.fit, H.good⟩
theorem mov_end {w w2 W3 : World} {D p x m o N : Nat} {h : Hp} {t m2 q qb hb : Nat} {src : List Nat} {k i : Nat} {g : Hp} (M : Mov w D p x m o N h t m2 q qb hb src k i g) {s : Nat} {b : Bl} {K V : Int} (hisg : IsG h (src ++ [s]) k i (g ++ [b])) (hok : Ok h (src ++ [s])) (hf : HF w2 t o m2 N (g ++ [b])) (ho : On3 t o m2 w.drew w2)
    (hen : ents h (src ++ [s]) = ents h src ++ [(K, V)]) (hmp : MapB w2 q (ents h src)) (hW : setMap w2 q (.map (entsV 0 (ents h src ++ [(K, V)])).toArray (ents h src ++ [(K, V)]).length) = W3) :
    Mov W3 D p x m o N h t m2 q qb hb (src ++ [s]) k i (g ++ [b]) ∧ OnS (Trn t o m2 q) w W3 := by
  have l1 := M.lo
  have l2 := M.hi
  have l3 := M.ne
  have l4 := M.hf.ne
  have l5 := M.hp.ne
  have o1 : OnS (Trn t o m2 q) w w2 := (OnS.of (bdr w)).trans (OnS.of3 ho (.inl rfl) (.inr (.inl rfl)) (.inr (.inr (.inl rfl))))
  have o2 : OnS (fun b => b = q) w2 W3 := by rw [← hW]; exact OnS.map (S := fun b => b = q) rfl _
  have o3 : OnS (Trn t o m2 q) w W3 := o1.trans (by rw [← hW]; exact OnS.map (.inr (.inr (.inr rfl))) _)
  have hf3 : HF W3 t o m2 N (g ++ [b]) := hf_on hf o2 (by omega) (by omega) (by omega)
  refine ⟨⟨hp_on M.hp o3 (by unfold Trn; omega) (by unfold Trn; omega) (by unfold Trn; omega) ?_, hf3, ?_, o3.bk M.bq (by unfold Trn; omega), o3.bk M.bh (by unfold Trn; omega), hok, hisg, l1, l2, l3⟩, o3⟩
  · obtain ⟨L, h1, h2, _⟩ := hf3.ws
    exact ⟨L, h1, h2⟩
  · rw [hen, ← hW]
    exact setMap_at hmp
theorem hz_int (w : World) : (zeroValue 3).run Tryd.prog w = .ok (.int .i64 0) w := by kernel_rfl
set_option maxHeartbeats 6400000 in
theorem move_c (w : World) (D p x m o N : Nat) (h : Hp) (t m2 q qb hb : Nat) (src : List Nat) (k i : Nat) (g : Hp) (M : Mov w D p x m o N h t m2 q qb hb src k i g) (z : Int) (hz : z % 2 = 0 → ∃ s, blk h z = some s) (hk : k < src.length ∨ i = 0) (hk2 : k ≤ src.length) :
    Calls Tryd.prog 75 #[.int .i64 z, .pointer (some ⟨qb, 0, none⟩), .pointer (some ⟨hb, 0, none⟩), .pointer (some ⟨t, 0, none⟩)] w fun e w' => e = .returned (.int .i64 (fwd h (visit h src z) z)) ∧ (∃ g', Mov w' D p x m o N h t m2 q qb hb (visit h src z) k i g') ∧ OnS (Trn t o m2 q) w w' := by
  have HM := Lib.hid M
  have b0 := M.bq.cell 0 _ rfl
  have c0 := M.bh.cell 0 _ rfl
  by_cases ho : z % 2 ≠ 0
  · have e1 : visit h src z = src := by unfold visit; rw [if_pos ho]
    have e2 : fwd h src z = z := by unfold fwd; rw [if_pos ho]
    rw [e1, e2]
    have HAT := Lib.hid (at_odd z w (by omega))
    clear e1 e2 M hz b0 c0 hk hk2
    go_enter Tryd.func75, Tryd.ntmps75
    go_wp2_with fail
    refine HAT.out.mono ?_
    rintro e w1 ⟨rfl, rfl⟩
    go_wp2_with fail
    go_ret
    exact ⟨rfl, ⟨g, HM.out⟩, OnS.refl _ _⟩
  · obtain ⟨s, hs⟩ := hz (by omega)
    obtain ⟨hsl, hzp⟩ := blk_some hs
    have hpos := place_pos h s
    unfold ptr at hzp
    have HAT := Lib.hid (at_yes z w (by omega) (by omega))
    rw [show z / 2 = (place h s : Int) by omega] at HAT
    by_cases hm : s ∈ src
    · have e1 : visit h src z = src := by unfold visit; rw [if_neg ho, hs]; simp only [if_pos hm]
      have e2 : fwd h src z = 2 * (place (cpy h src) (src.idxOf s) : Int) := by unfold fwd; rw [if_neg ho, hs]; rfl
      rw [e1, e2]
      have hl := run_lookV_yes (P := Tryd.prog) (MT := 102) (KT := 3) (ET := 3) Tryd.underlying102 Tryd.underlying3 w q (ents h src) _ _ (ents_one M.ok) (ents_mem hm) M.mp
      have hpp := place_pos (cpy h src) (src.idxOf s)
      have hpu : place (cpy h src) (src.idxOf s) ≤ 65537 := by
        have h1 := used_le (cpy h src) (src.idxOf s)
        have h2 := used_cpy M.ok
        have h3 := M.hp.fit
        unfold place
        omega
      obtain ⟨V, hV⟩ : ∃ V, place (cpy h src) (src.idxOf s) = V := ⟨_, rfl⟩
      rw [hV] at hl hpp hpu ⊢
      obtain ⟨K, hK⟩ : ∃ V, place h s = V := ⟨_, rfl⟩
      rw [hK] at hl HAT
      obtain ⟨hl1, hl2⟩ := hl
      have HPT := Lib.hid (fun w1 => point_yes (V : Int) w1 (by omega) (by omega))
      clear e1 e2 M hz hk hk2 hV hm hs hsl hzp hpos hK hpp hpu
      go_enter Tryd.func75, Tryd.ntmps75
      go_wp2_with fail
      refine HAT.out.mono ?_
      rintro e w1 ⟨rfl, rfl⟩
      go_wp2_with fail
      refine (HPT.out _).mono ?_
      rintro e w1 ⟨rfl, rfl⟩
      go_wp2_with fail
      go_ret
      exact ⟨rfl, ⟨g, HM.out⟩, OnS.refl _ _⟩
    · have hl := run_lookV_no (P := Tryd.prog) (MT := 102) (KT := 3) (ET := 3) Tryd.underlying102 Tryd.underlying3 hz_int w q (ents h src) _ (fun v => ents_no M.ok hm hsl v) M.mp
      have e1 : visit h src z = src ++ [s] := by unfold visit; rw [if_neg ho, hs]; simp only [if_neg hm]
      have hbs := bl_at hsl
      have hgd := M.hp.good _ (List.mem_of_getElem? hbs)
      have hrm := M.hp.room hbs
      have hok' : Ok h (src ++ [s]) := M.ok.snoc hsl hm
      have hcu := used_cpy hok'
      have hfit := M.hp.fit
      have hus : used g + size (bl h s) ≤ N := by
        have h1 : used (cpy h (src ++ [s])) = used (cpy h src) + size (bl h s) := by rw [cpy_app, used_app]; congr 1
        have h2 := M.isg.used
        omega
      have hpe : (place g g.length : Int) = (place (cpy h src) src.length : Int) := by rw [M.isg.place, M.isg.len]
      have e2 : fwd h (src ++ [s]) z = 2 * (place (cpy h src) src.length : Int) := by
        unfold fwd
        rw [if_neg ho, hs]
        simp only
        unfold ptr
        rw [List.idxOf_append, if_neg hm, cpy_app, place_app _ _ (by rw [cpy_len]; simp)]
        simp
      have hisg := M.isg.snoc hk hk2 s
      rw [e1, e2]
      have HBL := Lib.hid (hblock_c w p x m o N h M.hp s _ hbs)
      have hwd := fun j hj z hz => M.hp.word hbs j hj z hz
      obtain ⟨⟨T, F⟩, hTF⟩ : ∃ b, bl h s = b := ⟨_, rfl⟩
      rw [hTF] at HBL hwd hgd hrm hus hisg
      obtain ⟨U, hU⟩ : ∃ U, used (h.take s) = U := ⟨_, rfl⟩
      rw [hU] at HBL hwd hrm
      obtain ⟨n, hn⟩ : ∃ n, Hid (F.length = n) := ⟨_, Lib.hid rfl⟩
      have hsz : size (T, F) = 1 + n := by unfold size; rw [hn.out]
      rw [hsz] at HBL hwd hrm hus
      have HX0 := Lib.hid (show w.drew.cell? ⟨x, U, none⟩ = some (.int .i64 (T * 61 + (n : Int))) from by
        have := hwd 0 (by omega) (T * 61 + (n : Int)) (by unfold words; rw [hn.out]; rfl)
        rw [Nat.add_zero] at this
        exact this)
      have HTG := Lib.hid (fun w1 (hc : w1.cell? ⟨x, U, none⟩ = some (.int .i64 (T * 61 + (n : Int)))) => tagof_c w1 ⟨x, U, none⟩ (1 + n) (N - U) T n hgd.1.1 (by rw [← hn.out]; exact hgd.2) (by omega) hc rfl hgd.1.2)
      have HRW := Lib.hid (fun cap (hc : n ≤ cap) => show RowI w (.slice (some ⟨x, U + 1, none⟩) n cap) F from by
        apply has_row
        refine ⟨_, cap, by rw [hn.out], by rw [hn.out]; exact hc, .inr ⟨x, U + 1, rfl, M.hp.lt.2.1, fun j hj => ?_⟩⟩
        have := hwd (j + 1) (by rw [hn.out] at hj; omega) F[j] (by unfold words; rw [List.getElem?_cons_succ]; exact List.getElem?_eq_getElem hj)
        rw [show U + (j + 1) = U + 1 + j by omega] at this
        exact this)
      have hxo := M.hp.ne.2.2.2.2.1
      have HAD := Lib.hid (fun w1 (hb : Below w.heap.size w w1) v (hv : RowI w1 v F) (hx : ∀ b, v.ownBlock = some b → b ≠ o) => add_t w1 t o m2 N g (M.hf.keep hb) T v F hv hx hgd.1.1 hgd.1.2 hgd.2 (by rw [hn.out]; omega))
      rw [hpe] at HAD
      have hpp := place_pos (cpy h src) src.length
      have hpu : place (cpy h src) src.length ≤ 65537 := by
        have h1 := used_le (cpy h src) src.length
        have h2 := used_cpy M.ok
        unfold place
        omega
      have HEN := Lib.hid (ents_snoc h src s)
      have HNO := Lib.hid (fun v => ents_no M.ok hm hsl v)
      have HON := Lib.hid (ents_one hok')
      have HMEM := Lib.hid (ents_mem (h := h) (src := src ++ [s]) (s := s) (by simp))
      have hix : (src ++ [s]).idxOf s = src.length := by rw [List.idxOf_append, if_neg hm]; simp
      rw [hix, cpy_app, place_app _ _ (by rw [cpy_len]; exact Nat.le_refl _)] at HMEM
      obtain ⟨V, hV⟩ : ∃ V, Hid (place (cpy h src) src.length = V) := ⟨_, Lib.hid rfl⟩
      rw [hV.out] at HAD hpp hpu HEN HMEM ⊢
      obtain ⟨K, hK⟩ : ∃ V, place h s = V := ⟨_, rfl⟩
      rw [hK] at hl HAT HBL HEN HNO HMEM
      have HPT := Lib.hid (fun w1 => point_yes (V : Int) w1 (by omega) (by omega))
      have HOK := Lib.hid hok'
      have HIG := Lib.hid hisg
      obtain ⟨cap, hcp⟩ : ∃ c, N - U = c := ⟨_, rfl⟩
      have hcp1 : 1 + n ≤ cap := by omega
      rw [hcp] at HBL HTG
      have HMP := Lib.hid (fun w2 (ho2 : On3 t o m2 w.drew w2) => show MapB w2 q (ents h src) from by
        have h1 := M.lo
        have h2 := M.hi
        have h3 := M.ne
        exact (ho2.block q M.mp.lt (by omega) (by omega) (by omega)).trans M.mp)
      have HBQ := Lib.hid (fun w2 (ho2 : On3 t o m2 w.drew w2) => show w2.cell? ⟨qb, 0, none⟩ = some (.map (some q)) from by
        have h1 := M.lo
        have h2 := M.hi
        have h3 := M.ne
        exact (World.cell?_of_block (ho2.block qb M.bq.lt (by omega) (by omega) (by omega))).trans (M.bq.cell 0 _ rfl))
      have HQ := Lib.hid (show ¬ Trn t o m2 q qb from by
        have h1 := HM.out.lo
        have h2 := HM.out.hi
        have h3 := HM.out.ne
        unfold Trn
        omega)
      have HLN := Lib.hid (show U + (1 + n) ≤ N from hrm)
      clear e1 e2 M hz hk hk2 hm hs hsl hzp hpos hK hU hTF hbs hgd hok' hcu hfit hus hpe hisg hwd hsz hix hpp hpu
      go_enter Tryd.func75, Tryd.ntmps75
      go_wp2_with fail
      refine HAT.out.mono ?_
      rintro e w1 ⟨rfl, rfl⟩
      go_wp2_with fail
      refine HBL.out.mono ?_
      rintro e w1 ⟨rfl, rfl⟩
      go_wp2_with fail
      rcases (show (cap = 1 ∧ n = 0) ∨ cap ≠ 1 from by omega) with ⟨rfl, rfl⟩ | hc1
      · have HRW0 := Lib.hid (fun ao c w1 => show RowI w1 (.slice ao 0 c) F from by
          have hF : F = [] := List.length_eq_zero_iff.1 hn.out
          rw [hF]
          exact rowR_nil _ _)
        go_region_with (first
          | (go_at_call 69; refine (HTG.out _ HX0.out).mono ?_; rintro e w1 ⟨rfl, rfl⟩)
          | (go_at_call 64; refine (HAD.out _ (bdr w) _ (HRW0.out _ _ _) (fun b hb => by cases hb; exact hxo)).mono ?_; rintro e w2 ⟨rfl, hf, ho2⟩; have HF2 := Lib.hid hf; have HO2 := Lib.hid ho2; have HMP2 := Lib.hid (HMP.out w2 ho2); have b2 : w2.cell? ⟨qb, 0, none⟩ = some (.map (some q)) := HBQ.out w2 ho2; have hput := run_putV (P := Tryd.prog) (MT := 102) (KT := 3) (ET := 3) Tryd.underlying102 Tryd.underlying3 w2 q (ents h src) K V HNO.out HMP2.out; obtain ⟨W3, hW3⟩ : ∃ W, setMap w2 q (.map (entsV 0 (ents h src ++ [((K : Int), (V : Int))])).toArray (ents h src ++ [((K : Int), (V : Int))]).length) = W := ⟨_, rfl⟩; rw [hW3] at hput; have HW3 := Lib.hid hW3; clear hf ho2 hW3))
        all_goals
          obtain ⟨hm3, ho3⟩ := mov_end HM.out HIG.out HOK.out HF2.out HO2.out HEN.out HMP2.out HW3.out
          have HM3 := Lib.hid hm3
          have HO3 := Lib.hid ho3
          have b3 := hm3.bq.cell 0 _ rfl
          obtain ⟨_, hl2⟩ := run_lookV_yes (P := Tryd.prog) (MT := 102) (KT := 3) (ET := 3) Tryd.underlying102 Tryd.underlying3 W3 q (ents h (src ++ [s])) _ _ HON.out HMEM.out hm3.mp
          clear hm3 ho3 hput b2
          go_wp2_with fail
          refine (HPT.out _).mono ?_
          rintro e w1 ⟨rfl, rfl⟩
          go_wp2_with fail
          go_ret
          exact ⟨rfl, ⟨_, HM3.out⟩, HO3.out⟩
      · go_region_with (first
          | (go_at_call 69; refine (HTG.out _ HX0.out).mono ?_; rintro e w1 ⟨rfl, rfl⟩)
          | (go_at_call 64; refine (HAD.out _ (bdr w) _ ((HRW.out _ (by omega)).keep (bdr w)) (fun b hb => by cases hb; exact hxo)).mono ?_; rintro e w2 ⟨rfl, hf, ho2⟩; have HF2 := Lib.hid hf; have HO2 := Lib.hid ho2; have HMP2 := Lib.hid (HMP.out w2 ho2); have b2 : w2.cell? ⟨qb, 0, none⟩ = some (.map (some q)) := HBQ.out w2 ho2; have hput := run_putV (P := Tryd.prog) (MT := 102) (KT := 3) (ET := 3) Tryd.underlying102 Tryd.underlying3 w2 q (ents h src) K V HNO.out HMP2.out; obtain ⟨W3, hW3⟩ : ∃ W, setMap w2 q (.map (entsV 0 (ents h src ++ [((K : Int), (V : Int))])).toArray (ents h src ++ [((K : Int), (V : Int))]).length) = W := ⟨_, rfl⟩; rw [hW3] at hput; have HW3 := Lib.hid hW3; clear hf ho2 hW3))
        all_goals
          obtain ⟨hm3, ho3⟩ := mov_end HM.out HIG.out HOK.out HF2.out HO2.out HEN.out HMP2.out HW3.out
          have HM3 := Lib.hid hm3
          have HO3 := Lib.hid ho3
          have b3 := hm3.bq.cell 0 _ rfl
          obtain ⟨_, hl2⟩ := run_lookV_yes (P := Tryd.prog) (MT := 102) (KT := 3) (ET := 3) Tryd.underlying102 Tryd.underlying3 W3 q (ents h (src ++ [s])) _ _ HON.out HMEM.out hm3.mp
          clear hm3 ho3 hput b2
          go_wp2_with fail
          refine (HPT.out _).mono ?_
          rintro e w1 ⟨rfl, rfl⟩
          go_wp2_with fail
          go_ret
          exact ⟨rfl, ⟨_, HM3.out⟩, HO3.out⟩
end Go.Proofs.YtphebogjmbaboaaDoor.IM
