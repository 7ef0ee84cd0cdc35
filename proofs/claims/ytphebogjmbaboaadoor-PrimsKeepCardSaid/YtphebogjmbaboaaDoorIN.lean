/- What is reached is moved. -/
import Derived.Test.YtphebogjmbaboaaDoorIM
import Derived.Test.YtphebogjmbaboaaDoorHG
namespace Go.Proofs.YtphebogjmbaboaaDoor.IN
open Go.RowKit Go.Proofs.YtphebogjmbaboaaDoor.RG Go.Proofs.YtphebogjmbaboaaDoor.RB Go.Proofs.YtphebogjmbaboaaDoor.RM Go.Proofs.YtphebogjmbaboaaDoor.HA Go.Proofs.YtphebogjmbaboaaDoor.HB Go.Proofs.YtphebogjmbaboaaDoor.HC Go.Proofs.YtphebogjmbaboaaDoor.HD Go.Proofs.YtphebogjmbaboaaDoor.HE Go.Proofs.YtphebogjmbaboaaDoor.HN Go.Proofs.YtphebogjmbaboaaDoor.IJ Go.Proofs.YtphebogjmbaboaaDoor.IK Go.Proofs.YtphebogjmbaboaaDoor.IL Go.Proofs.YtphebogjmbaboaaDoor.IM Go.Proofs.YtphebogjmbaboaaDoor.K1
set_option linter.unusedVariables false
set_option maxRecDepth 100000
set_option maxRecDepth 100000

theorem used_cons (a : Bl) (g : Hp) : used (a :: g) = size a + used g := by unfold used; rw [List.map_cons, List.sum_cons]
theorem words_length (b : Bl) : (words b).length = size b := by unfold words size; rw [List.length_cons]; omega
theorem lay_cons (a : Bl) (g : Hp) : lay (a :: g) = words a ++ lay g := by unfold lay; rw [List.flatMap_cons]
theorem lay_set : ∀ (g : Hp) (k j : Nat) (b : Bl) (v : Int), g[k]? = some b → j < b.2.length → lay (g.set k (b.1, b.2.set j v)) = (lay g).set (used (g.take k) + 1 + j) v
  | [], k, j, b, v, h, _ => by simp at h
  | a :: g, 0, j, b, v, h, hj => by
    simp at h
    subst h
    rw [List.set_cons_zero, lay_cons, lay_cons, List.take_zero, used_nil, List.set_append_left _ _ (by rw [words_length]; unfold size; omega)]
    congr 1
    unfold words
    rw [show 0 + 1 + j = j + 1 by omega, List.set_cons_succ, List.length_set]
  | a :: g, k + 1, j, b, v, h, hj => by
    rw [List.getElem?_cons_succ] at h
    rw [List.set_cons_succ, lay_cons, lay_cons, lay_set g k j b v h hj, List.take_succ_cons, used_cons, List.set_append_right _ _ (by rw [words_length]; omega), words_length]
    congr 2
    omega
/-- A field of a block there is another number. -/
theorem hf_set {w : World} {p x m N : Nat} {g : Hp} (H : HF w p x m N g) {k j : Nat} {b : Bl} (hk : g[k]? = some b) (hj : j < b.2.length) (v : Int) : HF (w.setCell ⟨x, used (g.take k) + 1 + j, none⟩ (.int .i64 v)) p x m N (g.set k (b.1, b.2.set j v)) := by
  obtain ⟨L, h1, h2, h3⟩ := H.ws
  have hkl := (List.getElem?_eq_some_iff.1 hk).1
  have hsz : (g.set k (b.1, b.2.set j v)).map size = g.map size := by
    apply List.ext_getElem?
    intro i
    rw [List.getElem?_map, List.getElem?_map]
    by_cases e : i = k
    · subst e
      rw [List.getElem?_set_self hkl, hk]
      simp [size]
    · rw [List.getElem?_set_ne (by omega)]
  have hus := used_eq hsz
  refine ⟨?_, ⟨L.set (used (g.take k) + 1 + j) v, ?_, by rw [List.length_set, h2], ?_⟩, ?_, H.ne, by rw [hus]; exact H.fit, ?_⟩
  · rw [hus]
    exact H.blk.other H.ne.1 _ _
  · have := h1.set (used (g.take k) + 1 + j) (.int .i64 v)
    rw [xints_set] at this
    exact this
  · rw [hus, lay_set g k j b v hk hj, ← h3, List.take_set]
  · rw [List.length_set]
    have e : ((List.range g.length).map fun i => (place (g.set k (b.1, b.2.set j v)) i : Int)) = (List.range g.length).map fun i => (place g i : Int) := List.map_congr_left fun i _ => by rw [place_eq hsz]
    rw [e]
    unfold SetB
    rw [Below.heap_setCell _ _ _ _ (Ne.symm H.ne.2.2)]
    exact H.set
  · intro c hc
    rcases List.mem_or_eq_of_mem_set hc with hc | rfl
    · exact H.good c hc
    · have := H.good b (List.mem_of_getElem? hk)
      exact ⟨this.1, by rw [List.length_set]; exact this.2⟩
theorem OnS.cell {w : World} (tb i : Nat) (v : Value) : OnS (fun b => b = tb) w (w.setCell ⟨tb, i, none⟩ v) :=
  ⟨rfl, rfl, rfl, by simp, fun k _ hs => Below.heap_setCell _ _ _ _ hs⟩
theorem Mov.on {w w' : World} {D p x m o N : Nat} {h : Hp} {t m2 q qb hb : Nat} {src : List Nat} {k i : Nat} {g : Hp} (M : Mov w D p x m o N h t m2 q qb hb src k i g) {S : Nat → Prop} (ho : OnS S w w') (hS : ∀ b, S b → b ≠ p ∧ b ≠ x ∧ b ≠ m ∧ b ≠ o ∧ b ≠ t ∧ b ≠ m2 ∧ b ≠ q ∧ b ≠ qb ∧ b ≠ hb) : Mov w' D p x m o N h t m2 q qb hb src k i g := by
  obtain ⟨L, h1, h2⟩ := M.hp.ot
  exact ⟨hp_on M.hp ho (fun h => (hS _ h).1 rfl) (fun h => (hS _ h).2.1 rfl) (fun h => (hS _ h).2.2.1 rfl) ⟨L, ho.bk h1 (fun h => (hS _ h).2.2.2.1 rfl), h2⟩,
    hf_on M.hf ho (fun h => (hS _ h).2.2.2.2.1 rfl) (fun h => (hS _ h).2.2.2.1 rfl) (fun h => (hS _ h).2.2.2.2.2.1 rfl),
    (ho.block q M.mp.lt (fun h => (hS _ h).2.2.2.2.2.2.1 rfl)).trans M.mp, ho.bk M.bq (fun h => (hS _ h).2.2.2.2.2.2.2.1 rfl), ho.bk M.bh (fun h => (hS _ h).2.2.2.2.2.2.2.2 rfl), M.ok, M.isg, M.lo, M.hi, M.ne⟩
/-- What lay there ahead stays, but for the other half's words. -/
theorem OnS.step {D t o m2 q : Nat} {w a b : World} (h : OnS (fun b => b = o) w a) (k : OnS (Trn t o m2 q) a b) (hD : D = w.heap.size) (h1 : D ≤ t ∧ D ≤ m2 ∧ D ≤ q) : OnS (fun b => b = o) w b :=
  ⟨k.os.trans h.os, k.tape.trans h.tape, k.output.trans h.output, Nat.le_trans h.size k.size, fun i hi hn => (k.block i (Nat.lt_of_lt_of_le hi h.size) (by unfold Trn; omega)).trans (h.block i hi hn)⟩
theorem OnS.own {o tb i : Nat} {w a : World} {v : Value} (h : OnS (fun b => b = o) w a) (hb : w.heap.size ≤ tb) : OnS (fun b => b = o) w (a.setCell ⟨tb, i, none⟩ v) :=
  ⟨h.os, h.tape, h.output, by simpa using h.size, fun k hk hn => (Below.heap_setCell _ _ _ _ (by show k ≠ tb; omega)).trans (h.block k hk hn)⟩
/-- The beginning. -/
theorem mov_start {w w1 W : World} {p x m o N : Nat} {h : Hp} (H : HP w p x m o N h) {m2 : Nat} (hs : SetB w1 m2 []) (hm2 : w.heap.size < m2) (hh : Bk w1 w.heap.size #[.pointer (some ⟨p, 0, none⟩)] 23) (h1 : Below w.heap.size w w1) (h2 : Below w1.heap.size w1 W) (ht : Bk W w1.heap.size #[.slice (some ⟨o, 0, none⟩) N N, .int .i64 0, .map (some m2)] 65)
    (hq : W.heap[w1.heap.size + 1]? = some (.map #[] 0)) (hqb : Bk W (w1.heap.size + 1 + 1) #[.map (some (w1.heap.size + 1))] 102) : Mov W w.heap.size p x m o N h w1.heap.size m2 (w1.heap.size + 1) (w1.heap.size + 1 + 1) w.heap.size [] 0 0 [] := by
  obtain ⟨l1, l2, l3, l4⟩ := H.lt
  have l5 := hs.lt
  have l6 := hh.lt
  have l7 := h1.size
  have H2 := (H.keep h1).keep h2
  obtain ⟨L, r1, r2⟩ := H2.ot
  exact ⟨H2, ⟨ht, ⟨L, r1, r2, rfl⟩, hs.keep h2, ⟨by omega, by omega, by omega⟩, ⟨Nat.zero_le _, H.fit.2⟩, fun b hb => by cases hb⟩, hq, hqb, hh.keep h2, Ok.nil h, IsG.nil h 0 0, ⟨l1, l2, l3, l4⟩, ⟨by omega, by omega, by omega, by omega, Nat.le_refl _⟩, by omega, by omega, by omega, by omega, by omega, by omega, by omega, by omega⟩
theorem told_set {h : Hp} {src src' : List Nat} {rs : List Int} {i n : Nat} {z : Int} (hx : ∃ x, src' = src ++ x) (hc : ∀ z, z ∈ rs.take i → z % 2 = 0 → ∃ s, blk h z = some s ∧ s ∈ src) (hz : rs[i]? = some z) (hn : rs.length = n) :
    ((rs.take i).map (fwd h src) ++ List.replicate (n - i) 0).set i (fwd h src' z) = (rs.take (i + 1)).map (fwd h src') ++ List.replicate (n - (i + 1)) 0 := by
  obtain ⟨x, rfl⟩ := hx
  have hi := (List.getElem?_eq_some_iff.1 hz).1
  have e1 : (rs.take i).map (fwd h src) = (rs.take i).map (fwd h (src ++ x)) := List.map_congr_left fun w hw => (fwd_app x (hc w hw)).symm
  rw [e1, List.take_add_one, hz, List.map_append, List.set_append_right _ _ (by simp; omega)]
  have e2 : i - ((rs.take i).map (fwd h (src ++ x))).length = 0 := by simp; omega
  rw [e2, show n - i = (n - (i + 1)) + 1 by omega, List.replicate_succ, List.set_cons_zero, List.append_assoc]
  rfl
/-- What lies there in the end. -/
def gone (h : Hp) (src : List Nat) : Hp := src.map fun s => fw h src 60 (bl h s)
theorem fw_at (h : Hp) (src : List Nat) (j : Nat) (b : Bl) : (fw h src j b).2[j]? = b.2[j]? := by
  unfold fw
  split
  · rfl
  · simp only
    by_cases hj : j < b.2.length
    · rw [List.getElem?_append_right (by simp; omega), List.getElem?_drop]
      congr 1
      simp
      omega
    · rw [List.getElem?_eq_none (by simp; omega), List.getElem?_eq_none (by omega)]
theorem cnt_self (k i : Nat) : cnt k i k = i := by unfold cnt; simp
theorem isg_used {h : Hp} {src x : List Nat} {k i i' : Nat} {g g' : Hp} (H : IsG h src k i g) (H' : IsG h (src ++ x) k i' g') (hk : k ≤ src.length) : used (g'.take k) = used (g.take k) := by
  have h1 := H.place k
  have h2 := H'.place k
  rw [cpy_app, place_app _ _ (by rw [cpy_len]; exact hk)] at h2
  unfold place at h1 h2
  omega
/-- A field's word there, ahead of its move. -/
theorem mov_word {w : World} {D p x m o N : Nat} {h : Hp} {t m2 q qb hb : Nat} {src : List Nat} {k j : Nat} {g : Hp} (M : Mov w D p x m o N h t m2 q qb hb src k j g) {s : Nat} {z : Int} (hs : src[k]? = some s) (hz : (bl h s).2[j]? = some z) : w.cell? ⟨o, used (g.take k) + (j + 1), none⟩ = some (.int .i64 z) := by
  obtain ⟨h1, _⟩ := M.isg.at_ k s hs
  rw [cnt_self] at h1
  refine M.hf.word h1 (j + 1) ?_ z ?_
  · rw [fw_size]
    unfold size
    have := (List.getElem?_eq_some_iff.1 hz).1
    omega
  · unfold words
    rw [List.getElem?_cons_succ, fw_at, hz]
theorem mov_free {w : World} {D p x m o N : Nat} {h : Hp} {t m2 q qb hb : Nat} {src : List Nat} {k j : Nat} {g : Hp} (M : Mov w D p x m o N h t m2 q qb hb src k j g) (i : Nat) : w.frozen? ⟨o, i, none⟩ = false := by
  obtain ⟨L, h1, _⟩ := M.hf.ws
  exact h1.free i
/-- A field is moved. -/
theorem mov_field {w : World} {D p x m o N : Nat} {h : Hp} {t m2 q qb hb : Nat} {src : List Nat} {k j : Nat} {g : Hp} (M : Mov w D p x m o N h t m2 q qb hb src k j g) {s : Nat} {z : Int} (hs : src[k]? = some s) (ht : (bl h s).1 ≠ 201) (hz : (bl h s).2[j]? = some z) (hm : z % 2 = 0 → ∃ q, blk h z = some q ∧ q ∈ src) :
    ∃ g', Mov (w.setCell ⟨o, used (g.take k) + (j + 1), none⟩ (.int .i64 (fwd h src z))) D p x m o N h t m2 q qb hb src k (j + 1) g' := by
  obtain ⟨h1, _⟩ := M.isg.at_ k s hs
  rw [cnt_self] at h1
  have hj := (List.getElem?_eq_some_iff.1 hz).1
  have hf := hf_set M.hf h1 (j := j) (by rw [fw_len]; exact hj) (fwd h src z)
  rw [fw_tag, show used (g.take k) + 1 + j = used (g.take k) + (j + 1) by omega] at hf
  have l1 := M.lo
  have l2 := M.hi
  have l3 := M.hp.ne
  have hon : OnS (fun b => b = o) w (w.setCell ⟨o, used (g.take k) + (j + 1), none⟩ (.int .i64 (fwd h src z))) := OnS.cell _ _ _
  refine ⟨_, hp_on M.hp hon (by omega) (by omega) (by omega) ?_, hf, (hon.block q M.mp.lt (by omega)).trans M.mp, hon.bk M.bq (by omega), hon.bk M.bh (by omega), M.ok, M.isg.field hs ht hz hm, M.lo, M.hi, M.ne⟩
  obtain ⟨L, h1, h2, _⟩ := hf.ws
  exact ⟨L, h1, h2⟩
theorem isg_end {h : Hp} {src : List Nat} {i : Nat} {g : Hp} (H : IsG h src src.length i g) : g = gone h src := by
  apply List.ext_getElem?
  intro j
  unfold gone
  rw [List.getElem?_map]
  by_cases hj : j < src.length
  · have e : src[j]? = some src[j] := List.getElem?_eq_getElem hj
    have h1 := (H.at_ j _ e).1
    have c1 : cnt src.length i j = 60 := by unfold cnt; rw [if_pos hj]
    rw [c1] at h1
    rw [h1, e]
    rfl
  · rw [List.getElem?_eq_none (by rw [H.len]; omega), List.getElem?_eq_none (by omega)]
    rfl
theorem ok_len {h : Hp} {src : List Nat} (H : Ok h src) : src.length ≤ h.length := by
  have := sum_le (fun _ => 1) src (List.range h.length) H.nd (fun x hx => List.mem_range.2 (H.lt x hx))
  simpa [List.map_const', List.sum_replicate_nat] using this
theorem mov_next {w : World} {D p x m o N : Nat} {h : Hp} {t m2 q qb hb : Nat} {src : List Nat} {k j : Nat} {g : Hp} (M : Mov w D p x m o N h t m2 q qb hb src k j g) {s : Nat} (hs : src[k]? = some s) (hi : (bl h s).1 = 201 ∨ (bl h s).2.length ≤ j) : Mov w D p x m o N h t m2 q qb hb src (k + 1) 0 g :=
  ⟨M.hp, M.hf, M.mp, M.bq, M.bh, M.ok, M.isg.next hs hi (M.hp.good _ (List.mem_of_getElem? (bl_at (M.ok.lt s (List.mem_of_getElem? hs))))).2, M.lo, M.hi, M.ne⟩
theorem visits_pre (h : Hp) : ∀ (l : List Int) (src : List Nat), ∃ x, visits h src l = src ++ x
  | [], src => ⟨[], by simp [visits]⟩
  | z :: l, src => by
    obtain ⟨x, hx⟩ := visit_pre h src z
    obtain ⟨y, hy⟩ := visits_pre h l (visit h src z)
    refine ⟨x ++ y, ?_⟩
    show visits h (visit h src z) l = _
    rw [hy, hx, List.append_assoc]
set_option maxHeartbeats 6400000 in
theorem moved_c (w : World) (p x m o N : Nat) (h : Hp) (H : HP w p x m o N h) (hw : ∀ b, b ∈ h → b.1 ≠ 201 → ∀ z, z ∈ b.2 → z % 2 = 0 → ∃ s, blk h z = some s) (v : Value) (rs : List Int) (hv : RowI w v rs) (hl : rs.length ≤ 1000000) (hr : ∀ z, z ∈ rs → z % 2 = 0 → ∃ s, blk h z = some s) (hox : ∀ b, v.ownBlock = some b → b ≠ o) :
    Calls Tryd.prog 55 #[.pointer (some ⟨p, 0, none⟩), v] w fun e w' => ∃ (k t m2 : Nat) (tv : Value) (src : List Nat), e = .returned (.tuple #[.agg #[.slice (some ⟨o, 0, none⟩) N N, .int .i64 (used (gone h src)), .map (some m2)], tv]) ∧ (src = scan h (visits h [] rs) k ∧ src.length = k ∧ Ok h src) ∧ RowI w' tv (rs.map (fwd h src)) ∧ (∀ b, tv.ownBlock = some b → w.heap.size ≤ b) ∧ HP w' p x m o N h ∧ HF w' t o m2 N (gone h src) ∧ w.heap.size ≤ m2 ∧ OnS (fun b => b = o) w w' := by
  obtain ⟨ao, cap, rfl, _⟩ := hv.val
  have HH := Lib.hid H
  have c3 := H.blk.cell 3 _ rfl
  have lp := H.blk.lt
  have HEM := Lib.hid (fun w1 => empty_c (.slice (some ⟨o, 0, none⟩) N N) w1 ⟨_, _, _, rfl⟩)
  obtain ⟨n, hn⟩ : ∃ n, Hid (rs.length = n) := ⟨_, Lib.hid rfl⟩
  rw [hn.out] at hl ⊢
  have HV := Lib.hid hv
  have hmk := run_mk n (by omega)
  obtain ⟨MC, hMC⟩ : ∃ x, Hid (madeCells #[.int .i64 0] (n * 1) = x) := ⟨_, Lib.hid rfl⟩
  rw [hMC.out] at hmk
  have hmm := @run_makeMap Tryd.prog
  clear H hv
  go_enter Tryd.func55, Tryd.ntmps55
  go_wp2_with fail
  refine (HEM.out _).mono ?_
  rintro e w1 ⟨m2, rfl, hs, hm2, hb⟩
  have HS1 := Lib.hid hs
  have HM2 := Lib.hid hm2
  have HB1 := Lib.hid hb
  have ht0 : Bk ((w.alloc (.cells #[.pointer (some ⟨p, 0, none⟩)] 23)).alloc (.cells #[.slice none 0 0, .int .i64 0, .map none] 65)) (w.heap.size + 1) #[.slice none 0 0, .int .i64 0, .map none] 65 := by
    have := Bk.new (w.alloc (.cells #[.pointer (some ⟨p, 0, none⟩)] 23)) #[.slice none 0 0, .int .i64 0, .map none] 65
    rwa [World.size_alloc] at this
  have HRB := Lib.hid ht0
  have ht1 := ht0.keep hb
  have hh1 := ((Bk.new w #[.pointer (some ⟨p, 0, none⟩)] 23).alloc (.cells #[.slice none 0 0, .int .i64 0, .map none] 65)).keep hb
  have HT1 := Lib.hid ht1
  have HH1 := Lib.hid hh1
  have f0 := ht1.free 0
  have f1 := ht1.free 1
  have f2 := ht1.free 2
  have lt1 := ht1.lt
  clear hs hm2 hb ht0
  go_wp2_with fail
  have hW : ∃ W, W = (((w1.alloc (.cells #[.slice (some ⟨o, 0, none⟩) N N, .int .i64 0, .map (some m2)] 65)).alloc (.map #[] 0)).alloc (.cells #[.map (some (w1.heap.size + 1))] 102)).alloc (.cells MC 3) := ⟨_, rfl⟩
  obtain ⟨W, hW⟩ := hW
  rw [← hW]
  have hB : Below w1.heap.size w1 W := by rw [hW]; exact bnext (bnext (bnext (balloc _ _) (balloc _ _)) (balloc _ _)) (balloc _ _)
  have hm2 : w.heap.size < m2 := by
    have := HM2.out
    simp only [World.size_alloc] at this
    omega
  have hM : Mov W w.heap.size p x m o N h w1.heap.size m2 (w1.heap.size + 1) (w1.heap.size + 1 + 1) w.heap.size [] 0 0 [] := by
    refine mov_start HH.out HS1.out hm2 HH1.out ((bnext (balloc w _) (balloc _ _)).trans (HB1.out.mono (by simp only [World.size_alloc]; omega))) hB ?_ ?_ ?_
    · rw [hW]
      exact (((Bk.new w1 _ _).alloc _).alloc _).alloc _
    · have h1 := heap_alloc_new (w1.alloc (.cells #[.slice (some ⟨o, 0, none⟩) N N, .int .i64 0, .map (some m2)] 65)) (.map #[] 0)
      rw [World.size_alloc] at h1
      rw [hW]
      exact ((bnext (balloc _ (.cells #[.map (some (w1.heap.size + 1))] 102)) (balloc _ (.cells MC 3))).block (w1.heap.size + 1) (by simp only [World.size_alloc]; omega)).trans h1
    · rw [hW]
      exact (Go.Proofs.YtphebogjmbaboaaDoor.HB.new_at _ _ _ (by simp only [World.size_alloc])).alloc _
  have hT : RowN W (w1.heap.size + 1 + 1 + 1) (List.replicate n 0) := by
    rw [hW, ← hMC.out]
    have := mk_row (((w1.alloc (.cells #[.slice (some ⟨o, 0, none⟩) N N, .int .i64 0, .map (some m2)] 65)).alloc (.map #[] 0)).alloc (.cells #[.map (some (w1.heap.size + 1))] 102)) n
    simpa only [World.size_alloc] using this
  have hB01 : Below w.heap.size w w1 := (bnext (balloc w _) (balloc _ _)).trans (HB1.out.mono (by simp only [World.size_alloc]; omega))
  have hHB1 := HB1.out
  have hHM2 := HM2.out
  have hHRB := HRB.out
  have hE0 : ∃ w0, w0 = ((w.alloc (.cells #[.pointer (some ⟨p, 0, none⟩)] 23)).alloc (.cells #[.slice none 0 0, .int .i64 0, .map none] 65)) := ⟨_, rfl⟩
  obtain ⟨w0, hE0⟩ := hE0
  have hbw : Below w.heap.size w w0 := by rw [hE0]; exact bnext (balloc w _) (balloc _ _)
  have hs0w : w0.heap.size = w.heap.size + 1 + 1 := by rw [hE0]; simp only [World.size_alloc]
  rw [← hE0] at hHB1 hHM2 hHRB
  have hO : OnS (fun b => b = o) w0 W := OnS.of (bnext hHB1 hB)
  have hDt0 : w0.heap.size ≤ w1.heap.size := hHB1.size
  have hDt : w.heap.size ≤ w1.heap.size := hB01.size
  have HRB0 := Lib.hid hHRB
  have HV0 := Lib.hid (HV.out.keep hbw)
  have HBW := Lib.hid hbw
  have HMV := Lib.hid hM
  have HTB := Lib.hid hT
  have HON := Lib.hid hO
  obtain ⟨t, ht⟩ : ∃ t, w1.heap.size = t := ⟨_, rfl⟩
  have hm2t : m2 < t := by rw [← ht]; exact HS1.out.lt
  rw [ht] at HMV HTB hDt hDt0 ⊢
  have HHX := Lib.hid hox
  have HRW := Lib.hid hr
  have HWF := Lib.hid hw
  clear hM hT hO hB hB01 hW ht hE0 hHB1 hHRB HRB hbw HV f0 f1 f2 lt1 HS1 HM2 HB1 HT1 HH1 ht1 hh1 hmk hmm c3 HEM hox hr hw
  go_loopg [10, 11, 27] n (fun g iv wv jv wr => ∃ (i : Nat) (src : List Nat) (gg : Hp), i + g = n ∧ jv = .int .i64 (i : Int) ∧ src = visits h [] (rs.take i) ∧ Hid (Mov wr w.heap.size p x m o N h t m2 (t + 1) (t + 1 + 1) w.heap.size src 0 0 gg) ∧ Hid (RowN wr (t + 1 + 1 + 1) ((rs.take i).map (fwd h src) ++ List.replicate (n - i) 0)) ∧ Hid (OnS (fun b => b = o) w0 wr) ∧ Hid (∀ z, z ∈ rs.take i → z % 2 = 0 → ∃ s, blk h z = some s ∧ s ∈ src))
  case atStart => exact ⟨0, [], [], Nat.zero_add _, rfl, rfl, HMV, HTB, HON, Lib.hid (fun z hz => by cases hz)⟩
  case round =>
    obtain ⟨i, src, gg, hi, rfl, hsrc, HM, HT, HO, HC⟩ := hrel
    clear HMV HTB HON
    by_cases hlt : i < n
    · obtain ⟨g', rfl⟩ : ∃ g, gk = g + 1 := ⟨gk - 1, by omega⟩
      obtain ⟨z, hz⟩ := getElem?_of_lt (l := rs) (k := i) (by rw [hn.out]; exact hlt)
      obtain ⟨b, off, cp, hve, _, hblt, hcells⟩ := HV0.out.open_ (by intro e; rw [e] at hz; simp at hz)
      cases hve
      obtain ⟨qq, hL, _⟩ := hcells i z hz
      have x0 : wr.cell? ⟨b, off + i, none⟩ = some (.int .i64 z) := (World.cell?_of_block (HO.out.block b hblt (HHX.out b rfl))).trans (by have := hL 0 _ rfl; simpa [TI, Ty.flat] using this)
      have i0 : (0 : Int) ≤ (i : Int) := by omega
      have i1 : (i : Int) < (n : Int) := by omega
      have HZ := Lib.hid hz
      have HMC := Lib.hid (move_c wr w.heap.size p x m o N h t m2 (t + 1) (t + 1 + 1) w.heap.size src 0 0 gg HM.out z (HRW.out z (List.mem_of_getElem? hz)) (.inr rfl) (Nat.zero_le _))
      have ft := HT.out.free i
      have ltb := HT.out.lt
      clear hcells hL hz hblt
      go_wp2_with fail
      refine HMC.out.mono ?_
      rintro e w2 ⟨rfl, ⟨g2, hm⟩, ho2⟩
      have hlo := hm.lo
      have hT2 : RowN w2 (t + 1 + 1 + 1) ((rs.take i).map (fwd h src) ++ List.replicate (n - i) 0) := ho2.bk HT.out (by unfold Trn; omega)
      have hLl : ((rs.take i).map (fwd h src) ++ List.replicate (n - i) 0).length = n := by
        rw [List.length_append, List.length_map, List.length_take, List.length_replicate, hn.out]
        omega
      obtain ⟨u, hu⟩ := getElem?_of_lt (l := (rs.take i).map (fwd h src) ++ List.replicate (n - i) 0) (k := i) (by rw [hLl]; exact hlt)
      have c2 := hT2.cell i _ (xints_at hu)
      clear hu hLl
      have ft2 := hT2.free i
      have ltb2 := hT2.lt
      have HM2 := Lib.hid hm
      have HT2 := Lib.hid hT2
      have HO2 := Lib.hid (OnS.step HO.out ho2 rfl ⟨hDt0, hHM2, by omega⟩)
      have HPX := Lib.hid (visit_pre h src z)
      have HSV := Lib.hid (show visit h src z = visits h [] (rs.take (i + 1)) from by rw [List.take_add_one, HZ.out, hsrc]; exact (visits_snoc _ _ _ _).symm)
      have HC2 := Lib.hid (show ∀ y, y ∈ rs.take (i + 1) → y % 2 = 0 → ∃ s, blk h y = some s ∧ s ∈ visit h src z from by
        intro y hy h0
        rw [List.take_add_one, HZ.out] at hy
        rcases List.mem_append.1 hy with hy | hy
        · obtain ⟨s, e1, e2⟩ := HC.out y hy h0
          obtain ⟨xx, hxx⟩ := HPX.out
          exact ⟨s, e1, by rw [hxx]; exact List.mem_append_left _ e2⟩
        · simp at hy
          subst hy
          obtain ⟨s, e1⟩ := HRW.out y (List.mem_of_getElem? HZ.out) h0
          exact ⟨s, e1, visit_mem h0 e1⟩)
      have HTS := Lib.hid (told_set HPX.out HC.out HZ.out hn.out)
      obtain ⟨src', hs'⟩ : ∃ s, visit h src z = s := ⟨_, rfl⟩
      rw [hs'] at HM2 HSV HC2 HTS ⊢
      obtain ⟨y, hy⟩ : ∃ s, fwd h src' z = s := ⟨_, rfl⟩
      rw [hy] at HTS ⊢
      clear hm ho2 hT2 x0 hs' hy ft ltb
      go_wp2_with fail
      go_roundg g'
      case rel =>
        refine ⟨i + 1, src', g2, by omega, by go_num, HSV.out, Lib.hid (Mov.on HM2.out (OnS.cell _ i _) (fun b hb => ?_)), Lib.hid ?_, Lib.hid (OnS.own HO2.out (by omega)), HC2⟩
        · have h1 := HM2.out.lo
          have h2 := HM2.out.hi
          have h3 := HM2.out.ne
          subst hb
          omega
        · have := HT2.out.set i (.int .i64 y)
          rw [xints_set, HTS.out] at this
          exact this
      case measure => omega
    · have hin : i = n := by omega
      subst hin
      go_wp2_with fail
      have hs0 : src = visits h [] rs := by rw [hsrc, List.take_of_length_le (by rw [hn.out]; exact Nat.le_refl _)]
      obtain ⟨s0, hs0'⟩ : ∃ s0, visits h [] rs = s0 := ⟨_, rfl⟩
      rw [hs0'] at hs0
      subst hs0
      have HC0 := Lib.hid (show ∀ z, z ∈ rs → z % 2 = 0 → ∃ s, blk h z = some s ∧ s ∈ src from fun z hz h0 => HC.out z (by rw [List.take_of_length_le (by rw [hn.out]; exact Nat.le_refl _)]; exact hz) h0)
      have HT0 := Lib.hid (show RowN wr (t + 1 + 1 + 1) (rs.map (fwd h src)) from by
        have := HT.out
        rw [Nat.sub_self, List.replicate_zero, List.append_nil, List.take_of_length_le (by rw [hn.out]; exact Nat.le_refl _)] at this
        exact this)
      clear HC HT hsrc hlt hi
      obtain ⟨TL, hTL⟩ : ∃ l, Hid (rs.map (fwd h src) = l) := ⟨_, Lib.hid rfl⟩
      rw [hTL.out] at HT0
      go_loopg [12, 13, 14] (h.length + 1) (fun g atv bv iv wr => ∃ (k : Nat) (sc : List Nat) (gg : Hp), k + g = h.length + 1 ∧ atv = .int .i64 (place gg k : Int) ∧ (sc = scan h src k ∧ k ≤ sc.length ∧ ∃ x, sc = src ++ x) ∧ Hid (Mov wr w.heap.size p x m o N h t m2 (t + 1) (t + 1 + 1) w.heap.size sc k 0 gg) ∧ Hid (RowN wr (t + 1 + 1 + 1) TL) ∧ Hid (OnS (fun b => b = o) w0 wr))
      case atStart => exact ⟨0, src, gg, Nat.zero_add _, rfl, ⟨rfl, Nat.zero_le _, [], by simp⟩, HM, HT0, HO⟩
      case round =>
        clear HM HT0 HO
        obtain ⟨k, sc, gg, hi, rfl, ⟨hsc, hkl, hpx⟩, HM, HT, HO⟩ := hrel
        have t1 := HM.out.hf.blk.cell 1 _ rfl
        have hol := ok_len HM.out.ok
        by_cases hlt : k < sc.length
        · obtain ⟨g', rfl⟩ : ∃ g, gk = g + 1 := ⟨gk - 1, by omega⟩
          obtain ⟨s, hs⟩ := getElem?_of_lt hlt
          obtain ⟨hgk, _⟩ := HM.out.isg.at_ k s hs
          rw [cnt_self, fw_zero] at hgk
          have hpn := place_next hgk
          have hul := used_le gg (k + 1)
          have hut := used_take hgk
          have hgd := HM.out.hf.good _ (List.mem_of_getElem? hgk)
          have hrm := HM.out.hf.room hgk
          have hpl : place gg k = 1 + used (gg.take k) := rfl
          have HBL := Lib.hid (block_t wr t o m2 N gg HM.out.hf k _ hgk)
          have hc0 := HM.out.hf.word hgk 0 (by unfold size; omega) _ rfl
          rw [Nat.add_zero] at hc0
          have HWB := Lib.hid (fun ht z hz h0 => HWF.out _ (List.mem_of_getElem? (bl_at (HM.out.ok.lt s (List.mem_of_getElem? hs)))) ht z hz h0)
          have hscan : scan h src (k + 1) = if (bl h s).1 = 201 then sc else visits h sc (bl h s).2 := by
            show (match (scan h src k)[k]? with | some s => if (bl h s).1 = 201 then scan h src k else visits h (scan h src k) (bl h s).2 | none => scan h src k) = _
            rw [← hsc, hs]
          obtain ⟨⟨T, F⟩, hTF⟩ : ∃ b, bl h s = b := ⟨_, rfl⟩
          have HTF := Lib.hid hTF
          rw [hTF] at hgk hpn hut hgd hrm HBL hc0 HWB hscan
          have HPN := Lib.hid hpn
          obtain ⟨U, hU⟩ : ∃ U, Hid (used (gg.take k) = U) := ⟨_, Lib.hid rfl⟩
          rw [hU.out] at HBL hc0 hrm hut hpl
          obtain ⟨nf, hnf⟩ : ∃ n, Hid (F.length = n) := ⟨_, Lib.hid rfl⟩
          have hsz : size (T, F) = 1 + nf := by unfold size; rw [hnf.out]
          rw [hsz] at HBL hrm hut hpn
          simp only [hnf.out] at hc0 hgd
          obtain ⟨cp2, hcp⟩ : ∃ c, N - U = c := ⟨_, rfl⟩
          rw [hcp] at HBL
          have HTG := Lib.hid (tagof_c wr ⟨o, U, none⟩ (1 + nf) cp2 T nf hgd.1.1 hgd.2 (by omega) hc0 rfl hgd.1.2)
          have i1 : (place gg k : Int) ≤ (used gg : Int) := by omega
          have hpw : place gg k + (1 + nf) ≤ 65537 + 61 := by have := HM.out.hf.fit; omega
          obtain ⟨PK, hPK⟩ : ∃ P, Hid (place gg k = P) := ⟨_, Lib.hid rfl⟩
          obtain ⟨UG, hUG⟩ : ∃ P, used gg = P := ⟨_, rfl⟩
          rw [hPK.out] at i1 hpw HBL ⊢
          rw [hUG] at i1 t1
          have HPU := Lib.hid (show PK = 1 + U from by rw [← hPK.out]; exact hpl)
          have HI := Lib.hid hi
          clear hul hut hrm hpl hsz hgk hpn hUG hTF
          go_wp2_with fail
          refine HBL.out.mono ?_
          rintro e w2 ⟨rfl, rfl⟩
          go_wp2_with fail
          refine HTG.out.mono ?_
          rintro e w2 ⟨rfl, rfl⟩
          by_cases hT : T = 201
          · have k1 : (T != 201) = false := by rw [hT]; rfl
            rw [if_pos hT] at hscan
            go_wp2_with fail
            go_roundg g'
            case rel =>
              refine ⟨k + 1, sc, gg, by have := HI.out; omega, ?_, ⟨by rw [hscan], hlt, hpx⟩, Lib.hid (mov_next HM.out hs (.inl (by rw [HTF.out]; exact hT))), HT, HO⟩
              have := HPN.out
              unfold size at this
              rw [hnf.out, hPK.out] at this
              rw [this]
              go_num
            case measure => omega
          · have k1 : (T != 201) = true := by rw [bne_iff_ne]; exact hT
            rw [if_neg hT] at hscan
            go_wp2_with fail
            go_loopg [14] nf (fun g iv wr => ∃ (j : Nat) (si : List Nat) (gi : Hp), j + g = nf ∧ iv = .int .i64 ((j + 1 : Nat) : Int) ∧ (si = visits h sc (F.take j) ∧ (∃ x, si = sc ++ x) ∧ used (gi.take k) = U) ∧ Hid (Mov wr w.heap.size p x m o N h t m2 (t + 1) (t + 1 + 1) w.heap.size si k j gi) ∧ Hid (RowN wr (t + 1 + 1 + 1) TL) ∧ Hid (OnS (fun b => b = o) w0 wr))
            case atStart => exact ⟨0, sc, gg, Nat.zero_add _, rfl, ⟨rfl, ⟨[], by simp⟩, hU.out⟩, HM, HT, HO⟩
            case round =>
              obtain ⟨j, si, gi, hj, rfl, ⟨hsi, hpi, hui⟩, HMi, HTi, HOi⟩ := hrel
              have hsk : si[k]? = some s := by
                obtain ⟨xx, hxx⟩ := hpi
                rw [hxx, List.getElem?_append_left hlt]
                exact hs
              have hkl2 := (List.getElem?_eq_some_iff.1 hsk).1
              have HHJ := Lib.hid hj
              by_cases hjl : j < nf
              · obtain ⟨g3, rfl⟩ : ∃ g, gk = g + 1 := ⟨gk - 1, by omega⟩
                obtain ⟨z, hz⟩ := getElem?_of_lt (l := F) (k := j) (by rw [hnf.out]; exact hjl)
                have hzz : (bl h s).2[j]? = some z := by rw [HTF.out]; exact hz
                have htt : (bl h s).1 ≠ 201 := by rw [HTF.out]; exact hT
                have x0 := mov_word HMi.out hsk hzz
                rw [hui] at x0
                have fx := mov_free HMi.out (U + (j + 1))
                have hwz := HWB.out hT z (List.mem_of_getElem? hz)
                have HMC := Lib.hid (move_c wr w.heap.size p x m o N h t m2 (t + 1) (t + 1 + 1) w.heap.size si k j gi HMi.out z hwz (.inl hkl2) (Nat.le_of_lt hkl2))
                have j1 : ((j + 1 : Nat) : Int) < 1 + (nf : Int) := by omega
                have j2 : ((j + 1 : Nat) : Int) < ((1 + nf : Nat) : Int) := by omega
                have j3 : (j : Int) + 1 < 1 + (nf : Int) := by omega
                have j0 : (0 : Int) ≤ ((j + 1 : Nat) : Int) := by omega
                have j4 : (0 : Int) ≤ (j : Int) + 1 := by omega
                have HZ := Lib.hid hz
                have HZZ := Lib.hid hzz
                clear hz hzz
                go_wp2_with fail
                refine HMC.out.mono ?_
                rintro e w2 ⟨rfl, ⟨g2, hm⟩, ho2⟩
                have HPV := Lib.hid (visit_pre h si z)
                have hsk2 : (visit h si z)[k]? = some s := by
                  obtain ⟨xx, hxx⟩ := HPV.out
                  rw [hxx, List.getElem?_append_left hkl2]
                  exact hsk
                have hu2 : used (g2.take k) = U := by
                  obtain ⟨xx, hxx⟩ := HPV.out
                  rw [← hui]
                  exact isg_used HMi.out.isg (x := xx) (by rw [← hxx]; exact hm.isg) (Nat.le_of_lt hkl2)
                have c2 := mov_word hm hsk2 HZZ.out
                have fx2 := mov_free hm (U + (j + 1))
                rw [hu2] at c2
                have lo2 := hm.hp.lt.2.2.2
                have hlo := hm.lo
                have HT2 := Lib.hid (show RowN w2 (t + 1 + 1 + 1) TL from ho2.bk HTi.out (by unfold Trn; omega))
                have HO2 := Lib.hid (OnS.step HOi.out ho2 rfl ⟨hDt0, hHM2, by omega⟩)
                obtain ⟨g4, h4⟩ := mov_field hm hsk2 htt HZZ.out (fun h0 => by
                  obtain ⟨q, hq⟩ := hwz h0
                  exact ⟨q, hq, visit_mem h0 hq⟩)
                rw [hu2] at h4
                have hu4 : used (g4.take k) = U := by
                  rw [← hu2]
                  exact isg_used hm.isg (x := []) (by rw [List.append_nil]; exact h4.isg) (Nat.le_of_lt (List.getElem?_eq_some_iff.1 hsk2).1)
                have H4 := Lib.hid h4
                have HSV := Lib.hid (show visit h si z = visits h sc (F.take (j + 1)) from by rw [List.take_add_one, HZ.out, hsi]; exact (visits_snoc _ _ _ _).symm)
                have HPV2 := Lib.hid (show ∃ x, visit h si z = sc ++ x from by
                  obtain ⟨x1, e1⟩ := hpi
                  obtain ⟨x2, e2⟩ := HPV.out
                  exact ⟨x1 ++ x2, by rw [e2, e1, List.append_assoc]⟩)
                have HU4 := Lib.hid hu4
                obtain ⟨src', hs'⟩ : ∃ s, visit h si z = s := ⟨_, rfl⟩
                rw [hs'] at H4 HSV HPV2 ⊢
                obtain ⟨y, hy⟩ : ∃ s, fwd h src' z = s := ⟨_, rfl⟩
                rw [hy] at H4 ⊢
                clear h4 hm ho2 x0 fx hu2 hu4 hs' hsk2 hy hwz
                go_wp2_with fail
                go_roundg g3
                case rel => exact ⟨j + 1, src', g4, by have := HHJ.out; omega, by go_num, ⟨HSV.out, HPV2.out, HU4.out⟩, H4, Lib.hid ((OnS.cell _ _ _).bk HT2.out (by omega)), Lib.hid (OnS.trans HO2.out (OnS.cell _ _ _))⟩
                case measure => omega
              · have hje : j = nf := by omega
                subst hje
                have HSC := Lib.hid (show si = scan h src (k + 1) from by rw [hscan, hsi, List.take_of_length_le (by rw [hnf.out]; exact Nat.le_refl _)])
                have HPL := Lib.hid (show place gi (k + 1) = PK + (1 + j) from by
                  obtain ⟨h1, _⟩ := HMi.out.isg.at_ k s hsk
                  have h2 := place_next h1
                  rw [fw_size, HTF.out] at h2
                  have h3 : size (T, F) = 1 + j := by unfold size; rw [hnf.out]
                  have h4 : place gi k = 1 + used (gi.take k) := rfl
                  have h5 := HPU.out
                  omega)
                have HPP := Lib.hid (show ∃ x, si = src ++ x from by
                  obtain ⟨x1, e1⟩ := hpi
                  obtain ⟨x2, e2⟩ := hpx
                  exact ⟨x2 ++ x1, by rw [e1, e2, List.append_assoc]⟩)
                have HNX := Lib.hid (mov_next HMi.out hsk (.inr (by rw [HTF.out]; exact Nat.le_of_eq hnf.out)))
                have j1 : ¬ ((j + 1 : Nat) : Int) < 1 + (j : Int) := by omega
                have j3 : ¬ (j : Int) + 1 < 1 + (j : Int) := by omega
                go_wp2_with fail
                go_roundg g'
                case rel =>
                  refine ⟨k + 1, si, gi, by have := HI.out; omega, ?_, ⟨HSC.out, hkl2, HPP.out⟩, HNX, HTi, HOi⟩
                  rw [HPL.out]
                  go_num
                case measure => omega
        · have hke : k = sc.length := by omega
          subst hke
          have hge := isg_end HM.out.isg
          subst hge
          have hpe : place (gone h sc) sc.length = used (gone h sc) + 1 := by
            have h1 := HM.out.isg.len
            rw [← h1]
            exact place_end _
          have t0 := HM.out.hf.blk.cell 0 _ rfl
          have t2 := HM.out.hf.blk.cell 2 _ rfl
          have hfw : rs.map (fwd h sc) = TL := by
            obtain ⟨xx, hxx⟩ := hpx
            rw [← hTL.out, hxx]
            exact List.map_congr_left fun z hz => fwd_app xx (HC0.out z hz)
          have hrb : Bk wr (w.heap.size + 1) #[.slice none 0 0, .int .i64 0, .map none] 65 := (HO.out.block _ (by omega) (by have := HM.out.lo; omega)).trans HRB0.out
          have rl := hrb.lt
          have r0 := hrb.cell 0 _ rfl
          have r1 := hrb.cell 1 _ rfl
          have r2 := hrb.cell 2 _ rfl
          have g0 := hrb.free 0
          have g1 := hrb.free 1
          have g2 := hrb.free 2
          have i1 : ¬ (place (gone h sc) sc.length : Int) ≤ (used (gone h sc) : Int) := by omega
          have HSC := Lib.hid hsc
          have HFW := Lib.hid hfw
          have HRB3 := Lib.hid hrb
          clear hpe hfw hrb hpx hsc hkl hlt hi
          go_wp2_with fail
          have hon : OnS (fun b => b = w.heap.size + 1) wr (((wr.setCell ⟨w.heap.size + 1, 0, none⟩ (.slice (some ⟨o, 0, none⟩) N N)).setCell ⟨w.heap.size + 1, 1, none⟩ (.int .i64 (used (gone h sc)))).setCell ⟨w.heap.size + 1, 2, none⟩ (.map (some m2))) := ((OnS.cell _ _ _).trans (OnS.cell _ _ _)).trans (OnS.cell _ _ _)
          have hbk : Bk (((wr.setCell ⟨w.heap.size + 1, 0, none⟩ (.slice (some ⟨o, 0, none⟩) N N)).setCell ⟨w.heap.size + 1, 1, none⟩ (.int .i64 (used (gone h sc)))).setCell ⟨w.heap.size + 1, 2, none⟩ (.map (some m2))) (w.heap.size + 1) #[.slice (some ⟨o, 0, none⟩) N N, .int .i64 (used (gone h sc)), .map (some m2)] 65 := ((HRB3.out.set 0 _).set 1 _).set 2 _
          have how : OnS (fun b => b = o) w (((wr.setCell ⟨w.heap.size + 1, 0, none⟩ (.slice (some ⟨o, 0, none⟩) N N)).setCell ⟨w.heap.size + 1, 1, none⟩ (.int .i64 (used (gone h sc)))).setCell ⟨w.heap.size + 1, 2, none⟩ (.map (some m2))) := OnS.own (OnS.own (OnS.own ((OnS.of HBW.out).trans HO.out) (Nat.le_succ _)) (Nat.le_succ _)) (Nat.le_succ _)
          obtain ⟨W', hW'⟩ : ∃ W, (((wr.setCell ⟨w.heap.size + 1, 0, none⟩ (.slice (some ⟨o, 0, none⟩) N N)).setCell ⟨w.heap.size + 1, 1, none⟩ (.int .i64 (used (gone h sc)))).setCell ⟨w.heap.size + 1, 2, none⟩ (.map (some m2))) = W := ⟨_, rfl⟩
          rw [hW'] at hon hbk how ⊢
          have l1 := HM.out.lo
          have l2 := HM.out.hi
          have HM' := Mov.on HM.out hon (fun b hb => by subst hb; omega)
          have HT' := Lib.hid (show RowN W' (t + 1 + 1 + 1) TL from hon.bk HT.out (by omega))
          have HR := Lib.hid (show RowI W' (.slice (some ⟨t + 1 + 1 + 1, 0, none⟩) i i) (rs.map (fwd h sc)) from by
            have hl : (rs.map (fwd h sc)).length = i := by rw [List.length_map, hn.out]
            have := rown_row (L := rs.map (fwd h sc)) (by rw [HFW.out]; exact HT'.out) 0 i i (by omega) (Nat.le_refl _)
            rw [List.drop_zero, List.take_of_length_le (by omega)] at this
            exact this)
          have z0 := hbk.cell 0 _ rfl
          have z1 := hbk.cell 1 _ rfl
          have z2 := hbk.cell 2 _ rfl
          exact bodyPost_ret (v := .tuple #[.agg #[.slice (some ⟨o, 0, none⟩) N N, .int .i64 (used (gone h sc)), .map (some m2)], .slice (some ⟨t + 1 + 1 + 1, 0, none⟩) i i]) (by simp [results, Tryd.results55, go_sem, z0, z1, z2]) rfl
            ⟨sc.length, t, m2, _, sc, rfl, ⟨HSC.out, rfl, HM.out.ok⟩, HR.out, (fun b hb => by cases hb; show w.heap.size ≤ t + 1 + 1 + 1; omega), HM'.hp, HM'.hf, Nat.le_of_lt hm2, how⟩
end Go.Proofs.YtphebogjmbaboaaDoor.IN
