/- Rows behind a head, in memory. -/
import Derived.Test.YtommaomhiaaphaaCG
namespace Go.Proofs.Ytommaomhiaaphaa.CH
open Go.RowKit Go.Proofs.Ytommaomhiaaphaa.CA Go.Proofs.Ytommaomhiaaphaa.CB Go.Proofs.Ytommaomhiaaphaa.CC Go.Proofs.Ytommaomhiaaphaa.CD Go.Proofs.Ytommaomhiaaphaa.CE Go.Proofs.Ytommaomhiaaphaa.CF Go.Proofs.Ytommaomhiaaphaa.CG
set_option linter.unusedVariables false
set_option maxRecDepth 100000
variable {S : Nat → Prop}

theorem infoR : (Try.prog.info? 62).map (fun i => (i.zero, i.size, i.bytes)) = some (some (.slice none 0 0), 1, 24) := by kernel_rfl
/-- A node in a block of its own. -/
structure Bx (w : World) (B : Nat) (k n : Int) (s : By) (q : Value) : Prop where
  lt : B < w.heap.size
  c0 : w.cell? ⟨B, 0, none⟩ = some (.int .i64 k)
  c1 : w.cell? ⟨B, 1, none⟩ = some (.string ⟨s.toArray⟩)
  c2 : w.cell? ⟨B, 2, none⟩ = some (.int .i64 n)
  c3 : w.cell? ⟨B, 3, none⟩ = some (.int .i64 0)
  c4 : w.cell? ⟨B, 4, none⟩ = some (.slice none 0 0)
  c5 : w.cell? ⟨B, 5, none⟩ = some q
theorem Bx.keep {w w' : World} {B : Nat} {k n : Int} {s : By} {q : Value} (h : Bx w B k n s q) (hb : Below w.heap.size w w') : Bx w' B k n s q :=
  ⟨Nat.lt_of_lt_of_le h.lt hb.size, (hb.cell (p := ⟨B, 0, none⟩) h.lt).trans h.c0, (hb.cell (p := ⟨B, 1, none⟩) h.lt).trans h.c1, (hb.cell (p := ⟨B, 2, none⟩) h.lt).trans h.c2, (hb.cell (p := ⟨B, 3, none⟩) h.lt).trans h.c3, (hb.cell (p := ⟨B, 4, none⟩) h.lt).trans h.c4, (hb.cell (p := ⟨B, 5, none⟩) h.lt).trans h.c5⟩
theorem Bx.new (w : World) (k n : Int) (s : By) (q : Value) (t : TypeId) : Bx (w.alloc (.cells #[.int .i64 k, .string ⟨s.toArray⟩, .int .i64 n, .int .i64 0, .slice none 0 0, q] t)) w.heap.size k n s q := by
  obtain ⟨y0, y1, y2, y3, y4, y5⟩ := own6 w (.int .i64 k) (.string ⟨s.toArray⟩) (.int .i64 n) (.int .i64 0) (.slice none 0 0) q t
  exact ⟨by simp, y0, y1, y2, y3, y4, y5⟩
theorem Bx.drew {w : World} {B : Nat} {k n : Int} {s : By} {q : Value} (h : Bx w B k n s q) : Bx w.drew B k n s q := ⟨h.lt, h.c0, h.c1, h.c2, h.c3, h.c4, h.c5⟩
theorem Bx.far {w w' : World} {row : Option Nat} {B : Nat} {k n : Int} {s : By} {q : Value} (h : Bx w B k n s q) (hg : w.grownBy w' row) (hr : row ≠ some B) : Bx w' B k n s q := by
  have e := hg.block B h.lt (fun e => hr e.symm)
  have hc : ∀ j, w'.cell? ⟨B, j, none⟩ = w.cell? ⟨B, j, none⟩ := fun j => World.cell?_of_block (w := w) (a := ⟨B, j, none⟩) e
  exact ⟨Nat.lt_of_lt_of_le h.lt hg.size, (hc 0).trans h.c0, (hc 1).trans h.c1, (hc 2).trans h.c2, (hc 3).trans h.c3, (hc 4).trans h.c4, (hc 5).trans h.c5⟩

/-- Rows that the call owns, in the making. -/
def OwnRs (w : World) (B : Nat) (T : Nat → Prop) (v : Value) (L : List (List Nd)) : Prop :=
  ∃ qs, w.ownsRow B 62 1 v L.length qs ∧ HasRs w (fun b => T b ∧ v.ownBlock ≠ some b) L qs
theorem OwnRs.nil (w : World) (B : Nat) (T : Nat → Prop) : OwnRs w B T (.slice none 0 0) [] := ⟨[], World.ownsRow_nil _ _ _ _, trivial⟩
theorem own_below {w w' : World} {B base : Nat} {e : TypeId} {size : Nat} {v : Value} {n : Nat} {xs : List Value} (h : w.ownsRow base e size v n xs) (hb : Below B w w') (hB : w.heap.size ≤ B) : w'.ownsRow base e size v n xs := by
  refine ⟨h.1, ?_⟩
  rcases h.2 with h2 | ⟨g, cap, cur, hv, hg, hh, r⟩
  · exact .inl h2
  · exact .inr ⟨g, cap, cur, hv, hg, by rw [hb.block g (by have := (Array.getElem?_eq_some_iff.1 hh).1; omega)]; exact hh, r⟩
theorem OwnRs.keep {w w' : World} {B : Nat} {T : Nat → Prop} {v : Value} {L : List (List Nd)} (h : OwnRs w B T v L) (hb : Below w.heap.size w w') : OwnRs w' B T v L := by
  obtain ⟨qs, h1, h2⟩ := h
  exact ⟨qs, own_below h1 hb (Nat.le_refl _), HasRs.keep hb _ _ h2⟩
theorem OwnRs.rows {w : World} {B : Nat} {T : Nat → Prop} {v : Value} {L : List (List Nd)} (h : OwnRs w B T v L) : RowsN w (fun b => T b ∨ B ≤ b) v L := by
  obtain ⟨qs, h1, h2⟩ := h
  exact ⟨qs, (rw_own h1).mv (Mv.weak w fun b h _ => .inr h), HasRs.mv (Mv.weak w fun b h _ => .inl h.1) _ _ h2⟩
theorem OwnRs.val {w : World} {B : Nat} {T : Nat → Prop} {v : Value} {L : List (List Nd)} (h : OwnRs w B T v L) : ∃ ao cap, v = .slice ao L.length cap := by
  obtain ⟨qs, h1, h2⟩ := h
  obtain ⟨ao, cap, e, _⟩ := rw_own h1
  exact ⟨ao, cap, e⟩
theorem OwnRs.own {w : World} {B : Nat} {T : Nat → Prop} {v : Value} {L : List (List Nd)} (h : OwnRs w B T v L) {b : Nat} (hb : v.ownBlock = some b) : B ≤ b ∧ b < w.heap.size := by
  obtain ⟨qs, h1, h2⟩ := h
  exact h1.lt b hb
theorem OwnRs.snoc {w w1 : World} {B g H cap : Nat} {T : Nat → Prop} {v : Value} {L : List (List Nd)} {r : List Nd} {rv : Value} {qs : List Value} (h2 : HasRs w (fun b => T b ∧ v.ownBlock ≠ some b) L qs) (hn : RowN w (fun b => T b ∧ v.ownBlock ≠ some b) rv r)
    (hown : w1.ownsRow B 62 1 (.slice (some ⟨g, 0, none⟩) (L.length + 1) cap) (L.length + 1) (qs ++ [rv])) (hg : w.grownBy w1 v.ownBlock) (hat : v.ownBlock = some g ∨ g = H) (hH : w.heap.size ≤ H) :
    OwnRs w1 B T (.slice (some ⟨g, 0, none⟩) (L.length + 1) cap) (L ++ [r]) := by
  have hk : Mv w w1 (fun b => T b ∧ v.ownBlock ≠ some b) (fun b => T b ∧ (Value.slice (some ⟨g, 0, none⟩) (L.length + 1) cap).ownBlock ≠ some b) := ⟨hg.size, fun b hb hlt => ⟨⟨hb.1, fun e => by
    have e : g = b := Option.some.inj e
    rcases hat with hat | hat
    · exact hb.2 (by rw [hat, e])
    · omega⟩, hg.block b hlt (fun e => hb.2 e.symm)⟩⟩
  refine ⟨qs ++ [rv], by rw [List.length_append]; exact hown, HasRs.app (HasRs.mv hk _ _ h2) ⟨hn.mv hk, trivial⟩⟩
def RowsRes (w : World) (S : Nat → Prop) (L : List (List Nd)) (e : Ending) (w' : World) : Prop := ∃ v, e = .returned v ∧ RowsN w' (Nw w S) v L ∧ Below w.heap.size w w'
theorem lbehind_snoc {rows : List (List Nd)} {i : Nat} {h : Nd} {j : Nat} {a : List Nd} (ha : rows[j]? = some a) : lbehind (rows.take (j + 1)) i h = if meets (col a i) h then lbehind (rows.take j) i h ++ [rbehind a i h] else lbehind (rows.take j) i h := by
  have e : rows.take (j + 1) = rows.take j ++ [a] := by
    rw [List.take_add_one, ha]; rfl
  rw [e]
  unfold lbehind
  rw [List.filter_append, List.map_append]
  by_cases hm : meets (col a i) h = true
  · simp [List.filter_cons, hm]
  · simp [List.filter_cons, hm]
theorem bgrown {B : Nat} {w w' : World} {v : Option Nat} (hg : w.grownBy w' v) (hv : ∀ b, v = some b → B ≤ b) (hB : B ≤ w.heap.size) : Below B w w' :=
  ⟨hg.os, hg.tape, hg.output, hg.size, fun k hk => hg.block k (by omega) fun e => by have := hv k e.symm; omega⟩
theorem row_one {w : World} {v : Value} {l : List Nd} (h : RowN w S v l) : v.oneCell' = true := by
  obtain ⟨ao, cap, rfl, _⟩ := h.val
  rfl
/-- One row more, at the operation. -/
theorem wpList_rows (w : World) {ops : Array Oper} {rest : List Oper} {o : Oper} {a : Act} {Q : Exit → Act → World → Prop} (hg : o.guard = none) (s x : Operand)
    (hop : o.op = Op.call { callee := Callee.builtin Builtin.append, args := #[s, x], argTypes := #[60, 60] })
    (B : Nat) (T : Nat → Prop) (v : Value) (L : List (List Nd)) (r : List Nd) (rv : Value) (nb : Nat) (hs : a.eval s = v) (hx : a.eval x = .slice (some ⟨nb, 0, none⟩) 1 1)
    (hO : OwnRs w B T v L) (hcell : w.cell? ⟨nb, 0, none⟩ = some rv) (hn : RowN w (fun b => T b ∧ v.ownBlock ≠ some b) rv r) (hlen : L.length ≤ 10000) (hB : B ≤ w.heap.size)
    (hK : ∀ g cap w', OwnRs w' B T (.slice (some ⟨g, 0, none⟩) (L.length + 1) cap) (L ++ [r]) → w.grownBy w' v.ownBlock → wpList Try.prog ops Q rest (a.put o.dst (.slice (some ⟨g, 0, none⟩) (L.length + 1) cap)) w') :
    wpList Try.prog ops Q (o :: rest) a w := by
  obtain ⟨i, hi, hz, hsz, hby⟩ := info_parts infoR
  obtain ⟨qs, hown, hrs⟩ := hO
  refine wpList_append_lies w hg s x 60 hop B 62 i (.slice none 0 0) 1 24 Try.underlying60 hi hz hsz hby rfl (by decide) v L.length qs hs hown ⟨nb, 0, none⟩ 1 1 [rv] hx rfl (fun j u hj => ?_) (fun u hu => ?_) (by decide) (by unfold maxLen; omega) (by omega) hB _ rfl ?_
  · cases j with
    | zero => simp at hj; subst hj; rw [Addr.add_lit]; exact hcell
    | succ j => simp at hj
  · rw [List.mem_singleton.1 hu]; exact row_one hn
  · intro g cap w' h1 h2 h3 h4
    exact hK g cap w' (OwnRs.snoc hrs hn h1 h2 h3 (Nat.le_refl _)) h2
theorem cell_one (w : World) (v : Value) (t : TypeId) : (w.alloc (.cells #[v] t)).cell? ⟨w.heap.size, 0, none⟩ = some v := by
  rw [cell_of_row _ _ _ _ _ (0, 0) (heap_alloc_new w _)]; rfl
set_option maxRecDepth 100000 in
set_option maxHeartbeats 2000000 in
theorem lbehind_c (rows : List (List Nd)) (rv : Value) (i : Nat) (k n : Int) (s : By) (l : List Nd) (q : Value) (w : World) (hr : RowsN w S rv rows) (hq : HasN w S (.mk k n s l) q) (hi : ∀ a, a ∈ rows → i < a.length ∧ a.length ≤ 900000 ∧ (parts (col a i) (.mk k n s l)).length ≤ 1000) (hn : rows.length ≤ 1000) (hl : l.length ≤ 4) :
    Calls Try.prog 46 #[rv, .int .i64 (i : Int), .agg #[.int .i64 k, .string ⟨s.toArray⟩, .int .i64 n, .int .i64 0, .slice none 0 0, q]] w (RowsRes w S (lbehind rows i (.mk k n s l))) := by
  obtain ⟨RES, HRES⟩ : ∃ RES, Hid (lbehind rows i (.mk k n s l) = RES) := ⟨_, Lib.hid rfl⟩
  rw [HRES.out]
  by_cases h0 : rows = []
  · subst h0
    obtain ⟨ao, cap, rfl, _⟩ := hr.val
    go_enter Try.func46, Try.ntmps46
    go_wp2
    refine wp_loop_rounds 1 ?_
    rw [rounds_succ]
    go_wp2
    go_ret
    exact ⟨_, rfl, by rw [← HRES.out]; exact ⟨[], ⟨none, 0, rfl, Nat.le_refl _, .inl rfl⟩, trivial⟩, balloc w _⟩
  · obtain ⟨b, off, cap, rfl, hcap, hlt, hop⟩ := hr.open_ h0
    have HOP := Lib.hid hop
    have HI := Lib.hid hi
    have HQ := Lib.hid hq
    obtain ⟨N, hN⟩ : ∃ N, Hid (rows.length = N) := ⟨_, Lib.hid rfl⟩
    rw [hN.out] at hn hcap ⊢
    clear hr hq hi hop h0
    go_enter Try.func46, Try.ntmps46
    go_wp2
    have HX0 := Lib.hid (balloc w (.cells #[.int .i64 k, .string ⟨s.toArray⟩, .int .i64 n, .int .i64 0, .slice none 0 0, q] 38))
    have HB0 := Lib.hid (Bx.new w k n s q 38)
    generalize w.alloc _ = W at HX0 HB0 ⊢
    obtain ⟨B, hB⟩ : ∃ B, Hid (w.heap.size = B) := ⟨_, Lib.hid rfl⟩
    rw [hB.out] at HB0 ⊢
    go_loopg [7, 12] N (fun g lv jv wr => ∃ j : Nat, j + g = N ∧ jv = .int .i64 (j : Int) ∧ Hid (OwnRs wr (B + 1) (fun b => (S b ∧ b < B) ∨ B + 1 ≤ b) lv (lbehind (rows.take j) i (.mk k n s l))) ∧ Hid (Below w.heap.size w wr) ∧ Hid (Bx wr B k n s q))
    case atStart => exact ⟨0, Nat.zero_add _, rfl, Lib.hid (OwnRs.nil _ _ _), HX0, HB0⟩
    case round =>
      obtain ⟨j, hj, rfl, HO, HX, HBx⟩ := hrel
      clear HX0 HB0
      by_cases hlt2 : j < N
      · obtain ⟨g, rfl⟩ : ∃ g, gk = g + 1 := ⟨gk - 1, by omega⟩
        obtain ⟨a, ha⟩ := getElem?_of_lt (l := rows) (k := j) (by rw [hN.out]; exact hlt2)
        obtain ⟨q1, hc1, hrow⟩ := HOP.out j a ha
        obtain ⟨ia1, ia2, ia3⟩ := HI.out a (List.mem_of_getElem? ha)
        have HIA := Lib.hid (show i < a.length ∧ a.length ≤ 900000 ∧ (parts (col a i) (.mk k n s l)).length ≤ 1000 from ⟨ia1, ia2, ia3⟩)
        have HA := Lib.hid ha
        have d0 := (HX.out.cell (p := ⟨b, off + j, none⟩) hlt).trans hc1
        have hR0 : RowN wr (fun b => S b ∧ b < B) q1 a := (hrow.mv (Mv.weak w (S' := fun b => S b ∧ b < B) fun b h hl => ⟨h, by rw [← hB.out]; exact hl⟩)).keep HX.out
        obtain ⟨rb, ro, rcap, rfl, hrc, hrlt, hrl⟩ := hR0.open_ (by intro e; rw [e] at ia1; cases ia1)
        obtain ⟨q2, hL, _⟩ := hrl i _ (col_at ia1)
        clear hrl hrow hc1 ha ia3
        have C0 := fun w => meets_c (col a i).k (col a i).n (col a i).s (col a i).kids q2 k n s l q w
        rw [show Nd.mk (col a i).k (col a i).n (col a i).s (col a i).kids = col a i from by cases col a i; rfl] at C0
        obtain ⟨X, HXX⟩ : ∃ X, Hid (meets (col a i) (.mk k n s l) = X) := ⟨_, Lib.hid rfl⟩
        rw [HXX.out] at C0
        obtain ⟨x0, x1, x2, x3, x4, x5⟩ := hL
        generalize (col a i).k = k' at *
        generalize (col a i).n = n' at *
        generalize (col a i).s = s' at *
        obtain ⟨M, hM⟩ : ∃ M, Hid (a.length = M) := ⟨_, Lib.hid rfl⟩
        rw [hM.out] at ia1 ia2 hrc d0 hR0
        have HR0 := Lib.hid hR0
        clear hR0
        obtain ⟨hlB, y0, y1, y2, y3, y4, y5⟩ := HBx.out
        have i0 : (0 : Int) ≤ (j : Int) := by omega
        have i1 : (j : Int) < (N : Int) := by omega
        have i2 : (0 : Int) ≤ (i : Int) := by omega
        have i3 : (i : Int) < (M : Int) := by omega
        cases X
        · have HT := Lib.hid (show lbehind (rows.take (j + 1)) i (.mk k n s l) = lbehind (rows.take j) i (.mk k n s l) from by rw [lbehind_snoc HA.out, HXX.out]; rfl)
          go_wp2_with fail
          go_still_tail 5, (by kernel_rfl)
          change wpList _ _ _ _ _ (World.drew _)
          go_wp2_with (go_at_call 71; refine (C0 _).mono ?_; rintro e w1 ⟨rfl, hb⟩; have HB1 := Lib.hid (bdrew hb); clear hb)
          go_roundg g
          case rel => exact ⟨j + 1, by omega, by go_num, Lib.hid (by rw [HT.out]; exact HO.out.keep HB1.out), Lib.hid (bnext HX.out HB1.out), Lib.hid (HBx.out.keep HB1.out)⟩
          case measure => omega
        · have HT := Lib.hid (show lbehind (rows.take (j + 1)) i (.mk k n s l) = lbehind (rows.take j) i (.mk k n s l) ++ [rbehind a i (.mk k n s l)] from by rw [lbehind_snoc HA.out, HXX.out]; rfl)
          have HLJ := Lib.hid (show (lbehind (rows.take j) i (.mk k n s l)).length ≤ 10000 from by
            unfold lbehind
            have := List.length_filter_le (fun a => meets (col a i) (.mk k n s l)) (rows.take j)
            simp only [List.length_map, List.length_take] at this ⊢
            omega)
          have C1 := fun (w' : World) (h1 : RowN w' (fun b => S b ∧ b < B) (.slice (some ⟨rb, ro, none⟩) M rcap) a) (h2 : HasN w' (fun b => S b ∧ b < B) (.mk k n s l) q) => rbehind_c a _ i k n s l q w' h1 h2 HIA.out.1 HIA.out.2.1 hl HIA.out.2.2
          go_wp2_with fail
          go_still_tail 5, (by kernel_rfl)
          change wpList _ _ _ _ _ (World.drew _)
          go_wp2_with (go_at_call 71; refine (C0 _).mono ?_; rintro e w1 ⟨rfl, hb⟩; have HB1 := Lib.hid (bdrew hb); clear hb x0 x1 x2 x3 x4 x5 y0 y1 y2 y3 y4 y5; obtain ⟨hlB, y0, y1, y2, y3, y4, y5⟩ := HBx.out.keep HB1.out)
          clear d0
          have HR1 := Lib.hid (HR0.out.keep HB1.out)
          have hQ1 : HasN w1 (fun b => S b ∧ b < B) (.mk k n s l) q := HasN.keep HB1.out _ _ (HasN.keep HX.out _ _ (HasN.mv (Mv.weak w (S' := fun b => S b ∧ b < B) fun b h hl => ⟨h, by rw [← hB.out]; exact hl⟩) _ _ HQ.out))
          have HQ1 := Lib.hid hQ1
          clear hQ1
          have HO1 := Lib.hid (HO.out.keep HB1.out)
          have hK1 : B + 1 ≤ w1.heap.size := by omega
          have HK1 := Lib.hid hK1
          clear hK1
          go_wp2_with fail
          refine (C1 _ HR1.out HQ1.out).mono ?_
          rintro e w2 ⟨v2, rfl, hr2, hb2⟩
          obtain ⟨ao2, cap2, rfl, hcap2⟩ := hr2.val
          have HB2 := Lib.hid hb2
          have HO2 := Lib.hid ((HO1.out.keep hb2).keep (balloc w2 (.cells #[.slice ao2 (rbehind a i (.mk k n s l)).length cap2] 62)))
          have HR3 := Lib.hid ((hr2.mv (Mv.weak w2 (S' := fun b => ((S b ∧ b < B) ∨ B + 1 ≤ b) ∧ u7.ownBlock ≠ some b) fun b h hl => by
            refine ⟨by rcases h with h | h; exact .inl h; exact .inr (Nat.le_trans HK1.out h), fun e => ?_⟩
            have ho := HO1.out.own e
            rcases h with h | h
            · have := h.2; omega
            · omega)).keep (balloc w2 (.cells #[.slice ao2 (rbehind a i (.mk k n s l)).length cap2] 62)))
          have hK2 : B + 1 ≤ (w2.alloc (.cells #[.slice ao2 (rbehind a i (.mk k n s l)).length cap2] 62)).heap.size := by
            rw [World.size_alloc]; have := hb2.size; have := HK1.out; omega
          have HK2 := Lib.hid hK2
          clear hr2 hb2 hcap2 hK2
          go_wp2_with (at_builtin; go_loud (refine wpList_rows _ rfl (.tmp 22) (.tmp 27) rfl (B + 1) (fun b => (S b ∧ b < B) ∨ B + 1 ≤ b) u7 (lbehind (rows.take j) i (.mk k n s l)) (rbehind a i (.mk k n s l)) (.slice ao2 (rbehind a i (.mk k n s l)).length cap2) w2.heap.size rfl rfl HO2.out (cell_one _ _ _) HR3.out HLJ.out HK2.out ?_); intro g3 cap3 w3 hO3 hg3)
          have HO3 := Lib.hid hO3
          have HW3 := Lib.hid (bnext HX.out (bnext HB1.out (bnext HB2.out (balloc w2 (.cells #[.slice ao2 (rbehind a i (.mk k n s l)).length cap2] 62)))))
          have HG3 := Lib.hid (show Below w.heap.size w w3 from HW3.out.trans (bgrown hg3 (fun x hx => by have := (HO2.out.own hx).1; rw [hB.out]; omega) HW3.out.size))
          have HBx3 := Lib.hid ((((HBx.out.keep HB1.out).keep HB2.out).keep (balloc w2 (.cells #[.slice ao2 (rbehind a i (.mk k n s l)).length cap2] 62))).far hg3 (fun e => by have := (HO2.out.own e).1; omega))
          clear hg3 hO3
          go_roundg g
          case rel => exact ⟨j + 1, by omega, by go_num, Lib.hid (by rw [HT.out]; exact HO3.out), HG3, HBx3⟩
          case measure => omega
      · go_wp2
        go_ret
        have hjn : j = N := by omega
        have e : rows.take j = rows := List.take_of_length_le (by rw [hN.out, hjn]; exact Nat.le_refl _)
        have hO := HO.out
        rw [e, HRES.out] at hO
        exact ⟨_, rfl, hO.rows.mv (Mv.weak wr fun b h _ => by rcases h with (h | h) | h; exact .inl h.1; exact .inr (by rw [hB.out]; omega); exact .inr (by rw [hB.out]; omega)), HX.out⟩
end Go.Proofs.Ytommaomhiaaphaa.CH
