/- ZC: several texts in one (UC UD UE UF). -/
import Derived.Test.YtjoifodjbdbicaaZB

/- The document's engine: has, open, is, look. -/
namespace Go.Proofs.Ytjoifodjbdbicaa.UC
open Go.RowKit Go.Proofs.Ytjoifodjbdbicaa.RG Go.Proofs.Ytjoifodjbdbicaa.RB Go.Proofs.Ytjoifodjbdbicaa.RI Go.Proofs.Ytjoifodjbdbicaa.UA Go.Proofs.Ytjoifodjbdbicaa.UB
set_option linter.unusedVariables false
set_option maxRecDepth 100000
set_option maxRecDepth 100000

theorem rhas_c (w : World) (F : Nat → Prop) (r : Nat) (E : Eg) (H : DE w F r E) (h8 : E.T.length = 8) (t : Int) :
    Calls Try.prog 66 #[.pointer (some ⟨r, 0, none⟩), .int .i64 t] w fun e w' => e = .returned (.bool (hasR E t)) ∧ Below w.heap.size w w' := by
  obtain ⟨vv, tv, Z, H⟩ := H
  rcases thR_cases E h8 t with ⟨hn, h1 | ⟨h1, h2⟩⟩ | ⟨i, x, rfl, hi, hx, hth⟩
  · have hr : hasR E t = false := by unfold hasR; rw [hn]
    rw [hr]
    clear H hn hr h8
    go_enter Try.func66, Try.ntmps66
    go_wp2_with fail
    go_ret
    exact ⟨rfl, Below.refl _ _⟩
  · have hr : hasR E t = false := by unfold hasR; rw [hn]
    rw [hr]
    clear H hn hr h8
    go_enter Try.func66, Try.ntmps66
    go_wp2_with fail
    go_ret
    exact ⟨rfl, Below.refl _ _⟩
  · have hr : hasR E (i : Int) = x.is := by unfold hasR; rw [hth]
    rw [hr]
    obtain ⟨z, hz, hzx⟩ := H.zat hx
    obtain ⟨g, cap, cur, rfl, hk, hg, hf, hF, c0, c1, c2, c3, c4, c5, c6, c7⟩ := H.tx hz
    have y0 := H.bk.cell 2 _ rfl
    rw [hzx] at c0
    rw [h8] at y0
    have i0 : (0 : Int) ≤ (i : Int) := by omega
    have i1 : (i : Int) < 8 := by omega
    obtain ⟨b, hb⟩ : ∃ b, x.is = b := ⟨_, rfl⟩
    rw [hb] at c0 ⊢
    clear H hth hr hz hzx hx h8 c1 c2 c3 c4 c5 c6 c7 hf hk hF hb
    go_enter Try.func66, Try.ntmps66
    go_wp2_with fail
    go_ret
    exact ⟨rfl, Below.refl _ _⟩
theorem ropen_c (w : World) (F : Nat → Prop) (r : Nat) (E : Eg) (H : DE w F r E) (h8 : E.T.length = 8) (t : Int) :
    Calls Try.prog 68 #[.pointer (some ⟨r, 0, none⟩), .int .i64 t] w fun e w' => e = .returned (.bool (openR E t)) ∧ Below w.heap.size w w' := by
  have HH := Lib.hid (rhas_c w F r E H h8 t)
  obtain ⟨vv, tv, Z, H⟩ := H
  rcases thR_cases E h8 t with ⟨hn, h1⟩ | ⟨i, x, rfl, hi, hx, hth⟩
  · have hr : openR E t = false := by unfold openR; rw [hn]
    have hr2 : hasR E t = false := by unfold hasR; rw [hn]
    rw [hr]
    rw [hr2] at HH
    clear H hn hr h8 h1 hr2
    go_enter Try.func68, Try.ntmps68
    go_wp2_with fail
    refine HH.out.mono ?_
    rintro e w1 ⟨rfl, hb⟩
    have HB := Lib.hid hb
    clear hb
    go_wp2_with fail
    go_ret
    exact ⟨rfl, HB.out⟩
  · have hr : openR E (i : Int) = (x.is && !x.commits) := by unfold openR; rw [hth]; rfl
    have hr2 : hasR E (i : Int) = x.is := by unfold hasR; rw [hth]
    rw [hr]
    rw [hr2] at HH
    have HX := Lib.hid hx
    obtain ⟨b, hb⟩ : ∃ b, Hid (x.is = b) := ⟨_, Lib.hid rfl⟩
    obtain ⟨c, hc⟩ : ∃ b, Hid (x.commits = b) := ⟨_, Lib.hid rfl⟩
    rw [hb.out, hc.out]
    rw [hb.out] at HH
    have i0 : (0 : Int) ≤ (i : Int) := by omega
    have i1 : (i : Int) < 8 := by omega
    have H8 := Lib.hid h8
    have HD := Lib.hid H
    clear hth hr hx h8 H
    go_enter Try.func68, Try.ntmps68
    go_wp2_with fail
    refine HH.out.mono ?_
    rintro e w1 ⟨rfl, hbl⟩
    have HB := Lib.hid hbl
    have HD1 := HD.out.keep hbl
    obtain ⟨z, hz, hzx⟩ := HD1.zat HX.out
    obtain ⟨g, cap, cur, rfl, hk, hg, hf, hF, c0, c1, c2, c3, c4, c5, c6, c7⟩ := HD1.tx hz
    have y0 := HD1.bk.cell 2 _ rfl
    rw [hzx, hc.out] at c5
    rw [H8.out] at y0
    clear hz hzx c0 c1 c2 c3 c4 c6 c7 hf hk hF hbl HD1
    cases b
    · go_wp2_with fail
      go_ret
      exact ⟨rfl, HB.out⟩
    · go_wp2_with fail
      go_ret
      exact ⟨rfl, HB.out⟩
theorem ris_c (w : World) (F : Nat → Prop) (r : Nat) (E : Eg) (H : DE w F r E) (n : Int) :
    Calls Try.prog 69 #[.pointer (some ⟨r, 0, none⟩), .int .i64 n] w fun e w' => e = .returned (.bool ((vrR E n).isSome)) ∧ Below w.heap.size w w' := by
  obtain ⟨vv, tv, Z, H⟩ := H
  obtain ⟨va, vc, rfl, _⟩ := H.vs.val
  obtain ⟨N, hN⟩ : ∃ N, Hid (E.V.length = N) := ⟨_, Lib.hid rfl⟩
  have y0 := H.bk.cell 1 _ rfl
  rw [hN.out] at y0
  rcases vrR_cases E n with ⟨hn, h1 | ⟨h1, h2⟩⟩ | ⟨i, x, rfl, hi, hx, hth⟩
  · rw [hn]
    clear H hn hN
    go_enter Try.func69, Try.ntmps69
    go_wp2_with fail
    go_ret
    exact ⟨rfl, Below.refl _ _⟩
  · rw [hn]
    rw [hN.out] at h2
    have h3 : ¬ n < (N : Int) := by omega
    clear H hn hN h2
    go_enter Try.func69, Try.ntmps69
    go_wp2_with fail
    go_ret
    exact ⟨rfl, Below.refl _ _⟩
  · rw [hth]
    rw [hN.out] at hi
    have i0 : (0 : Int) ≤ (i : Int) := by omega
    have i1 : (i : Int) < (N : Int) := by omega
    clear H hth hx hi hN
    go_enter Try.func69, Try.ntmps69
    go_wp2_with fail
    go_ret
    exact ⟨rfl, Below.refl _ _⟩
theorem rlook_c (w : World) (F : Nat → Prop) (r : Nat) (E : Eg) (H : DE w F r E) (h8 : E.T.length = 8) (i k : Nat) (x : Tx) (v : Vr) (hx : E.T[i]? = some x) (hv : E.V[k]? = some v) :
    Calls Try.prog 70 #[.pointer (some ⟨r, 0, none⟩), .int .i64 (i : Int), .int .i64 (k : Int)] w fun e w' => e = .returned (.int .i64 (lookR x.start (i : Int) v)) ∧ Below w.heap.size w w' := by
  obtain ⟨vv, tv, Z, H⟩ := H
  obtain ⟨z, hz, hzx⟩ := H.zat hx
  obtain ⟨g, cap, cur, rfl, hk, hg, hf, hF, c0, c1, c2, c3, c4, c5, c6, c7⟩ := H.tx hz
  obtain ⟨gv, capv, curv, rfl, hkv, hgv, hfv, hFv, v0, v1, v2⟩ := H.vr hv
  have y0 := H.bk.cell 2 _ rfl
  have y1 := H.bk.cell 1 _ rfl
  rw [hzx] at c1
  have hk8 := (List.getElem?_eq_some_iff.1 hx).1
  have hkN := (List.getElem?_eq_some_iff.1 hv).1
  rw [h8] at y0 hk8
  obtain ⟨N, hN⟩ : ∃ N, Hid (E.V.length = N) := ⟨_, Lib.hid rfl⟩
  rw [hN.out] at hkN y1
  have i0 : (0 : Int) ≤ (i : Int) := by omega
  have i1 : (i : Int) < 8 := by omega
  have k0 : (0 : Int) ≤ (k : Int) := by omega
  have k1 : (k : Int) < (N : Int) := by omega
  obtain ⟨va, ve, lo⟩ := v
  obtain ⟨S, hS⟩ : ∃ S, x.start = S := ⟨_, rfl⟩
  rw [hS] at c1 ⊢
  simp only at v0 v1 v2
  have hl : lookR S (i : Int) ⟨va, ve, lo⟩ = if 0 ≤ lo ∧ lo ≠ (i : Int) then 32 else if S < ve then 33 else 0 := rfl
  rw [hl]
  clear H hz hzx hx hv h8 c0 c2 c3 c4 c5 c6 c7 hf hk hF hkv hfv hFv v0 hl hN hS
  by_cases q1 : 0 ≤ lo
  · by_cases q2 : lo = (i : Int)
    · subst q2
      rw [if_neg (by simp)]
      by_cases q3 : S < ve
      · rw [if_pos q3]
        go_enter Try.func70, Try.ntmps70
        go_wp2_with fail
        go_quiet (fail)
        go_wp2_with fail
        go_ret
        exact ⟨rfl, below_dN (Below.refl _ _) _⟩
      · rw [if_neg q3]
        go_enter Try.func70, Try.ntmps70
        go_wp2_with fail
        go_quiet (fail)
        go_wp2_with fail
        go_ret
        exact ⟨rfl, below_dN (Below.refl _ _) _⟩
    · rw [if_pos ⟨q1, q2⟩]
      have q3 : (lo != (i : Int)) = true := by rw [bne_iff_ne]; exact q2
      go_enter Try.func70, Try.ntmps70
      go_wp2_with fail
      go_ret
      exact ⟨rfl, Below.refl _ _⟩
  · rw [if_neg (by omega)]
    by_cases q3 : S < ve
    · rw [if_pos q3]
      go_enter Try.func70, Try.ntmps70
      go_wp2_with fail
      go_quiet (fail)
      go_wp2_with fail
      go_ret
      exact ⟨rfl, below_dN (Below.refl _ _) _⟩
    · rw [if_neg q3]
      go_enter Try.func70, Try.ntmps70
      go_wp2_with fail
      go_quiet (fail)
      go_wp2_with fail
      go_ret
      exact ⟨rfl, below_dN (Below.refl _ _) _⟩
end Go.Proofs.Ytjoifodjbdbicaa.UC

/- The document's engine: a cell is written; Begin. -/
namespace Go.Proofs.Ytjoifodjbdbicaa.UD
open Go.RowKit Go.Proofs.Ytjoifodjbdbicaa.RG Go.Proofs.Ytjoifodjbdbicaa.RB Go.Proofs.Ytjoifodjbdbicaa.RI Go.Proofs.Ytjoifodjbdbicaa.UA Go.Proofs.Ytjoifodjbdbicaa.UB Go.Proofs.Ytjoifodjbdbicaa.UC
set_option linter.unusedVariables false
set_option maxRecDepth 100000
set_option maxRecDepth 100000

/-- What the blocks are behind a step: of those that were, or new. -/
def Gr (w : World) (F F' : Nat → Prop) : Prop := ∀ b, F' b → F b ∨ w.heap.size ≤ b
theorem Gr.refl (w : World) (F : Nat → Prop) : Gr w F F := fun b h => .inl h
theorem sep_set {Z : List Tz} (h : Sep Z) {i : Nat} {z : Tz} (hs : ∀ (j : Nat) (y : Tz), j ≠ i → Z[j]? = some y → ∀ b, (z.rv.ownBlock = some b → y.rv.ownBlock ≠ some b) ∧ (z.pv.ownBlock = some b → y.pv.ownBlock ≠ some b)) : Sep (Z.set i z) := by
  intro a c y y' hne h1 h2 b
  rw [List.getElem?_set] at h1 h2
  split at h1
  · next e =>
    subst e
    split at h1
    · injection h1 with h1
      subst h1
      rw [if_neg hne] at h2
      exact hs c y' (Ne.symm hne) h2 b
    · cases h1
  · next e =>
    split at h2
    · next e2 =>
      subst e2
      split at h2
      · injection h2 with h2
        subst h2
        have := hs a y (fun e => hne e) h1 b
        exact ⟨fun k1 k2 => this.1 k2 k1, fun k1 k2 => this.2 k2 k1⟩
      · cases h2
    · exact h a c y y' hne h1 h2 b
theorem sep_same {Z : List Tz} (h : Sep Z) {i : Nat} {z z' : Tz} (hz : Z[i]? = some z) (hr : z'.rv.ownBlock = none ∨ z'.rv.ownBlock = z.rv.ownBlock) (hp : z'.pv.ownBlock = none ∨ z'.pv.ownBlock = z.pv.ownBlock) : Sep (Z.set i z') := sep_set h fun j y hne hy b => by
  have := h i j z y (Ne.symm hne) hz hy b
  refine ⟨fun k => ?_, fun k => ?_⟩
  · rcases hr with hr | hr
    · rw [hr] at k; cases k
    · rw [hr] at k; exact this.1 k
  · rcases hp with hp | hp
    · rw [hp] at k; cases k
    · rw [hp] at k; exact this.2 k
theorem ownF_wr {α : Type} {R : Ty Try.prog α} {w : World} {v : Value} {L : List α} (h : OwnF R w v L) {g : Nat} {c : Array Value} {X : TypeId} (hk : Bk w g c X) (hne : R.e ≠ X) (i : Nat) (u : Value) : OwnF R (w.setCell ⟨g, i, none⟩ u) v L :=
  ownF_on h (OnS.cell g i u) fun b e => own_typ h hk hne e
/-- A cell of a transaction is written. -/
theorem di_cell {w : World} {F : Nat → Prop} {r : Nat} {E : Eg} {vv : Value} {g n cap : Nat} {Z : List Tz} (H : DI w F r E vv (.slice (some ⟨g, 0, none⟩) n cap) Z) {i : Nat} {z z' : Tz} {j : Nat} {u : Value} (hz : Z[i]? = some z) (hj : j < 8) (he : encZ z' = (encZ z).set j u)
    (hr : OwnF TI w z'.rv z'.x.reads) (hp : OwnF TPt w z'.pv z'.x.puts) (hs : Sep (Z.set i z')) (hF : ∀ b, (z'.rv.ownBlock = some b → F b) ∧ (z'.pv.ownBlock = some b → F b)) : DI (w.setCell ⟨g, i * 8 + j, none⟩ u) F r { E with T := E.T.set i z'.x } vv (.slice (some ⟨g, 0, none⟩) n cap) (Z.set i z') := by
  obtain ⟨⟨cur, hk⟩, _⟩ := own_blk H.ts rfl
  have hgr : r ≠ g := fun e => by
    have h1 : 47 = 43 := bk_typ (e ▸ H.bk) hk
    exact absurd h1 (by decide)
  refine ⟨H.bk.other hgr _ _, ownF_wr H.vs hk (by decide) _ _, ?_, by rw [List.map_set, H.ex], fun k y hy => ?_, hs, H.inv, H.int, fun k y hy b => ?_, H.own, fun b hb => by have := H.lt b hb; simpa using this⟩
  · exact own_set H.ts hz hj fun q hq => ⟨[], by
      obtain ⟨rfl, _⟩ := hq
      exact he, rfl, (hr.row).one, (hp.row).one⟩
  · rw [List.getElem?_set] at hy
    split at hy
    · split at hy
      · injection hy with hy
        subst hy
        exact ⟨ownF_wr hr hk (by decide) _ _, ownF_wr hp hk (by decide) _ _⟩
      · cases hy
    · exact ⟨ownF_wr (H.rows k y hy).1 hk (by decide) _ _, ownF_wr (H.rows k y hy).2 hk (by decide) _ _⟩
  · rw [List.getElem?_set] at hy
    split at hy
    · split at hy
      · injection hy with hy
        subst hy
        exact hF b
      · cases hy
    · exact H.inz k y hy b
/-- A number of a transaction is written. -/
theorem di_cell0 {w : World} {F : Nat → Prop} {r : Nat} {E : Eg} {vv : Value} {g n cap : Nat} {Z : List Tz} (H : DI w F r E vv (.slice (some ⟨g, 0, none⟩) n cap) Z) {i : Nat} {z : Tz} {j : Nat} {u : Value} (x' : Tx) (hz : Z[i]? = some z) (hj : j < 8) (he : encZ ⟨x', z.rv, z.pv⟩ = (encZ z).set j u) (hr : x'.reads = z.x.reads) (hp : x'.puts = z.x.puts) :
    DI (w.setCell ⟨g, i * 8 + j, none⟩ u) F r { E with T := E.T.set i x' } vv (.slice (some ⟨g, 0, none⟩) n cap) (Z.set i ⟨x', z.rv, z.pv⟩) :=
  di_cell H hz hj he (by rw [hr]; exact (H.rows i z hz).1) (by rw [hp]; exact (H.rows i z hz).2) (sep_same H.sep hz (.inr rfl) (.inr rfl)) (H.inz i z hz)
/-- The cells of a transaction, written one behind the other. -/
abbrev put8 (w : World) (g o : Nat) (v0 v1 v2 v3 v4 v5 v6 v7 : Value) : World :=
  (((((((w.setCell ⟨g, o, none⟩ v0).setCell ⟨g, o + 1, none⟩ v1).setCell ⟨g, o + 2, none⟩ v2).setCell ⟨g, o + 3, none⟩ v3).setCell ⟨g, o + 4, none⟩ v4).setCell ⟨g, o + 5, none⟩ v5).setCell ⟨g, o + 6, none⟩ v6).setCell ⟨g, o + 7, none⟩ v7
theorem set_some {α : Type} {l : List α} {i : Nat} {a b : α} (h : l[i]? = some a) : (l.set i b)[i]? = some b := List.getElem?_set_self (List.getElem?_eq_some_iff.1 h).1
/-- A transaction without reads and writes, in another one's place. -/
theorem di_put {w : World} {F : Nat → Prop} {r : Nat} {E : Eg} {vv : Value} {g n cap : Nat} {Z : List Tz} (H : DI w F r E vv (.slice (some ⟨g, 0, none⟩) n cap) Z) {i : Nat} {z : Tz} (hz : Z[i]? = some z) (x : Tx) (hr : x.reads = []) (hp : x.puts = []) :
    DI (put8 w g (i * 8) (.bool x.is) (.int .i64 x.start) (.slice none 0 0) (.slice none 0 0) (.int .i64 x.parts) (.bool x.commits) (.int .i64 x.stamp) (.int .i64 x.done)) F r { E with T := E.T.set i x } vv (.slice (some ⟨g, 0, none⟩) n cap) (Z.set i ⟨x, .slice none 0 0, .slice none 0 0⟩) := by
  obtain ⟨⟨a, b, c, d, e, f, g', h⟩, rv, pv⟩ := z
  obtain ⟨xa, xb, xc, xd, xe, xf, xg, xh⟩ := x
  obtain rfl : xc = [] := hr
  obtain rfl : xd = [] := hp
  have h0 := di_cell0 H ⟨xa, b, c, d, e, f, g', h⟩ (j := 0) (u := .bool xa) hz (by decide) rfl rfl rfl
  have h1 := di_cell0 h0 ⟨xa, xb, c, d, e, f, g', h⟩ (j := 1) (u := .int .i64 xb) (set_some hz) (by decide) rfl rfl rfl
  have h2 := di_cell h1 (z' := ⟨⟨xa, xb, [], d, e, f, g', h⟩, .slice none 0 0, pv⟩) (j := 2) (u := .slice none 0 0) (set_some (set_some hz)) (by decide) rfl (OwnR.nil _ _ _) (h1.rows i _ (set_some (set_some hz))).2 (sep_same h1.sep (set_some (set_some hz)) (.inl rfl) (.inr rfl)) (fun b => ⟨(fun e => by cases e), (h1.inz i _ (set_some (set_some hz)) b).2⟩)
  have z2 := set_some (b := (⟨⟨xa, xb, [], d, e, f, g', h⟩, .slice none 0 0, pv⟩ : Tz)) (set_some (b := (⟨⟨xa, xb, c, d, e, f, g', h⟩, rv, pv⟩ : Tz)) (set_some (b := (⟨⟨xa, b, c, d, e, f, g', h⟩, rv, pv⟩ : Tz)) hz))
  have h3 := di_cell h2 (z' := ⟨⟨xa, xb, [], [], e, f, g', h⟩, .slice none 0 0, .slice none 0 0⟩) (j := 3) (u := .slice none 0 0) z2 (by decide) rfl (OwnR.nil _ _ _) (OwnR.nil _ _ _) (sep_same h2.sep z2 (.inl rfl) (.inl rfl)) (fun b => ⟨(fun e => by cases e), (fun e => by cases e)⟩)
  have h4 := di_cell0 h3 ⟨xa, xb, [], [], xe, f, g', h⟩ (j := 4) (u := .int .i64 xe) (set_some z2) (by decide) rfl rfl rfl
  have h5 := di_cell0 h4 ⟨xa, xb, [], [], xe, xf, g', h⟩ (j := 5) (u := .bool xf) (set_some (set_some z2)) (by decide) rfl rfl rfl
  have h6 := di_cell0 h5 ⟨xa, xb, [], [], xe, xf, xg, h⟩ (j := 6) (u := .int .i64 xg) (set_some (set_some (set_some z2))) (by decide) rfl rfl rfl
  have h7 := di_cell0 h6 ⟨xa, xb, [], [], xe, xf, xg, xh⟩ (j := 7) (u := .int .i64 xh) (set_some (set_some (set_some (set_some z2)))) (by decide) rfl rfl rfl
  simp only [List.set_set] at h7
  exact h7
theorem on_put8 {w : World} {S : Nat → Prop} {g : Nat} (hg : S g) (o : Nat) (v0 v1 v2 v3 v4 v5 v6 v7 : Value) : OnS S w (put8 w g o v0 v1 v2 v3 v4 v5 v6 v7) := by
  have h : ∀ (w : World) (i : Nat) (u : Value), OnS S w (w.setCell ⟨g, i, none⟩ u) := fun w i u => (OnS.cell g i u).weak fun b _ hb => by rw [hb]; exact hg
  exact (((((((h _ _ _).trans (h _ _ _)).trans (h _ _ _)).trans (h _ _ _)).trans (h _ _ _)).trans (h _ _ _)).trans (h _ _ _)).trans (h _ _ _)
theorem rbegin_c (w : World) (F : Nat → Prop) (r : Nat) (E : Eg) (H : DE w F r E) (h8 : E.T.length = 8) (t : Int) :
    Calls Try.prog 39 #[.pointer (some ⟨r, 0, none⟩), .int .i64 t] w fun e w' => e = .returned (.int .i64 (beginR E t).2) ∧ OnS F w w' ∧ DE w' F r (beginR E t).1 := by
  have HH := Lib.hid H
  obtain ⟨vv, tv, Z, H⟩ := H
  rcases thR_cases E h8 t with ⟨hn, h1 | ⟨h1, h2⟩⟩ | ⟨i, x, rfl, hi, hx, hth⟩
  · have hr : beginR E t = (E, 1) := by unfold beginR; rw [hn]
    rw [hr]
    clear H hn hr h8
    go_enter Try.func39, Try.ntmps39
    go_wp2_with fail
    go_ret
    exact ⟨rfl, OnS.refl _ _, HH.out⟩
  · have hr : beginR E t = (E, 1) := by unfold beginR; rw [hn]
    rw [hr]
    have h3 : t > 7 := by omega
    clear H hn hr h8
    go_enter Try.func39, Try.ntmps39
    go_wp2_with fail
    go_ret
    exact ⟨rfl, OnS.refl _ _, HH.out⟩
  · have hr : beginR E (i : Int) = if x.is then (E, 1) else (setT E i (tx1 E.clock), 0) := by unfold beginR; rw [hth]
    rw [hr]
    obtain ⟨z, hz, hzx⟩ := H.zat hx
    have HP := Lib.hid (fun g n cap (e : tv = .slice (some ⟨g, 0, none⟩) n cap) => di_put (e ▸ H : DI w F r E vv (.slice (some ⟨g, 0, none⟩) n cap) Z) hz (tx1 E.clock) rfl rfl)
    obtain ⟨g, cap, cur, rfl, hk, hg, hf, hF, c0, c1, c2, c3, c4, c5, c6, c7⟩ := H.tx hz
    have HP2 : Hid (DI (put8 w g (i * 8) (.bool true) (.int .i64 E.clock) (.slice none 0 0) (.slice none 0 0) (.int .i64 1) (.bool false) (.int .i64 0) (.int .i64 0)) F r (setT E (i : Int) (tx1 E.clock)) vv (.slice (some ⟨g, 0, none⟩) E.T.length cap) (Z.set i ⟨tx1 E.clock, .slice none 0 0, .slice none 0 0⟩)) := Lib.hid (HP.out g _ cap rfl)
    have y0 := H.bk.cell 0 _ rfl
    have y2 := H.bk.cell 2 _ rfl
    rw [hzx] at c0
    rw [h8] at y2
    have H8 := Lib.hid h8
    have i0 : (0 : Int) ≤ (i : Int) := by omega
    have i1 : (i : Int) < 8 := by omega
    have i2 : ¬ (i : Int) < 0 := by omega
    have i3 : ¬ (i : Int) > 7 := by omega
    have f0 := hf (i * 8)
    have f1 := hf (i * 8 + 1)
    have f2 := hf (i * 8 + 2)
    have f3 := hf (i * 8 + 3)
    have f4 := hf (i * 8 + 4)
    have f5 := hf (i * 8 + 5)
    have f6 := hf (i * 8 + 6)
    have f7 := hf (i * 8 + 7)
    have HFg := Lib.hid hF
    obtain ⟨ck, hck⟩ : ∃ ck, Hid (E.clock = ck) := ⟨_, Lib.hid rfl⟩
    rw [hck.out] at y0
    obtain ⟨b, hb⟩ : ∃ b, x.is = b := ⟨_, rfl⟩
    rw [hb] at c0 ⊢
    clear H hth hr hz hzx hx h8 hf hk hF hb HP
    have HC := Lib.hid (show w.drew.cell? ⟨r, 0, none⟩ = some (.int .i64 ck) ∧ w.drew.cell? ⟨r, 2, none⟩ = some (.slice (some ⟨g, 0, none⟩) 8 cap) from ⟨y0, y2⟩)
    have q0 : (put8 w g (i * 8) (.bool true) (.int .i64 E.clock) (.slice none 0 0) (.slice none 0 0) (.int .i64 1) (.bool false) (.int .i64 0) (.int .i64 0)).drew.cell? ⟨r, 0, none⟩ = some (.int .i64 E.clock) := HP2.out.bk.drew.cell 0 _ rfl
    have q2 : (put8 w g (i * 8) (.bool true) (.int .i64 E.clock) (.slice none 0 0) (.slice none 0 0) (.int .i64 1) (.bool false) (.int .i64 0) (.int .i64 0)).drew.cell? ⟨r, 2, none⟩ = some (.slice (some ⟨g, 0, none⟩) E.T.length cap) := HP2.out.bk.drew.cell 2 _ rfl
    rw [hck.out] at q0 q2
    rw [H8.out] at q2
    have HC2 := Lib.hid (And.intro q0 q2)
    clear q0 q2
    cases b
    · rw [if_neg (by decide)]
      go_enter Try.func39, Try.ntmps39
      go_wp2_with fail
      go_region_held3 (fun w' => w'.cell? ⟨r, 0, none⟩ = some (.int .i64 ck) ∧ w'.cell? ⟨r, 2, none⟩ = some (.slice (some ⟨g, 0, none⟩) 8 cap)) (first | with_reducible exact HC.out | with_reducible exact HC2.out | go_keep) (fail)
      all_goals
        go_wp2_with fail
        go_ret
        exact ⟨rfl, (on_put8 HFg.out _ _ _ _ _ _ _ _ _).trans (OnS.of (bdr _)), vv, _, _, (by rw [← hck.out]; exact HP2.out.keep (bdr _))⟩
    · rw [if_pos rfl]
      go_enter Try.func39, Try.ntmps39
      go_wp2_with fail
      go_ret
      exact ⟨rfl, OnS.refl _ _, HH.out⟩
end Go.Proofs.Ytjoifodjbdbicaa.UD

/- The document's engine: Part, New, Make. -/
namespace Go.Proofs.Ytjoifodjbdbicaa.UE
open Go.RowKit Go.Proofs.Ytjoifodjbdbicaa.RG Go.Proofs.Ytjoifodjbdbicaa.RB Go.Proofs.Ytjoifodjbdbicaa.RI Go.Proofs.Ytjoifodjbdbicaa.UA Go.Proofs.Ytjoifodjbdbicaa.UB Go.Proofs.Ytjoifodjbdbicaa.UC Go.Proofs.Ytjoifodjbdbicaa.UD
set_option linter.unusedVariables false
set_option maxRecDepth 100000
set_option maxRecDepth 100000

theorem mem_of {α : Type} {l : List α} {i : Nat} {a : α} (h : l[i]? = some a) : a ∈ l := List.mem_of_getElem? h
/-- A transaction's numbers. -/
theorem Wf.at {m : Nat} {E : Eg} (h : Wf m E) {i : Nat} {x : Tx} (hx : E.T[i]? = some x) : WfT m E.V.length x := h.tx x (mem_of hx)
set_option maxHeartbeats 800000 in
theorem rpart_c (w : World) (F : Nat → Prop) (r : Nat) (E : Eg) (H : DE w F r E) (m : Nat) (HW : Wf m E) (hm : m ≤ 1000000) (t : Int) :
    Calls Try.prog 42 #[.pointer (some ⟨r, 0, none⟩), .int .i64 t] w fun e w' => e = .returned (.int .i64 (partR E t).2) ∧ OnS F w w' ∧ DE w' F r (partR E t).1 := by
  have HH := Lib.hid H
  have HO := Lib.hid (ropen_c w F r E H HW.th t)
  obtain ⟨vv, tv, Z, H⟩ := H
  rcases thR_cases E HW.th t with ⟨hn, h1⟩ | ⟨i, x, rfl, hi, hx, hth⟩
  · have hr : partR E t = (E, 1) := by unfold partR; rw [hn]
    have ho : openR E t = false := by unfold openR; rw [hn]
    rw [hr]
    rw [ho] at HO
    clear H hn hr HW h1 ho
    go_enter Try.func42, Try.ntmps42
    go_wp2_with fail
    refine HO.out.mono ?_
    rintro e w1 ⟨rfl, hb⟩
    have HB := Lib.hid hb
    clear hb
    go_wp2_with fail
    go_ret
    exact ⟨rfl, OnS.of HB.out, HH.out.keep HB.out⟩
  · have hr : partR E (i : Int) = if opn x then (setT E (i : Int) { x with parts := x.parts + 1 }, 0) else (E, 1) := by unfold partR; rw [hth]
    have ho : openR E (i : Int) = opn x := by unfold openR; rw [hth]
    rw [hr]
    rw [ho] at HO
    obtain ⟨z, hz, hzx⟩ := H.zat hx
    have hpb := (HW.tx x (mem_of hx)).parts
    have hpb2 : x.is = true → 1 ≤ x.parts := (HW.tx x (mem_of hx)).parts1
    obtain ⟨b, hb⟩ : ∃ b, opn x = b := ⟨_, rfl⟩
    rw [hb] at HO ⊢
    cases b
    · rw [if_neg (by decide)]
      clear H hth hr hz hzx hx ho HW hb hpb2
      go_enter Try.func42, Try.ntmps42
      go_wp2_with fail
      refine HO.out.mono ?_
      rintro e w1 ⟨rfl, hb⟩
      have HB := Lib.hid hb
      clear hb
      go_wp2_with fail
      go_ret
      exact ⟨rfl, OnS.of HB.out, HH.out.keep HB.out⟩
    · rw [if_pos rfl]
      have hp1 : 1 ≤ x.parts := hpb2 (by unfold opn at hb; cases h : x.is <;> simp [h] at hb ⊢)
      have i0 : (0 : Int) ≤ (i : Int) := by omega
      have i1 : (i : Int) < 8 := by omega
      have H8 := Lib.hid HW.th
      have HI := Lib.hid H
      have HZ := Lib.hid hz
      have HZX := Lib.hid hzx
      clear H hth hr hz hzx hx ho HW hb hpb2
      go_enter Try.func42, Try.ntmps42
      go_wp2_with fail
      refine HO.out.mono ?_
      rintro e w1 ⟨rfl, hb⟩
      have HB := Lib.hid hb
      have hd := HI.out.keep hb
      obtain ⟨g, cap, cur, rfl, hk, hg, hf, hF, c0, c1, c2, c3, c4, c5, c6, c7⟩ := hd.tx HZ.out
      have HP := Lib.hid (di_cell0 hd { z.x with parts := z.x.parts + 1 } (j := 4) (u := .int .i64 (z.x.parts + 1)) HZ.out (by decide) rfl rfl rfl)
      have y2 := hd.bk.cell 2 _ rfl
      rw [H8.out] at y2
      rw [HZX.out] at c4 HP
      have HFg := Lib.hid hF
      have f4 := hf (i * 8 + 4)
      obtain ⟨p, hp⟩ : ∃ p, Hid (x.parts = p) := ⟨_, Lib.hid rfl⟩
      rw [hp.out] at c4 HP hpb hp1
      clear hd hk hf hF c0 c1 c2 c3 c5 c6 c7 hb
      go_wp2_with fail
      go_ret
      exact ⟨rfl, (OnS.of HB.out).trans ((OnS.cell g _ _).weak fun b _ hb => by rw [hb]; exact HFg.out), vv, _, _, by rw [← hp.out] at HP; rw [← hp.out]; exact HP.out⟩
/-- Rows that are made are the call's own. -/
theorem own_made {α : Type} {R : Ty Try.prog α} (w : World) (z : α) (q : List Value) (he : R.enc z q = R.z.cells.toList) (hh : ∀ w' S, R.has w' S z q) (n : Nat) (hn : n ≤ maxLen) : OwnR R (w.alloc (.cells (madeCells R.z.cells (n * R.size)) R.e)) w.heap.size Nobody (.slice (some ⟨w.heap.size, 0, none⟩) n n) (List.replicate n z) := by
  have hl : (R.enc z q).length = R.size := R.len (hh w Nobody)
  have hl2 : ((List.replicate n z).length * R.size) = n * R.size := by rw [List.length_replicate]
  have hrow : rowOf R (List.replicate n z) (List.replicate n q) = (madeCells R.z.cells (n * R.size)).toList := by rw [rowOf_rep z q _ he n, made_row z _ (by rw [← he]; exact hl) rfl n]
  refine ⟨List.replicate n q, ⟨rowOf_len _ _ (Hs_rep (S := Any) (w := w) z q (hh w Any) n), .inr ⟨w.heap.size, n, madeCells R.z.cells (n * R.size), by rw [List.length_replicate], Nat.le_refl _, Bk.new w _ _, by rw [List.length_replicate]; exact Nat.le_refl _, hn, size_madeCells _ _, ?_⟩⟩, Hs_rep z q (hh _ _) n⟩
  rw [hrow, List.take_of_length_le]
  rw [hl2, Array.length_toList, size_madeCells]
  exact Nat.le_refl _
/-- A row that lies in new blocks is one that lies anywhere. -/
theorem own_low {α : Type} {R : Ty Try.prog α} {w : World} {B : Nat} {v : Value} {L : List α} (h : OwnR R w B Nobody v L) : OwnF R w v L := by
  obtain ⟨qs, ⟨h1, h2⟩, h3⟩ := h
  refine ⟨qs, ⟨h1, ?_⟩, h3⟩
  rcases h2 with h2 | ⟨g, cap, cur, hv, hg, r⟩
  · exact .inl h2
  · exact .inr ⟨g, cap, cur, hv, Nat.zero_le _, r⟩
theorem rnew_c (w : World) :
    Calls Try.prog 36 #[] w fun e w' => ∃ r F, e = .returned (.pointer (some ⟨r, 0, none⟩)) ∧ DE w' F r newR ∧ (∀ b, F b → w.heap.size ≤ b) ∧ Below w.heap.size w w' := by
  have hmk : (Instr.makeSlice 45 (.int .i64 8) (.int .i64 8)).run Try.prog w = .ok (.slice (some ⟨w.heap.size, 0, none⟩) 8 8) (w.alloc (.cells (madeCells TTz.z.cells (8 * TTz.size)) 43)) := run_made TTz .i64 .i64 8 (by decide) w
  have HM := Lib.hid (own_made (R := TTz) w ⟨tx0, .slice none 0 0, .slice none 0 0⟩ [] rfl (fun _ _ => ⟨rfl, rfl, rfl⟩) 8 (by decide))
  obtain ⟨C, hC⟩ : ∃ C, madeCells TTz.z.cells (8 * TTz.size) = C := ⟨_, rfl⟩
  rw [hC] at hmk HM
  have HA := Lib.hid (balloc w (.cells C 43))
  have HB := Lib.hid (bnext HA.out (balloc (w.alloc (.cells C 43)) (.cells #[.int .i64 0, .slice none 0 0, .slice (some ⟨w.heap.size, 0, none⟩) 8 8] 47)))
  have HK : Hid (Bk _ (w.heap.size + 1) _ _) := Lib.hid (World.size_alloc w (.cells C 43) ▸ Bk.new (w.alloc (.cells C 43)) #[.int .i64 0, .slice none 0 0, .slice (some ⟨w.heap.size, 0, none⟩) 8 8] 47)
  clear hC
  go_enter Try.func36, Try.ntmps36
  go_wp2_with fail
  go_ret
  have hz : ∀ (i : Nat) (z : Tz), (List.replicate 8 (⟨tx0, .slice none 0 0, .slice none 0 0⟩ : Tz))[i]? = some z → z = ⟨tx0, .slice none 0 0, .slice none 0 0⟩ := fun i z h => by
    rw [List.getElem?_replicate] at h
    split at h
    · exact (Option.some.inj h).symm
    · cases h
  have hts := (HM.out.keep (balloc (w.alloc (.cells C 43)) (.cells #[.int .i64 0, .slice none 0 0, .slice (some ⟨w.heap.size, 0, none⟩) 8 8] 47)))
  refine ⟨_, fun b => b = w.heap.size ∨ b = w.heap.size + 1, rfl, ⟨.slice none 0 0, .slice (some ⟨w.heap.size, 0, none⟩) 8 8, List.replicate 8 ⟨tx0, .slice none 0 0, .slice none 0 0⟩, HK.out, OwnR.nil _ _ _, own_low hts, by rw [List.map_replicate]; rfl, fun i z h => ?_, fun i j y z _ h1 h2 b => ?_, (fun b hb => by cases hb), (fun b hb => .inl (Option.some.inj hb).symm), fun i z h b => ?_, .inr rfl, fun b hb => ?_⟩, fun b hb => ?_, HB.out⟩
  · rw [hz i z h]
    exact ⟨OwnR.nil _ _ _, OwnR.nil _ _ _⟩
  · rw [hz i y h1, hz j z h2]
    exact ⟨(fun e => by cases e), (fun e => by cases e)⟩
  · rw [hz i z h]
    exact ⟨(fun e => by cases e), (fun e => by cases e)⟩
  · rw [World.size_alloc, World.size_alloc]
    rcases hb with rfl | rfl <;> omega
  · rcases hb with rfl | rfl
    · exact Nat.le_refl _
    · omega
/-- Rows of different types lie in different blocks. -/
theorem own_diff {α β : Type} {R : Ty Try.prog α} {Q : Ty Try.prog β} {w : World} {B B' : Nat} {T T' : Nat → Prop} {v v' : Value} {L : List α} {L' : List β} (h : OwnR R w B T v L) (h' : OwnR Q w B' T' v' L') (hne : R.e ≠ Q.e) {b : Nat} (e : v.ownBlock = some b) (e' : v'.ownBlock = some b) : False := by
  obtain ⟨⟨cur, k⟩, _⟩ := own_blk h e
  obtain ⟨⟨cur', k'⟩, _⟩ := own_blk h' e'
  exact hne (bk_typ k k')
/-- Where the row of the vars, the clock, and new blocks have turned. -/
theorem di_vs {w w' : World} {F F' S : Nat → Prop} {r : Nat} {E : Eg} {vv vv' tv : Value} {Z : List Tz} {V' : List Vr} {c' : Int} (H : DI w F r E vv tv Z) (ho : OnS S w w') (hS : ∀ b, S b → b = r ∨ vv.ownBlock = some b ∨ w.heap.size ≤ b) (hk : Bk w' r #[.int .i64 c', vv', tv] 47) (hv : OwnF TVr w' vv' V') (hF : ∀ b, F b → F' b) (hvF : ∀ b, vv'.ownBlock = some b → F' b) (hlt : ∀ b, F' b → b < w'.heap.size) : DI w' F' r ⟨c', V', E.T⟩ vv' tv Z := by
  have key : ∀ {α : Type} {R : Ty Try.prog α} {v : Value} {L : List α}, OwnF R w v L → R.e ≠ 47 → R.e ≠ TVr.e → OwnF R w' v L := fun {α R v L} h h1 h2 => ownF_on h ho fun b e hs => by
    rcases hS b hs with h3 | h3 | h3
    · exact own_typ h H.bk h1 e h3
    · exact own_diff h H.vs h2 e h3
    · have := (h.own e).2; omega
  exact ⟨hk, hv, key H.ts (by decide) (by decide), H.ex, fun i z hz => ⟨key (H.rows i z hz).1 (by decide) (by decide), key (H.rows i z hz).2 (by decide) (by decide)⟩, H.sep, hvF, fun b hb => hF b (H.int b hb), fun i z hz b => ⟨fun e => hF b ((H.inz i z hz b).1 e), fun e => hF b ((H.inz i z hz b).2 e)⟩, hF r H.own, hlt⟩
theorem ons_grown {w w' : World} {row : Option Nat} (hg : w.grownBy w' row) : OnS (fun b => row = some b) w w' := ⟨hg.os, hg.tape, hg.output, hg.size, fun k hk hn => hg.block k hk (fun e => hn e.symm)⟩
theorem rmake_c (w : World) (F : Nat → Prop) (r : Nat) (E : Eg) (H : DE w F r E) (m : Nat) (HW : Wf m E) (v : Int) :
    Calls Try.prog 38 #[.pointer (some ⟨r, 0, none⟩), .int .i64 v] w fun e w' => e = .returned (.tuple #[.int .i64 (makeR E v).2.1, .int .i64 (makeR E v).2.2]) ∧ OnS F w w' ∧ ∃ F', DE w' F' r (makeR E v).1 ∧ Gr w F F' := by
  have HH := Lib.hid H
  obtain ⟨vv, tv, Z, H⟩ := H
  obtain ⟨va, vc, rfl, _⟩ := H.vs.val
  obtain ⟨N, hN⟩ : ∃ N, Hid (E.V.length = N) := ⟨_, Lib.hid rfl⟩
  have y1 : w.cell? ⟨r, 1, none⟩ = some (.slice va E.V.length vc) := H.bk.cell 1 _ rfl
  have hN4 := HW.vs
  rw [hN.out] at y1 hN4
  by_cases h4 : N = 4000
  · have hr : makeR E v = (E, 0, 16) := by unfold makeR; rw [if_pos (hN.out.trans h4)]
    rw [hr]
    subst h4
    clear H hr HW
    go_enter Try.func38, Try.ntmps38
    go_wp2_with fail
    go_ret2
    exact ⟨rfl, OnS.refl _ _, F, HH.out, Gr.refl _ _⟩
  · have hr : makeR E v = ({ E with V := E.V ++ [⟨v, 0, -1⟩] }, (N : Int), 0) := by unfold makeR; rw [if_neg (by rw [hN.out]; exact h4), hN.out]
    rw [hr]
    have e4 : ((N : Int) == 4000) = false := by rw [beq_eq_false_iff_ne]; omega
    have HI := Lib.hid H
    have f1 := H.bk.free 1
    clear H hr HW
    have HBW := Lib.hid (balloc w (.cells #[.int .i64 v, .int .i64 0, .int .i64 (-1)] 69))
    have HIA := Lib.hid (HI.out.keep HBW.out)
    have HOA := Lib.hid HIA.out.vs
    have HR := Lib.hid (show RowR TVr (w.alloc (.cells #[.int .i64 v, .int .i64 0, .int .i64 (-1)] 69)) (fun b => Nobody b ∧ (Value.slice va N vc).ownBlock ≠ some b) (.slice (some ⟨w.heap.size, 0, none⟩) 1 1) [⟨v, 0, -1⟩] from rowR_new (q := []) #[.int .i64 v, .int .i64 0, .int .i64 (-1)] 69 rfl rfl)
    have HLN := Lib.hid (show E.V.length + [(⟨v, 0, -1⟩ : Vr)].length ≤ 100000000000 from by rw [hN.out]; simp; omega)
    have HNR := Lib.hid (show (Value.slice va N vc).ownBlock ≠ some r from fun e => own_typ (hN.out ▸ HI.out.vs) HI.out.bk (by decide) e rfl)
    rw [hN.out] at HOA
    go_enter Try.func38, Try.ntmps38
    go_wp2_with (at_builtin; go_loud (refine wpList_row TVr (w.alloc (.cells #[.int .i64 v, .int .i64 0, .int .i64 (-1)] 69)) rfl (.tmp 16) (.tmp 19) rfl 0 Nobody (.slice va N vc) (.slice (some ⟨w.heap.size, 0, none⟩) 1 1) E.V [⟨v, 0, -1⟩] rfl rfl HOA.out HR.out HLN.out (Nat.zero_le _) ?_); intro ao6 n6 cap6 w6 hO6 hn6 hg6 ha6; obtain rfl : n6 = N + 1 := (by rw [hn6, hN.out]; rfl); clear hn6; have HO6 := Lib.hid hO6; have HG6 := Lib.hid hg6; have HA6 := Lib.hid ha6; have HK6 := Lib.hid (HIA.out.bk.grown hg6 HNR.out); have f6 := HK6.out.free 1; have r6 : w6.cell? ⟨r, 1, none⟩ = some (.slice va E.V.length vc) := HK6.out.cell 1 _ rfl; have l6 := HK6.out.lt; clear hO6 hg6 ha6)
    go_ret2
    have hv6 : ∀ b, (Value.slice ao6 (N + 1) cap6).ownBlock = some b → (Value.slice va N vc).ownBlock = some b ∨ b = w.heap.size + 1 := fun b e => by
      rcases HA6.out with h | h
      · exact .inl (h ▸ e)
      · rw [h, World.size_alloc] at e
        exact .inr (Option.some.inj e).symm
    have hrl := HI.out.bk.lt
    have hs6 := HG6.out.size
    rw [World.size_alloc] at hs6
    have h6r : ∀ b, (Value.slice ao6 (N + 1) cap6).ownBlock = some b → b ≠ r := fun b e => own_typ HO6.out HK6.out (by decide) e
    have hon : OnS (fun b => b = r ∨ (Value.slice va N vc).ownBlock = some b) w (w6.setCell ⟨r, 1, none⟩ (.slice ao6 (N + 1) cap6)) :=
      ((OnS.of HBW.out).trans ((ons_grown HG6.out).weak fun b _ hb => .inr hb)).trans ((OnS.cell r 1 _).weak fun b _ hb => .inl hb)
    refine ⟨rfl, hon.weak (fun b _ hb => ?_), fun b => F b ∨ b = w.heap.size + 1 ∧ b < w6.heap.size, ⟨_, tv, Z, di_vs HI.out hon (fun b hb => ?_) (HK6.out.set 1 _) (ownF_on HO6.out (OnS.cell r 1 _) h6r) (fun b hb => .inl hb) (fun b hb => ?_) (fun b hb => ?_)⟩, fun b hb => ?_⟩
    · rcases hb with rfl | hb
      · exact HI.out.own
      · rw [← hN.out] at hb; exact HI.out.inv b hb
    · rcases hb with rfl | hb
      · exact .inl rfl
      · rw [← hN.out] at hb; exact .inr (.inl hb)
    · rcases hv6 b hb with h | h
      · rw [← hN.out] at h; exact .inl (HI.out.inv b h)
      · exact .inr ⟨h, (HO6.out.own hb).2⟩
    · rcases hb with hb | ⟨hb, hl⟩
      · have := HI.out.lt b hb
        rw [World.size_setCell]
        omega
      · rw [World.size_setCell]; exact hl
    · rcases hb with hb | ⟨hb, _⟩
      · exact .inl hb
      · exact .inr (by omega)
end Go.Proofs.Ytjoifodjbdbicaa.UE

/- The document's engine: valid, Valid. -/
namespace Go.Proofs.Ytjoifodjbdbicaa.UF
open Go.RowKit Go.Proofs.Ytjoifodjbdbicaa.RG Go.Proofs.Ytjoifodjbdbicaa.RB Go.Proofs.Ytjoifodjbdbicaa.RI Go.Proofs.Ytjoifodjbdbicaa.UA Go.Proofs.Ytjoifodjbdbicaa.UB Go.Proofs.Ytjoifodjbdbicaa.UC Go.Proofs.Ytjoifodjbdbicaa.UD Go.Proofs.Ytjoifodjbdbicaa.UE
set_option linter.unusedVariables false
set_option maxRecDepth 100000
set_option maxRecDepth 100000

theorem validL_drop {V : List Vr} {S t : Int} {l : List Int} {j : Nat} {n : Int} {v : Vr} (h : l[j]? = some n) (hv : V[n.toNat]? = some v) : validL V S t (l.drop j) = if lookR S t v = 0 then validL V S t (l.drop (j + 1)) else lookR S t v := by
  have hj := (List.getElem?_eq_some_iff.1 h)
  rw [List.drop_eq_getElem_cons hj.1, hj.2]
  show (match V[n.toNat]? with | some v => if lookR S t v = 0 then validL V S t (l.drop (j + 1)) else lookR S t v | none => validL V S t (l.drop (j + 1))) = _
  rw [hv]
/-- A cell of a row of numbers. -/
theorem own_int {w : World} {v : Value} {L : List Int} (h : OwnF TI w v L) {j : Nat} {n : Int} (hn : L[j]? = some n) : ∃ b cap, v = .slice (some ⟨b, 0, none⟩) L.length cap ∧ b < w.heap.size ∧ w.cell? ⟨b, j, none⟩ = some (.int .i64 n) := by
  have h0 : L ≠ [] := by intro e; rw [e] at hn; simp at hn
  obtain ⟨g, cap, cur, hv, hk, hg, hf⟩ := own_block h h0
  obtain ⟨b, off, cap', hv', _, _, hc⟩ := h.row.open_ h0
  rw [hv] at hv'
  injection hv' with e1 e2
  injection e1 with e1
  injection e1 with e1 e3
  subst e1
  subst e3
  obtain ⟨q, hL, _⟩ := hc j n hn
  have := hL 0 _ rfl
  exact ⟨g, cap, hv, hg, by simpa [TI, Ty.flat] using this⟩
set_option maxHeartbeats 1600000 in
theorem rvalidl_c (w : World) (F : Nat → Prop) (r : Nat) (E : Eg) (H : DE w F r E) (m : Nat) (HW : Wf m E) (hm : m ≤ 1000000) (k : Nat) (x : Tx) (hx : E.T[k]? = some x) :
    Calls Try.prog 67 #[.pointer (some ⟨r, 0, none⟩), .int .i64 (k : Int)] w fun e w' => e = .returned (.int .i64 (validL E.V x.start (k : Int) x.reads)) ∧ Below w.heap.size w w' := by
  have HL := Lib.hid (fun w1 (h : DE w1 F r E) j v (hv : E.V[j]? = some v) => rlook_c w1 F r E h HW.th k j x v hx hv)
  have HX := Lib.hid hx
  have H8 := Lib.hid HW.th
  have HWT := Lib.hid (HW.tx x (mem_of hx))
  obtain ⟨vv, tv, Z, H⟩ := H
  have HD := Lib.hid H
  have hk8 : k < 8 := by have := (List.getElem?_eq_some_iff.1 hx).1; rw [HW.th] at this; exact this
  have k0 : (0 : Int) ≤ (k : Int) := by omega
  have k1 : (k : Int) < 8 := by omega
  obtain ⟨n, hn⟩ : ∃ n, Hid (x.reads.length = n) := ⟨_, Lib.hid rfl⟩
  have hnm : n ≤ 1000000 := by rw [← hn.out]; exact Nat.le_trans HWT.out.reads hm
  clear H HW hx hm
  go_enter Try.func67, Try.ntmps67
  go_wp2_with fail
  go_loopg [5, 6] n (fun g iv fv wr => ∃ j : Nat, j + g = n ∧ iv = .int .i64 (j : Int) ∧ Hid (validL E.V x.start (k : Int) x.reads = validL E.V x.start (k : Int) (x.reads.drop j)) ∧ Hid (Below w.heap.size w wr))
  case atStart => exact ⟨0, Nat.zero_add _, rfl, Lib.hid rfl, Lib.hid (Below.refl _ _)⟩
  case round =>
    obtain ⟨j, hj, rfl, HV, HB⟩ := hrel
    have HJ := Lib.hid hj
    have hd := HD.out.keep HB.out
    obtain ⟨z, hz, hzx⟩ := hd.zat HX.out
    have hrw := (hd.rows k z hz).1
    rw [hzx] at hrw
    obtain ⟨g, cap, cur, htv, hk, hg, hf, hF, c0, c1, c2, c3, c4, c5, c6, c7⟩ := hd.tx hz
    have y2 : wr.cell? ⟨r, 2, none⟩ = some tv := hd.bk.cell 2 _ rfl
    rw [htv, H8.out] at y2
    by_cases hlt : j < n
    · obtain ⟨g', rfl⟩ : ∃ g, gk = g + 1 := ⟨gk - 1, by omega⟩
      obtain ⟨rn, hrn⟩ := getElem?_of_lt (l := x.reads) (k := j) (by rw [hn.out]; exact hlt)
      obtain ⟨br, cr, hrv, hbl, x0⟩ := own_int hrw hrn
      have hir := HWT.out.inr rn (mem_of hrn)
      obtain ⟨q, rfl⟩ : ∃ q : Nat, rn = (q : Int) := ⟨rn.toNat, by omega⟩
      obtain ⟨v, hv⟩ := getElem?_of_lt (l := E.V) (k := q) (by omega)
      have HVD := Lib.hid (validL_drop (S := x.start) (t := (k : Int)) hrn (by rw [Int.toNat_natCast]; exact hv))
      have HLK := Lib.hid (HL.out wr ⟨vv, tv, Z, hd⟩ q v hv)
      rw [hrv, hn.out] at c2
      obtain ⟨lk, hlk⟩ : ∃ lk, Hid (lookR x.start (k : Int) v = lk) := ⟨_, Lib.hid rfl⟩
      rw [hlk.out] at HLK HVD
      have j0 : (0 : Int) ≤ (j : Int) := by omega
      have j1 : (j : Int) < (n : Int) := by omega
      clear hd hz hzx hrw htv hk hf hF c0 c1 c3 c4 c5 c6 c7 hrn hrv hir hv
      by_cases h0 : lk = 0
      · subst h0
        have HN := Lib.hid (HV.out.trans (HVD.out.trans (if_pos rfl)))
        clear HVD
        go_wp2_with fail
        refine HLK.out.mono ?_
        rintro e w1 ⟨rfl, hb⟩
        have HB1 := Lib.hid (bnext HB.out hb)
        clear hb
        go_wp2_with fail
        go_roundg g'
        case rel => exact ⟨j + 1, by have := HJ.out; omega, by go_num, HN, HB1⟩
        case measure => omega
      · have HN := Lib.hid (HV.out.trans (HVD.out.trans (if_neg h0)))
        have hb0 : (lk != 0) = true := by rw [bne_iff_ne]; exact h0
        clear HVD
        go_wp2_with fail
        refine HLK.out.mono ?_
        rintro e w1 ⟨rfl, hb⟩
        have HB1 := Lib.hid (bnext HB.out hb)
        clear hb
        go_wp2_with fail
        go_ret
        exact ⟨ret_int HN.out.symm, HB1.out⟩
    · have hjn : j = n := by omega
      subst hjn
      obtain ⟨ra, rc, hrv, _⟩ := hrw.val
      rw [hrv, hn.out] at c2
      have HN := Lib.hid (HV.out.trans (by rw [List.drop_eq_nil_of_le (by rw [hn.out]; exact Nat.le_refl _)]; rfl : _ = (0 : Int)))
      clear hd hz hzx hrw htv hk hf hF c0 c1 c3 c4 c5 c6 c7 hrv
      go_wp2_with fail
      go_ret
      exact ⟨ret_int HN.out.symm, HB.out⟩
theorem rvalid_c (w : World) (F : Nat → Prop) (r : Nat) (E : Eg) (H : DE w F r E) (m : Nat) (HW : Wf m E) (hm : m ≤ 1000000) (t : Int) :
    Calls Try.prog 45 #[.pointer (some ⟨r, 0, none⟩), .int .i64 t] w fun e w' => e = .returned (.int .i64 (validR E t)) ∧ Below w.heap.size w w' := by
  have HO := Lib.hid (ropen_c w F r E H HW.th t)
  have HL := Lib.hid (fun w1 (h : DE w1 F r E) k x hx => rvalidl_c w1 F r E h m HW hm k x hx)
  have HH := Lib.hid H
  rcases thR_cases E HW.th t with ⟨hn, h1⟩ | ⟨i, x, rfl, hi, hx, hth⟩
  · have hr : validR E t = 1 := by unfold validR; rw [hn]
    have ho : openR E t = false := by unfold openR; rw [hn]
    rw [hr]
    rw [ho] at HO
    clear H hn hr HW h1 ho HL hm
    go_enter Try.func45, Try.ntmps45
    go_wp2_with fail
    refine HO.out.mono ?_
    rintro e w1 ⟨rfl, hb⟩
    have HB := Lib.hid hb
    clear hb
    go_wp2_with fail
    go_ret
    exact ⟨rfl, HB.out⟩
  · have hr : validR E (i : Int) = if opn x then validL E.V x.start (i : Int) x.reads else 1 := by unfold validR; rw [hth]
    have ho : openR E (i : Int) = opn x := by unfold openR; rw [hth]
    rw [hr]
    rw [ho] at HO
    have HL2 := Lib.hid (fun w1 h => HL.out w1 h i x hx)
    obtain ⟨b, hb⟩ : ∃ b, opn x = b := ⟨_, rfl⟩
    rw [hb] at HO ⊢
    clear HL hth hr ho hx H HW hm hb
    cases b
    · rw [if_neg (by decide)]
      go_enter Try.func45, Try.ntmps45
      go_wp2_with fail
      refine HO.out.mono ?_
      rintro e w1 ⟨rfl, hb⟩
      have HB := Lib.hid hb
      clear hb
      go_wp2_with fail
      go_ret
      exact ⟨rfl, HB.out⟩
    · rw [if_pos rfl]
      go_enter Try.func45, Try.ntmps45
      go_wp2_with fail
      refine HO.out.mono ?_
      rintro e w1 ⟨rfl, hb⟩
      have HB := Lib.hid hb
      have HD1 := Lib.hid (HH.out.keep hb)
      clear hb
      go_wp2_with fail
      refine (HL2.out w1 HD1.out).mono ?_
      rintro e w2 ⟨rfl, hb⟩
      have HB2 := Lib.hid (bnext HB.out hb)
      clear hb
      go_wp2_with fail
      go_ret
      exact ⟨rfl, HB2.out⟩
end Go.Proofs.Ytjoifodjbdbicaa.UF
