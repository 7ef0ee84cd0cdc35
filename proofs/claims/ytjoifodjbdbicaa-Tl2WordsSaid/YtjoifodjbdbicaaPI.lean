/- The youngest write of a var: own, by a range over a function. -/
import Derived.RangeFuncNested
import Derived.RangeFuncBound
import Derived.RangeFuncCalls
import Derived.RangeFuncLeaves
import Derived.RangeFuncFrom
import Derived.RangeFuncBox
import Derived.Shelf.Abstract
import Derived.Shelf.RegionOpen
import Derived.WalkKit
import Derived.OwnWalkIn
import Derived.TacticsInMore
import Derived.LoopNIn
import Derived.LoopIn
import Derived.Test.YtjoifodjbdbicaaZQ
namespace Go.Proofs.Ytjoifodjbdbicaa.PI
open Go.RowKit Go.Shelf Go.Proofs.Ytjoifodjbdbicaa.RG Go.Proofs.Ytjoifodjbdbicaa.RB Go.Proofs.Ytjoifodjbdbicaa.RI Go.Proofs.Ytjoifodjbdbicaa.RM Go.Proofs.Ytjoifodjbdbicaa.UA Go.Proofs.Ytjoifodjbdbicaa.UB Go.Proofs.Ytjoifodjbdbicaa.UD Go.Proofs.Ytjoifodjbdbicaa.UE Go.Proofs.Ytjoifodjbdbicaa.UH Go.Proofs.Ytjoifodjbdbicaa.UI Go.Proofs.Ytjoifodjbdbicaa.PA Go.Proofs.Ytjoifodjbdbicaa.PB Go.Proofs.Ytjoifodjbdbicaa.PC
set_option linter.unusedVariables false
set_option maxRecDepth 100000
set_option maxRecDepth 100000

attribute [local go_sem] Oper.semAt_some

/-- What has come when k rounds are over. -/
def upto {α : Type} (f : Nat → α) (k : Nat) : List α := (List.range k).map f
theorem upto_succ {α : Type} (f : Nat → α) (k : Nat) : upto f (k + 1) = upto f k ++ [f k] := by simp [upto, List.range_succ]
theorem upto_length {α : Type} (f : Nat → α) (k : Nat) : (upto f k).length = k := by simp [upto]
/-- The k-th from behind. -/
def bk (L k : Nat) : Nat := L - 1 - k
abbrev encs (m : Nat → Nat) (x : Nat) : Array Value := #[.int .i64 (x : Int), .map (some (m x))]
set_option maxHeartbeats 2000000 in
theorem back1_in (F : Fence) (n : Nat) (h7 : F.fn 79) (hro : F.round = none) (hn : 1 ≤ n) (l Bs n₀ b off L cap : Nat) (m : Nat → Nat) (hreach : L ≤ 1000000) (hb : b < n₀) (J Jx : List Nat → World → Prop)
    (hY : ∀ pre x W, J pre W → pre.length < L → YieldAt F (n - 1) Try.prog l (encs m x) W fun e W' =>
      (e = .returned (.bool true) ∧ J (pre ++ [x]) W' ∧ Below n₀ W W') ∨ (e = .returned (.bool false) ∧ Jx (pre ++ [x]) W'))
    (W : World) (hBs : ∀ W', Below n₀ W W' → W'.cell? ⟨Bs, 0, none⟩ = some (.slice (some ⟨b, off, none⟩) L cap)) (hc : ∀ j, j < L → W.cell? ⟨b, off + j, none⟩ = some (.map (some (m j)))) (h0 : J [] W) :
    CallsIn F n Try.prog 79 #[.func (.yield l) #[] #[], .pointer (some ⟨Bs, 0, none⟩)] W fun e W' => (∃ v, e = .returned v) ∧
      ((∃ ys, ys = upto (bk L) L ∧ J ys W') ∨ (∃ pre, (∃ k, k ≤ L ∧ pre = upto (bk L) k) ∧ Jx pre W')) := by
  have hB0 := hBs W (Below.refl _ _)
  refine callsIn_of_wp Try.func79 rfl h7 ?_ hro
  simp only [Try.ntmps79, List.size_toArray, List.length_cons, List.length_nil, Nat.reduceAdd, Nat.reduceSub, Array.replicate_succ, Array.replicate_zero, List.push_toArray, List.append_toArray, List.nil_append, List.cons_append]
  gi_wp2
  gi_loopw [3] (fun i wr => ∃ k j : Nat, k + j = L ∧ i = .int .i64 ((j : Int) - 1) ∧ J (upto (bk L) k) wr ∧ Below n₀ W wr)
    (fun i _ => (intOf i + 1).toNat)
  case atStart => exact ⟨0, L, Nat.zero_add _, rfl, h0, Below.refl _ _⟩
  case round =>
    obtain ⟨k, j, hkj, hi, hJs, hnx⟩ := hrel
    have hbs := hBs wr hnx
    by_cases hlt : 0 < j
    · obtain ⟨j', rfl⟩ : ∃ j', j = j' + 1 := ⟨j - 1, by omega⟩
      rw [show (((j' + 1 : Nat) : Int) - 1) = (j' : Int) by omega] at hi
      subst hi
      have hbk : bk L k = j' := by unfold bk; omega
      have hcx : wr.cell? ⟨b, off + j', none⟩ = some (.map (some (m j'))) := (hnx.cell (p := ⟨b, off + j', none⟩) hb).trans (hc j' (by omega))
      obtain ⟨fn, tmps, assign, body, hy, hR⟩ := hY _ j' wr hJs (by rw [upto_length]; omega)
      dsimp only [encs] at hy
      have hjL : (j' : Int) < (L : Int) := by omega
      gi_wp2
      refine hR.mono ?_
      rintro e W3 (⟨rfl, hJ3, hk3⟩ | ⟨rfl, hJx3⟩)
      · have hbs3 := hBs W3 (hnx.trans hk3)
        gi_wp2
        go_roundw
        case rel => exact ⟨k + 1, j', by omega, by simp, by rw [upto_succ, hbk]; exact hJ3, hnx.trans hk3⟩
        case measure => simp [intOf]
      · gi_wp2
        refine bodyPost_ret (results_none rfl _ _ _) rfl ?_
        exact ⟨⟨_, rfl⟩, .inr ⟨_, ⟨k + 1, by omega, by rw [upto_succ, hbk]⟩, hJx3⟩⟩
    · obtain rfl : j = 0 := by omega
      obtain rfl : k = L := by omega
      rw [show (((0 : Nat) : Int) - 1) = (-1 : Int) by omega] at hi
      subst hi
      gi_wp2
      go_end0
      exact ⟨⟨_, rfl⟩, .inl ⟨_, rfl, hJs⟩⟩
theorem back_in (F : Fence) (n : Nat) (h5 : F.fn 75) (hro : F.round = none) (a : Option Addr) (len cap : Nat) (w : World) :
    CallsIn F n Try.prog 75 #[.slice a len cap] w fun e w' => e = .returned (.func (.func 79) #[] #[.pointer (some ⟨w.heap.size, 0, none⟩)]) ∧ w' = w.alloc (.cells #[.slice a len cap] 76) := by
  refine callsIn_of_wp Try.func75 rfl h5 ?_ hro
  simp only [Try.ntmps75, List.size_toArray, List.length_cons, List.length_nil, Nat.reduceAdd, Nat.reduceSub, Array.replicate_succ, Array.replicate_zero, List.push_toArray, List.append_toArray, List.nil_append, List.cons_append]
  gi_wp2
  go_ret
  exact ⟨rfl, rfl⟩
theorem ownW_skip {P : List Pt} {n : Int} {K : Nat} : ∀ {L : Nat}, K ≤ L → (∀ j : Nat, K ≤ j → j < L → gt P n ((j : Int) + 1) = none) → ownW P n L = ownW P n K
  | 0, h, _ => by rw [show K = 0 by omega]
  | L + 1, h, h2 => by
    by_cases e : K = L + 1
    · rw [e]
    · rw [← ownW_skip (L := L) (K := K) (by omega) fun j h3 h4 => h2 j h3 (by omega)]
      show (gt P n ((L : Int) + 1)).or (ownW P n L) = ownW P n L
      rw [h2 L (by omega) (by omega)]
      rfl
theorem mem_upto {L k j : Nat} (h1 : k ≤ L) (h2 : L - k ≤ j) (h3 : j < L) : j ∈ upto (bk L) k := List.mem_map.2 ⟨L - 1 - j, List.mem_range.2 (by omega), by unfold bk; omega⟩
set_option maxHeartbeats 2000000 in
theorem own_in (F : Fence) (n : Nat) (h4 : F.fn 61) (h5 : F.fn 75) (h6 : F.fn 79) (hro : F.round = none) (hn : 3 ≤ n) (w : World) {g : Nat → Prop} {b : Nat} {x : Tx} {Lf : List Int} {rv pv lv : Value} {ms : List Mp} (H : TX w g b x Lf rv pv lv ms) (h0 : ms ≠ []) (hm : ms.length ≤ 1000000) (nn : Int) :
    CallsIn F n Try.prog 61 #[.pointer (some ⟨b, 0, none⟩), .int .i64 nn] w fun e W' => e = .returned (.tuple #[.int .i64 ((ownW x.puts nn ms.length).getD 0), .bool (ownW x.puts nn ms.length).isSome]) ∧ Below w.heap.size w W' := by
  obtain ⟨c0, c1, c2, c3, c4, c5⟩ := H.cells
  have hne : ms.map (·.1) ≠ [] := by simpa using h0
  obtain ⟨gb, cap, cur, hpv, hk, hg, hf⟩ := own_block H.pt hne
  obtain ⟨b', off, cap', hv', _, _, hc⟩ := H.pt.row.open_ hne
  rw [hpv] at hv'
  injection hv' with e1 _ e2
  injection e1 with e1
  injection e1 with e1 e3
  subst e1
  subst e3
  subst e2
  rw [hpv] at c2
  obtain ⟨d, hd⟩ : ∃ d, d ∈ ms := List.exists_mem_of_ne_nil _ h0
  obtain ⟨m, hmm⟩ : ∃ m : Nat → Nat, ∀ j, m j = (ms.getD j d).1 := ⟨_, fun _ => rfl⟩
  have hin : ∀ j, ms.getD j d ∈ ms := fun j => by
    rw [List.getD_eq_getElem?_getD]
    cases h : ms[j]? with
    | none => exact hd
    | some a => exact mem_of h
  have hMP : ∀ j, MapB w (m j) (ms.getD j d).2 := fun j => by rw [hmm]; exact H.mp _ (hin j)
  have hKK : ∀ j, j < ms.length → asc (ms.getD j d).2 nn = gt x.puts nn ((j : Int) + 1) := fun j hj => by
    have h1 := H.isp j ms[j] (List.getElem?_eq_getElem hj)
    rw [List.getD_eq_getElem?_getD, List.getElem?_eq_getElem hj]
    exact h1.eq nn
  obtain ⟨kk, hkk⟩ : ∃ kk : Nat → List (Int × Int), ∀ j, kk j = (ms.getD j d).2 := ⟨_, fun _ => rfl⟩
  have hMP : ∀ j, MapB w (m j) (kk j) := fun j => by rw [hkk]; exact hMP j
  have hKK : ∀ j, j < ms.length → asc (kk j) nn = gt x.puts nn ((j : Int) + 1) := fun j hj => by rw [hkk]; exact hKK j hj
  have hcs : ∀ j, j < ms.length → w.cell? ⟨gb, 0 + j, none⟩ = some (.map (some (m j))) := fun j hj => by
    obtain ⟨q, hL, _⟩ := hc j (m j) (by rw [hmm, List.getElem?_map, List.getD_eq_getElem?_getD, List.getElem?_eq_getElem hj]; rfl)
    have := hL 0 _ rfl
    simpa [TMp, Ty.flat] using this
  rw [List.length_map] at c2
  obtain ⟨L, hL⟩ : ∃ L, ms.length = L := ⟨_, rfl⟩
  rw [hL] at c2 hcs hKK hm ⊢
  have hpos : 0 < L := by rw [← hL]; exact List.length_pos_iff.2 h0
  have hbl := H.bk.lt
  have hA := bnext (balloc w (.cells #[.int .i64 nn] 3)) (bnext (balloc (w.alloc (.cells #[.int .i64 nn] 3)) (.cells #[.int .i64 0] 3)) (balloc ((w.alloc (.cells #[.int .i64 nn] 3)).alloc (.cells #[.int .i64 0] 3)) (.cells #[.bool false] 4)))
  have c2w := (hA.cell (p := ⟨b, 2, none⟩) hbl).trans c2
  clear H hc hf hk hne h0 hd hin hmm hkk hL hpv c0 c1 c3 c4 c5
  have h1 : 1 ≤ n := by omega
  refine callsIn_of_wp_marks Try.func61 rfl h4 ?_ hro
  simp only [Try.ntmps61, List.size_toArray, List.length_cons, List.length_nil, Nat.reduceAdd, Nat.reduceSub, Array.replicate_succ, Array.replicate_zero, List.push_toArray, List.append_toArray, List.nil_append, List.cons_append]
  gi_wp2_with (gi_at_call 75; refine (back_in F (n - 1) h5 hro _ _ _ _).mono ?_; rintro e w' ⟨rfl, rfl⟩)
  have k0 := Bk.new w #[.int .i64 nn] 3
  have k1 := Bk.new (w.alloc (.cells #[.int .i64 nn] 3)) #[.int .i64 0] 3
  have k2 := Bk.new ((w.alloc (.cells #[.int .i64 nn] 3)).alloc (.cells #[.int .i64 0] 3)) #[.bool false] 4
  have k3 := Bk.new (((w.alloc (.cells #[.int .i64 nn] 3)).alloc (.cells #[.int .i64 0] 3)).alloc (.cells #[.bool false] 4)) #[.slice (some ⟨gb, 0, none⟩) L cap] 76
  simp only [World.size_alloc] at k1 k2 k3
  have hB0 := bnext hA (balloc (((w.alloc (.cells #[.int .i64 nn] 3)).alloc (.cells #[.int .i64 0] 3)).alloc (.cells #[.bool false] 4)) (.cells #[.slice (some ⟨gb, 0, none⟩) L cap] 76))
  have q0 := ((k0.alloc (.cells #[.int .i64 0] 3)).alloc (.cells #[.bool false] 4)).alloc (.cells #[.slice (some ⟨gb, 0, none⟩) L cap] 76)
  have q1 := (k1.alloc (.cells #[.bool false] 4)).alloc (.cells #[.slice (some ⟨gb, 0, none⟩) L cap] 76)
  have q2 := k2.alloc (.cells #[.slice (some ⟨gb, 0, none⟩) L cap] 76)
  have hsz : ((((w.alloc (.cells #[.int .i64 nn] 3)).alloc (.cells #[.int .i64 0] 3)).alloc (.cells #[.bool false] 4)).alloc (.cells #[.slice (some ⟨gb, 0, none⟩) L cap] 76)).heap.size = w.heap.size + 1 + 1 + 1 + 1 := by simp only [World.size_alloc]
  obtain ⟨W4, hW4⟩ : ∃ W4, (((w.alloc (.cells #[.int .i64 nn] 3)).alloc (.cells #[.int .i64 0] 3)).alloc (.cells #[.bool false] 4)).alloc (.cells #[.slice (some ⟨gb, 0, none⟩) L cap] 76) = W4 := ⟨_, rfl⟩
  rw [hW4] at hB0 q0 q1 q2 k3 hsz ⊢
  clear hA k0 k1 k2 c2w c2 hW4
  refine wpIn_rangeFunc_ownF hro h1 (gf := 79) (lb := #[.pointer (some ⟨w.heap.size + 1 + 1 + 1, 0, none⟩)]) (encs := encs m) (S := fun ys => ys = upto (bk L) L) (Sp := fun pre => ∃ k, k ≤ L ∧ pre = upto (bk L) k) (N := L) (w0 := W4) rfl h6 (enters_of Try.func79 (by kernel_rfl) rfl)
    (fun l J Jx W hW _ _ hY h0 => back1_in F (n - 1) h6 hro (by omega) l (w.heap.size + 1 + 1 + 1) W4.heap.size gb 0 L cap m hm (by omega) J Jx hY W (fun W' h => ((hW.trans h).cell (p := ⟨w.heap.size + 1 + 1 + 1, 0, none⟩) (by show w.heap.size + 1 + 1 + 1 < _; omega)).trans (k3.cell 0 _ rfl)) (fun j hj => ((hW.cell (p := ⟨gb, 0 + j, none⟩) (by show gb < _; omega)).trans ((hB0.cell (p := ⟨gb, 0 + j, none⟩) hg).trans (hcs j hj)))) h0) (Kp := Below W4.heap.size) belowK_t (belowK_b (Nat.le_refl _)) (Below.refl _ _) (fun _ => rfl)
    (fun pre W => ((∀ j ∈ pre, asc (kk j) nn = none) ∧ W.cell? ⟨w.heap.size, 0, none⟩ = some (.int .i64 nn) ∧ W.cell? ⟨w.heap.size + 1, 0, none⟩ = some (.int .i64 0) ∧ W.frozen? ⟨w.heap.size + 1, 0, none⟩ = false ∧ W.cell? ⟨w.heap.size + 1 + 1, 0, none⟩ = some (.bool false) ∧ W.frozen? ⟨w.heap.size + 1 + 1, 0, none⟩ = false) ∧ Below w.heap.size w W)
    (fun c pre W => (c = .ret ∧ ∃ pre' j v, pre = pre' ++ [j] ∧ (∀ i ∈ pre', asc (kk i) nn = none) ∧ asc (kk j) nn = some v ∧ W.cell? ⟨w.heap.size + 1, 0, none⟩ = some (.int .i64 v) ∧ W.cell? ⟨w.heap.size + 1 + 1, 0, none⟩ = some (.bool true)) ∧ Below w.heap.size w W)
    (OwnFrom.and (Own.from (fun s A B row hs hg hr => ⟨hs.1, cell_kept hs.2.1 hg hr, cell_kept hs.2.2.1 hg hr, (frozen_kept hs.2.2.1 hg hr).trans hs.2.2.2.1, cell_kept hs.2.2.2.2.1 hg hr, (frozen_kept hs.2.2.2.2.1 hg hr).trans hs.2.2.2.2.2⟩) _) (ownFrom_below (Nat.le_refl _) (by omega)))
    (fun c => OwnFrom.and (Own.from (fun s A B row hs hg hr => by
      obtain ⟨h1, pre', j, v, h2, h3, h4, h5, h6⟩ := hs
      exact ⟨h1, pre', j, v, h2, h3, h4, cell_kept h5 hg hr, cell_kept h6 hg hr⟩) _) (ownFrom_below (Nat.le_refl _) (by omega)))
    ⟨⟨(fun j hj => by cases hj), q0.cell 0 _ rfl, q1.cell 0 _ rfl, q1.free 0, q2.cell 0 _ rfl, q2.free 0⟩, hB0⟩
    (fun x => { tmps := #[.pointer (some ⟨b, 0, none⟩), .int .i64 nn, undef, .pointer (some ⟨w.heap.size, 0, none⟩), .pointer (some ⟨w.heap.size + 1, 0, none⟩), .pointer (some ⟨w.heap.size + 1 + 1, 0, none⟩), undef, .map (some (m x)), undef, undef, .pointer (some ⟨b, 0, none⟩), .pointer (some ⟨b, 0, none⟩), .pointer (some ⟨b, 2, none⟩), .slice (some ⟨gb, 0, none⟩) L cap, .func (.func 79) #[] #[.pointer (some ⟨w.heap.size + 1 + 1 + 1, 0, none⟩)], .int .i64 (x : Int), .map (some (m x)), undef, undef, undef, undef, undef, undef, undef, undef], defers := [] }) ?assign ?body ?done ?stop
  case assign =>
    intro l x W K hK
    gi_wp2
    exact hK
  case body =>
    rintro l pre x W ⟨⟨hp, hcn, hc1, hf1, hc2, hf2⟩, hB⟩ _
    have hl := (run_look (P := Try.prog) (MT := 88) (KT := 3) (ET := 3) Try.underlying88 Try.underlying3 Try.zeroValue3 W (m x) (kk x) nn (((hB.block _ (hMP x).lt)).trans (hMP x))).1
    cases hv : asc (kk x) nn with
    | none =>
      rw [hv] at hl
      gi_wp2
      exact ⟨KeepsOthers.refl _, Below.refl _ _, ⟨fun y hy => (List.mem_append.1 hy).elim (hp y) (fun e => by rw [List.mem_singleton.1 e]; exact hv), hcn, hc1, hf1, hc2, hf2⟩, hB⟩
    | some v =>
      rw [hv] at hl
      gi_wp2
      have u1 := World.cell?_setCell_same' W ⟨w.heap.size + 1, 0, none⟩ (.int .i64 v) (by rw [hc1]; rfl)
      have u2 := (World.cell?_of_block (w := W) (a := ⟨w.heap.size + 1 + 1, 0, none⟩) (Below.heap_setCell W ⟨w.heap.size + 1, 0, none⟩ (.int .i64 v) _ (by show w.heap.size + 1 + 1 ≠ w.heap.size + 1; omega))).trans hc2
      have u3 := (World.cell?_of_block (w := W.setCell ⟨w.heap.size + 1, 0, none⟩ (.int .i64 v)) (a := ⟨w.heap.size + 1, 0, none⟩) (Below.heap_setCell (W.setCell ⟨w.heap.size + 1, 0, none⟩ (.int .i64 v)) ⟨w.heap.size + 1 + 1, 0, none⟩ (.bool true) _ (by show w.heap.size + 1 ≠ w.heap.size + 1 + 1; omega))).trans u1
      exact ⟨(KeepsOthers.setCell _ _ _).trans (KeepsOthers.setCell _ _ _), ⟨rfl, pre, x, v, rfl, hp, hv, u3, World.cell?_setCell_same' _ _ _ (by rw [u2]; rfl)⟩, (hB.setCell (p := ⟨w.heap.size + 1, 0, none⟩) (by show w.heap.size ≤ w.heap.size + 1; omega) _).setCell (p := ⟨w.heap.size + 1 + 1, 0, none⟩) (by show w.heap.size ≤ w.heap.size + 1 + 1; omega) _⟩
  case done =>
    rintro D ys W hD rfl ⟨⟨hne, hcn, hc1, hf1, hc2, hf2⟩, hB⟩ hK
    gi_wp2
    have u1 := World.cell?_setCell_same' W ⟨w.heap.size + 1, 0, none⟩ (.int .i64 0) (by rw [hc1]; rfl)
    have u2 := (World.cell?_of_block (w := W) (a := ⟨w.heap.size + 1 + 1, 0, none⟩) (Below.heap_setCell W ⟨w.heap.size + 1, 0, none⟩ (.int .i64 0) _ (by show w.heap.size + 1 + 1 ≠ w.heap.size + 1; omega))).trans hc2
    have u3 := (World.cell?_of_block (w := W.setCell ⟨w.heap.size + 1, 0, none⟩ (.int .i64 0)) (a := ⟨w.heap.size + 1, 0, none⟩) (Below.heap_setCell (W.setCell ⟨w.heap.size + 1, 0, none⟩ (.int .i64 0)) ⟨w.heap.size + 1 + 1, 0, none⟩ (.bool false) _ (by show w.heap.size + 1 ≠ w.heap.size + 1 + 1; omega))).trans u1
    have u4 := World.cell?_setCell_same' (W.setCell ⟨w.heap.size + 1, 0, none⟩ (.int .i64 0)) ⟨w.heap.size + 1 + 1, 0, none⟩ (.bool false) (by rw [u2]; rfl)
    have hK' := ((KeepsOthers.setCell W ⟨w.heap.size + 1, 0, none⟩ (.int .i64 0)).trans (KeepsOthers.setCell _ ⟨w.heap.size + 1 + 1, 0, none⟩ (.bool false))).same D _ hK rfl
    refine ⟨by simp, .inl ⟨_, _, rfl, run_takeDeferred hK', ?_⟩⟩
    have hc5 := cell_kept u3 (grownBy_putObj' _ D (.deferred none)) (fun r e => by cases e; exact ⟨_, hK', rfl⟩)
    have hc6 := cell_kept u4 (grownBy_putObj' _ D (.deferred none)) (fun r e => by cases e; exact ⟨_, hK', rfl⟩)
    have hno : ownW x.puts nn L = none := by
      rw [ownW_skip (K := 0) (Nat.zero_le _) fun j _ hj => by rw [← hKK j hj]; exact hne j (mem_upto (Nat.le_refl _) (by omega) hj)]
      rfl
    rw [hno]
    refine ⟨_, ?_, rfl, ((hB.setCell (p := ⟨w.heap.size + 1, 0, none⟩) (by show w.heap.size ≤ w.heap.size + 1; omega) _).setCell (p := ⟨w.heap.size + 1 + 1, 0, none⟩) (by show w.heap.size ≤ w.heap.size + 1 + 1; omega) _).trans (belowK_b (w := w) (Nat.le_refl _) _ D _ _ (by omega) hK' rfl rfl)⟩
    simp [results, Try.f61, go_sem, hc5, hc6]
  case stop =>
    rintro D c pre W hD ⟨k, hk, rfl⟩ ⟨⟨rfl, pre', j, v, hpre, hno, hv, hc1, hc2⟩, hB⟩ hK
    gi_wp2
    refine ⟨by simp, .inl ⟨_, _, rfl, run_takeDeferred hK, ?_⟩⟩
    have hc5 := cell_kept hc1 (grownBy_putObj' _ D (.deferred none)) (fun r e => by cases e; exact ⟨_, hK, rfl⟩)
    have hc6 := cell_kept hc2 (grownBy_putObj' _ D (.deferred none)) (fun r e => by cases e; exact ⟨_, hK, rfl⟩)
    have hk1 : pre'.length + 1 = k := by have := congrArg List.length hpre; rw [upto_length, List.length_append] at this; simp at this; omega
    subst hk1
    rw [upto_succ] at hpre
    obtain ⟨hp1, hp2⟩ := List.append_inj' hpre rfl
    have hj : j = L - 1 - pre'.length := by injection hp2 with hp2; rw [← hp2]; rfl
    have hyes : ownW x.puts nn L = some v := by
      rw [ownW_skip (K := j + 1) (by omega) fun i h3 h4 => by
        rw [← hKK i h4]
        apply hno i
        rw [← hp1]
        exact mem_upto (by omega) (by omega) h4]
      show (gt x.puts nn ((j : Int) + 1)).or _ = _
      rw [← hKK j (by omega), hv]
      rfl
    rw [hyes]
    refine ⟨_, ?_, rfl, hB.trans (belowK_b (w := w) (Nat.le_refl _) W D _ _ (by omega) hK rfl rfl)⟩
    simp [results, Try.f61, go_sem, hc5, hc6]
theorem own_c (w : World) {g : Nat → Prop} {b : Nat} {x : Tx} {Lf : List Int} {rv pv lv : Value} {ms : List Mp} (H : TX w g b x Lf rv pv lv ms) (h0 : ms ≠ []) (hm : ms.length ≤ 1000000) (nn : Int) :
    Calls Try.prog 61 #[.pointer (some ⟨b, 0, none⟩), .int .i64 nn] w fun e W' => e = .returned (.tuple #[.int .i64 ((ownW x.puts nn ms.length).getD 0), .bool (ownW x.puts nn ms.length).isSome]) ∧ Below w.heap.size w W' :=
  callsIn_wide.1 (own_in Fence.wide 3 trivial trivial trivial rfl (Nat.le_refl _) w H h0 hm nn)
end Go.Proofs.Ytjoifodjbdbicaa.PI
