/- What is reached is collected. -/
import Derived.Test.YtphebogjmbaboaaDoorIN
namespace Go.Proofs.YtphebogjmbaboaaDoor.IQ
open Go.RowKit Go.Proofs.YtphebogjmbaboaaDoor.RG Go.Proofs.YtphebogjmbaboaaDoor.RB Go.Proofs.YtphebogjmbaboaaDoor.RM Go.Proofs.YtphebogjmbaboaaDoor.HA Go.Proofs.YtphebogjmbaboaaDoor.HB Go.Proofs.YtphebogjmbaboaaDoor.HC Go.Proofs.YtphebogjmbaboaaDoor.HD Go.Proofs.YtphebogjmbaboaaDoor.HE Go.Proofs.YtphebogjmbaboaaDoor.HN Go.Proofs.YtphebogjmbaboaaDoor.IJ Go.Proofs.YtphebogjmbaboaaDoor.IK Go.Proofs.YtphebogjmbaboaaDoor.IL Go.Proofs.YtphebogjmbaboaaDoor.IM Go.Proofs.YtphebogjmbaboaaDoor.IN Go.Proofs.YtphebogjmbaboaaDoor.K1
set_option linter.unusedVariables false
set_option maxRecDepth 100000
set_option maxRecDepth 100000

theorem col_end {w w1 w2 W : World} {p x m o N t m2 : Nat} {h : Hp} {src : List Nat} (H : HP w2 p x m o N h) (hf : HF w2 t o m2 N (gone h src)) (hb : Below w.heap.size w w1) (hon : OnS (fun b => b = o) w1 w2) (hm2 : w.heap.size ≤ m2) (hlt : p < w.heap.size ∧ x < w.heap.size ∧ m < w.heap.size ∧ o < w.heap.size) (hW : ((((((w2.setCell ⟨p, 0, none⟩ (.slice (some ⟨o, 0, none⟩) N N)).setCell ⟨p, 1, none⟩ (.int .i64 (used (gone h src)))).setCell ⟨p, 2, none⟩ (.map (some m2))).setCell ⟨p, 3, none⟩ (.slice (some ⟨x, 0, none⟩) N N)).alloc (.cells #[.slice (some ⟨o, 0, none⟩) N N, .int .i64 (used (gone h src)), .map (some m2)] 65)).drew) = W) :
    HP W p o m2 x N (gone h src) ∧ OnS (fun b => b = p ∨ b = o) w W := by
  have hsz : w.heap.size ≤ w2.heap.size := Nat.le_trans hb.size hon.size
  have hWo : OnS (fun b => b = p) w2 W := by rw [← hW]; exact ((((OnS.cell _ _ _).trans (OnS.cell _ _ _)).trans (OnS.cell _ _ _)).trans (OnS.cell _ _ _)).trans (OnS.of (bnext (balloc _ _) (bdr _)))
  have hblk : ∀ k, k < w2.heap.size → k ≠ p → W.heap[k]? = w2.heap[k]? := fun k hk hn => hWo.block k hk hn
  have hbk : Bk W p #[.slice (some ⟨o, 0, none⟩) N N, .int .i64 (used (gone h src)), .map (some m2), .slice (some ⟨x, 0, none⟩) N N] 68 := by
    rw [← hW]
    exact ((((H.blk.set 0 _).set 1 _).set 2 _).set 3 _).alloc _
  have n1 := H.ne
  have n2 := hf.ne
  obtain ⟨L, r1, r2, r3⟩ := hf.ws
  obtain ⟨L', r4, r5, _⟩ := H.ws
  refine ⟨⟨hbk, ⟨L, (hblk o r1.lt (by omega)).trans r1, r2, r3⟩, (hblk m2 hf.set.lt (by omega)).trans hf.set, ⟨L', (hblk x r4.lt (by omega)).trans r4, r5⟩, ⟨by omega, by omega, by omega, by omega, by omega, by omega⟩, hf.fit, hf.good⟩, ?_⟩
  exact ⟨hWo.os.trans (hon.os.trans hb.os), hWo.tape.trans (hon.tape.trans hb.tape), hWo.output.trans (hon.output.trans hb.output), Nat.le_trans hsz hWo.size, fun k hk hn => (hblk k (by omega) (by omega)).trans ((hon.block k (Nat.lt_of_lt_of_le hk hb.size) (by omega)).trans (hb.block k hk))⟩
theorem row_onp {w W : World} {p o x N m2 u : Nat} {o1 : Obj} {v : Value} {l : List Int} (h : RowI w v l) (hW : ((((((w.setCell ⟨p, 0, none⟩ (.slice (some ⟨o, 0, none⟩) N N)).setCell ⟨p, 1, none⟩ (.int .i64 u)).setCell ⟨p, 2, none⟩ (.map (some m2))).setCell ⟨p, 3, none⟩ (.slice (some ⟨x, 0, none⟩) N N)).alloc o1).drew) = W) (hn : ∀ b, v.ownBlock = some b → b ≠ p) : RowI W v l := by
  obtain ⟨ao, cap, rfl, hc, h⟩ := row_has h
  apply has_row
  refine ⟨ao, cap, rfl, hc, ?_⟩
  rcases h with rfl | ⟨b, off, rfl, hlt, hcells⟩
  · exact .inl rfl
  · have hb := hn b rfl
    have hWo : OnS (fun b => b = p) w W := by rw [← hW]; exact ((((OnS.cell _ _ _).trans (OnS.cell _ _ _)).trans (OnS.cell _ _ _)).trans (OnS.cell _ _ _)).trans (OnS.of (bnext (balloc _ _) (bdr _)))
    exact .inr ⟨b, off, rfl, Nat.lt_of_lt_of_le hlt hWo.size, fun j hj => (World.cell?_of_block (hWo.block b hlt hb)).trans (hcells j hj)⟩
set_option maxHeartbeats 1600000 in
theorem collect_c (w : World) (p x m o N : Nat) (h : Hp) (H : HP w p x m o N h) (hw : ∀ b, b ∈ h → b.1 ≠ 201 → ∀ z, z ∈ b.2 → z % 2 = 0 → ∃ s, blk h z = some s) (v : Value) (rs : List Int) (hv : RowI w v rs) (hl : rs.length ≤ 1000000) (hm : rs.all (mayW h) = true) (hox : ∀ b, v.ownBlock = some b → b ≠ o) :
    Calls Tryd.prog 30 #[.pointer (some ⟨p, 0, none⟩), v] w fun e w' => ∃ (k m2 : Nat) (tv : Value) (src : List Nat), e = .returned (.tuple #[tv, .int .i64 0]) ∧ (src = scan h (visits h [] rs) k ∧ src.length = k ∧ Ok h src) ∧ RowI w' tv (rs.map (fwd h src)) ∧ HP w' p o m2 x N (gone h src) ∧ w.heap.size ≤ m2 ∧ OnS (fun b => b = p ∨ b = o) w w' := by
  have hr : ∀ z, z ∈ rs → z % 2 = 0 → ∃ s, blk h z = some s := fun z hz h0 => by
    have := List.all_eq_true.1 hm z hz
    unfold mayW at this
    simp only [Bool.or_eq_true, decide_eq_true_eq] at this
    rcases this with h1 | h1
    · exact absurd h0 h1
    · exact Option.isSome_iff_exists.1 h1
  have HAM := Lib.hid (allmay_c w p x m o N h H v rs hv hl)
  rw [hm] at HAM
  have HMD := Lib.hid (fun w1 (hb : Below w.heap.size w w1) => moved_c w1 p x m o N h (H.keep hb) hw v rs (hv.keep hb) hl hr hox)
  have HNE := Lib.hid H.ne
  have HLT := Lib.hid H.lt
  have lp := H.lt.1
  have HBP := Lib.hid (fun w1 (hb : Below w.heap.size w w1) => (H.keep hb).blk)
  obtain ⟨ao, cap, rfl, _⟩ := hv.val
  obtain ⟨n, hn⟩ : ∃ n, Hid (rs.length = n) := ⟨_, Lib.hid rfl⟩
  rw [hn.out] at HAM HMD ⊢
  clear H hw hv hl hm hox hr
  go_enter Tryd.func30, Tryd.ntmps30
  go_wp2_with fail
  refine HAM.out.mono ?_
  rintro e w1 ⟨rfl, hb⟩
  have HB1 := Lib.hid hb
  clear hb
  go_wp2_with fail
  refine (HMD.out _ HB1.out).mono ?_
  rintro e w2 ⟨k, t, m2, tv, src, rfl, hsrc, htv, hown, hp, hf, hm2, hon⟩
  have HP2 := Lib.hid hp
  have HF2 := Lib.hid hf
  have HS2 := Lib.hid hsrc
  have HM2 := Lib.hid hm2
  have HO2 := Lib.hid hon
  have HV2 := Lib.hid htv
  have HW2 := Lib.hid hown
  have k0 := hp.blk.cell 0 _ rfl
  have k1 := hp.blk.cell 1 _ rfl
  have k2 := hp.blk.cell 2 _ rfl
  have k3 := hp.blk.cell 3 _ rfl
  have q0 := hp.blk.free 0
  have q1 := hp.blk.free 1
  have q2 := hp.blk.free 2
  have q3 := hp.blk.free 3
  have lp2 := hp.blk.lt
  obtain ⟨ta, tc, htl, _⟩ := htv.val
  subst htl
  clear hp hf hsrc hm2 hon htv hown
  go_wp2_with fail
  go_region_with (fail)
  all_goals
    obtain ⟨W, hW⟩ : ∃ W, ((((((w2.setCell ⟨p, 0, none⟩ (.slice (some ⟨o, 0, none⟩) N N)).setCell ⟨p, 1, none⟩ (.int .i64 (used (gone h src)))).setCell ⟨p, 2, none⟩ (.map (some m2))).setCell ⟨p, 3, none⟩ (.slice (some ⟨x, 0, none⟩) N N)).alloc (.cells #[.slice (some ⟨o, 0, none⟩) N N, .int .i64 (used (gone h src)), .map (some m2)] 65)).drew) = W := ⟨_, rfl⟩
    rw [hW]
    have HE := Lib.hid (col_end HP2.out HF2.out HB1.out HO2.out (by have := HM2.out; have := HB1.out.size; omega) HLT.out hW)
    have HRW := Lib.hid (row_onp (w := w2) HV2.out hW (fun b hb => by
      have h1 := HW2.out b hb
      have h2 := HLT.out
      have h3 := HB1.out.size
      omega))
    have HRW2 := HRW.out
    rw [List.length_map] at HRW2
    clear hW k0 k1 k2 k3 q0 q1 q2 q3 lp2
    go_wp2_with fail
    go_ret2
    exact ⟨k, m2, _, src, rfl, HS2.out, HRW2, HE.out.1, Nat.le_trans HB1.out.size HM2.out, HE.out.2⟩
end Go.Proofs.YtphebogjmbaboaaDoor.IQ
