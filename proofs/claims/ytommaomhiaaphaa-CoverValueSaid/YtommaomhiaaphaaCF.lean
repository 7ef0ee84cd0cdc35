/- slices.Repeat of one pattern of any value. -/
import Derived.Test.YtommaomhiaaphaaCE
import Derived.Laws.CopyOwn
import Derived.OwnWalk
import Derived.StillTailTactics
import Derived.IntWalk
import Derived.Deep.RegionLaw
namespace Go.Proofs.Ytommaomhiaaphaa.CF
open Go.RowKit Go.Proofs.Ytommaomhiaaphaa.CA Go.Proofs.Ytommaomhiaaphaa.CB Go.Proofs.Ytommaomhiaaphaa.CC Go.Proofs.Ytommaomhiaaphaa.CD Go.Proofs.Ytommaomhiaaphaa.CE
set_option linter.unusedVariables false
set_option maxRecDepth 100000
variable {S : Nat → Prop}

theorem mul64_c (c : Nat) (hc : c ≤ 4) (w : World) : Calls Try.prog 96 #[.int .u64 1, .int .u64 (c : Int)] w fun e w' => e = .returned (.tuple #[.int .u64 0, .int .u64 (c : Int)]) ∧ w = w' := by
  have : c = 0 ∨ c = 1 ∨ c = 2 ∨ c = 3 ∨ c = 4 := by omega
  rcases this with rfl | rfl | rfl | rfl | rfl
  all_goals
    go_enter Try.func96, Try.ntmps96
    go_wp2
    go_ret2
    exact ⟨rfl, rfl⟩
theorem mul_c (c : Nat) (hc : c ≤ 4) (w : World) : Calls Try.prog 82 #[.int .u64 1, .int .u64 (c : Int)] w fun e w' => e = .returned (.tuple #[.int .u64 0, .int .u64 (c : Int)]) ∧ w = w' := by
  have C0 := fun w => mul64_c c hc w
  go_enter Try.func82, Try.ntmps82
  go_wp2_with (go_at_call 96; refine (C0 _).mono ?_; rintro e w1 ⟨rfl, rfl⟩)
  go_ret2
  exact ⟨rfl, rfl⟩

theorem infoN : (Try.prog.info? 38).map (fun i => (i.zero, i.size, i.bytes)) = some (some (.agg #[.int .i64 0, .string ⟨#[]⟩, .int .i64 0, .int .i64 0, .slice none 0 0, .slice none 0 0]), 6, 88) := by kernel_rfl
/-! ## copy of elements of six cells -/
theorem run_copy6 {P : Program} (w : World) (dT sT ty elem : TypeId) (g o dLen dCap : Nat) (a : Addr) (sLen sCap : Nat) (cur : Array Value) (t : TypeId) (cs : List Value) (m : Nat) (hm : Nat.min sLen dLen = m)
    (hu : P.underlying dT = some (.slice elem)) (hs : (P.info? elem).map (·.size) = some 6)
    (hg : w.heap[g]? = some (.cells cur t (0, 0))) (hn : cs.length = m * 6)
    (hsrc : ∀ j v, cs[j]? = some v → w.cell? (a.add j) = some v) (hfit : o + cs.length ≤ cur.size) (h1 : ∀ v ∈ cs, v.oneCell' = true) :
    (Builtin.copy_ #[dT, sT] ty #[.slice (some ⟨g, o, none⟩) dLen dCap, .slice (some a) sLen sCap]).run P w =
      .ok (goInt m) (w.setRow g (cur.toList.take o ++ cs ++ cur.toList.drop (o + cs.length)).toArray) := by
  have hl := run_loadCells_list (P := P) w a cs hsrc
  have hst := run_storeCells_at P g o t cs 0 cur w hg (by simpa using hfit) h1
  cases hq : P.info? elem with
  | none => simp [hq] at hs
  | some i =>
    have hi : i.size = 6 := by simpa [hq] using hs
    simp [Builtin.copy_, run_underlying hu, Builtin.lenOf, Builtin.firstCells, sizeOf, typeInfo, hq, hi, hm, ← hn, hl, hst]
theorem wpList_copy6 {P : Program} {w : World} {ops : Array Oper} {rest : List Oper} {o : Oper} {a : Act} {Q : Exit → Act → World → Prop} (hgd : o.guard = none) (d s : Operand) (dT sT : TypeId)
    (ho : o.op = .call { callee := .builtin .copy, args := #[d, s], argTypes := #[dT, sT] }) (elem : TypeId) (hu : P.underlying dT = some (.slice elem)) (hsz : (P.info? elem).map (·.size) = some 6)
    (g off dLen dCap : Nat) (ad : Addr) (sLen sCap : Nat) (hd : a.eval d = .slice (some ⟨g, off, none⟩) dLen dCap) (hs : a.eval s = .slice (some ad) sLen sCap)
    (cur : Array Value) (t : TypeId) (hg : w.heap[g]? = some (.cells cur t (0, 0))) (cs : List Value) (m : Nat) (hm : Nat.min sLen dLen = m) (hn : cs.length = m * 6)
    (hsrc : ∀ j v, cs[j]? = some v → w.cell? (ad.add j) = some v) (hfit : off + cs.length ≤ cur.size) (h1 : ∀ v ∈ cs, v.oneCell' = true) (B : Nat) (w0 : World) (hb : Below B w0 w) (hBg : B ≤ g)
    (h : ∀ w' cur', Hid (w'.heap[g]? = some (.cells cur' t (0, 0)) ∧ cur'.size = cur.size ∧ cur'.toList = cur.toList.take off ++ (cs ++ cur.toList.drop (off + cs.length))) → Hid (Below B w0 w') → wpList P ops Q rest (a.put o.dst (goInt m)) w') : wpList P ops Q (o :: rest) a w := by
  refine wpList_plain hgd fun K hK => ?_
  have hrun := run_copy6 (P := P) w dT sT o.type elem g off dLen dCap ad sLen sCap cur t cs m hm hu hsz hg hn hsrc hfit h1
  unfold Oper.wp
  simp [execOp, ho, resolve, invoke, builtin, hd, hs, hrun, Result.andThen]
  refine hK _ _ (h _ _ (Lib.hid ⟨setRow_heap w g _ _ t _ hg, ?_, by simp⟩) (Lib.hid (below_setRow hb hBg _)))
  have : cur.toList.length = cur.size := by simp
  simp; omega

theorem step_copy6 {P : Program} {w : World} {ops : Array Oper} {o : Oper} {a : Act} {K : Act → World → Prop} {Q : Exit → Act → World → Prop} {E : Prop} (hgd : o.guard = none) (d s : Operand) (dT sT : TypeId)
    (ho : o.op = .call { callee := .builtin .copy, args := #[d, s], argTypes := #[dT, sT] }) (elem : TypeId) (hu : P.underlying dT = some (.slice elem)) (hsz : (P.info? elem).map (·.size) = some 6)
    (g off dLen dCap : Nat) (ad : Addr) (sLen sCap : Nat) (hd : a.eval d = .slice (some ⟨g, off, none⟩) dLen dCap) (hs : a.eval s = .slice (some ad) sLen sCap)
    (cur : Array Value) (t : TypeId) (hg : w.heap[g]? = some (.cells cur t (0, 0))) (cs : List Value) (m : Nat) (hm : Nat.min sLen dLen = m) (hn : cs.length = m * 6)
    (hsrc : ∀ j v, cs[j]? = some v → w.cell? (ad.add j) = some v) (hfit : off + cs.length ≤ cur.size) (h1 : ∀ v ∈ cs, v.oneCell' = true) (B : Nat) (w0 : World) (hb : Below B w0 w) (hBg : B ≤ g)
    (h : ∀ w' cur', Hid (w'.heap[g]? = some (.cells cur' t (0, 0)) ∧ cur'.size = cur.size ∧ cur'.toList = cur.toList.take off ++ (cs ++ cur.toList.drop (off + cs.length))) → Hid (Below B w0 w') → K (a.put o.dst (goInt m)) w') :
    if Region.wanted o (yielded ops a.tmps) = true then Oper.wp P o a w K Q else E := by
  have hw : Region.wanted o (yielded ops a.tmps) = true := by simp [Region.wanted, hgd]
  rw [if_pos hw]
  have hrun := run_copy6 (P := P) w dT sT o.type elem g off dLen dCap ad sLen sCap cur t cs m hm hu hsz hg hn hsrc hfit h1
  unfold Oper.wp
  simp [execOp, ho, resolve, invoke, builtin, hd, hs, hrun, Result.andThen]
  refine h _ _ (Lib.hid ⟨setRow_heap w g _ _ t _ hg, ?_, by simp⟩) (Lib.hid (below_setRow hb hBg _))
  have : cur.toList.length = cur.size := by simp
  simp; omega

def rep (j : Nat) : List Value := nrow (List.replicate j anyNd) (List.replicate j (.slice none 0 0))
theorem rep_len (j : Nat) : (rep j).length = j * 6 := by unfold rep; rw [nrow_len _ _ (by simp)]; simp
theorem rep_add (i j : Nat) : rep (i + j) = rep i ++ rep j := by
  unfold rep
  rw [← List.replicate_append_replicate, ← List.replicate_append_replicate, nrow_app _ _ _ _ (by simp)]
theorem has_rep (w : World) (S : Nat → Prop) : ∀ j, HasNs w S (List.replicate j anyNd) (List.replicate j (.slice none 0 0))
  | 0 => trivial
  | j + 1 => ⟨⟨[], ⟨none, 0, rfl, Nat.le_refl _, .inl rfl⟩, trivial⟩, has_rep w S j⟩
theorem rep_one (j : Nat) : ∀ u ∈ rep j, u.oneCell' = true := by
  have : ∀ (j : Nat) u, u ∈ nrow (List.replicate j anyNd) (List.replicate j (.slice none 0 0)) → u.oneCell' = true := by
    intro j
    induction j with
    | zero => intro u hu; cases hu
    | succ j ih =>
      intro u hu
      rcases List.mem_append.1 (show u ∈ ncells anyNd (.slice none 0 0) ++ nrow (List.replicate j anyNd) (List.replicate j (.slice none 0 0)) from hu) with hu | hu
      · simp only [ncells, List.mem_cons, List.not_mem_nil, or_false] at hu
        rcases hu with rfl | rfl | rfl | rfl | rfl | rfl <;> rfl
      · exact ih u hu
  exact this j
theorem own_block {w : World} {base : Nat} {e : TypeId} {g n cap : Nat} {xs : List Value} (h : w.ownsRow base e 6 (.slice (some ⟨g, 0, none⟩) n cap) n xs) : ∃ cur, w.heap[g]? = some (.cells cur e (0, 0)) ∧ cur.size = cap * 6 := by
  rcases h.2 with ⟨hv, _⟩ | ⟨g', cap', cur, hv, hb, hg, hn, hcm, hcs, htake⟩
  · cases hv
  · cases hv
    exact ⟨cur, hg, hcs⟩
def RowRes (w : World) (S : Nat → Prop) (l : List Nd) (e : Ending) (w' : World) : Prop := ∃ v, e = .returned v ∧ RowN w' (Nw w S) v l ∧ Below w.heap.size w w'
/-- Behind a copy: so many patterns of any value, and the last ones too. -/
theorem take_next {cur cur' : Array Value} {j m : Nat} (ht : cur.toList.take (j * 6) = rep j) (hc : (j + m) * 6 ≤ cur.size) (h : cur'.toList = cur.toList.take (j * 6) ++ (rep m ++ cur.toList.drop (j * 6 + (rep m).length))) : cur'.toList.take ((j + m) * 6) = rep (j + m) := by
  rw [h, ht, ← List.append_assoc, ← rep_add, List.take_append_of_le_length (by rw [rep_len]; exact Nat.le_refl _), List.take_of_length_le (by rw [rep_len]; exact Nat.le_refl _)]
set_option maxHeartbeats 1000000 in
theorem repeat_c (c : Nat) (hc : c ≤ 4) (xb : Nat) (w : World) (hx : xb < w.heap.size) (hsrc : ∀ (j : Nat) u, (rep 1)[j]? = some u → w.cell? ⟨xb, 0 + j, none⟩ = some u) :
    Calls Try.prog 73 #[.slice (some ⟨xb, 0, none⟩) 1 1, .int .i64 (c : Int)] w (RowRes w S (List.replicate c anyNd)) := by
  have C0 := fun w => mul_c c hc w
  have HS := Lib.hid hsrc
  clear hsrc
  obtain ⟨i0, hi, hz, hs, hby⟩ := info_parts infoN
  have hsz : (Try.prog.info? 38).map (·.size) = some 6 := by rw [hi]; simp [hs]
  have HI := Lib.hid (show Try.prog.info? 38 = some i0 ∧ i0.zero = some (.agg #[.int .i64 0, .string ⟨#[]⟩, .int .i64 0, .int .i64 0, .slice none 0 0, .slice none 0 0]) ∧ i0.size = 6 ∧ i0.bytes = 88 ∧ (Try.prog.info? 38).map (·.size) = some 6 from ⟨hi, hz, hs, hby, hsz⟩)
  clear hi hz hs hby hsz
  obtain ⟨m0, hm0⟩ : ∃ m0, Hid (Nat.min 1 c = m0) := ⟨_, Lib.hid rfl⟩
  have hm0' : m0 ≤ 1 ∧ m0 ≤ c ∧ (0 < c → 1 ≤ m0) := by have h := hm0.out; simp only [Nat.min_def] at h; split at h <;> omega
  obtain ⟨k1, k2, k3⟩ := hm0'
  have HSR : Hid (∀ w', Below w.heap.size w w' → ∀ (j : Nat) v, (rep m0)[j]? = some v → w'.cell? ((⟨xb, 0, none⟩ : Addr).add j) = some v) := Lib.hid fun w' hb j v hj => by
    rw [Addr.add_lit]
    have : m0 = 0 ∨ m0 = 1 := by omega
    rcases this with rfl | rfl
    · exact absurd hj (by simp [rep, nrow])
    · exact (hb.cell (p := ⟨xb, 0 + j, none⟩) hx).trans (HS.out j v hj)
  have hd1 : decide ((9223372036854775807 : Int) < (c : Int)) = false := by simp; omega
  go_enter Try.func73, Try.ntmps73
  go_wp2_with (first | (go_at_call 82; refine (C0 _).mono ?_; rintro e w1 ⟨rfl, rfl⟩) | (refine wpList_make_full _ rfl (.tmp 29) (.tmp 29) 22 rfl w.heap.size 38 i0 _ 6 Try.underlying22 HI.out.1 HI.out.2.1 HI.out.2.2.1 .i64 .i64 _ _ c rfl rfl rfl rfl (by rw [HI.out.2.2.2.1]; omega) (by unfold maxLen; omega) (Nat.le_refl _) ?_; intro w1 hown hgrow; obtain ⟨cur0, hg0, hcur0⟩ := own_block hown; have HG0 := Lib.hid hg0; have HB0 := Lib.hid (show Below w.heap.size w w1 from ⟨hgrow.os, hgrow.tape, hgrow.output, hgrow.size, fun k hk => hgrow.block k hk (by simp)⟩); clear hg0 hown hgrow) | (refine wpList_copy6 rfl (.tmp 31) (.tmp 32) 22 22 rfl 38 Try.underlying22 HI.out.2.2.2.2 _ 0 c c ⟨xb, 0, none⟩ 1 1 rfl rfl cur0 38 HG0.out (rep m0) m0 hm0.out (rep_len m0) (HSR.out _ HB0.out) (by rw [rep_len]; omega) (rep_one m0) w.heap.size w HB0.out (Nat.le_refl _) ?_; intro w2 cur1 HG1 HB1))
  obtain ⟨g, hg⟩ : ∃ g, Hid (w.heap.size = g) := ⟨_, Lib.hid rfl⟩
  have HK1 : Hid (w2.heap[g]? = some (.cells cur1 38 (0, 0)) ∧ c * 6 ≤ cur1.size ∧ cur1.toList.take (m0 * 6) = rep m0) := Lib.hid ⟨by rw [← hg.out]; exact HG1.out.1, by rw [HG1.out.2.1]; omega, by
    have := take_next (cur := cur0) (cur' := cur1) (j := 0) (m := m0) (by simp [rep, nrow]) (by omega) (by rw [HG1.out.2.2, Nat.zero_mul])
    simpa using this⟩
  clear HG1 HG0 hcur0
  go_loopg [8] c (fun ga jv wr => ∃ (j : Nat) (cur : Array Value), j ≤ c ∧ c ≤ j + ga ∧ (0 < c → 1 ≤ j) ∧ jv = .int .i64 (j : Int) ∧ Hid (wr.heap[g]? = some (.cells cur 38 (0, 0)) ∧ c * 6 ≤ cur.size ∧ cur.toList.take (j * 6) = rep j) ∧ Hid (Below w.heap.size w wr))
  case atStart => exact ⟨m0, cur1, k2, by omega, k3, rfl, HK1, HB1⟩
  case round =>
    obtain ⟨j, cur, hj, hga, hj1, rfl, HK, HX⟩ := hrel
    clear HK1 HB1 HB0
    by_cases hlt : j < c
    · obtain ⟨ga, rfl⟩ : ∃ ga, gk = ga + 1 := ⟨gk - 1, by omega⟩
      obtain ⟨m, hm⟩ : ∃ m, Hid (Nat.min j (c - j) = m) := ⟨_, Lib.hid rfl⟩
      have hm' : 1 ≤ m ∧ m ≤ j ∧ j + m ≤ c := by have h := hm.out; simp only [Nat.min_def] at h; split at h <;> omega
      obtain ⟨m1, m2, m3⟩ := hm'
      have hT : (j : Int) < (c : Int) := by omega
      have hT0 : (0 : Int) ≤ (j : Int) := by omega
      have hT1 : (j : Int) ≤ (c : Int) := by omega
      have hT3 : IntKind.i64.wrap ((j : Int) + (m : Int)) = (j : Int) + (m : Int) := IntWalk.i64_in _ (by omega)
      have HT3 := Lib.hid hT3
      clear hT3
      have HSRC : Hid (∀ (k : Nat) v, (rep m)[k]? = some v → wr.drew.cell? ((⟨g, 0, none⟩ : Addr).add k) = some v) := Lib.hid fun k v hk => by
        rw [Addr.add_lit, Nat.zero_add]
        show wr.cell? ⟨g, k, none⟩ = some v
        rw [cell_of_row wr g k cur _ (0, 0) HK.out.1]
        have hl := (List.getElem?_eq_some_iff.1 hk).1
        rw [rep_len] at hl
        have e : (rep j)[k]? = some v := by
          rw [show j = m + (j - m) from by omega, rep_add, List.getElem?_append_left (by rw [rep_len]; exact hl)]; exact hk
        rw [← HK.out.2.2, List.getElem?_take, if_pos (by omega)] at e
        simpa using e
      go_wp2_with fail
      have hne : ¬ c = j := by omega
      have hcs := HK.out.2.1
      have HBX : Hid (Below w.heap.size w wr.drew) := Lib.hid (HX.out.trans ⟨rfl, rfl, rfl, Nat.le_refl _, fun _ _ => rfl⟩)
      rw [hg.out]
      go_region_law (refine step_copy6 rfl (.tmp 41) (.tmp 44) 22 22 rfl 38 Try.underlying22 HI.out.2.2.2.2 g (j * 6) (c - j) (c - j) ⟨g, 0, none⟩ j c (by simp [Act.eval, Act.put]) (by simp [Act.eval, Act.put]) cur 38 HK.out.1 (rep m) m hm.out (rep_len m) HSRC.out (by rw [rep_len]; omega) (rep_one m) w.heap.size w HBX.out (by rw [hg.out]; exact Nat.le_refl _) ?_; intro w3 cur3 HG3 HB3)
      rw [HT3.out]
      go_simp
      rw [← hg.out]
      go_wp2
      go_roundg ga
      case rel => exact ⟨j + m, cur3, by omega, by omega, by omega, by go_num, Lib.hid ⟨HG3.out.1, by rw [HG3.out.2.1]; omega, take_next HK.out.2.2 (by omega) HG3.out.2.2⟩, HB3⟩
      case measure => omega
    · have hjc : j = c := by omega
      subst hjc
      go_wp2_with fail
      go_ret
      refine ⟨_, rfl, ⟨List.replicate j (.slice none 0 0), ⟨some ⟨w.heap.size, 0, none⟩, j, by simp, by simp, .inr ⟨g, 0, by rw [hg.out], ⟨.inr (by rw [hg.out]; exact Nat.le_refl _), ?_⟩, fun k u hk => ?_⟩⟩, has_rep _ _ _⟩, HX.out⟩
      · exact (Array.getElem?_eq_some_iff.1 HK.out.1).1
      · rw [Nat.zero_add, cell_of_row wr g k cur _ (0, 0) HK.out.1]
        have hl := (List.getElem?_eq_some_iff.1 hk).1
        have hk : (rep j)[k]? = some u := hk
        have hl : k < (rep j).length := (List.getElem?_eq_some_iff.1 hk).1
        rw [rep_len] at hl
        rw [← HK.out.2.2, List.getElem?_take, if_pos (by omega)] at hk
        simpa using hk
end Go.Proofs.Ytommaomhiaaphaa.CF
