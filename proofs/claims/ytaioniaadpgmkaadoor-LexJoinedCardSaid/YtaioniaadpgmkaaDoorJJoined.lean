/- LexJoined: the walk. -/
import Derived.Test.YtaioniaadpgmkaaDoorYV
import Derived.Test.YtaioniaadpgmkaaDoorD
import Derived.Test.YtaioniaadpgmkaaDoorTL
import Derived.Test.YtaioniaadpgmkaaDoorTG
import Derived.Test.YtaioniaadpgmkaaDoorS2
import Derived.Test.YtaioniaadpgmkaaDoorYK
namespace Go.Proofs.YtaioniaadpgmkaaDoor.lexJoined
open Go.RowKit Go.Maps
open Go.Proofs.YtaioniaadpgmkaaDoor.P Go.Proofs.YtaioniaadpgmkaaDoor.A Go.Proofs.YtaioniaadpgmkaaDoor.S2 Go.Proofs.YtaioniaadpgmkaaDoor.V Go.Proofs.YtaioniaadpgmkaaDoor.YT Go.Proofs.YtaioniaadpgmkaaDoor.YV Go.Proofs.YtaioniaadpgmkaaDoor.YK Go.Proofs.YtaioniaadpgmkaaDoor.TK Go.Proofs.YtaioniaadpgmkaaDoor.TJ Go.Proofs.YtaioniaadpgmkaaDoor.TO Go.Proofs.YtaioniaadpgmkaaDoor.TL Go.Proofs.YtaioniaadpgmkaaDoor.TG Go.Proofs.YtaioniaadpgmkaaDoor.D
set_option linter.unusedVariables false

theorem neg_mod (n k : Int) (h : n < 0) (hk : 0 < k) : ∃ m : Nat, -(n + 1).tmod k = (m : Int) ∧ (m : Int) < k := by
  have e : (n + 1).tmod k = -((-(n + 1)) % k) := by
    conv => lhs; rw [← Int.neg_neg (n + 1), Int.neg_tmod, Int.tmod_eq_emod_of_nonneg (by omega)]
  have h1 := Int.emod_nonneg (-(n + 1)) (show k ≠ 0 by omega)
  have h2 := Int.emod_lt_of_pos (-(n + 1)) hk
  exact ⟨((-(n + 1)) % k).toNat, by rw [e]; omega, by omega⟩
theorem pos_mod (n k : Int) (h : 0 ≤ n) (hk : 0 < k) : ∃ m : Nat, n % k = (m : Int) ∧ (m : Int) < k := by
  have h1 := Int.emod_nonneg n (show k ≠ 0 by omega)
  have h2 := Int.emod_lt_of_pos n hk
  exact ⟨(n % k).toNat, by omega, by omega⟩
/-- The gap that was picked, where the five lie. -/
theorem gap_cell (w : World) (q : Nat) (hq : (q : Int) < 5) : ∃ G : ByteArray, Hid (G.data.toList ∈ gaps) ∧ G.size ≤ 7 ∧ Hid ((w.alloc (.cells #[.string ⟨#[32]⟩, .string ⟨#[10]⟩, .string ⟨#[9, 10, 32]⟩, .string ⟨#[10, 35, 32, 108, 101, 116, 10]⟩, .string ⟨#[32, 35, 10]⟩] 9)).cell? ⟨w.heap.size, q, none⟩ = some (.string G)) := by
  match q, hq with
  | 0, _ => exact ⟨⟨#[32]⟩, by show _ ∈ _; decide, by decide, World.cell?_alloc_at _ _ _ _ rfl⟩
  | 1, _ => exact ⟨⟨#[10]⟩, by show _ ∈ _; decide, by decide, World.cell?_alloc_at _ _ _ _ rfl⟩
  | 2, _ => exact ⟨⟨#[9, 10, 32]⟩, by show _ ∈ _; decide, by decide, World.cell?_alloc_at _ _ _ _ rfl⟩
  | 3, _ => exact ⟨⟨#[10, 35, 32, 108, 101, 116, 10]⟩, by show _ ∈ _; decide, by decide, World.cell?_alloc_at _ _ _ _ rfl⟩
  | 4, _ => exact ⟨⟨#[32, 35, 10]⟩, by show _ ∈ _; decide, by decide, World.cell?_alloc_at _ _ _ _ rfl⟩
  | q + 5, h => omega
theorem toks_either (l : List UInt8) : (∃ p e, e ≠ 0 ∧ toks l = ([], p, e)) ∨ (∃ ts, toks l = (ts, 0, 0) ∧ ts ≠ [] ∧ ts.length ≤ l.length + 1 ∧ run (l.length + 1) l 0 = .ok ts) := by
  by_cases h : (toks l).2.2 = 0
  · obtain ⟨ts, h1, _, h3⟩ := toks_ok h
    refine .inr ⟨ts, h1, ?_, toks_len h3, h3⟩
    have := (toks_good h3).1
    intro e; rw [e] at this; simp at this
  · refine .inl ⟨(toks l).2.1, (toks l).2.2, h, ?_⟩
    have e : toks l = ((toks l).1, (toks l).2.1, (toks l).2.2) := rfl
    rw [toks_bad h] at e
    exact e
theorem text_ten (s : ByteArray) : (s ++ (⟨#[10]⟩ : ByteArray)).data.toList = s.data.toList ++ [10] := by
  rw [ByteArray.data_append, Array.toList_append]
/-- Tokens by their places. -/
def tat (ts : List Tok) (j : Nat) : Tok := ts.getD j ⟨0, [], 0, 0⟩
theorem tat_lt {ts : List Tok} {j : Nat} (h : j < ts.length) : tat ts j = ts[j] := by simp [tat, List.getD, h]
/-- A token's four cells at an address. -/
def Lies (w : World) (b o : Nat) (x : Tok) : Prop :=
  w.cell? ⟨b, o, none⟩ = some (.int .i64 (x.k : Int)) ∧ w.cell? ⟨b, o + 1, none⟩ = some (.string ⟨x.t.toArray⟩) ∧ w.cell? ⟨b, o + 2, none⟩ = some (.int .i64 (x.n : Int)) ∧ w.cell? ⟨b, o + 3, none⟩ = some (.int .i64 (x.p : Int))
theorem Lies.below {w w' : World} {b o B : Nat} {x : Tok} (h : Lies w b o x) (hb : Below B w w') (hB : b < B) : Lies w' b o x :=
  ⟨(hb.cell (p := ⟨b, o, none⟩) hB).trans h.1, (hb.cell (p := ⟨b, o + 1, none⟩) hB).trans h.2.1, (hb.cell (p := ⟨b, o + 2, none⟩) hB).trans h.2.2.1, (hb.cell (p := ⟨b, o + 3, none⟩) hB).trans h.2.2.2⟩
theorem lies_of {w : World} {b o : Nat} {ts : List Tok} (HC : ∀ j (h : j < ts.length) i, i < 4 → w.cell? ⟨b, o + (4 * j + i), none⟩ = (tcell ts[j])[i]?) : ∀ j, j < ts.length → Lies w b (o + j * 4) (tat ts j) := by
  intro j hj
  rw [tat_lt hj]
  have h0 := HC j hj 0 (by decide)
  have h1 := HC j hj 1 (by decide)
  have h2 := HC j hj 2 (by decide)
  have h3 := HC j hj 3 (by decide)
  rw [show o + (4 * j + 0) = o + j * 4 from by omega] at h0
  rw [show o + (4 * j + 1) = o + j * 4 + 1 from by omega] at h1
  rw [show o + (4 * j + 2) = o + j * 4 + 2 from by omega] at h2
  rw [show o + (4 * j + 3) = o + j * 4 + 3 from by omega] at h3
  exact ⟨h0, h1, h2, h3⟩
theorem tat_left {ta tb : List Tok} {d j : Nat} (h : j < ta.length - 1) : tat (ta.dropLast ++ tb.map (shiftT d)) j = tat ta j := by
  have hj : j < (ta.dropLast ++ tb.map (shiftT d)).length := by simp; omega
  rw [tat_lt hj, tat_lt (by omega), List.getElem_append_left (by simp; omega)]
  simp
theorem tat_right {ta tb : List Tok} {d m : Nat} (hm : m < tb.length) : tat (ta.dropLast ++ tb.map (shiftT d)) (ta.length - 1 + m) = shiftT d (tat tb m) := by
  have hl : ta.dropLast.length = ta.length - 1 := by simp
  have hj : ta.length - 1 + m < (ta.dropLast ++ tb.map (shiftT d)).length := by simp; omega
  rw [tat_lt hj, tat_lt hm, List.getElem_append_right (by omega)]
  simp
/-- The copy of a token in a block of its own. -/
def Box (w : World) (b : Nat) (x : Tok) : Prop := w.heap[b]? = some (.cells #[.int .i64 (x.k : Int), .string ⟨x.t.toArray⟩, .int .i64 (x.n : Int), .int .i64 (x.p : Int)] 32 (0, 0))
theorem Box.lies {w : World} {b : Nat} {x : Tok} (h : Box w b x) : Lies w b 0 x := by unfold Box at h; unfold Lies; simp [World.cell?, h]
theorem Box.free {w : World} {b : Nat} {x : Tok} (h : Box w b x) : w.frozen? ⟨b, 3, none⟩ = false := by unfold Box at h; simp [World.frozen?, h]
theorem Box.set {w : World} {b : Nat} {x : Tok} (h : Box w b x) (p : Nat) : Box (w.setCell ⟨b, 3, none⟩ (.int .i64 (p : Int))) b ⟨x.k, x.t, x.n, p⟩ := by
  have hlt := lt_of_block h
  unfold Box at h ⊢
  have h' : w.heap[b] = .cells #[.int .i64 (x.k : Int), .string ⟨x.t.toArray⟩, .int .i64 (x.n : Int), .int .i64 (x.p : Int)] 32 (0, 0) := by simpa [Array.getElem?_eq_getElem hlt] using h
  show (w.heap.modify b _)[b]? = _
  rw [Array.getElem?_eq_getElem (by simpa using hlt), Array.getElem_modify_self, h']
  rfl
theorem wrap_in (n : Int) (h : -9223372036854775808 ≤ n ∧ n ≤ 9223372036854775807) : IntKind.i64.wrap n = n := by rw [IntKind.wrap_i64]; omega
theorem text_all (s G t : ByteArray) : (s ++ (⟨#[10]⟩ : ByteArray) ++ G ++ t).data.toList = s.data.toList ++ 10 :: (G.data.toList ++ t.data.toList) := by
  simp only [ByteArray.data_append, Array.toList_append, List.append_assoc]; rfl
theorem toks_of_run {l : List UInt8} {ts : List Tok} (hl : l.length ≤ 2000) (h : run (l.length + 1) l 0 = .ok ts) : toks l = (ts, 0, 0) := by
  unfold toks; rw [if_pos hl, h]

set_option maxRecDepth 100000 in
set_option maxHeartbeats 8000000 in
theorem walk (w : World) (a0 : ByteArray) (w0 : a0.size ≤ maxLen) (a1 : ByteArray) (w1 : a1.size ≤ maxLen) (n2 : Int) (l2 : -9223372036854775808 ≤ n2) (u2 : n2 ≤ 9223372036854775807) (hd : Dig w) :
    Calls Tryd.prog 5 #[.string a0, .string a1, .int .i64 n2] w fun e w' => e = .returned (.bool true) ∧ Below w.heap.size w w' := by
  have HD := Lib.hid hd
  clear hd
  by_cases hn2 : n2 < 0
  · obtain ⟨q, hq, hql⟩ := neg_mod n2 5 hn2 (by decide)
    go_enter Tryd.func5, Tryd.ntmps5
    go_wp2_with fail
    refine (few_any a0 _).mono ?_
    rintro x w1 ⟨⟨s, hs, rfl⟩, rfl⟩
    go_wp2_with fail
    refine (few_any a1 _).mono ?_
    rintro x w1 ⟨⟨t, ht, rfl⟩, rfl⟩
    go_wp2_with fail
    obtain ⟨G, HGm, hGs, HGc⟩ := gap_cell w q hql
    have HBG : Hid (Below w.heap.size w (w.alloc (.cells #[.string ⟨#[32]⟩, .string ⟨#[10]⟩, .string ⟨#[9, 10, 32]⟩, .string ⟨#[10, 35, 32, 108, 101, 116, 10]⟩, .string ⟨#[32, 35, 10]⟩] 9))) := (Below.refl _ _).alloc (Nat.le_refl _) _
    have HDG := Lib.hid (HD.out.below HBG.out)
    have lbG : w.heap.size < (w.alloc (.cells #[.string ⟨#[32]⟩, .string ⟨#[10]⟩, .string ⟨#[9, 10, 32]⟩, .string ⟨#[10, 35, 32, 108, 101, 116, 10]⟩, .string ⟨#[32, 35, 10]⟩] 9)).heap.size := by simp
    generalize w.alloc _ = wg at HGc HBG HDG lbG ⊢
    rcases toks_either (s.data.toList ++ [10]) with ⟨p, e, he, e1⟩ | ⟨ta, e1, ne1, la, ra⟩
    · have T1 := tokens_short (s ++ ⟨#[10]⟩) wg (by rw [ByteArray.size_append]; show s.size + 1 ≤ 2000; omega) HDG.out
      rw [text_ten, e1] at T1
      clear e1
      refine T1.mono ?_
      intro x w1 h1
      obtain ⟨ao1, c1, rfl, B1⟩ := sub_err h1
      have HB1 := Lib.hid B1
      have HD1 := Lib.hid (HDG.out.below B1)
      clear B1 h1
      have ze : ((e : Int) == 0) = false := by rw [beq_eq_false_iff_ne]; omega
      have ye : ((e : Int) != 0) = true := by rw [bne, ze]; rfl
      go_wp2_with fail
      have T2 := tokens_short t w1 (by omega) HD1.out
      rcases toks_either t.data.toList with ⟨p2, f, hf, e2⟩ | ⟨tb, e2, ne2, lb, rb⟩
      · rw [e2] at T2
        clear e2
        refine T2.mono ?_
        intro x w2 h2
        obtain ⟨ao2, c2, rfl, B2⟩ := sub_err h2
        have HB2 := Lib.hid B2
        have HD2 := Lib.hid (HD1.out.below B2)
        clear B2 h2
        have zf : ((f : Int) == 0) = false := by rw [beq_eq_false_iff_ne]; omega
        have yf : ((f : Int) != 0) = true := by rw [bne, zf]; rfl
        go_wp2_with (first | (go_at_call 14; refine (lives_any _ HD2.out).mono ?_; rintro x w9 ⟨rfl, hb9⟩; have HB9 := Lib.hid hb9; clear hb9))
        go_ret
        exact ⟨rfl, bnext (bnext HBG.out HB1.out) (bnext HB2.out HB9.out)⟩
      · rw [e2] at T2
        clear e2
        refine T2.mono ?_
        intro x w2 h2
        obtain ⟨b2, o2, c2, rfl, lb2, C2, B2⟩ := sub_post h2 ne2
        have HB2 := Lib.hid B2
        have HD2 := Lib.hid (HD1.out.below B2)
        clear B2 h2
        have hp2 : 0 < tb.length := List.length_pos_iff.2 ne2
        have z2 : ((tb.length : Int) == 0) = false := by rw [beq_eq_false_iff_ne]; omega
        go_wp2_with (first | (go_at_call 14; refine (lives_any _ HD2.out).mono ?_; rintro x w9 ⟨rfl, hb9⟩; have HB9 := Lib.hid hb9; clear hb9))
        go_ret
        exact ⟨rfl, bnext (bnext HBG.out HB1.out) (bnext HB2.out HB9.out)⟩
    · have T1 := tokens_short (s ++ ⟨#[10]⟩) wg (by rw [ByteArray.size_append]; show s.size + 1 ≤ 2000; omega) HDG.out
      rw [text_ten, e1] at T1
      clear e1
      refine T1.mono ?_
      intro x w1 h1
      obtain ⟨b1, o1, c1, rfl, lb1, C1, B1⟩ := sub_post h1 ne1
      have HB1 := Lib.hid B1
      have HD1 := Lib.hid (HDG.out.below B1)
      clear B1 h1
      have hp1 : 0 < ta.length := List.length_pos_iff.2 ne1
      have z1 : ((ta.length : Int) == 0) = false := by rw [beq_eq_false_iff_ne]; omega
      go_wp2_with fail
      have T2 := tokens_short t w1 (by omega) HD1.out
      rcases toks_either t.data.toList with ⟨p2, f, hf, e2⟩ | ⟨tb, e2, ne2, lb, rb⟩
      · rw [e2] at T2
        clear e2
        refine T2.mono ?_
        intro x w2 h2
        obtain ⟨ao2, c2, rfl, B2⟩ := sub_err h2
        have HB2 := Lib.hid B2
        have HD2 := Lib.hid (HD1.out.below B2)
        clear B2 h2
        have zf : ((f : Int) == 0) = false := by rw [beq_eq_false_iff_ne]; omega
        have yf : ((f : Int) != 0) = true := by rw [bne, zf]; rfl
        go_wp2_with (first | (go_at_call 14; refine (lives_any _ HD2.out).mono ?_; rintro x w9 ⟨rfl, hb9⟩; have HB9 := Lib.hid hb9; clear hb9))
        go_ret
        exact ⟨rfl, bnext (bnext HBG.out HB1.out) (bnext HB2.out HB9.out)⟩
      · rw [e2] at T2
        clear e2
        refine T2.mono ?_
        intro x w2 h2
        obtain ⟨b2, o2, c2, rfl, lb2, C2, B2⟩ := sub_post h2 ne2
        have HB2 := Lib.hid B2
        have HD2 := Lib.hid (HD1.out.below B2)
        clear B2 h2
        have hp2 : 0 < tb.length := List.length_pos_iff.2 ne2
        have z2 : ((tb.length : Int) == 0) = false := by rw [beq_eq_false_iff_ne]; omega
        have gq : w2.cell? ⟨w.heap.size, q, none⟩ = some (.string G) := (((HB1.out.trans (HB2.out.mono HB1.out.size)).cell (p := ⟨w.heap.size, q, none⟩) lbG)).trans HGc.out
        have hls : (s.data.toList).length = s.size := by simp
        have hlt : (t.data.toList).length = t.size := by simp
        have hlG : (G.data.toList).length = G.size := by simp
        have hall := toks_le rb
        have T3 := tokens_short (s ++ ⟨#[10]⟩ ++ G ++ t) w2 (by simp only [ByteArray.size_append]; show s.size + 1 + G.size + t.size ≤ 2000; omega) HD2.out
        have hrun := joined HGm.out ra rb
        have htk : toks (s ++ (⟨#[10]⟩ : ByteArray) ++ G ++ t).data.toList = (ta.dropLast ++ tb.map (shiftT (s.size + 1 + G.size)), 0, 0) := by
          rw [text_all]
          rw [hls, hlG] at hrun
          exact toks_of_run (by simp; omega) hrun
        rw [htk] at T3
        have hnc : (ta.dropLast ++ tb.map (shiftT (s.size + 1 + G.size))).length + 1 = ta.length + tb.length := by simp; omega
        have nec : ta.dropLast ++ tb.map (shiftT (s.size + 1 + G.size)) ≠ [] := by intro e; rw [e] at hnc; simp at hnc; omega
        clear htk hrun ra rb
        go_wp2_with fail
        refine T3.mono ?_
        intro x w3 h3
        obtain ⟨b3, o3, c3, rfl, lb3, C3, B3⟩ := sub_post h3 nec
        have HB3 := Lib.hid B3
        have HD3 := Lib.hid (HD2.out.below B3)
        have L1 := Lib.hid (lies_of C1.out)
        have L2 := Lib.hid (lies_of C2.out)
        have L3 := Lib.hid (lies_of C3.out)
        have R1 := Lib.hid (fun j (h : j < ta.length - 1) => tat_left (tb := tb) (d := s.size + 1 + G.size) h)
        have R2 := Lib.hid (fun m (h : m < tb.length) => tat_right (ta := ta) (d := s.size + 1 + G.size) h)
        have R3 : Hid (∀ m, m < tb.length → (tat tb m).p ≤ t.size) := fun m h => by rw [tat_lt h, ← hlt]; exact hall _ (List.getElem_mem _)
        generalize ta.dropLast ++ tb.map (shiftT (s.size + 1 + G.size)) = tc at *
        generalize tat tc = fc at *
        generalize tat ta = fa at *
        generalize tat tb = fb at *
        have hna : ta.length ≤ 302 := by simp at la; omega
        have hnb : tb.length ≤ 301 := by simp at lb; omega
        simp only at *
        clear T3 h3 B3 C1 C2 C3 hall la lb hlG hls hlt T1 T2 ne1 ne2 nec
        generalize ta.length = na at *
        generalize tb.length = nb at *
        generalize tc.length = nc at *
        have zc : ((nc : Int) == (na : Int) + (nb : Int) - 1) = true := by rw [beq_iff_eq]; omega
        have zc2 : ((nc : Int) != (na : Int) + (nb : Int) - 1) = false := by rw [bne, zc]; rfl
        have HB23 : Hid (Below w2.heap.size w2 w3) := HB3.out
        have HB13 : Hid (Below w1.heap.size w1 w3) := HB2.out.trans (HB3.out.mono HB2.out.size)
        have HBg3 : Hid (Below wg.heap.size wg w3) := HB1.out.trans (HB13.out.mono HB1.out.size)
        have HBw3 : Hid (Below w.heap.size w w3) := HBG.out.trans (HBg3.out.mono HBG.out.size)
        have GQ : Hid (w3.cell? ⟨w.heap.size, q, none⟩ = some (.string G)) := (HBg3.out.cell (p := ⟨w.heap.size, q, none⟩) lbG).trans HGc.out
        have q1 : w1.heap.size ≤ w3.heap.size := HB13.out.size
        have q2 : w2.heap.size ≤ w3.heap.size := HB23.out.size
        have qg : wg.heap.size ≤ w3.heap.size := HBg3.out.size
        have lg3 : w.heap.size < w3.heap.size := by omega
        have lb13 : b1 < w3.heap.size := by omega
        have lb23 : b2 < w3.heap.size := by omega
        have M1 : Hid (∀ j, j < na → Lies w3 b1 (o1 + j * 4) (fa j)) := fun j h => (L1.out j h).below HB13.out lb1
        have M2 : Hid (∀ j, j < nb → Lies w3 b2 (o2 + j * 4) (fb j)) := fun j h => (L2.out j h).below HB23.out lb2
        clear gq HGc L1 L2 HB1 HB2 HB3 HB13 HB23 HBg3 HBG HDG HD1 HD2 q1 q2 qg lb1 lb2 lbG
        go_wp2
        clear zc zc2
        go_loopg [18] nc (fun g i wr => ∃ j : Nat, j + g = nc ∧ i = .int .i64 (j : Int) ∧ Hid (Below w3.heap.size w3 wr))
        case atStart => exact ⟨0, Nat.zero_add _, rfl, Below.refl _ _⟩
        case round =>
          obtain ⟨j, hj, rfl, HX⟩ := hrel
          by_cases hltj : j < nc
          · obtain ⟨g0, rfl⟩ : ∃ g0, gk = g0 + 1 := ⟨gk - 1, by omega⟩
            have hX := (L3.out j hltj).below HX.out lb3
            have lwr : w3.heap.size ≤ wr.heap.size := HX.out.size
            have i0 : (0 : Int) ≤ (j : Int) := by omega
            have i1 : (j : Int) < (nc : Int) := by omega
            by_cases hA : j < na - 1
            · have hY := (M1.out j (by omega)).below HX.out lb13
              rw [← R1.out j hA] at hY
              generalize fc j = X at *
              obtain ⟨K, T, N, P⟩ := X
              have HBX : Hid (Box (wr.alloc (.cells #[.int .i64 (K : Int), .string ⟨T.toArray⟩, .int .i64 (N : Int), .int .i64 (P : Int)] 32)) wr.heap.size ⟨K, T, N, P⟩) := heap_alloc_new wr _
              have HX5 : Hid (Below w3.heap.size w3 (wr.alloc (.cells #[.int .i64 (K : Int), .string ⟨T.toArray⟩, .int .i64 (N : Int), .int .i64 (P : Int)] 32))) := HX.out.alloc lwr _
              have HY5 : Hid (Lies (wr.alloc (.cells #[.int .i64 (K : Int), .string ⟨T.toArray⟩, .int .i64 (N : Int), .int .i64 (P : Int)] 32)) b1 (o1 + j * 4) ⟨K, T, N, P⟩) := hY.below ((Below.refl wr.heap.size wr).alloc (Nat.le_refl _) _) (by omega)
              obtain ⟨x0, x1, x2, x3⟩ := hX
              have ia : (j : Int) < (na : Int) - 1 := by omega
              have ib : (j : Int) < (na : Int) := by omega
              clear hY
              go_wp2_with fail
              generalize wr.alloc _ = w5 at HBX HX5 HY5 ⊢
              obtain ⟨d0, d1, d2, d3⟩ := HBX.out.lies
              obtain ⟨y0, y1, y2, y3⟩ := HY5.out
              simp only [Nat.zero_add] at d0 d1 d2 d3 y0 y1 y2 y3
              go_quiet (fail)
              have HX6 : Hid (Below w3.heap.size w3 (w5.drewN nq)) := HX5.out.trans ⟨rfl, rfl, rfl, Nat.le_refl _, fun _ _ => rfl⟩
              go_wp2
              go_roundg g0
              case rel => exact ⟨j + 1, by omega, by go_num, HX6⟩
              case measure => omega
            · obtain ⟨m, hm⟩ : ∃ m, j = na - 1 + m := ⟨j - (na - 1), by omega⟩
              have hmb : m < nb := by omega
              have hY := (M2.out m hmb).below HX.out lb23
              have hr := R2.out m hmb
              rw [← hm] at hr
              rw [hr] at hX
              have hple := R3.out m hmb
              obtain ⟨K, T, N, P, hfb⟩ : ∃ K T N P, fb m = ⟨K, T, N, P⟩ := ⟨_, _, _, _, rfl⟩
              rw [hfb] at hY hX hple
              have HFB := Lib.hid hfb
              clear hfb
              obtain ⟨Q, hQ⟩ : ∃ Q, P + (s.size + 1 + G.size) = Q := ⟨_, rfl⟩
              have hX' : Lies wr b3 (o3 + j * 4) ⟨K, T, N, Q⟩ := by rw [← hQ]; exact hX
              simp only at hple
              have HBX : Hid (Box (wr.alloc (.cells #[.int .i64 (K : Int), .string ⟨T.toArray⟩, .int .i64 (N : Int), .int .i64 (Q : Int)] 32)) wr.heap.size ⟨K, T, N, Q⟩) := heap_alloc_new wr _
              have HX5 : Hid (Below w3.heap.size w3 (wr.alloc (.cells #[.int .i64 (K : Int), .string ⟨T.toArray⟩, .int .i64 (N : Int), .int .i64 (Q : Int)] 32))) := HX.out.alloc lwr _
              obtain ⟨x0, x1, x2, x3⟩ := hX'
              have ia : ¬ (j : Int) < (na : Int) - 1 := by omega
              have e1 : IntKind.i64.wrap ((Q : Int) - (s.size : Int)) = (Q : Int) - (s.size : Int) := wrap_in _ (by omega)
              have e2 : IntKind.i64.wrap ((Q : Int) - (s.size : Int) - 1) = (Q : Int) - (s.size : Int) - 1 := wrap_in _ (by omega)
              have e3 : IntKind.i64.wrap ((Q : Int) - (s.size : Int) - 1 - (G.size : Int)) = (P : Int) := by rw [wrap_in _ (by omega)]; omega
              have e4 : IntKind.i64.wrap ((j : Int) - (na : Int)) = (j : Int) - (na : Int) := wrap_in _ (by omega)
              have e5 : IntKind.i64.wrap ((j : Int) - (na : Int) + 1) = (m : Int) := by rw [wrap_in _ (by omega)]; omega
              have E1 := Lib.hid e1
              have E2 := Lib.hid e2
              have E3 := Lib.hid e3
              have E4 := Lib.hid e4
              have E5 := Lib.hid e5
              have HM := Lib.hid hm
              clear hX hr hQ hple e1 e2 e3 e4 e5 hm hY
              go_wp2_with fail
              generalize hbk : wr.heap.size = bk at HBX lwr ⊢
              generalize wr.alloc _ = w5 at HBX HX5 ⊢
              obtain ⟨d0, d1, d2, d3⟩ := HBX.out.lies
              have df := HBX.out.free
              have gq5 : w5.cell? ⟨w.heap.size, q, none⟩ = some (.string G) := (HX5.out.cell (p := ⟨w.heap.size, q, none⟩) lg3).trans GQ.out
              simp only [Nat.zero_add] at d0 d1 d2 d3
              have e1 := E1.out
              have e2 := E2.out
              have e3 := E3.out
              have jq : (q : Int) < 5 := hql
              have jq0 : (0 : Int) ≤ (q : Int) := by omega
              clear hbk
              go_still_tail 13, (by kernel_rfl)
              clear e1 e2 e3
              change wpList _ _ _ _ _ w5.drew
              have HBX6 : Hid (Box w5.drew bk ⟨K, T, N, Q⟩) := HBX.out
              have HX6 : Hid (Below w3.heap.size w3 w5.drew) := HX5.out.drew
              generalize w5.drew = w6 at HBX6 HX6 ⊢
              clear d0 d1 d2 d3 df gq5 HBX HX5
              have d3 : w6.cell? ⟨bk, 3, none⟩ = some (.int .i64 (Q : Int)) := HBX6.out.lies.2.2.2
              have df := HBX6.out.free
              have HBX7 : Hid (Box (w6.setCell ⟨bk, 3, none⟩ (.int .i64 (P : Int))) bk ⟨K, T, N, P⟩) := HBX6.out.set P
              have HX7 : Hid (Below w3.heap.size w3 (w6.setCell ⟨bk, 3, none⟩ (.int .i64 (P : Int)))) := HX6.out.setCell (p := ⟨bk, 3, none⟩) lwr _
              go_wp2_with fail
              generalize w6.setCell _ _ = w7 at HBX7 HX7 ⊢
              clear d3 df HBX6 HX6
              obtain ⟨d0, d1, d2, d3⟩ := HBX7.out.lies
              have hY7 := (M2.out m hmb).below HX7.out lb23
              rw [HFB.out] at hY7
              obtain ⟨y0, y1, y2, y3⟩ := hY7
              simp only [Nat.zero_add] at d0 d1 d2 d3
              have e4 := E4.out
              have e5 := E5.out
              have m0 : (0 : Int) ≤ (m : Int) := by omega
              have m1 : (m : Int) < (nb : Int) := by omega
              go_quiet (fail)
              have HX8 : Hid (Below w3.heap.size w3 (w7.drewN nq)) := HX7.out.trans ⟨rfl, rfl, rfl, Nat.le_refl _, fun _ _ => rfl⟩
              clear e4 e5
              go_wp2
              go_roundg g0
              case rel => exact ⟨j + 1, by omega, by go_num, HX8⟩
              case measure => omega
          · have HDr := Lib.hid (HD3.out.below HX.out)
            go_wp2_with (first | (go_at_call 14; refine (lives_any _ HDr.out).mono ?_; rintro x w9 ⟨rfl, hb9⟩; have HB9 := Lib.hid hb9; clear hb9))
            go_ret
            exact ⟨rfl, (HBw3.out.trans (HX.out.mono HBw3.out.size)).trans (HB9.out.mono (Nat.le_trans HBw3.out.size HX.out.size))⟩
  · obtain ⟨q, hq, hql⟩ := pos_mod n2 5 (by omega) (by decide)
    go_enter Tryd.func5, Tryd.ntmps5
    go_wp2_with fail
    refine (few_any a0 _).mono ?_
    rintro x w1 ⟨⟨s, hs, rfl⟩, rfl⟩
    go_wp2_with fail
    refine (few_any a1 _).mono ?_
    rintro x w1 ⟨⟨t, ht, rfl⟩, rfl⟩
    go_wp2_with fail
    obtain ⟨G, HGm, hGs, HGc⟩ := gap_cell w q hql
    have HBG : Hid (Below w.heap.size w (w.alloc (.cells #[.string ⟨#[32]⟩, .string ⟨#[10]⟩, .string ⟨#[9, 10, 32]⟩, .string ⟨#[10, 35, 32, 108, 101, 116, 10]⟩, .string ⟨#[32, 35, 10]⟩] 9))) := (Below.refl _ _).alloc (Nat.le_refl _) _
    have HDG := Lib.hid (HD.out.below HBG.out)
    have lbG : w.heap.size < (w.alloc (.cells #[.string ⟨#[32]⟩, .string ⟨#[10]⟩, .string ⟨#[9, 10, 32]⟩, .string ⟨#[10, 35, 32, 108, 101, 116, 10]⟩, .string ⟨#[32, 35, 10]⟩] 9)).heap.size := by simp
    generalize w.alloc _ = wg at HGc HBG HDG lbG ⊢
    rcases toks_either (s.data.toList ++ [10]) with ⟨p, e, he, e1⟩ | ⟨ta, e1, ne1, la, ra⟩
    · have T1 := tokens_short (s ++ ⟨#[10]⟩) wg (by rw [ByteArray.size_append]; show s.size + 1 ≤ 2000; omega) HDG.out
      rw [text_ten, e1] at T1
      clear e1
      refine T1.mono ?_
      intro x w1 h1
      obtain ⟨ao1, c1, rfl, B1⟩ := sub_err h1
      have HB1 := Lib.hid B1
      have HD1 := Lib.hid (HDG.out.below B1)
      clear B1 h1
      have ze : ((e : Int) == 0) = false := by rw [beq_eq_false_iff_ne]; omega
      have ye : ((e : Int) != 0) = true := by rw [bne, ze]; rfl
      go_wp2_with fail
      have T2 := tokens_short t w1 (by omega) HD1.out
      rcases toks_either t.data.toList with ⟨p2, f, hf, e2⟩ | ⟨tb, e2, ne2, lb, rb⟩
      · rw [e2] at T2
        clear e2
        refine T2.mono ?_
        intro x w2 h2
        obtain ⟨ao2, c2, rfl, B2⟩ := sub_err h2
        have HB2 := Lib.hid B2
        have HD2 := Lib.hid (HD1.out.below B2)
        clear B2 h2
        have zf : ((f : Int) == 0) = false := by rw [beq_eq_false_iff_ne]; omega
        have yf : ((f : Int) != 0) = true := by rw [bne, zf]; rfl
        go_wp2_with (first | (go_at_call 14; refine (lives_any _ HD2.out).mono ?_; rintro x w9 ⟨rfl, hb9⟩; have HB9 := Lib.hid hb9; clear hb9))
        go_ret
        exact ⟨rfl, bnext (bnext HBG.out HB1.out) (bnext HB2.out HB9.out)⟩
      · rw [e2] at T2
        clear e2
        refine T2.mono ?_
        intro x w2 h2
        obtain ⟨b2, o2, c2, rfl, lb2, C2, B2⟩ := sub_post h2 ne2
        have HB2 := Lib.hid B2
        have HD2 := Lib.hid (HD1.out.below B2)
        clear B2 h2
        have hp2 : 0 < tb.length := List.length_pos_iff.2 ne2
        have z2 : ((tb.length : Int) == 0) = false := by rw [beq_eq_false_iff_ne]; omega
        go_wp2_with (first | (go_at_call 14; refine (lives_any _ HD2.out).mono ?_; rintro x w9 ⟨rfl, hb9⟩; have HB9 := Lib.hid hb9; clear hb9))
        go_ret
        exact ⟨rfl, bnext (bnext HBG.out HB1.out) (bnext HB2.out HB9.out)⟩
    · have T1 := tokens_short (s ++ ⟨#[10]⟩) wg (by rw [ByteArray.size_append]; show s.size + 1 ≤ 2000; omega) HDG.out
      rw [text_ten, e1] at T1
      clear e1
      refine T1.mono ?_
      intro x w1 h1
      obtain ⟨b1, o1, c1, rfl, lb1, C1, B1⟩ := sub_post h1 ne1
      have HB1 := Lib.hid B1
      have HD1 := Lib.hid (HDG.out.below B1)
      clear B1 h1
      have hp1 : 0 < ta.length := List.length_pos_iff.2 ne1
      have z1 : ((ta.length : Int) == 0) = false := by rw [beq_eq_false_iff_ne]; omega
      go_wp2_with fail
      have T2 := tokens_short t w1 (by omega) HD1.out
      rcases toks_either t.data.toList with ⟨p2, f, hf, e2⟩ | ⟨tb, e2, ne2, lb, rb⟩
      · rw [e2] at T2
        clear e2
        refine T2.mono ?_
        intro x w2 h2
        obtain ⟨ao2, c2, rfl, B2⟩ := sub_err h2
        have HB2 := Lib.hid B2
        have HD2 := Lib.hid (HD1.out.below B2)
        clear B2 h2
        have zf : ((f : Int) == 0) = false := by rw [beq_eq_false_iff_ne]; omega
        have yf : ((f : Int) != 0) = true := by rw [bne, zf]; rfl
        go_wp2_with (first | (go_at_call 14; refine (lives_any _ HD2.out).mono ?_; rintro x w9 ⟨rfl, hb9⟩; have HB9 := Lib.hid hb9; clear hb9))
        go_ret
        exact ⟨rfl, bnext (bnext HBG.out HB1.out) (bnext HB2.out HB9.out)⟩
      · rw [e2] at T2
        clear e2
        refine T2.mono ?_
        intro x w2 h2
        obtain ⟨b2, o2, c2, rfl, lb2, C2, B2⟩ := sub_post h2 ne2
        have HB2 := Lib.hid B2
        have HD2 := Lib.hid (HD1.out.below B2)
        clear B2 h2
        have hp2 : 0 < tb.length := List.length_pos_iff.2 ne2
        have z2 : ((tb.length : Int) == 0) = false := by rw [beq_eq_false_iff_ne]; omega
        have gq : w2.cell? ⟨w.heap.size, q, none⟩ = some (.string G) := (((HB1.out.trans (HB2.out.mono HB1.out.size)).cell (p := ⟨w.heap.size, q, none⟩) lbG)).trans HGc.out
        have hls : (s.data.toList).length = s.size := by simp
        have hlt : (t.data.toList).length = t.size := by simp
        have hlG : (G.data.toList).length = G.size := by simp
        have hall := toks_le rb
        have T3 := tokens_short (s ++ ⟨#[10]⟩ ++ G ++ t) w2 (by simp only [ByteArray.size_append]; show s.size + 1 + G.size + t.size ≤ 2000; omega) HD2.out
        have hrun := joined HGm.out ra rb
        have htk : toks (s ++ (⟨#[10]⟩ : ByteArray) ++ G ++ t).data.toList = (ta.dropLast ++ tb.map (shiftT (s.size + 1 + G.size)), 0, 0) := by
          rw [text_all]
          rw [hls, hlG] at hrun
          exact toks_of_run (by simp; omega) hrun
        rw [htk] at T3
        have hnc : (ta.dropLast ++ tb.map (shiftT (s.size + 1 + G.size))).length + 1 = ta.length + tb.length := by simp; omega
        have nec : ta.dropLast ++ tb.map (shiftT (s.size + 1 + G.size)) ≠ [] := by intro e; rw [e] at hnc; simp at hnc; omega
        clear htk hrun ra rb
        go_wp2_with fail
        refine T3.mono ?_
        intro x w3 h3
        obtain ⟨b3, o3, c3, rfl, lb3, C3, B3⟩ := sub_post h3 nec
        have HB3 := Lib.hid B3
        have HD3 := Lib.hid (HD2.out.below B3)
        have L1 := Lib.hid (lies_of C1.out)
        have L2 := Lib.hid (lies_of C2.out)
        have L3 := Lib.hid (lies_of C3.out)
        have R1 := Lib.hid (fun j (h : j < ta.length - 1) => tat_left (tb := tb) (d := s.size + 1 + G.size) h)
        have R2 := Lib.hid (fun m (h : m < tb.length) => tat_right (ta := ta) (d := s.size + 1 + G.size) h)
        have R3 : Hid (∀ m, m < tb.length → (tat tb m).p ≤ t.size) := fun m h => by rw [tat_lt h, ← hlt]; exact hall _ (List.getElem_mem _)
        generalize ta.dropLast ++ tb.map (shiftT (s.size + 1 + G.size)) = tc at *
        generalize tat tc = fc at *
        generalize tat ta = fa at *
        generalize tat tb = fb at *
        have hna : ta.length ≤ 302 := by simp at la; omega
        have hnb : tb.length ≤ 301 := by simp at lb; omega
        simp only at *
        clear T3 h3 B3 C1 C2 C3 hall la lb hlG hls hlt T1 T2 ne1 ne2 nec
        generalize ta.length = na at *
        generalize tb.length = nb at *
        generalize tc.length = nc at *
        have zc : ((nc : Int) == (na : Int) + (nb : Int) - 1) = true := by rw [beq_iff_eq]; omega
        have zc2 : ((nc : Int) != (na : Int) + (nb : Int) - 1) = false := by rw [bne, zc]; rfl
        have HB23 : Hid (Below w2.heap.size w2 w3) := HB3.out
        have HB13 : Hid (Below w1.heap.size w1 w3) := HB2.out.trans (HB3.out.mono HB2.out.size)
        have HBg3 : Hid (Below wg.heap.size wg w3) := HB1.out.trans (HB13.out.mono HB1.out.size)
        have HBw3 : Hid (Below w.heap.size w w3) := HBG.out.trans (HBg3.out.mono HBG.out.size)
        have GQ : Hid (w3.cell? ⟨w.heap.size, q, none⟩ = some (.string G)) := (HBg3.out.cell (p := ⟨w.heap.size, q, none⟩) lbG).trans HGc.out
        have q1 : w1.heap.size ≤ w3.heap.size := HB13.out.size
        have q2 : w2.heap.size ≤ w3.heap.size := HB23.out.size
        have qg : wg.heap.size ≤ w3.heap.size := HBg3.out.size
        have lg3 : w.heap.size < w3.heap.size := by omega
        have lb13 : b1 < w3.heap.size := by omega
        have lb23 : b2 < w3.heap.size := by omega
        have M1 : Hid (∀ j, j < na → Lies w3 b1 (o1 + j * 4) (fa j)) := fun j h => (L1.out j h).below HB13.out lb1
        have M2 : Hid (∀ j, j < nb → Lies w3 b2 (o2 + j * 4) (fb j)) := fun j h => (L2.out j h).below HB23.out lb2
        clear gq HGc L1 L2 HB1 HB2 HB3 HB13 HB23 HBg3 HBG HDG HD1 HD2 q1 q2 qg lb1 lb2 lbG
        go_wp2
        clear zc zc2
        go_loopg [18] nc (fun g i wr => ∃ j : Nat, j + g = nc ∧ i = .int .i64 (j : Int) ∧ Hid (Below w3.heap.size w3 wr))
        case atStart => exact ⟨0, Nat.zero_add _, rfl, Below.refl _ _⟩
        case round =>
          obtain ⟨j, hj, rfl, HX⟩ := hrel
          by_cases hltj : j < nc
          · obtain ⟨g0, rfl⟩ : ∃ g0, gk = g0 + 1 := ⟨gk - 1, by omega⟩
            have hX := (L3.out j hltj).below HX.out lb3
            have lwr : w3.heap.size ≤ wr.heap.size := HX.out.size
            have i0 : (0 : Int) ≤ (j : Int) := by omega
            have i1 : (j : Int) < (nc : Int) := by omega
            by_cases hA : j < na - 1
            · have hY := (M1.out j (by omega)).below HX.out lb13
              rw [← R1.out j hA] at hY
              generalize fc j = X at *
              obtain ⟨K, T, N, P⟩ := X
              have HBX : Hid (Box (wr.alloc (.cells #[.int .i64 (K : Int), .string ⟨T.toArray⟩, .int .i64 (N : Int), .int .i64 (P : Int)] 32)) wr.heap.size ⟨K, T, N, P⟩) := heap_alloc_new wr _
              have HX5 : Hid (Below w3.heap.size w3 (wr.alloc (.cells #[.int .i64 (K : Int), .string ⟨T.toArray⟩, .int .i64 (N : Int), .int .i64 (P : Int)] 32))) := HX.out.alloc lwr _
              have HY5 : Hid (Lies (wr.alloc (.cells #[.int .i64 (K : Int), .string ⟨T.toArray⟩, .int .i64 (N : Int), .int .i64 (P : Int)] 32)) b1 (o1 + j * 4) ⟨K, T, N, P⟩) := hY.below ((Below.refl wr.heap.size wr).alloc (Nat.le_refl _) _) (by omega)
              obtain ⟨x0, x1, x2, x3⟩ := hX
              have ia : (j : Int) < (na : Int) - 1 := by omega
              have ib : (j : Int) < (na : Int) := by omega
              clear hY
              go_wp2_with fail
              generalize wr.alloc _ = w5 at HBX HX5 HY5 ⊢
              obtain ⟨d0, d1, d2, d3⟩ := HBX.out.lies
              obtain ⟨y0, y1, y2, y3⟩ := HY5.out
              simp only [Nat.zero_add] at d0 d1 d2 d3 y0 y1 y2 y3
              go_quiet (fail)
              have HX6 : Hid (Below w3.heap.size w3 (w5.drewN nq)) := HX5.out.trans ⟨rfl, rfl, rfl, Nat.le_refl _, fun _ _ => rfl⟩
              go_wp2
              go_roundg g0
              case rel => exact ⟨j + 1, by omega, by go_num, HX6⟩
              case measure => omega
            · obtain ⟨m, hm⟩ : ∃ m, j = na - 1 + m := ⟨j - (na - 1), by omega⟩
              have hmb : m < nb := by omega
              have hY := (M2.out m hmb).below HX.out lb23
              have hr := R2.out m hmb
              rw [← hm] at hr
              rw [hr] at hX
              have hple := R3.out m hmb
              obtain ⟨K, T, N, P, hfb⟩ : ∃ K T N P, fb m = ⟨K, T, N, P⟩ := ⟨_, _, _, _, rfl⟩
              rw [hfb] at hY hX hple
              have HFB := Lib.hid hfb
              clear hfb
              obtain ⟨Q, hQ⟩ : ∃ Q, P + (s.size + 1 + G.size) = Q := ⟨_, rfl⟩
              have hX' : Lies wr b3 (o3 + j * 4) ⟨K, T, N, Q⟩ := by rw [← hQ]; exact hX
              simp only at hple
              have HBX : Hid (Box (wr.alloc (.cells #[.int .i64 (K : Int), .string ⟨T.toArray⟩, .int .i64 (N : Int), .int .i64 (Q : Int)] 32)) wr.heap.size ⟨K, T, N, Q⟩) := heap_alloc_new wr _
              have HX5 : Hid (Below w3.heap.size w3 (wr.alloc (.cells #[.int .i64 (K : Int), .string ⟨T.toArray⟩, .int .i64 (N : Int), .int .i64 (Q : Int)] 32))) := HX.out.alloc lwr _
              obtain ⟨x0, x1, x2, x3⟩ := hX'
              have ia : ¬ (j : Int) < (na : Int) - 1 := by omega
              have e1 : IntKind.i64.wrap ((Q : Int) - (s.size : Int)) = (Q : Int) - (s.size : Int) := wrap_in _ (by omega)
              have e2 : IntKind.i64.wrap ((Q : Int) - (s.size : Int) - 1) = (Q : Int) - (s.size : Int) - 1 := wrap_in _ (by omega)
              have e3 : IntKind.i64.wrap ((Q : Int) - (s.size : Int) - 1 - (G.size : Int)) = (P : Int) := by rw [wrap_in _ (by omega)]; omega
              have e4 : IntKind.i64.wrap ((j : Int) - (na : Int)) = (j : Int) - (na : Int) := wrap_in _ (by omega)
              have e5 : IntKind.i64.wrap ((j : Int) - (na : Int) + 1) = (m : Int) := by rw [wrap_in _ (by omega)]; omega
              have E1 := Lib.hid e1
              have E2 := Lib.hid e2
              have E3 := Lib.hid e3
              have E4 := Lib.hid e4
              have E5 := Lib.hid e5
              have HM := Lib.hid hm
              clear hX hr hQ hple e1 e2 e3 e4 e5 hm hY
              go_wp2_with fail
              generalize hbk : wr.heap.size = bk at HBX lwr ⊢
              generalize wr.alloc _ = w5 at HBX HX5 ⊢
              obtain ⟨d0, d1, d2, d3⟩ := HBX.out.lies
              have df := HBX.out.free
              have gq5 : w5.cell? ⟨w.heap.size, q, none⟩ = some (.string G) := (HX5.out.cell (p := ⟨w.heap.size, q, none⟩) lg3).trans GQ.out
              simp only [Nat.zero_add] at d0 d1 d2 d3
              have e1 := E1.out
              have e2 := E2.out
              have e3 := E3.out
              have jq : (q : Int) < 5 := hql
              have jq0 : (0 : Int) ≤ (q : Int) := by omega
              clear hbk
              go_still_tail 13, (by kernel_rfl)
              clear e1 e2 e3
              change wpList _ _ _ _ _ w5.drew
              have HBX6 : Hid (Box w5.drew bk ⟨K, T, N, Q⟩) := HBX.out
              have HX6 : Hid (Below w3.heap.size w3 w5.drew) := HX5.out.drew
              generalize w5.drew = w6 at HBX6 HX6 ⊢
              clear d0 d1 d2 d3 df gq5 HBX HX5
              have d3 : w6.cell? ⟨bk, 3, none⟩ = some (.int .i64 (Q : Int)) := HBX6.out.lies.2.2.2
              have df := HBX6.out.free
              have HBX7 : Hid (Box (w6.setCell ⟨bk, 3, none⟩ (.int .i64 (P : Int))) bk ⟨K, T, N, P⟩) := HBX6.out.set P
              have HX7 : Hid (Below w3.heap.size w3 (w6.setCell ⟨bk, 3, none⟩ (.int .i64 (P : Int)))) := HX6.out.setCell (p := ⟨bk, 3, none⟩) lwr _
              go_wp2_with fail
              generalize w6.setCell _ _ = w7 at HBX7 HX7 ⊢
              clear d3 df HBX6 HX6
              obtain ⟨d0, d1, d2, d3⟩ := HBX7.out.lies
              have hY7 := (M2.out m hmb).below HX7.out lb23
              rw [HFB.out] at hY7
              obtain ⟨y0, y1, y2, y3⟩ := hY7
              simp only [Nat.zero_add] at d0 d1 d2 d3
              have e4 := E4.out
              have e5 := E5.out
              have m0 : (0 : Int) ≤ (m : Int) := by omega
              have m1 : (m : Int) < (nb : Int) := by omega
              go_quiet (fail)
              have HX8 : Hid (Below w3.heap.size w3 (w7.drewN nq)) := HX7.out.trans ⟨rfl, rfl, rfl, Nat.le_refl _, fun _ _ => rfl⟩
              clear e4 e5
              go_wp2
              go_roundg g0
              case rel => exact ⟨j + 1, by omega, by go_num, HX8⟩
              case measure => omega
          · have HDr := Lib.hid (HD3.out.below HX.out)
            go_wp2_with (first | (go_at_call 14; refine (lives_any _ HDr.out).mono ?_; rintro x w9 ⟨rfl, hb9⟩; have HB9 := Lib.hid hb9; clear hb9))
            go_ret
            exact ⟨rfl, (HBw3.out.trans (HX.out.mono HBw3.out.size)).trans (HB9.out.mono (Nat.le_trans HBw3.out.size HX.out.size))⟩

end Go.Proofs.YtaioniaadpgmkaaDoor.lexJoined
