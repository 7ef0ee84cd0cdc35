/- The parser's words: is one next, reading it. -/
import Derived.Test.YtlcapkgbbgpdmaaGreatDoorPA
namespace Go.Proofs.YtlcapkgbbgpdmaaGreatDoor.PB
open Go.RowKit Go.Proofs.YtlcapkgbbgpdmaaGreatDoor.P Go.Proofs.YtlcapkgbbgpdmaaGreatDoor.A Go.Proofs.YtlcapkgbbgpdmaaGreatDoor.TK Go.Proofs.YtlcapkgbbgpdmaaGreatDoor.TO Go.Proofs.YtlcapkgbbgpdmaaGreatDoor.GR Go.Proofs.YtlcapkgbbgpdmaaGreatDoor.MP Go.Proofs.YtlcapkgbbgpdmaaGreatDoor.YR Go.Proofs.YtlcapkgbbgpdmaaGreatDoor.PN Go.Proofs.YtlcapkgbbgpdmaaGreatDoor.PS Go.Proofs.YtlcapkgbbgpdmaaGreatDoor.PA
set_option linter.unusedVariables false
set_option maxRecDepth 100000

/-- Strings in a row. -/
def Strs (w : World) (b : Nat) (ws : List ByteArray) : Prop := ∀ i (h : i < ws.length), w.cell? ⟨b, i, none⟩ = some (.string ws[i])
theorem Strs.below {w w' : World} {b : Nat} {ws : List ByteArray} (h : Strs w b ws) (hb : Below w.heap.size w w') (hl : b < w.heap.size) : Strs w' b ws :=
  fun i hi => (hb.cell (p := ⟨b, i, none⟩) hl).trans (h i hi)
def IndexPost (w : World) (v : ByteArray) (ws : List ByteArray) (x : Ending) (w' : World) : Prop := (∃ i : Int, x = .returned (.int .i64 i) ∧ (0 ≤ i ↔ v.data.toList ∈ ws.map fun u => u.data.toList)) ∧ w = w'
theorem index_any (w : World) (b : Nat) (ws : List ByteArray) (v : ByteArray) (h : Strs w b ws) (hn : ws.length ≤ 100) :
    Calls Tryz.prog 136 #[.slice (some ⟨b, 0, none⟩) ws.length ws.length, .string v] w (IndexPost w v ws) := by
  have HS := Lib.hid h
  clear h
  go_enter Tryz.func136, Tryz.ntmps136
  go_wp2
  go_loop [8] (fun t => ∃ k : Nat, k ≤ ws.length ∧ t = .int .i64 (k : Int) ∧ Hid (∀ i (h : i < ws.length), i < k → ws[i].data.toList ≠ v.data.toList)) (fun t => ws.length - (intOf t).toNat)
  case atStart => exact ⟨0, Nat.zero_le _, rfl, fun i hi h => absurd h (by omega)⟩
  case round =>
    obtain ⟨k, hk, rfl, HA⟩ := hrel
    by_cases hlt : k < ws.length
    · have hc := HS.out k hlt
      obtain ⟨u, hu⟩ : ∃ u, ws[k] = u := ⟨_, rfl⟩
      rw [hu] at hc
      have HU := Lib.hid hu
      clear hu
      by_cases he : v.data.toList = u.data.toList
      · have hx : (v.toList == u.toList) = true := by rw [ByteArray.toList_eq, ByteArray.toList_eq, beq_iff_eq]; exact he
        have HE := Lib.hid he
        clear he
        go_wp2
        go_ret
        exact ⟨⟨_, rfl, fun _ => by rw [HE.out, ← HU.out]; exact List.mem_map_of_mem (f := fun u : ByteArray => u.data.toList) (List.getElem_mem hlt), fun _ => by omega⟩, rfl⟩
      · have hx : (v.toList == u.toList) = false := by rw [ByteArray.toList_eq, ByteArray.toList_eq, beq_eq_false_iff_ne]; exact he
        have HE := Lib.hid he
        clear he
        go_wp2
        go_round
        case rel =>
          refine ⟨k + 1, by omega, by go_num, fun i hi hik => ?_⟩
          rcases Nat.lt_or_ge i k with h | h
          · exact HA.out i hi h
          · have : i = k := by omega
            subst this
            rw [HU.out]
            exact fun e => HE.out e.symm
        case measure => simp [intOf]; omega
    · go_wp2
      go_ret
      refine ⟨⟨_, rfl, fun h => absurd h (by decide), fun h => ?_⟩, rfl⟩
      obtain ⟨i, hi, e⟩ := List.getElem_of_mem h
      rw [List.getElem_map] at e
      exact absurd e (HA.out i (by simpa using hi) (by simp at hi; omega))
theorem contains_any (w : World) (b : Nat) (ws : List ByteArray) (v : ByteArray) (h : Strs w b ws) (hn : ws.length ≤ 100) :
    Calls Tryz.prog 106 #[.slice (some ⟨b, 0, none⟩) ws.length ws.length, .string v] w fun x w' => x = .returned (.bool (decide (v.data.toList ∈ ws.map fun u => u.data.toList))) ∧ w = w' := by
  have HS := Lib.hid h
  clear h
  go_enter Tryz.func106, Tryz.ntmps106
  go_wp2_with fail
  refine (index_any w b ws v HS.out hn).mono ?_
  rintro x w1 ⟨⟨i, rfl, hi⟩, rfl⟩
  have HI := Lib.hid hi
  clear hi
  go_wp2
  go_ret
  refine ⟨congrArg (fun b => Ending.returned (.bool b)) ?_, rfl⟩
  rw [Bool.eq_iff_iff]
  simpa using HI.out

theorem word_is (s : St) (w : By) (hw : w ≠ []) : s.is w = decide (s.word = w) := by
  unfold St.is isT St.word
  have e : s.k = (hd s.ts).k := rfl
  by_cases h : (hd s.ts).k = 6 ∨ (hd s.ts).k = 5
  · rw [if_pos (by rw [e]; exact h)]
    rcases h with h | h <;> simp [h]
  · rw [if_neg (by rw [e]; exact h)]
    have h5 : ¬ (hd s.ts).k = 5 := fun k => h (.inr k)
    have h6 : ¬ (hd s.ts).k = 6 := fun k => h (.inl k)
    have : ¬ ([] : By) = w := fun k => hw k.symm
    simp [h5, h6, this]
theorem any_word (s : St) : ∀ (l : List By), (∀ w ∈ l, w ≠ []) → decide ((⟨s.word.toArray⟩ : ByteArray).data.toList ∈ (l.map fun w => (⟨w.toArray⟩ : ByteArray)).map fun u => u.data.toList) = anyOf l s
  | [], _ => rfl
  | w :: l, h => by
    have ih := any_word s l fun w hw => h w (List.mem_cons_of_mem _ hw)
    have e : anyOf (w :: l) s = (s.is w || anyOf l s) := rfl
    rw [e, ← ih, word_is s w (h w List.mem_cons_self), Bool.eq_iff_iff]
    simp only [List.map_cons, List.mem_cons, decide_eq_true_eq, Bool.or_eq_true]

theorem is_any (w : World) (E : En) (s : St) (d : Nat) (j : Bool) (h : PS w E s d j) (b : Nat) (l : List By) (hb : Strs w b (l.map fun w => ⟨w.toArray⟩)) (hl : b < w.heap.size) (hn : l.length ≤ 10) (he : ∀ w ∈ l, w ≠ []) (n : Nat) (hnl : n = l.length) :
    Calls Tryz.prog 71 #[pp E, .slice (some ⟨b, 0, none⟩) n n] w fun x w' => x = .returned (.bool (anyOf l s)) ∧ Below w.heap.size w w' := by
  have hlen : (l.map fun w => (⟨w.toArray⟩ : ByteArray)).length = n := by simp [hnl]
  have HC := fun W (hW : Strs W b (l.map fun w => ⟨w.toArray⟩)) => contains_any W b (l.map fun w => ⟨w.toArray⟩) ⟨s.word.toArray⟩ hW (by rw [List.length_map]; omega)
  rw [hlen, any_word s l he] at HC
  have HS := Lib.hid hb
  have HP := Lib.hid h
  clear hb h he hnl hlen
  go_enter Tryz.func71, Tryz.ntmps71
  go_wp2_with fail
  refine (word_any w E s d j HP.out).mono ?_
  rintro x w1 ⟨rfl, hb1⟩
  have HB := Lib.hid hb1
  clear hb1
  go_wp2_with fail
  refine (HC w1 (HS.out.below HB.out hl)).mono ?_
  rintro x w2 ⟨rfl, rfl⟩
  go_wp2
  go_ret
  exact ⟨rfl, HB.out⟩

theorem is_k {s : St} {w : By} (h : s.is w = true) : s.k ≠ 0 := by
  unfold St.is isT at h
  unfold St.k
  simp only [Bool.and_eq_true, Bool.or_eq_true, decide_eq_true_eq] at h
  omega
theorem any_one (s : St) (w : By) : anyOf [w] s = s.is w := by simp [anyOf]
theorem strs_one (w : World) (u : By) : Strs (w.alloc (.cells #[.string ⟨u.toArray⟩] 9)) w.heap.size ([u].map fun w => ⟨w.toArray⟩) := by
  intro i hi
  have : i = 0 := by simpa using hi
  subst this
  simp

theorem accept_any (w : World) (E : En) (s : St) (d : Nat) (j : Bool) (h : PS w E s d j) (u : By) (hu : u ≠ []) :
    Calls Tryz.prog 100 #[pp E, .string ⟨u.toArray⟩] w fun x w' => x = .returned (.bool (s.is u)) ∧ Out w E (accept u s).2 d j w' := by
  have L0 := Lib.hid (Lc.start h)
  clear h
  have HI := fun W (hW : PS W E s d j) (b : Nat) (hS : Strs W b ([u].map fun w => ⟨w.toArray⟩)) (hl : b < W.heap.size) => is_any W E s d j hW b [u] hS hl (by simp) (by simpa using hu) 1 rfl
  rw [any_one] at HI
  unfold accept
  cases his : s.is u with
  | true =>
    rw [his] at HI
    have hk := Lib.hid (is_k his)
    rw [if_pos rfl]
    clear his
    go_enter Tryz.func100, Tryz.ntmps100
    go_wp2_with fail
    refine (HI _ (L0.out.alloc _).ps _ (strs_one w u) (by simp)).mono ?_
    rintro x w1 ⟨rfl, hb1⟩
    have L1 := Lib.hid ((L0.out.alloc _).below hb1)
    clear hb1 HI
    go_wp2_with fail
    refine (take_any _ E s d j L1.out.ps hk.out).mono ?_
    rintro x w2 ⟨rfl, ho⟩
    have L2 := Lib.hid (L1.out.call ho)
    clear ho
    go_wp2
    go_ret
    exact ⟨rfl, L2.out.out⟩
  | false =>
    rw [his] at HI
    rw [if_neg (by decide)]
    clear his
    go_enter Tryz.func100, Tryz.ntmps100
    go_wp2_with fail
    refine (HI _ (L0.out.alloc _).ps _ (strs_one w u) (by simp)).mono ?_
    rintro x w1 ⟨rfl, hb1⟩
    have L1 := Lib.hid ((L0.out.alloc _).below hb1)
    clear hb1 HI
    go_wp2
    go_ret
    exact ⟨rfl, L1.out.out⟩

theorem expect_any (w : World) (E : En) (s : St) (d : Nat) (j : Bool) (h : PS w E s d j) (u : By) (hu : u ≠ []) :
    Calls Tryz.prog 74 #[pp E, .string ⟨u.toArray⟩] w fun x w' => x = .returned (.tuple #[]) ∧ Out w E (expect u s) d j w' := by
  have L0 := Lib.hid (Lc.start h)
  have HA := accept_any w E s d j h u hu
  clear h
  unfold expect
  unfold accept at HA
  cases his : s.is u with
  | true =>
    simp only [his, if_true] at HA ⊢
    clear his
    go_enter Tryz.func74, Tryz.ntmps74
    go_wp2_with fail
    refine HA.mono ?_
    rintro x w1 ⟨rfl, ho⟩
    have L1 := Lib.hid (L0.out.call ho)
    clear ho HA
    go_wp2
    go_end0
    exact ⟨rfl, L1.out.out⟩
  | false =>
    simp only [his, Bool.false_eq_true, if_false] at HA ⊢
    clear his
    go_enter Tryz.func74, Tryz.ntmps74
    go_wp2_with fail
    refine HA.mono ?_
    rintro x w1 ⟨rfl, ho⟩
    have L1 := Lib.hid (L0.out.call ho)
    clear ho HA
    go_wp2_with fail
    refine (fail_any _ E s d j L1.out.ps 14).mono ?_
    rintro x w2 ⟨rfl, ho⟩
    have L2 := Lib.hid (L1.out.call ho)
    clear ho
    go_wp2
    go_end0
    exact ⟨rfl, L2.out.out⟩

theorem text_any (w : World) (E : En) (s : St) (d : Nat) (j : Bool) (h : PS w E s d j) (k : Nat) (hk : k ≠ 0) :
    Calls Tryz.prog 129 #[pp E, .int .i64 (k : Int)] w fun x w' => x = .returned (.string ⟨(text k s).1.toArray⟩) ∧ Out w E (text k s).2 d j w' := by
  have L0 := Lib.hid (Lc.start h)
  have hf0 := tf0
  have hf1 := tf1
  clear h
  unfold text
  by_cases he : s.k = k
  · rw [if_pos he]
    have hk0 := Lib.hid (show s.k ≠ 0 by omega)
    have hx : (((hd s.ts).k : Int) != (k : Int)) = false := by have : (hd s.ts).k = k := he; rw [this]; simp
    clear he
    go_enter Tryz.func129, Tryz.ntmps129
    go_wp2_with fail
    refine (token_any _ E s d j L0.out.ps).mono ?_
    rintro x w1 ⟨rfl, hb1⟩
    have L1 := Lib.hid (L0.out.below hb1)
    clear hb1
    go_wp2_with fail
    refine (take_any _ E s d j L1.out.ps hk0.out).mono ?_
    rintro x w2 ⟨rfl, ho⟩
    have L2 := Lib.hid (L1.out.call ho)
    clear ho
    go_wp2
    go_ret
    exact ⟨rfl, L2.out.out⟩
  · rw [if_neg he]
    have hx' : (((hd s.ts).k : Int) == (k : Int)) = false := by have : (hd s.ts).k ≠ k := he; rw [beq_eq_false_iff_ne]; omega
    have hx : (((hd s.ts).k : Int) != (k : Int)) = true := by rw [bne, hx']; rfl
    clear he hx'
    go_enter Tryz.func129, Tryz.ntmps129
    go_wp2_with fail
    refine (token_any _ E s d j L0.out.ps).mono ?_
    rintro x w1 ⟨rfl, hb1⟩
    have L1 := Lib.hid (L0.out.below hb1)
    clear hb1
    go_wp2_with fail
    refine (fail_any _ E s d j L1.out.ps 14).mono ?_
    rintro x w2 ⟨rfl, ho⟩
    have L2 := Lib.hid (L1.out.call ho)
    clear ho
    go_wp2
    go_ret
    exact ⟨rfl, L2.out.out⟩
theorem name_any (w : World) (E : En) (s : St) (d : Nat) (j : Bool) (h : PS w E s d j) :
    Calls Tryz.prog 98 #[pp E] w fun x w' => x = .returned (.string ⟨(text 3 s).1.toArray⟩) ∧ Out w E (text 3 s).2 d j w' := by
  have HP := Lib.hid h
  clear h
  go_enter Tryz.func98, Tryz.ntmps98
  go_wp2_with fail
  refine (text_any _ E s d j HP.out 3 (by decide)).mono ?_
  rintro x w1 ⟨rfl, ho⟩
  have HO := Lib.hid ho
  clear ho
  go_wp2
  go_ret
  exact ⟨rfl, HO.out⟩
end Go.Proofs.YtlcapkgbbgpdmaaGreatDoor.PB
