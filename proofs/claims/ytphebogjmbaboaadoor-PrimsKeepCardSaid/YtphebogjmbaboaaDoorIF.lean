/- A deed of both heaps. -/
import Derived.Test.YtphebogjmbaboaaDoorIG
namespace Go.Proofs.YtphebogjmbaboaaDoor.IF
open Go.RowKit Go.Proofs.YtphebogjmbaboaaDoor.RG Go.Proofs.YtphebogjmbaboaaDoor.RB Go.Proofs.YtphebogjmbaboaaDoor.HA Go.Proofs.YtphebogjmbaboaaDoor.HB Go.Proofs.YtphebogjmbaboaaDoor.HE Go.Proofs.YtphebogjmbaboaaDoor.HF Go.Proofs.YtphebogjmbaboaaDoor.HG Go.Proofs.YtphebogjmbaboaaDoor.HK Go.Proofs.YtphebogjmbaboaaDoor.HM Go.Proofs.YtphebogjmbaboaaDoor.HN Go.Proofs.YtphebogjmbaboaaDoor.HO Go.Proofs.YtphebogjmbaboaaDoor.HP Go.Proofs.YtphebogjmbaboaaDoor.HS Go.Proofs.YtphebogjmbaboaaDoor.HU Go.Proofs.YtphebogjmbaboaaDoor.HV Go.Proofs.YtphebogjmbaboaaDoor.HX Go.Proofs.YtphebogjmbaboaaDoor.IG Go.Proofs.YtphebogjmbaboaaDoor.O
set_option linter.unusedVariables false
set_option maxRecDepth 100000
set_option maxRecDepth 100000

/-- What a deed makes. -/
def deedR (N : Nat) (h : Hp) (k : Int) (S : List UInt8) (A B : Int) (l : List Int) : Hp × Int × Int :=
  if k = 0 then textR N h S else if k = 1 then joinR N h (wordR h A) (wordR h B) else if k = 2 then closeR N h A (wordsR h l) else if k = 3 then make 2 N h A (wordsR h l) else (h, 0, 0)
theorem bk_on3 {w w' : World} {p x m b n : Nat} {c : Array Value} {t : TypeId} (h : Bk w b c t) (ho : On3 p x m w w') (hn : p < b ∧ x < b ∧ m < b ∧ n < b) : Bk w' b c t := (ho.block b h.lt (by omega) (by omega) (by omega)).trans h
/-- A row that lies in none of the three blocks stays as it is. -/
theorem row_on3 {w w' : World} {p x m : Nat} {v : Value} {l : List Int} (h : RowI w v l) (ho : On3 p x m w w') (hn : ∀ b, v.ownBlock = some b → b ≠ p ∧ b ≠ x ∧ b ≠ m) : RowI w' v l := by
  obtain ⟨ao, cap, rfl, hc, h⟩ := row_has h
  apply has_row
  refine ⟨ao, cap, rfl, hc, ?_⟩
  rcases h with rfl | ⟨b, off, rfl, hlt, hcells⟩
  · exact .inl rfl
  · obtain ⟨n1, n2, n3⟩ := hn b rfl
    exact .inr ⟨b, off, rfl, Nat.lt_of_lt_of_le hlt ho.size, fun j hj => (World.cell?_of_block (ho.block b hlt n1 n2 n3)).trans (hcells j hj)⟩
theorem words_le {h : Hp} {N : Nat} (hf : used h ≤ N ∧ N ≤ 65536) {l : List Int} (hz : ∀ z, z ∈ l → z ≤ 9223372036854775807) : ∀ z, z ∈ wordsR h l → z ≤ 9223372036854775807 := by
  intro z hzz
  obtain ⟨y, hy, rfl⟩ := List.mem_map.1 hzz
  have h1 := hz y (List.mem_of_mem_take hy)
  unfold wordR
  split
  · have := used_le h ((-(y + 1)) % (h.length : Int)).toNat
    unfold ptr place
    omega
  · exact h1
theorem words_len (h : Hp) (l : List Int) : (wordsR h l).length ≤ 1000000 := by unfold wordsR; rw [List.length_map, List.length_take]; omega
set_option maxHeartbeats 6400000 in
theorem does_c (w : World) (C p x m o r B N : Nat) (h : Hp) (H : Two w C p x m o r B N h) (k : Int) (s : ByteArray) (S : List UInt8) (hs : (if s.size > 70 then s.extract 0 70 else s) = ⟨S.toArray⟩) (a b : Int) (ha : -9223372036854775808 ≤ a) (hb : -9223372036854775808 ≤ b) (v : Value) (l : List Int) (hv : RowI w v l) (hz : ∀ z, z ∈ l → -9223372036854775808 ≤ z ∧ z ≤ 9223372036854775807) :
    Calls Tryd.prog 11 #[.pointer (some ⟨p, 0, none⟩), .pointer (some ⟨r, 0, none⟩), .agg #[.int .i64 k, .string s, .int .i64 a, .int .i64 b, v]] w fun e w' => e = .returned (.bool true) ∧ Two w' C p x m o r B N (deedR N h k S a b l).1 ∧ Below C w w' := by
  obtain ⟨ao, cap, rfl, _⟩ := hv.val
  have HWA := Lib.hid (fun w1 (hb1 : Below w.heap.size w w1) => word_c w1 r B N h (H.keep hb1).hd a ha)
  have HWB := Lib.hid (fun w1 (hb1 : Below w.heap.size w w1) => word_c w1 r B N h (H.keep hb1).hd b hb)
  have HWS := Lib.hid (fun w1 (hb1 : Below w.heap.size w w1) => words_c w1 r B N h (H.keep hb1).hd (.slice ao l.length cap) l (hv.keep hb1) (fun z hzz => (hz z hzz).1))
  have HZB := Lib.hid (words_le (l := l) H.hp.fit (fun z hzz => (hz z hzz).2))
  have HLN := Lib.hid (words_len h l)
  obtain ⟨n, hn⟩ : ∃ n, Hid (l.length = n) := ⟨_, Lib.hid rfl⟩
  rw [hn.out] at HWS ⊢
  obtain ⟨wa, hwa⟩ : ∃ x, Hid (wordR h a = x) := ⟨_, Lib.hid rfl⟩
  obtain ⟨wb, hwb⟩ : ∃ x, Hid (wordR h b = x) := ⟨_, Lib.hid rfl⟩
  obtain ⟨ws, hws⟩ : ∃ x, Hid (wordsR h l = x) := ⟨_, Lib.hid rfl⟩
  rw [hwa.out] at HWA
  rw [hwb.out] at HWB
  rw [hws.out] at HWS HZB HLN
  have HT := Lib.hid H
  have HBK := Lib.hid (Bk.new w #[.int .i64 k, .string ⟨S.toArray⟩, .int .i64 a, .int .i64 b, .slice ao n cap] 30)
  have HBA := Lib.hid (balloc w (.cells #[.int .i64 k, .string ⟨S.toArray⟩, .int .i64 a, .int .i64 b, .slice ao n cap] 30))
  obtain ⟨z1, hz1⟩ : ∃ z, s.size = z := ⟨_, rfl⟩
  rw [hz1] at hs
  clear hz hv ha hb H
  by_cases h7 : z1 > 70
  focus
    rw [if_pos h7] at hs
    have i7 : (z1 : Int) > 70 := by omega
    have i8 : (70 : Int) ≤ (z1 : Int) := by omega
    clear h7
    go_enter Tryd.func11, Tryd.ntmps11
    go_wp2_with fail
  rotate_left
  focus
    rw [if_neg h7] at hs
    subst hs
    have i7 : ¬ (z1 : Int) > 70 := by omega
    clear h7
    go_enter Tryd.func11, Tryd.ntmps11
    go_wp2_with fail
  all_goals
    refine (HWA.out _ HBA.out).mono ?_
    rintro e w1 ⟨rfl, hb1⟩
    have HK1 := Lib.hid (HBK.out.keep hb1)
    have HB1 := Lib.hid (bnext HBA.out hb1)
    have y3 := HK1.out.cell 3 _ rfl
    clear hb1
    go_wp2_with fail
    refine (HWB.out _ HB1.out).mono ?_
    rintro e w2 ⟨rfl, hb1⟩
    have HK2 := Lib.hid (HK1.out.keep hb1)
    have HB2 := Lib.hid (bnext HB1.out hb1)
    clear y3 hb1
    have y4 := HK2.out.cell 4 _ rfl
    go_wp2_with fail
    refine (HWS.out _ HB2.out).mono ?_
    rintro e w3 ⟨vw, rfl, hv, hvb, hb1⟩
    have HK3 := Lib.hid (HK2.out.keep hb1)
    have HB3 := Lib.hid (bnext HB2.out hb1)
    have HV3 := Lib.hid hv
    have HVB := Lib.hid (fun b hb => Nat.le_trans HB2.out.size (hvb b hb))
    have HT3 := Lib.hid (HT.out.keep HB3.out)
    obtain ⟨wo, wc, rfl, _⟩ := hv.val
    clear y4 hb1 hv hvb
    have y0 := HK3.out.cell 0 _ rfl
    have y1 := HK3.out.cell 1 _ rfl
    have y2 := HK3.out.cell 2 _ rfl
    obtain ⟨nw, hnw⟩ : ∃ n, Hid (ws.length = n) := ⟨_, Lib.hid rfl⟩
    rw [hnw.out] at HV3 HVB ⊢
    have HGE := Lib.hid HT.out.ge
    have HCW := Lib.hid HT.out.low
    have HNE := Lib.hid HT.out.hp.lt
    clear HWA HWB HWS HK1 HK2 HB1 HB2
    by_cases k0 : k = 0
    · subst k0
      have HA := Lib.hid (ptext_c w3 p x m o N h HT3.out.hp ⟨S.toArray⟩)
      have HR := Lib.hid (fun w4 (H4 : HDoc w4 r B N h) (hv4 : RowI w4 (.slice wo nw wc) ws) => rtext_c w4 r B N h H4 ⟨S.toArray⟩)
      have hm0 : deedR N h 0 S a b l = textR N h S := rfl
      obtain ⟨⟨M1, M2, M3⟩, hM⟩ : ∃ x, textR N h S = x := ⟨_, rfl⟩
      have HM := Lib.hid (show (deedR N h 0 S a b l).1 = M1 from by rw [hm0, hM])
      have eS : (⟨S.toArray⟩ : ByteArray).data.toList = S := rfl
      rw [eS, hM] at HA
      simp only [hM] at HR
      clear eS
      clear hM hm0
      go_wp2_with fail
      refine HA.out.mono ?_
      rintro e w4 ⟨rfl, hp, ho⟩
      have HK4 := Lib.hid (bk_on3 HK3.out ho HNE.out)
      have HV4 := Lib.hid (row_on3 HV3.out ho (fun b hb => by have := HVB.out b hb; have := HNE.out; omega))
      have HD4 := Lib.hid (Go.Proofs.YtphebogjmbaboaaDoor.HS.HDoc.on3 HT3.out.hd ho HGE.out.2.2.2.2.1 HGE.out.2.2.2.2.2.1 HGE.out.2.2.2.2.2.2.1)
      have HP4 := Lib.hid hp
      have HC4 := Lib.hid ((HB3.out.mono HCW.out).trans (ho.below (Nat.le_trans HCW.out HB3.out.size) HGE.out.1 HGE.out.2.1 HGE.out.2.2.1))
      have HO4 := Lib.hid ho
      clear y0 y1 y2 hp ho
      have y1 := HK4.out.cell 1 _ rfl
      have y2 := HK4.out.cell 2 _ rfl
      go_wp2_with fail
      refine (HR.out _ HD4.out HV4.out).mono ?_
      rintro e w5 ⟨rfl, hd, ho⟩
      have HT5 := Lib.hid (Two.mk (Go.Proofs.YtphebogjmbaboaaDoor.HS.HP.onD HP4.out ho HGE.out.2.2.2.2.1 HGE.out.2.2.2.2.2.1 HGE.out.2.2.2.2.2.2.1 HGE.out.2.2.2.2.2.2.2 HD4.out.lt) hd HGE.out)
      have HC5 := Lib.hid (HC4.out.trans (Go.Proofs.YtphebogjmbaboaaDoor.HS.OnD.below ho (Nat.le_of_lt (Nat.lt_of_le_of_lt HGE.out.1 HGE.out.2.2.2.2.1)) HD4.out.lt))
      clear hd ho
      go_wp2_with fail
      go_ret
      exact ⟨rfl, by rw [HM.out]; exact HT5.out, HC5.out⟩
    · skip
      by_cases k1 : k = 1
      · subst k1
        have HA := Lib.hid (pjoin_c w3 p x m o N h HT3.out.hp wa wb)
        have HR := Lib.hid (fun w4 (H4 : HDoc w4 r B N h) (hv4 : RowI w4 (.slice wo nw wc) ws) => rjoin_c w4 r B N h H4 wa wb)
        have hm0 : deedR N h 1 S a b l = joinR N h wa wb := (by unfold deedR; rw [if_neg (by decide), if_pos rfl, hwa.out, hwb.out])
        obtain ⟨⟨M1, M2, M3⟩, hM⟩ : ∃ x, joinR N h wa wb = x := ⟨_, rfl⟩
        have HM := Lib.hid (show (deedR N h 1 S a b l).1 = M1 from by rw [hm0, hM])
        simp only [hM] at HA HR
        clear hM hm0
        go_wp2_with fail
        refine HA.out.mono ?_
        rintro e w4 ⟨rfl, hp, ho⟩
        have HK4 := Lib.hid (bk_on3 HK3.out ho HNE.out)
        have HV4 := Lib.hid (row_on3 HV3.out ho (fun b hb => by have := HVB.out b hb; have := HNE.out; omega))
        have HD4 := Lib.hid (Go.Proofs.YtphebogjmbaboaaDoor.HS.HDoc.on3 HT3.out.hd ho HGE.out.2.2.2.2.1 HGE.out.2.2.2.2.2.1 HGE.out.2.2.2.2.2.2.1)
        have HP4 := Lib.hid hp
        have HC4 := Lib.hid ((HB3.out.mono HCW.out).trans (ho.below (Nat.le_trans HCW.out HB3.out.size) HGE.out.1 HGE.out.2.1 HGE.out.2.2.1))
        have HO4 := Lib.hid ho
        clear y0 y1 y2 hp ho
        have y1 := HK4.out.cell 1 _ rfl
        have y2 := HK4.out.cell 2 _ rfl
        go_wp2_with fail
        refine (HR.out _ HD4.out HV4.out).mono ?_
        rintro e w5 ⟨rfl, hd, ho⟩
        have HT5 := Lib.hid (Two.mk (Go.Proofs.YtphebogjmbaboaaDoor.HS.HP.onD HP4.out ho HGE.out.2.2.2.2.1 HGE.out.2.2.2.2.2.1 HGE.out.2.2.2.2.2.2.1 HGE.out.2.2.2.2.2.2.2 HD4.out.lt) hd HGE.out)
        have HC5 := Lib.hid (HC4.out.trans (Go.Proofs.YtphebogjmbaboaaDoor.HS.OnD.below ho (Nat.le_of_lt (Nat.lt_of_le_of_lt HGE.out.1 HGE.out.2.2.2.2.1)) HD4.out.lt))
        clear hd ho
        go_wp2_with fail
        go_ret
        exact ⟨rfl, by rw [HM.out]; exact HT5.out, HC5.out⟩
      · skip
        by_cases k2 : k = 2
        · subst k2
          have HA := Lib.hid (pclose_c w3 p x m o N h HT3.out.hp a _ ws HV3.out (fun b hb => by have := HVB.out b hb; have := HNE.out.2.1; omega) HLN.out)
          have HR := Lib.hid (fun w4 (H4 : HDoc w4 r B N h) (hv4 : RowI w4 (.slice wo nw wc) ws) => rclose_c w4 r B N h H4 a _ ws hv4 HLN.out HZB.out)
          have hm0 : deedR N h 2 S a b l = closeR N h a ws := (by unfold deedR; rw [if_neg (by decide), if_neg (by decide), if_pos rfl, hws.out])
          obtain ⟨⟨M1, M2, M3⟩, hM⟩ : ∃ x, closeR N h a ws = x := ⟨_, rfl⟩
          have HM := Lib.hid (show (deedR N h 2 S a b l).1 = M1 from by rw [hm0, hM])
          simp only [hM] at HA HR
          clear hM hm0
          go_wp2_with fail
          refine HA.out.mono ?_
          rintro e w4 ⟨rfl, hp, ho⟩
          have HK4 := Lib.hid (bk_on3 HK3.out ho HNE.out)
          have HV4 := Lib.hid (row_on3 HV3.out ho (fun b hb => by have := HVB.out b hb; have := HNE.out; omega))
          have HD4 := Lib.hid (Go.Proofs.YtphebogjmbaboaaDoor.HS.HDoc.on3 HT3.out.hd ho HGE.out.2.2.2.2.1 HGE.out.2.2.2.2.2.1 HGE.out.2.2.2.2.2.2.1)
          have HP4 := Lib.hid hp
          have HC4 := Lib.hid ((HB3.out.mono HCW.out).trans (ho.below (Nat.le_trans HCW.out HB3.out.size) HGE.out.1 HGE.out.2.1 HGE.out.2.2.1))
          have HO4 := Lib.hid ho
          clear y0 y1 y2 hp ho
          have y1 := HK4.out.cell 1 _ rfl
          have y2 := HK4.out.cell 2 _ rfl
          go_wp2_with fail
          refine (HR.out _ HD4.out HV4.out).mono ?_
          rintro e w5 ⟨rfl, hd, ho⟩
          have HT5 := Lib.hid (Two.mk (Go.Proofs.YtphebogjmbaboaaDoor.HS.HP.onD HP4.out ho HGE.out.2.2.2.2.1 HGE.out.2.2.2.2.2.1 HGE.out.2.2.2.2.2.2.1 HGE.out.2.2.2.2.2.2.2 HD4.out.lt) hd HGE.out)
          have HC5 := Lib.hid (HC4.out.trans (Go.Proofs.YtphebogjmbaboaaDoor.HS.OnD.below ho (Nat.le_of_lt (Nat.lt_of_le_of_lt HGE.out.1 HGE.out.2.2.2.2.1)) HD4.out.lt))
          clear hd ho
          go_wp2_with fail
          go_ret
          exact ⟨rfl, by rw [HM.out]; exact HT5.out, HC5.out⟩
        · skip
          by_cases k3 : k = 3
          · subst k3
            have HA := Lib.hid (make_c w3 p x m o N h HT3.out.hp a _ ws HV3.out (fun b hb => by have := HVB.out b hb; have := HNE.out.2.1; omega) HLN.out)
            have HR := Lib.hid (fun w4 (H4 : HDoc w4 r B N h) (hv4 : RowI w4 (.slice wo nw wc) ws) => rmake_c w4 r B N h H4 a _ ws hv4 HZB.out)
            have hm0 : deedR N h 3 S a b l = make 2 N h a ws := (by unfold deedR; rw [if_neg (by decide), if_neg (by decide), if_neg (by decide), if_pos rfl, hws.out])
            obtain ⟨⟨M1, M2, M3⟩, hM⟩ : ∃ x, make 2 N h a ws = x := ⟨_, rfl⟩
            have HM := Lib.hid (show (deedR N h 3 S a b l).1 = M1 from by rw [hm0, hM])
            simp only [hM] at HA HR
            clear hM hm0
            go_wp2_with fail
            refine HA.out.mono ?_
            rintro e w4 ⟨rfl, hp, ho⟩
            have HK4 := Lib.hid (bk_on3 HK3.out ho HNE.out)
            have HV4 := Lib.hid (row_on3 HV3.out ho (fun b hb => by have := HVB.out b hb; have := HNE.out; omega))
            have HD4 := Lib.hid (Go.Proofs.YtphebogjmbaboaaDoor.HS.HDoc.on3 HT3.out.hd ho HGE.out.2.2.2.2.1 HGE.out.2.2.2.2.2.1 HGE.out.2.2.2.2.2.2.1)
            have HP4 := Lib.hid hp
            have HC4 := Lib.hid ((HB3.out.mono HCW.out).trans (ho.below (Nat.le_trans HCW.out HB3.out.size) HGE.out.1 HGE.out.2.1 HGE.out.2.2.1))
            have HO4 := Lib.hid ho
            clear y0 y1 y2 hp ho
            have y1 := HK4.out.cell 1 _ rfl
            have y2 := HK4.out.cell 2 _ rfl
            go_wp2_with fail
            refine (HR.out _ HD4.out HV4.out).mono ?_
            rintro e w5 ⟨rfl, hd, ho⟩
            have HT5 := Lib.hid (Two.mk (Go.Proofs.YtphebogjmbaboaaDoor.HS.HP.onD HP4.out ho HGE.out.2.2.2.2.1 HGE.out.2.2.2.2.2.1 HGE.out.2.2.2.2.2.2.1 HGE.out.2.2.2.2.2.2.2 HD4.out.lt) hd HGE.out)
            have HC5 := Lib.hid (HC4.out.trans (Go.Proofs.YtphebogjmbaboaaDoor.HS.OnD.below ho (Nat.le_of_lt (Nat.lt_of_le_of_lt HGE.out.1 HGE.out.2.2.2.2.1)) HD4.out.lt))
            clear hd ho
            go_wp2_with fail
            go_ret
            exact ⟨rfl, by rw [HM.out]; exact HT5.out, HC5.out⟩
          · skip
            have hm0 : deedR N h k S a b l = (h, 0, 0) := by unfold deedR; rw [if_neg k0, if_neg k1, if_neg k2, if_neg k3]
            have HM := Lib.hid (show (deedR N h k S a b l).1 = h from by rw [hm0])
            have HC3 := Lib.hid (HB3.out.mono HCW.out)
            clear hm0
            go_wp2_with fail
            go_ret
            exact ⟨rfl, by rw [HM.out]; exact HT3.out, HC3.out⟩
end Go.Proofs.YtphebogjmbaboaaDoor.IF
