/- ZS: several texts in one (PS PH). -/
import Derived.Shelf.Sort.Plain
import Derived.Test.YtjoifodjbdbicaaProg
import Derived.Test.YtjoifodjbdbicaaZQ

/- The library's sort of integers, as it lies in this program. -/
namespace Go.Proofs.Ytjoifodjbdbicaa.PS
open Go.Shelf
def sortRen : Go.Shelf.Ren := ⟨fun | 189 => 74 | 125 => 78 | 257 => 77 | 128 => 89 | 129 => 90 | 294 => 80 | 295 => 81 | 296 => 82 | 297 => 83 | 298 => 84 | 299 => 85 | 216 => 86 | 300 => 87 | 301 => 88 | 328 => 91 | 329 => 92 | 330 => 93 | 331 => 94 | 332 => 95 | 215 => 96 | 343 => 97 | n => n, fun | 28 => 37 | 3 => 3 | 46 => 104 | 0 => 0 | 51 => 114 | 53 => 116 | 4 => 4 | 183 => 108 | 182 => 107 | 131 => 91 | 5 => 5 | 9 => 9 | 218 => 117 | 222 => 121 | 228 => 123 | 229 => 124 | n => n, fun | n => n⟩
theorem sortLays : Go.Proofs.Lays.n189 Try.prog sortRen := {
  mixed := by kernel_rfl
  f125 := Try.func78.trans (congrArg some (by kernel_rfl))
  f128 := Try.func89.trans (congrArg some (by kernel_rfl))
  f129 := Try.func90.trans (congrArg some (by kernel_rfl))
  f189 := Try.func74.trans (congrArg some (by kernel_rfl))
  f215 := Try.func96.trans (congrArg some (by kernel_rfl))
  f216 := Try.func86.trans (congrArg some (by kernel_rfl))
  f257 := Try.func77.trans (congrArg some (by kernel_rfl))
  f294 := Try.func80.trans (congrArg some (by kernel_rfl))
  f295 := Try.func81.trans (congrArg some (by kernel_rfl))
  f296 := Try.func82.trans (congrArg some (by kernel_rfl))
  f297 := Try.func83.trans (congrArg some (by kernel_rfl))
  f298 := Try.func84.trans (congrArg some (by kernel_rfl))
  f299 := Try.func85.trans (congrArg some (by kernel_rfl))
  f300 := Try.func87.trans (congrArg some (by kernel_rfl))
  f301 := Try.func88.trans (congrArg some (by kernel_rfl))
  f328 := Try.func91.trans (congrArg some (by kernel_rfl))
  f329 := Try.func92.trans (congrArg some (by kernel_rfl))
  f330 := Try.func93.trans (congrArg some (by kernel_rfl))
  f331 := Try.func94.trans (congrArg some (by kernel_rfl))
  f332 := Try.func95.trans (congrArg some (by kernel_rfl))
  f343 := Try.func97.trans (congrArg some (by kernel_rfl))
  t0 := Try.underlying0
  a0 := Try.isAgg0
  z0 := Try.sizeOf0
  v0 := Try.zeroValue0
  t3 := Try.underlying3
  a3 := Try.isAgg3
  z3 := Try.sizeOf3
  v3 := Try.zeroValue3
  t4 := Try.underlying4
  a4 := Try.isAgg4
  z4 := Try.sizeOf4
  v4 := Try.zeroValue4
  t5 := Try.underlying5
  a5 := Try.isAgg5
  z5 := Try.sizeOf5
  v5 := Try.zeroValue5
  t9 := Try.underlying9
  a9 := Try.isAgg9
  z9 := Try.sizeOf9
  v9 := Try.zeroValue9
  t28 := Try.underlying37
  a28 := Try.isAgg37
  z28 := Try.sizeOf37
  v28 := Try.zeroValue37
  t46 := Try.underlying104
  a46 := Try.isAgg104
  z46 := Try.sizeOf104
  v46 := Try.zeroValue104
  t51 := Try.underlying114
  a51 := Try.isAgg114
  z51 := Try.sizeOf114
  v51 := Try.zeroValue114
  t53 := Try.underlying116
  a53 := Try.isAgg116
  z53 := Try.sizeOf116
  v53 := Try.zeroValue116
  t131 := Try.underlying91
  a131 := Try.isAgg91
  z131 := Try.sizeOf91
  v131 := Try.zeroValue91
  t182 := Try.underlying107
  a182 := Try.isAgg107
  z182 := Try.sizeOf107
  v182 := Try.zeroValue107
  t183 := Try.underlying108
  a183 := Try.isAgg108
  z183 := Try.sizeOf108
  v183 := Try.zeroValue108
  t218 := Try.underlying117
  a218 := Try.isAgg117
  z218 := Try.sizeOf117
  v218 := Try.zeroValue117
  t222 := Try.underlying121
  a222 := Try.isAgg121
  z222 := Try.sizeOf121
  v222 := Try.zeroValue121
  t228 := Try.underlying123
  a228 := Try.isAgg123
  z228 := Try.sizeOf123
  v228 := Try.zeroValue123
  t229 := Try.underlying124
  a229 := Try.isAgg124
  z229 := Try.sizeOf124
  v229 := Try.zeroValue124 }
open Go.Sort Go.RowKit in
theorem sort_c (blk off cap : Nat) (zs : List Int) (w : World) (hH : Holds (Value.int .i64) w blk off zs.toArray) (hblk : blk < w.heap.size) (hsz : zs.length < 4611686018427387904) :
    Calls Try.prog 74 #[.slice (some ⟨blk, off, none⟩) zs.length cap] w fun e w' =>
      e = .returned (.tuple #[]) ∧ ∃ n os, w' = grow (putRow (Value.int .i64) (Sort.ahead w n) blk off (zs.mergeSort fun x y => decide (x ≤ y)).toArray) os := Any.slices_Sort_int sortLays blk off cap zs w hH hblk hsz
end Go.Proofs.Ytjoifodjbdbicaa.PS

/- The vars that a map has, rising: rising. -/
namespace Go.Proofs.Ytjoifodjbdbicaa.PH
open Go.RowKit Go.Sort Go.Proofs.Ytjoifodjbdbicaa.RG Go.Proofs.Ytjoifodjbdbicaa.RB Go.Proofs.Ytjoifodjbdbicaa.RI Go.Proofs.Ytjoifodjbdbicaa.RM Go.Proofs.Ytjoifodjbdbicaa.UA Go.Proofs.Ytjoifodjbdbicaa.UB Go.Proofs.Ytjoifodjbdbicaa.UD Go.Proofs.Ytjoifodjbdbicaa.UE Go.Proofs.Ytjoifodjbdbicaa.UH Go.Proofs.Ytjoifodjbdbicaa.UI Go.Proofs.Ytjoifodjbdbicaa.PA Go.Proofs.Ytjoifodjbdbicaa.PB Go.Proofs.Ytjoifodjbdbicaa.PC
set_option linter.unusedVariables false
set_option maxRecDepth 100000
set_option maxRecDepth 100000

/-- What a sort leaves. -/
theorem sorted_w {w w' : World} {g : Nat} {l l' : List Int} {cur : Array Value} {T : TypeId} (hk : Bk w g cur T) (h0 : Holds (Value.int .i64) w g 0 l.toArray) (hl : l'.length = l.length) {n : Nat} {os : Array Obj} (e : w' = grow (putRow (Value.int .i64) (Go.Sort.ahead w n) g 0 l'.toArray) os) :
    OnS (fun b => b = g) w w' ∧ (∃ cur', Bk w' g cur' T) ∧ ∀ j (h : j < l'.length), w'.cell? ⟨g, 0 + j, none⟩ = some (.int .i64 l'[j]) := by
  subst e
  have hsz : (putRow (Value.int .i64) (Go.Sort.ahead w n) g 0 l'.toArray).heap.size = w.heap.size := by simp
  have hlt := hk.lt
  have hb : ∀ k, k < w.heap.size → (grow (putRow (Value.int .i64) (Go.Sort.ahead w n) g 0 l'.toArray) os).heap[k]? = (putRow (Value.int .i64) (Go.Sort.ahead w n) g 0 l'.toArray).heap[k]? := fun k h => heap_grow_old _ os (by rw [hsz]; exact h)
  refine ⟨⟨rfl, rfl, rfl, by rw [size_grow, hsz]; omega, fun k hk2 hne => ?_⟩, ?_, fun j hj => ?_⟩
  · rw [hb k hk2]
    show (w.heap.modify g _)[k]? = w.heap[k]?
    rw [Array.getElem?_modify, if_neg (fun e => hne e.symm)]
  · unfold Bk at hk ⊢
    refine ⟨putCells (Value.int .i64) 0 l'.toArray cur, ?_⟩
    rw [hb g hlt]
    show (w.heap.modify g _)[g]? = _
    rw [Array.getElem?_modify, if_pos rfl, hk]
    rfl
  · have hH := holds_putRow (Value.int .i64) (Go.Sort.ahead w n) g 0 l.toArray l'.toArray (holds_ahead _ w n g 0 _ h0) (by simp [hl])
    have h1 := (hH j (by simpa using hj)).1
    rw [cell?_grow _ os _ (by rw [hsz]; exact hlt), h1]
    simp [hj]
theorem own_holds {w : World} {B g cap : Nat} {l : List Int} (h : OwnR TI w B Nobody (.slice (some ⟨g, 0, none⟩) l.length cap) l) : (∃ cur, Bk w g cur 3) ∧ Holds (Value.int .i64) w g 0 l.toArray := by
  obtain ⟨⟨cur, hk⟩, _⟩ := own_blk h rfl
  refine ⟨⟨cur, hk⟩, fun j hj => ⟨?_, hk.free _⟩⟩
  have hj : j < l.length := by simpa using hj
  obtain ⟨ao, cap', e, _, hr⟩ := row_has h.row
  injection e with e1
  rcases hr with hr | ⟨b, off, e2, _, hc⟩
  · rw [hr] at hj; cases hj
  · rw [← e1] at e2
    injection e2 with e2
    injection e2 with e2 e3
    subst e2
    subst e3
    have := hc j hj
    simpa [hj] using this
/-- 'make([]int, 0, n)'. -/
theorem run_make0 (n : Nat) (hn : n ≤ 1000000) (w : World) : (Instr.makeSlice 37 (.int .i64 0) (.int .i64 (n : Int))).run Try.prog w = .ok (.slice (some ⟨w.heap.size, 0, none⟩) 0 n) (w.alloc (.cells (madeCells TI.z.cells (n * TI.size)) 3)) := by
  obtain ⟨i, hi, hz, hs, hb⟩ := info_parts TI.info
  have hb' : (i.bytes : Int) * (n : Int) ≤ 281474976710656 := by
    have h : ((i.bytes * n : Nat) : Int) ≤ 281474976710656 := by
      have : i.bytes * n ≤ 1000 * 1000000 := Nat.mul_le_mul (by rw [hb]; exact TI.hby) hn
      omega
    rwa [Int.natCast_mul] at h
  have hr := run_make (P := Try.prog) w TI.t TI.e i TI.z TI.ht hi hz .i64 .i64 0 n (by omega) (by omega) hb' (by omega)
  simp only [Int.toNat_natCast, hs] at hr
  exact hr
theorem own_make0 (n : Nat) (hn : n ≤ 1000000) (w : World) : OwnR TI (w.alloc (.cells (madeCells TI.z.cells (n * TI.size)) 3)) w.heap.size Nobody (.slice (some ⟨w.heap.size, 0, none⟩) 0 n) [] := by
  have h := own_made (R := TI) w 0 [] rfl (fun _ _ => rfl) n (by unfold maxLen; omega)
  by_cases h0 : n = 0
  · subst h0; exact h
  · have := own_short h (m := 0) (Nat.zero_le _) (by rw [List.length_replicate]; omega)
    exact this
theorem size_dat (ks : List (Int × Int)) : Maps.size (dat ks) = ks.length := by
  unfold dat
  rw [Maps.size_eq, length_sorted]
  simp [lits]
theorem len_map {w : World} {mb : Nat} {ks : List (Int × Int)} (hm : MapB w mb ks) (ty : TypeId) : (Builtin.len_ #[88] ty #[.map (some mb)]).run Try.prog w = .ok (.int .i64 (ks.length : Int)) w := by
  unfold MapB at hm
  have hl : (entsV 0 ks).length = ks.length := by have := congrArg List.length (entsV_keys ks 0); simpa using this
  simp [Builtin.len_, run_underlying Try.underlying88, MapKept.run_getObj_map hm, Result.andThen, hl, goInt]
set_option maxHeartbeats 1600000 in
theorem rising_c (w : World) (mb : Nat) (ks : List (Int × Int)) (hm : MapB w mb ks) (hd : (keys ks).Nodup) (hs : Small ks) (hl : ks.length ≤ 100000) :
    Calls Try.prog 54 #[.map (some mb)] w fun e w' => ∃ g cap, e = .returned (.slice (some ⟨g, 0, none⟩) ks.length cap) ∧ RowI w' (.slice (some ⟨g, 0, none⟩) ks.length cap) (srt (keys ks)) ∧ (∃ cur, Bk w' g cur 3) ∧ w.heap.size ≤ g ∧ Below w.heap.size w w' := by
  have HM := Lib.hid hm
  have hmk := run_make0 ks.length (by omega) w
  have HOW := Lib.hid (own_make0 ks.length (by omega) w)
  have hlen : ∀ ty, (Builtin.len_ #[88] ty #[.map (some mb)]).run Try.prog w = .ok (.int .i64 (ks.length : Int)) w := len_map hm
  obtain ⟨W1, hW1⟩ : ∃ W1, w.alloc (.cells (madeCells TI.z.cells (ks.length * TI.size)) 3) = W1 := ⟨_, rfl⟩
  rw [hW1] at hmk HOW
  have HB1 := Lib.hid (show Below w.heap.size w W1 from hW1 ▸ balloc w _)
  have HZ1 := Lib.hid (show W1.heap.size = w.heap.size + 1 from hW1 ▸ World.size_alloc _ _)
  have HM1 := Lib.hid (hm.keep HB1.out)
  have hown : W1.ownsMap Try.prog 3 anyInt mb ks.length (dat ks) := HM1.out.own hd hs (by omega)
  obtain ⟨N, hN⟩ : ∃ N, Hid (ks.length = N) := ⟨_, Lib.hid rfl⟩
  have HD := Lib.hid hd
  have hNl : N ≤ 100000 := by rw [← hN.out]; exact hl
  have HLS := Lib.hid (left_start ks)
  have HSD := Lib.hid (size_dat ks)
  rw [hN.out] at hmk HOW hown HSD hlen
  rw [hN.out]
  have hmbl := hm.lt
  clear hm hd hs hW1 hl
  go_enter Try.func54, Try.ntmps54
  go_wp2_with (at_range; go_loud (refine wpList_range_own _ rfl _ 88 rfl 3 3 kinfo Try.underlying88 _ _ N (dat ks) rfl hown ?_); intro w0 hrg0 hg0 hs0; rw [HSD.out] at hrg0; have HRG := Lib.hid hrg0; have HG := Lib.hid hg0; have HS := Lib.hid hs0; clear hrg0 hg0 hs0 hown)
  go_frame
  go_loopg [3] N (fun g lv wr => ∃ (l : List Int) (left : Lit → Bool) (gb cap : Nat), lv = .slice (some ⟨gb, 0, none⟩) l.length cap ∧ Hid (wr.ranges Try.prog 3 anyInt mb W1.heap.size N (dat ks) left g) ∧ Hid (OwnR TI wr w.heap.size Nobody (.slice (some ⟨gb, 0, none⟩) l.length cap) l) ∧ Hid (PB.Left ks l left) ∧ Hid (gb ≠ W1.heap.size ∧ w.heap.size ≤ gb) ∧ Hid (W1.heap.size < wr.heap.size) ∧ Hid (Below w.heap.size w wr))
  case atStart =>
    refine ⟨[], _, w.heap.size, N, rfl, HRG, Lib.hid (ownF_on HOW.out (ons_grown HG.out) (fun b hb e => by cases e)), HLS, Lib.hid ⟨by rw [HZ1.out]; omega, Nat.le_refl _⟩, Lib.hid (by rw [HS.out]; omega), Lib.hid ?_⟩
    exact HB1.out.trans (bgrown HG.out (fun b hb => by cases hb) HB1.out.size)
  case round =>
    obtain ⟨l, left, gb, cap, rfl, HR, HO, HL, HGB, HSZ, HB⟩ := hrel
    have HLL := Lib.hid (show l.length ≤ 100000 by have := HL.out.len; rw [hN.out] at this; omega)
    go_wp2_with (first
      | (at_next; refine wpList_next_ranges _ rfl _ rfl 3 kinfo anyInt (Value.int .i64) (Value.int .i64) (fun key kl hk => by obtain ⟨x, rfl, _⟩ := Maps.keyOf_int_inv Try.underlying3 hk; exact ⟨x, rfl⟩) anyInt_inv mb W1.heap.size N _ _ _ rfl HR.out ?_ ?_)
      | go_in)
    · intro hc0 hl0
      have HE := Lib.hid (HL.out.srt hl0 HD.out)
      have HHO := Lib.hid (own_holds HO.out)
      have hgl := HHO.out.1.choose_spec.lt
      have HSC := Lib.hid (PS.sort_c gb 0 cap l wr HHO.out.2 hgl (by have := HLL.out; omega))
      have HK := Lib.hid (show l.length = ks.length from by
        have h1 := srt_len l
        have h2 := srt_len (keys ks)
        rw [HE.out, h2] at h1
        simpa [keys] using h1.symm)
      clear hl0
      go_wp2_with (go_at_call 74; refine HSC.out.mono ?_; rintro e w9 ⟨rfl, hw9⟩; have HW9 := Lib.hid hw9; clear hw9)
      go_ret
      obtain ⟨k, os, hw9⟩ := HW9.out
      obtain ⟨cur, hcur⟩ := HHO.out.1
      obtain ⟨ho, hk9, hc9⟩ := sorted_w (l' := srt l) hcur HHO.out.2 (srt_len l) hw9
      have hnN : l.length = N := by rw [← hN.out]; exact HK.out
      have hb9 : Below w.heap.size w w9 := HB.out.trans (ho.below HB.out.size fun b hb => by rw [hb]; exact HGB.out.2)
      refine ⟨gb, cap, by rw [← hnN]; rfl, ?_, hk9, HGB.out.2, hb9⟩
      rw [← HE.out]
      apply has_row
      have e1 : (srt l).length = N := by rw [srt_len, hnN]
      refine ⟨some ⟨gb, 0, none⟩, cap, by rw [e1], ?_, .inr ⟨gb, 0, rfl, hk9.choose_spec.lt, hc9⟩⟩
      obtain ⟨_, cap', e, hle⟩ := HO.out.val
      injection e with _ _ e
      rw [e1, e, ← hnN]
      exact hle
    · intro x c kl y1 y2 w2 cnt1 hkk hlk hy hat hrg1 hlt hg1 hs1 hen
      obtain ⟨x', ex, rfl, hwf⟩ := Maps.keyOf_int_inv Try.underlying3 hkk
      injection ex with _ ex
      subst ex
      have HO2 := Lib.hid (ownF_on HO.out (ons_grown hg1) (fun b hb e => HGB.out.1 (by injection hb with hb; injection e with e; exact (show gb = b from hb).trans e.symm)))
      have HB2 := Lib.hid (HB.out.trans (bgrown hg1 (fun b hb => by injection hb with hb; have := HZ1.out; omega) HB.out.size))
      have HBA := Lib.hid (balloc w2 (.cells #[.int .i64 x] 3))
      have HO3 := Lib.hid (HO2.out.keep HBA.out)
      have HRN := Lib.hid (show RowR TI (w2.alloc (.cells #[.int .i64 x] 3)) (fun b => Nobody b ∧ (Value.slice (some ⟨gb, 0, none⟩) l.length cap).ownBlock ≠ some b) (.slice (some ⟨w2.heap.size, 0, none⟩) 1 1) [x] from rowR_new (R := TI) (q := []) #[.int .i64 x] 3 rfl rfl)
      have HLN := Lib.hid (show l.length + [x].length ≤ 100000000000 by rw [List.length_singleton]; have := HLL.out; omega)
      have HRG1 := Lib.hid hrg1
      have HLT := Lib.hid hlt
      have HST := Lib.hid (HL.out.step hlk)
      have HSZ2 := Lib.hid (show W1.heap.size < w2.heap.size by rw [hs1]; exact HSZ.out)
      have HW := Lib.hid (show w.heap.size ≤ (w2.alloc (.cells #[.int .i64 x] 3)).heap.size by have := HB2.out.size; rw [World.size_alloc]; omega)
      clear hkk hlk hy hat hrg1 hlt hg1 hs1 hwf
      go_wp2_with (at_builtin; go_loud (refine wpList_row TI (w2.alloc (.cells #[.int .i64 x] 3)) rfl (.tmp 14) (.tmp 16) rfl w.heap.size Nobody (.slice (some ⟨gb, 0, none⟩) l.length cap) (.slice (some ⟨w2.heap.size, 0, none⟩) 1 1) l [x] rfl rfl HO3.out HRN.out HLN.out HW.out ?_); intro ao6 n6 cap6 w6 hO6 hn6 hg6 ha6; have HN6 := Lib.hid hn6; have HO6 := Lib.hid hO6; have HG6 := Lib.hid hg6; have HA6 := Lib.hid ha6; clear hO6 hn6 hg6 ha6)
      go_roundg cnt1
      case rel =>
        obtain ⟨g6, hg6, hg6n⟩ : ∃ g6, ao6 = some ⟨g6, 0, none⟩ ∧ (g6 = gb ∨ g6 = w2.heap.size + 1) := by
          rcases HA6.out with h | h
          · obtain ⟨_, cap', e⟩ := own_blk HO6.out h
            injection e with e
            exact ⟨gb, e, .inl rfl⟩
          · obtain ⟨_, cap', e⟩ := own_blk HO6.out h
            injection e with e
            exact ⟨_, e, .inr (World.size_alloc _ _)⟩
        subst hg6
        have hsz6 := HG6.out.size
        rw [World.size_alloc] at hsz6
        have hn6 : n6 = (l ++ [x]).length := by rw [HN6.out, List.length_append]
        subst hn6
        have hb6 : Below w.heap.size w w6 := (HB2.out.trans (HBA.out.mono HB2.out.size)).trans (bgrown HG6.out (fun b hb => by injection hb with hb; rw [← show gb = b from hb]; exact HGB.out.2) HW.out)
        refine ⟨l ++ [x], _, g6, cap6, rfl, Lib.hid ((HRG1.out.alloc _).kept HG6.out (fun e => ?_) (fun e => ?_)), Lib.hid HO6.out, Lib.hid HST.out, Lib.hid ⟨?_, ?_⟩, Lib.hid (by have := HSZ2.out; omega), Lib.hid hb6⟩
        · injection e with e
          have h1 := HRG1.out.owns.lt
          obtain ⟨⟨cur, hk⟩, _⟩ := own_blk HO2.out rfl
          obtain ⟨es, ck, hb, _⟩ := HRG1.out.owns
          subst e
          unfold Bk at hk
          rw [hb] at hk
          cases hk
        · injection e with e
          exact HGB.out.1 e.symm
        · rcases hg6n with h | h
          · rw [h]; exact HGB.out.1
          · have := HSZ2.out; omega
        · rcases hg6n with h | h
          · rw [h]; exact HGB.out.2
          · have := HB2.out.size; omega
      case measure => exact HLT.out
end Go.Proofs.Ytjoifodjbdbicaa.PH
