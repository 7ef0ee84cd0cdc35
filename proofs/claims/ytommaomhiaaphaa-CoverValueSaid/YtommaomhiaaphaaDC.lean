/- The examples. -/
import Derived.Test.YtommaomhiaaphaaDA
namespace Go.Proofs.Ytommaomhiaaphaa.DC
open Go.RowKit Go.Proofs.Ytommaomhiaaphaa.CA Go.Proofs.Ytommaomhiaaphaa.CB Go.Proofs.Ytommaomhiaaphaa.CC Go.Proofs.Ytommaomhiaaphaa.CD Go.Proofs.Ytommaomhiaaphaa.CE Go.Proofs.Ytommaomhiaaphaa.CF Go.Proofs.Ytommaomhiaaphaa.CG Go.Proofs.Ytommaomhiaaphaa.CH Go.Proofs.Ytommaomhiaaphaa.CK Go.Proofs.Ytommaomhiaaphaa.CI Go.Proofs.Ytommaomhiaaphaa.CL Go.Proofs.Ytommaomhiaaphaa.CO Go.Proofs.Ytommaomhiaaphaa.CT Go.Proofs.Ytommaomhiaaphaa.CU Go.Proofs.Ytommaomhiaaphaa.CV Go.Proofs.Ytommaomhiaaphaa.CW Go.Proofs.Ytommaomhiaaphaa.DB Go.Proofs.Ytommaomhiaaphaa.DA
set_option linter.unusedVariables false
set_option maxRecDepth 100000
/-- Check of a row that was laid just now, of the eight constructors. -/
theorem chk_new {w0 w : World} {B L : Nat} {c : Array Value} {t : TypeId} {n e : Int} (rows : List Nd) (qs : List Value) (hr : RowC w0 (.slice (some ⟨B, 0, none⟩) 8 8) C8) (hk : Below w0.heap.size w0 w) (hL : rows.length = L) (hc : c.toList = nrow rows qs) (hq : HasNs (w.alloc (.cells c t)) Any rows qs) (hn : rows.length ≤ 1000) (hs : ∀ p, p ∈ rows → sz p ≤ 5000) (h : chk C8 rows = (n, e)) :
    Calls Try.prog 7 #[.slice (some ⟨w.heap.size, 0, none⟩) L L, .slice (some ⟨B, 0, none⟩) 8 8] (w.alloc (.cells c t)) fun x w' => x = .returned (.tuple #[.int .i64 n, .int .i64 e]) ∧ Below w0.heap.size w0 w' := by
  subst hL
  have hk' : Below w0.heap.size w0 (w.alloc (.cells c t)) := bnext hk (balloc w (.cells c t))
  have h1 : ConsIn (w.alloc (.cells c t)) (.slice (some ⟨B, 0, none⟩) 8 8) C8 := cons_in (RowC.keep hr hk')
  have h2 : RowN (w.alloc (.cells c t)) Any (.slice (some ⟨w.heap.size, 0, none⟩) rows.length rows.length) rows := rowN_cells (heap_alloc_new w (.cells c t)) hc hq rows.length (Nat.le_refl _)
  generalize w.alloc (.cells c t) = W at *
  exact (check_is C8 rows _ _ W n e h1 h2 hn hs h).mono fun x w' ⟨h3, h4⟩ => ⟨h3, bnext hk' h4⟩
set_option maxRecDepth 100000 in
set_option maxHeartbeats 2000000 in
theorem lives_c (w : World) : Calls Try.prog 9 #[] w fun e w' => e = .returned (.bool true) ∧ Below w.heap.size w w' := by
  have K1 := fun w => con_c [84, 114, 117, 101] none 0 0 w
  have K2 := fun w => con_c [70, 97, 108, 115, 101] none 0 0 w
  have K3 := fun w => con_c [78, 105, 108] none 0 0 w
  have K5 := fun w => any_c w
  go_enter Try.func9, Try.ntmps9
  go_wp2_with fail
  refine (cons_c _).mono ?_
  rintro e w1 ⟨rfl, hrc, hb1⟩
  have HRC := Lib.hid hrc
  have HB1 := Lib.hid hb1
  obtain ⟨B, hB⟩ : ∃ B, Hid (w.heap.size = B) := ⟨_, Lib.hid rfl⟩
  rw [hB.out] at HRC ⊢
  clear hrc hb1
  go_wp2_with fail
  refine (K1 _).mono ?_
  rintro e w2 ⟨rfl, hb⟩
  have Hw2 := Lib.hid (show Below w1.heap.size w1 w2 from hb)
  clear hb
  go_wp2_with fail
  refine (K2 _).mono ?_
  rintro e w3 ⟨rfl, hb⟩
  have Hw3 := Lib.hid (show Below w1.heap.size w1 w3 from bnext Hw2.out hb)
  clear hb
  go_wp2_with fail
  refine (chk_new [kon [84, 114, 117, 101] [], kon [70, 97, 108, 115, 101] []] [.slice none 0 0, .slice none 0 0] HRC.out Hw3.out rfl rfl ⟨leafN _ 5 0 _, leafN _ 5 0 _, trivial⟩ (by decide) (by decide) ex1).mono ?_
  rintro e w4 ⟨rfl, hb⟩
  have Hw4 := Lib.hid hb
  clear hb
  go_wp2_with fail
  refine (K1 _).mono ?_
  rintro e w5 ⟨rfl, hb⟩
  have Hw5 := Lib.hid (show Below w1.heap.size w1 w5 from bnext Hw4.out hb)
  clear hb
  go_wp2_with fail
  refine (K5 _).mono ?_
  rintro e w6 ⟨rfl, hb⟩
  have Hw6 := Lib.hid (show Below w1.heap.size w1 w6 from bnext Hw5.out hb)
  clear hb
  go_wp2_with fail
  refine (K2 _).mono ?_
  rintro e w7 ⟨rfl, hb⟩
  have Hw7 := Lib.hid (show Below w1.heap.size w1 w7 from bnext Hw6.out hb)
  clear hb
  go_wp2_with fail
  refine (chk_new [kon [84, 114, 117, 101] [], anyNd, kon [70, 97, 108, 115, 101] []] [.slice none 0 0, .slice none 0 0, .slice none 0 0] HRC.out Hw7.out rfl rfl ⟨leafN _ 5 0 _, leafN _ 24 0 _, leafN _ 5 0 _, trivial⟩ (by decide) (by decide) ex2).mono ?_
  rintro e w8 ⟨rfl, hb⟩
  have Hw8 := Lib.hid hb
  clear hb
  go_wp2_with fail
  refine (K3 _).mono ?_
  rintro e w9 ⟨rfl, hb⟩
  have Hw9 := Lib.hid (show Below w1.heap.size w1 w9 from bnext Hw8.out hb)
  clear hb
  go_wp2_with fail
  refine (K5 _).mono ?_
  rintro e w10 ⟨rfl, hb⟩
  have Hw10 := Lib.hid (show Below w1.heap.size w1 w10 from bnext Hw9.out hb)
  clear hb
  go_wp2_with fail
  refine (K3 _).mono ?_
  rintro e w11 ⟨rfl, hb⟩
  have Hw11 := Lib.hid (show Below w1.heap.size w1 w11 from bnext Hw10.out hb)
  clear hb
  go_wp2_with fail
  have HR := Lib.hid (rowN_cells (l := [anyNd, kon [78, 105, 108] []]) (qs := [.slice none 0 0, .slice none 0 0]) (heap_alloc_new w11 (.cells #[.int .i64 24, .string ⟨#[]⟩, .int .i64 0, .int .i64 0, .slice none 0 0, .slice none 0 0, .int .i64 5, .string ⟨#[78, 105, 108]⟩, .int .i64 0, .int .i64 0, .slice none 0 0, .slice none 0 0] 38)) rfl ⟨leafN _ 24 0 _, leafN _ 5 0 _, trivial⟩ 2 (Nat.le_refl _))
  have HA11 := Lib.hid (show Below w1.heap.size w1 _ from bnext Hw11.out (balloc w11 (.cells #[.int .i64 24, .string ⟨#[]⟩, .int .i64 0, .int .i64 0, .slice none 0 0, .slice none 0 0, .int .i64 5, .string ⟨#[78, 105, 108]⟩, .int .i64 0, .int .i64 0, .slice none 0 0, .slice none 0 0] 38)))
  refine (con_c [67, 111, 110, 115] (some ⟨w11.heap.size, 0, none⟩) 2 2 _).mono ?_
  rintro e w12 ⟨rfl, hb⟩
  have Hw12 := Lib.hid (show Below w1.heap.size w1 w12 from bnext HA11.out hb)
  have HR12 := Lib.hid (HR.out.keep hb)
  clear hb
  go_wp2_with fail
  refine (chk_new [kon [78, 105, 108] [], kon [67, 111, 110, 115] [anyNd, kon [78, 105, 108] []]] [.slice none 0 0, .slice (some ⟨w11.heap.size, 0, none⟩) 2 2] HRC.out Hw12.out rfl rfl ⟨leafN _ 5 0 _, hasN_row.2 (HR12.out.keep (balloc _ _)), trivial⟩ (by decide) (by decide) ex3).mono ?_
  rintro e w13 ⟨rfl, hb⟩
  have Hw13 := Lib.hid hb
  clear hb
  go_wp2_with fail
  refine (chk_new [.mk 1 0 [] [], .mk 1 1 [] []] [.slice none 0 0, .slice none 0 0] HRC.out Hw13.out rfl rfl ⟨leafN _ 1 0 _, leafN _ 1 1 _, trivial⟩ (by decide) (by decide) ex4).mono ?_
  rintro e w14 ⟨rfl, hb⟩
  have Hw14 := Lib.hid hb
  clear hb
  go_wp2_with fail
  go_ret
  exact ⟨rfl, bnext HB1.out Hw14.out⟩
end Go.Proofs.Ytommaomhiaaphaa.DC
