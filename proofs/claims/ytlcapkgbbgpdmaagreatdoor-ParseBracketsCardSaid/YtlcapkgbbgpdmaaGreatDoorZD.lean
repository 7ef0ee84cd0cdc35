/- the parser, walked: signs, sequences, patterns, try, if: several texts in one. -/
import Derived.Test.YtlcapkgbbgpdmaaGreatDoorZC

/- A sign, and what stands on its right. -/
namespace Go.Proofs.YtlcapkgbbgpdmaaGreatDoor.PO
open Go.RowKit Go.Proofs.YtlcapkgbbgpdmaaGreatDoor.P Go.Proofs.YtlcapkgbbgpdmaaGreatDoor.A Go.Proofs.YtlcapkgbbgpdmaaGreatDoor.TK Go.Proofs.YtlcapkgbbgpdmaaGreatDoor.TO Go.Proofs.YtlcapkgbbgpdmaaGreatDoor.GR Go.Proofs.YtlcapkgbbgpdmaaGreatDoor.MP Go.Proofs.YtlcapkgbbgpdmaaGreatDoor.YR Go.Proofs.YtlcapkgbbgpdmaaGreatDoor.PN Go.Proofs.YtlcapkgbbgpdmaaGreatDoor.PS Go.Proofs.YtlcapkgbbgpdmaaGreatDoor.PA Go.Proofs.YtlcapkgbbgpdmaaGreatDoor.PB Go.Proofs.YtlcapkgbbgpdmaaGreatDoor.PC Go.Proofs.YtlcapkgbbgpdmaaGreatDoor.PD Go.Proofs.YtlcapkgbbgpdmaaGreatDoor.PE Go.Proofs.YtlcapkgbbgpdmaaGreatDoor.PF Go.Proofs.YtlcapkgbbgpdmaaGreatDoor.PG Go.Proofs.YtlcapkgbbgpdmaaGreatDoor.PH Go.Proofs.YtlcapkgbbgpdmaaGreatDoor.PI Go.Proofs.YtlcapkgbbgpdmaaGreatDoor.PJ Go.Proofs.YtlcapkgbbgpdmaaGreatDoor.PK Go.Proofs.YtlcapkgbbgpdmaaGreatDoor.PL Go.Proofs.YtlcapkgbbgpdmaaGreatDoor.PM
set_option linter.unusedVariables false
set_option maxRecDepth 100000

/-- A part's answer, of which all lies from a block on. -/
def NLo (w : World) (S : Nat → Prop) (E : En) (r : Tree × St) (d : Nat) (j : Bool) (x : Ending) (w' : World) : Prop :=
  ∃ ao ac bo bc, x = .returned (.agg #[.int .i64 (r.1.kind : Int), .string ⟨r.1.text.toArray⟩, .int .i64 (r.1.num : Int), .int .i64 (r.1.pl : Int), .slice ao r.1.names.length ac, .slice bo r.1.kids.length bc]) ∧ Out w E r.2 d j w' ∧ HasN w' S r.1 (.slice ao r.1.names.length ac, .slice bo r.1.kids.length bc)

set_option maxHeartbeats 1000000 in
theorem op_sum {R : Part} {d : Nat} {j : Bool} (hR : NC 185 R d j) (w : World) (E : En) (s : St) (h : PS w E s d j) (hk : s.k ≠ 0) (x : Tree) (S : Nat → Prop) (ao bo : Option Addr) (ac bc : Nat) (hx : HasN w S x (.slice ao x.names.length ac, .slice bo x.kids.length bc)) (hS1 : ∀ b, w.heap.size ≤ b → S b) (hS2 : ¬ S E.r) :
    Calls Tryz.prog 186 #[pp E, .agg #[.int .i64 (x.kind : Int), .string ⟨x.text.toArray⟩, .int .i64 (x.num : Int), .int .i64 (x.pl : Int), .slice ao x.names.length ac, .slice bo x.kids.length bc], .func (.func 185) #[] #[]] w (NLo w S E (opP R x s) d j) := by
  have HR0 := Lib.hid hR
  have hk0 := Lib.hid hk
  have NX0 := Lib.hid hx
  have hf1 := tf1
  clear hR hk hx
  have L0 := Lib.hid (Lc.start h)
  have er0 := h.lt.1
  clear h
  go_enter Tryz.func186, Tryz.ntmps186
  go_wp2_with fail
  have NXA := Lib.hid (HasN.alloc (HasN.alloc (NX0.out.weak (S' := fun b => S b ∧ b ≠ w.heap.size + 1) (fun b hb hlt => ⟨hb, by omega⟩)) (.cells #[.int .i64 (x.kind : Int), .string ⟨x.text.toArray⟩, .int .i64 (x.num : Int), .int .i64 (x.pl : Int), .slice ao x.names.length ac, .slice bo x.kids.length bc] 25)) (.cells #[.int .i64 0, .string ⟨#[]⟩, .int .i64 0, .int .i64 0, .slice none 0 0, .slice none 0 0] 25))
  refine (take_any _ E s d j ((L0.out.alloc _).alloc _).ps hk0.out).mono ?_
  rintro x w1 ⟨rfl, ho⟩
  have L1 := Lib.hid (((L0.out.alloc _).alloc _).call ho)
  have Bxb1 := Lib.hid (show Bk w1 w.heap.size #[.int .i64 (x.kind : Int), .string ⟨x.text.toArray⟩, .int .i64 (x.num : Int), .int .i64 (x.pl : Int), .slice ao x.names.length ac, .slice bo x.kids.length bc] 25 from Bk.gr (Bk.alloc (heap_at _ _ _ (by simp [])) _) ho.gr (by omega))
  have Brb1 := Lib.hid (show Bk w1 (w.heap.size + 1) #[.int .i64 0, .string ⟨#[]⟩, .int .i64 0, .int .i64 0, .slice none 0 0, .slice none 0 0] 25 from Bk.gr (heap_at _ _ _ (by simp [])) ho.gr (by omega))
  have zxb1 : w.heap.size < w1.heap.size := Bxb1.out.lt
  have zrb1 : (w.heap.size + 1) < w1.heap.size := Brb1.out.lt
  have NXH := Lib.hid (HasN.grS NXA.out ho.gr (fun h => hS2 h.1))
  clear ho L0
  go_wp2
  have D1 := Lib.hid (show Bk w1.drew w.heap.size #[.int .i64 (x.kind : Int), .string ⟨x.text.toArray⟩, .int .i64 (x.num : Int), .int .i64 (x.pl : Int), .slice ao x.names.length ac, .slice bo x.kids.length bc] 25 from Bxb1.out)
  obtain ⟨t0, t1, t2, t3, t4, t5⟩ := D1.out.c6
  go_region_held3 (fun w' => w'.cell? ⟨w.heap.size, 0, none⟩ = some (.int .i64 (x.kind : Int)) ∧ w'.cell? ⟨w.heap.size, 1, none⟩ = some (.string ⟨x.text.toArray⟩) ∧ w'.cell? ⟨w.heap.size, 2, none⟩ = some (.int .i64 (x.num : Int)) ∧ w'.cell? ⟨w.heap.size, 3, none⟩ = some (.int .i64 (x.pl : Int)) ∧ w'.cell? ⟨w.heap.size, 4, none⟩ = some (.slice ao x.names.length ac) ∧ w'.cell? ⟨w.heap.size, 5, none⟩ = some (.slice bo x.kids.length bc))
    (first | with_reducible exact ⟨t0, t1, t2, t3, t4, t5⟩ | with_reducible exact ⟨u0, u1, u2, u3, u4, u5⟩ | with_reducible exact ⟨v0, v1, v2, v3, v4, v5⟩ | (have T4 := X3.out.put6o (b' := w.heap.size + 1) (Nat.ne_of_lt (Nat.lt_succ_self _)); exact ⟨(T4 _ _ _ _ _ _).cell 0 _ rfl, (T4 _ _ _ _ _ _).cell 1 _ rfl, (T4 _ _ _ _ _ _).cell 2 _ rfl, (T4 _ _ _ _ _ _).cell 3 _ rfl, (T4 _ _ _ _ _ _).cell 4 _ rfl, (T4 _ _ _ _ _ _).cell 5 _ rfl⟩))
    (first
      | (go_at_call 185; refine (HR0.out _ E s.take L1.out.drew.ps).mono ?_; rintro z w2 ⟨ao2, ac2, bo2, bc2, rfl, ho, hN⟩; have L2 := Lib.hid (L1.out.drew.call ho); have X2 := Lib.hid (show Bk w2 w.heap.size #[.int .i64 (x.kind : Int), .string ⟨x.text.toArray⟩, .int .i64 (x.num : Int), .int .i64 (x.pl : Int), .slice ao x.names.length ac, .slice bo x.kids.length bc] 25 from Bk.gr D1.out ho.gr (by omega)); have R2 := Lib.hid (show Bk w2 (w.heap.size + 1) #[.int .i64 0, .string ⟨#[]⟩, .int .i64 0, .int .i64 0, .slice none 0 0, .slice none 0 0] 25 from Bk.gr Brb1.out.drew ho.gr (by omega)); have NX2 := Lib.hid (HasN.grS (HasN.drew1 NXH.out) ho.gr (fun h => hS2 h.1)); have hs1 : w1.heap.size ≤ w2.heap.size := ho.gr.size; have NY2 := Lib.hid (show HasN w2 (fun b => S b ∧ b ≠ w.heap.size + 1) (R s.take).1 (.slice ao2 (R s.take).1.names.length ac2, .slice bo2 (R s.take).1.kids.length bc2) from hN.weak (fun b hb hlt => (have hb : w1.heap.size ≤ b := hb; ⟨hS1 b (by omega), by omega⟩))); have q1 := Lib.hid (show ∀ b, w2.heap.size ≤ b → (S b ∧ b ≠ w.heap.size + 1) from fun b hb => ⟨hS1 b (by omega), by omega⟩); obtain ⟨u0, u1, u2, u3, u4, u5⟩ := X2.out.c6; clear ho hN)
      | (go_at_call 162; refine (pair_any w2 13 (hd s.ts).t x (R s.take).1 _ _ _ _ _ NX2.out NY2.out q1.out).mono ?_; rintro z w3 ⟨ao3, ac3, bo3, bc3, rfl, hb, hN⟩; have L3 := Lib.hid (L2.out.below hb); have X3 := Lib.hid (show Bk w3 w.heap.size #[.int .i64 (x.kind : Int), .string ⟨x.text.toArray⟩, .int .i64 (x.num : Int), .int .i64 (x.pl : Int), .slice ao x.names.length ac, .slice bo x.kids.length bc] 25 from (hb.block _ X2.out.lt).trans X2.out); have R3 := Lib.hid (show Bk w3 (w.heap.size + 1) #[.int .i64 0, .string ⟨#[]⟩, .int .i64 0, .int .i64 0, .slice none 0 0, .slice none 0 0] 25 from (hb.block _ R2.out.lt).trans R2.out); have N3 := Lib.hid hN; obtain ⟨v0, v1, v2, v3, v4, v5⟩ := X3.out.c6; obtain ⟨g0, g1, g2, g3, g4, g5⟩ := R3.out.c6; obtain ⟨f0, f1, f2, f3, f4, f5⟩ := R3.out.f6; clear hb hN))
  go_wp2
  refine bodyPost_ret (v := .agg #[.int .i64 13, .string ⟨(hd s.ts).t.toArray⟩, .int .i64 0, .int .i64 (x.pl : Int), .slice ao3 0 ac3, .slice bo3 2 bc3]) (by simp [results, Tryz.results186, go_sem, g0, g1, g2, g3, g4, g5, Tree.kind, Tree.text, Tree.num, Tree.pl, Tree.names, Tree.kids]) rfl ?_
  refine ⟨ao3, ac3, bo3, bc3, rfl, (L3.out.put6 (b := w.heap.size + 1) (by omega) _ _ _ _ _ _).out, ?_⟩
  exact (HasN.put6S N3.out (fun h => h.2 rfl) _ _ _ _ _ _).weak (fun b hb _ => hb.1)

set_option maxHeartbeats 1000000 in
theorem op_prod {R : Part} {d : Nat} {j : Bool} (hR : NC 196 R d j) (w : World) (E : En) (s : St) (h : PS w E s d j) (hk : s.k ≠ 0) (x : Tree) (S : Nat → Prop) (ao bo : Option Addr) (ac bc : Nat) (hx : HasN w S x (.slice ao x.names.length ac, .slice bo x.kids.length bc)) (hS1 : ∀ b, w.heap.size ≤ b → S b) (hS2 : ¬ S E.r) :
    Calls Tryz.prog 186 #[pp E, .agg #[.int .i64 (x.kind : Int), .string ⟨x.text.toArray⟩, .int .i64 (x.num : Int), .int .i64 (x.pl : Int), .slice ao x.names.length ac, .slice bo x.kids.length bc], .func (.func 196) #[] #[]] w (NLo w S E (opP R x s) d j) := by
  have HR0 := Lib.hid hR
  have hk0 := Lib.hid hk
  have NX0 := Lib.hid hx
  have hf1 := tf1
  clear hR hk hx
  have L0 := Lib.hid (Lc.start h)
  have er0 := h.lt.1
  clear h
  go_enter Tryz.func186, Tryz.ntmps186
  go_wp2_with fail
  have NXA := Lib.hid (HasN.alloc (HasN.alloc (NX0.out.weak (S' := fun b => S b ∧ b ≠ w.heap.size + 1) (fun b hb hlt => ⟨hb, by omega⟩)) (.cells #[.int .i64 (x.kind : Int), .string ⟨x.text.toArray⟩, .int .i64 (x.num : Int), .int .i64 (x.pl : Int), .slice ao x.names.length ac, .slice bo x.kids.length bc] 25)) (.cells #[.int .i64 0, .string ⟨#[]⟩, .int .i64 0, .int .i64 0, .slice none 0 0, .slice none 0 0] 25))
  refine (take_any _ E s d j ((L0.out.alloc _).alloc _).ps hk0.out).mono ?_
  rintro x w1 ⟨rfl, ho⟩
  have L1 := Lib.hid (((L0.out.alloc _).alloc _).call ho)
  have Bxb1 := Lib.hid (show Bk w1 w.heap.size #[.int .i64 (x.kind : Int), .string ⟨x.text.toArray⟩, .int .i64 (x.num : Int), .int .i64 (x.pl : Int), .slice ao x.names.length ac, .slice bo x.kids.length bc] 25 from Bk.gr (Bk.alloc (heap_at _ _ _ (by simp [])) _) ho.gr (by omega))
  have Brb1 := Lib.hid (show Bk w1 (w.heap.size + 1) #[.int .i64 0, .string ⟨#[]⟩, .int .i64 0, .int .i64 0, .slice none 0 0, .slice none 0 0] 25 from Bk.gr (heap_at _ _ _ (by simp [])) ho.gr (by omega))
  have zxb1 : w.heap.size < w1.heap.size := Bxb1.out.lt
  have zrb1 : (w.heap.size + 1) < w1.heap.size := Brb1.out.lt
  have NXH := Lib.hid (HasN.grS NXA.out ho.gr (fun h => hS2 h.1))
  clear ho L0
  go_wp2
  have D1 := Lib.hid (show Bk w1.drew w.heap.size #[.int .i64 (x.kind : Int), .string ⟨x.text.toArray⟩, .int .i64 (x.num : Int), .int .i64 (x.pl : Int), .slice ao x.names.length ac, .slice bo x.kids.length bc] 25 from Bxb1.out)
  obtain ⟨t0, t1, t2, t3, t4, t5⟩ := D1.out.c6
  go_region_held3 (fun w' => w'.cell? ⟨w.heap.size, 0, none⟩ = some (.int .i64 (x.kind : Int)) ∧ w'.cell? ⟨w.heap.size, 1, none⟩ = some (.string ⟨x.text.toArray⟩) ∧ w'.cell? ⟨w.heap.size, 2, none⟩ = some (.int .i64 (x.num : Int)) ∧ w'.cell? ⟨w.heap.size, 3, none⟩ = some (.int .i64 (x.pl : Int)) ∧ w'.cell? ⟨w.heap.size, 4, none⟩ = some (.slice ao x.names.length ac) ∧ w'.cell? ⟨w.heap.size, 5, none⟩ = some (.slice bo x.kids.length bc))
    (first | with_reducible exact ⟨t0, t1, t2, t3, t4, t5⟩ | with_reducible exact ⟨u0, u1, u2, u3, u4, u5⟩ | with_reducible exact ⟨v0, v1, v2, v3, v4, v5⟩ | (have T4 := X3.out.put6o (b' := w.heap.size + 1) (Nat.ne_of_lt (Nat.lt_succ_self _)); exact ⟨(T4 _ _ _ _ _ _).cell 0 _ rfl, (T4 _ _ _ _ _ _).cell 1 _ rfl, (T4 _ _ _ _ _ _).cell 2 _ rfl, (T4 _ _ _ _ _ _).cell 3 _ rfl, (T4 _ _ _ _ _ _).cell 4 _ rfl, (T4 _ _ _ _ _ _).cell 5 _ rfl⟩))
    (first
      | (go_at_call 196; refine (HR0.out _ E s.take L1.out.drew.ps).mono ?_; rintro z w2 ⟨ao2, ac2, bo2, bc2, rfl, ho, hN⟩; have L2 := Lib.hid (L1.out.drew.call ho); have X2 := Lib.hid (show Bk w2 w.heap.size #[.int .i64 (x.kind : Int), .string ⟨x.text.toArray⟩, .int .i64 (x.num : Int), .int .i64 (x.pl : Int), .slice ao x.names.length ac, .slice bo x.kids.length bc] 25 from Bk.gr D1.out ho.gr (by omega)); have R2 := Lib.hid (show Bk w2 (w.heap.size + 1) #[.int .i64 0, .string ⟨#[]⟩, .int .i64 0, .int .i64 0, .slice none 0 0, .slice none 0 0] 25 from Bk.gr Brb1.out.drew ho.gr (by omega)); have NX2 := Lib.hid (HasN.grS (HasN.drew1 NXH.out) ho.gr (fun h => hS2 h.1)); have hs1 : w1.heap.size ≤ w2.heap.size := ho.gr.size; have NY2 := Lib.hid (show HasN w2 (fun b => S b ∧ b ≠ w.heap.size + 1) (R s.take).1 (.slice ao2 (R s.take).1.names.length ac2, .slice bo2 (R s.take).1.kids.length bc2) from hN.weak (fun b hb hlt => (have hb : w1.heap.size ≤ b := hb; ⟨hS1 b (by omega), by omega⟩))); have q1 := Lib.hid (show ∀ b, w2.heap.size ≤ b → (S b ∧ b ≠ w.heap.size + 1) from fun b hb => ⟨hS1 b (by omega), by omega⟩); obtain ⟨u0, u1, u2, u3, u4, u5⟩ := X2.out.c6; clear ho hN)
      | (go_at_call 162; refine (pair_any w2 13 (hd s.ts).t x (R s.take).1 _ _ _ _ _ NX2.out NY2.out q1.out).mono ?_; rintro z w3 ⟨ao3, ac3, bo3, bc3, rfl, hb, hN⟩; have L3 := Lib.hid (L2.out.below hb); have X3 := Lib.hid (show Bk w3 w.heap.size #[.int .i64 (x.kind : Int), .string ⟨x.text.toArray⟩, .int .i64 (x.num : Int), .int .i64 (x.pl : Int), .slice ao x.names.length ac, .slice bo x.kids.length bc] 25 from (hb.block _ X2.out.lt).trans X2.out); have R3 := Lib.hid (show Bk w3 (w.heap.size + 1) #[.int .i64 0, .string ⟨#[]⟩, .int .i64 0, .int .i64 0, .slice none 0 0, .slice none 0 0] 25 from (hb.block _ R2.out.lt).trans R2.out); have N3 := Lib.hid hN; obtain ⟨v0, v1, v2, v3, v4, v5⟩ := X3.out.c6; obtain ⟨g0, g1, g2, g3, g4, g5⟩ := R3.out.c6; obtain ⟨f0, f1, f2, f3, f4, f5⟩ := R3.out.f6; clear hb hN))
  go_wp2
  refine bodyPost_ret (v := .agg #[.int .i64 13, .string ⟨(hd s.ts).t.toArray⟩, .int .i64 0, .int .i64 (x.pl : Int), .slice ao3 0 ac3, .slice bo3 2 bc3]) (by simp [results, Tryz.results186, go_sem, g0, g1, g2, g3, g4, g5, Tree.kind, Tree.text, Tree.num, Tree.pl, Tree.names, Tree.kids]) rfl ?_
  refine ⟨ao3, ac3, bo3, bc3, rfl, (L3.out.put6 (b := w.heap.size + 1) (by omega) _ _ _ _ _ _).out, ?_⟩
  exact (HasN.put6S N3.out (fun h => h.2 rfl) _ _ _ _ _ _).weak (fun b hb _ => hb.1)

set_option maxHeartbeats 1000000 in
theorem op_app {R : Part} {d : Nat} {j : Bool} (hR : NC 206 R d j) (w : World) (E : En) (s : St) (h : PS w E s d j) (hk : s.k ≠ 0) (x : Tree) (S : Nat → Prop) (ao bo : Option Addr) (ac bc : Nat) (hx : HasN w S x (.slice ao x.names.length ac, .slice bo x.kids.length bc)) (hS1 : ∀ b, w.heap.size ≤ b → S b) (hS2 : ¬ S E.r) :
    Calls Tryz.prog 186 #[pp E, .agg #[.int .i64 (x.kind : Int), .string ⟨x.text.toArray⟩, .int .i64 (x.num : Int), .int .i64 (x.pl : Int), .slice ao x.names.length ac, .slice bo x.kids.length bc], .func (.func 206) #[] #[]] w (NLo w S E (opP R x s) d j) := by
  have HR0 := Lib.hid hR
  have hk0 := Lib.hid hk
  have NX0 := Lib.hid hx
  have hf1 := tf1
  clear hR hk hx
  have L0 := Lib.hid (Lc.start h)
  have er0 := h.lt.1
  clear h
  go_enter Tryz.func186, Tryz.ntmps186
  go_wp2_with fail
  have NXA := Lib.hid (HasN.alloc (HasN.alloc (NX0.out.weak (S' := fun b => S b ∧ b ≠ w.heap.size + 1) (fun b hb hlt => ⟨hb, by omega⟩)) (.cells #[.int .i64 (x.kind : Int), .string ⟨x.text.toArray⟩, .int .i64 (x.num : Int), .int .i64 (x.pl : Int), .slice ao x.names.length ac, .slice bo x.kids.length bc] 25)) (.cells #[.int .i64 0, .string ⟨#[]⟩, .int .i64 0, .int .i64 0, .slice none 0 0, .slice none 0 0] 25))
  refine (take_any _ E s d j ((L0.out.alloc _).alloc _).ps hk0.out).mono ?_
  rintro x w1 ⟨rfl, ho⟩
  have L1 := Lib.hid (((L0.out.alloc _).alloc _).call ho)
  have Bxb1 := Lib.hid (show Bk w1 w.heap.size #[.int .i64 (x.kind : Int), .string ⟨x.text.toArray⟩, .int .i64 (x.num : Int), .int .i64 (x.pl : Int), .slice ao x.names.length ac, .slice bo x.kids.length bc] 25 from Bk.gr (Bk.alloc (heap_at _ _ _ (by simp [])) _) ho.gr (by omega))
  have Brb1 := Lib.hid (show Bk w1 (w.heap.size + 1) #[.int .i64 0, .string ⟨#[]⟩, .int .i64 0, .int .i64 0, .slice none 0 0, .slice none 0 0] 25 from Bk.gr (heap_at _ _ _ (by simp [])) ho.gr (by omega))
  have zxb1 : w.heap.size < w1.heap.size := Bxb1.out.lt
  have zrb1 : (w.heap.size + 1) < w1.heap.size := Brb1.out.lt
  have NXH := Lib.hid (HasN.grS NXA.out ho.gr (fun h => hS2 h.1))
  clear ho L0
  go_wp2
  have D1 := Lib.hid (show Bk w1.drew w.heap.size #[.int .i64 (x.kind : Int), .string ⟨x.text.toArray⟩, .int .i64 (x.num : Int), .int .i64 (x.pl : Int), .slice ao x.names.length ac, .slice bo x.kids.length bc] 25 from Bxb1.out)
  obtain ⟨t0, t1, t2, t3, t4, t5⟩ := D1.out.c6
  go_region_held3 (fun w' => w'.cell? ⟨w.heap.size, 0, none⟩ = some (.int .i64 (x.kind : Int)) ∧ w'.cell? ⟨w.heap.size, 1, none⟩ = some (.string ⟨x.text.toArray⟩) ∧ w'.cell? ⟨w.heap.size, 2, none⟩ = some (.int .i64 (x.num : Int)) ∧ w'.cell? ⟨w.heap.size, 3, none⟩ = some (.int .i64 (x.pl : Int)) ∧ w'.cell? ⟨w.heap.size, 4, none⟩ = some (.slice ao x.names.length ac) ∧ w'.cell? ⟨w.heap.size, 5, none⟩ = some (.slice bo x.kids.length bc))
    (first | with_reducible exact ⟨t0, t1, t2, t3, t4, t5⟩ | with_reducible exact ⟨u0, u1, u2, u3, u4, u5⟩ | with_reducible exact ⟨v0, v1, v2, v3, v4, v5⟩ | (have T4 := X3.out.put6o (b' := w.heap.size + 1) (Nat.ne_of_lt (Nat.lt_succ_self _)); exact ⟨(T4 _ _ _ _ _ _).cell 0 _ rfl, (T4 _ _ _ _ _ _).cell 1 _ rfl, (T4 _ _ _ _ _ _).cell 2 _ rfl, (T4 _ _ _ _ _ _).cell 3 _ rfl, (T4 _ _ _ _ _ _).cell 4 _ rfl, (T4 _ _ _ _ _ _).cell 5 _ rfl⟩))
    (first
      | (go_at_call 206; refine (HR0.out _ E s.take L1.out.drew.ps).mono ?_; rintro z w2 ⟨ao2, ac2, bo2, bc2, rfl, ho, hN⟩; have L2 := Lib.hid (L1.out.drew.call ho); have X2 := Lib.hid (show Bk w2 w.heap.size #[.int .i64 (x.kind : Int), .string ⟨x.text.toArray⟩, .int .i64 (x.num : Int), .int .i64 (x.pl : Int), .slice ao x.names.length ac, .slice bo x.kids.length bc] 25 from Bk.gr D1.out ho.gr (by omega)); have R2 := Lib.hid (show Bk w2 (w.heap.size + 1) #[.int .i64 0, .string ⟨#[]⟩, .int .i64 0, .int .i64 0, .slice none 0 0, .slice none 0 0] 25 from Bk.gr Brb1.out.drew ho.gr (by omega)); have NX2 := Lib.hid (HasN.grS (HasN.drew1 NXH.out) ho.gr (fun h => hS2 h.1)); have hs1 : w1.heap.size ≤ w2.heap.size := ho.gr.size; have NY2 := Lib.hid (show HasN w2 (fun b => S b ∧ b ≠ w.heap.size + 1) (R s.take).1 (.slice ao2 (R s.take).1.names.length ac2, .slice bo2 (R s.take).1.kids.length bc2) from hN.weak (fun b hb hlt => (have hb : w1.heap.size ≤ b := hb; ⟨hS1 b (by omega), by omega⟩))); have q1 := Lib.hid (show ∀ b, w2.heap.size ≤ b → (S b ∧ b ≠ w.heap.size + 1) from fun b hb => ⟨hS1 b (by omega), by omega⟩); obtain ⟨u0, u1, u2, u3, u4, u5⟩ := X2.out.c6; clear ho hN)
      | (go_at_call 162; refine (pair_any w2 13 (hd s.ts).t x (R s.take).1 _ _ _ _ _ NX2.out NY2.out q1.out).mono ?_; rintro z w3 ⟨ao3, ac3, bo3, bc3, rfl, hb, hN⟩; have L3 := Lib.hid (L2.out.below hb); have X3 := Lib.hid (show Bk w3 w.heap.size #[.int .i64 (x.kind : Int), .string ⟨x.text.toArray⟩, .int .i64 (x.num : Int), .int .i64 (x.pl : Int), .slice ao x.names.length ac, .slice bo x.kids.length bc] 25 from (hb.block _ X2.out.lt).trans X2.out); have R3 := Lib.hid (show Bk w3 (w.heap.size + 1) #[.int .i64 0, .string ⟨#[]⟩, .int .i64 0, .int .i64 0, .slice none 0 0, .slice none 0 0] 25 from (hb.block _ R2.out.lt).trans R2.out); have N3 := Lib.hid hN; obtain ⟨v0, v1, v2, v3, v4, v5⟩ := X3.out.c6; obtain ⟨g0, g1, g2, g3, g4, g5⟩ := R3.out.c6; obtain ⟨f0, f1, f2, f3, f4, f5⟩ := R3.out.f6; clear hb hN))
  go_wp2
  refine bodyPost_ret (v := .agg #[.int .i64 13, .string ⟨(hd s.ts).t.toArray⟩, .int .i64 0, .int .i64 (x.pl : Int), .slice ao3 0 ac3, .slice bo3 2 bc3]) (by simp [results, Tryz.results186, go_sem, g0, g1, g2, g3, g4, g5, Tree.kind, Tree.text, Tree.num, Tree.pl, Tree.names, Tree.kids]) rfl ?_
  refine ⟨ao3, ac3, bo3, bc3, rfl, (L3.out.put6 (b := w.heap.size + 1) (by omega) _ _ _ _ _ _).out, ?_⟩
  exact (HasN.put6S N3.out (fun h => h.2 rfl) _ _ _ _ _ _).weak (fun b hb _ => hb.1)

end Go.Proofs.YtlcapkgbbgpdmaaGreatDoor.PO

/- Sums and products, from the left. -/
namespace Go.Proofs.YtlcapkgbbgpdmaaGreatDoor.PP
open Go.RowKit Go.Proofs.YtlcapkgbbgpdmaaGreatDoor.P Go.Proofs.YtlcapkgbbgpdmaaGreatDoor.A Go.Proofs.YtlcapkgbbgpdmaaGreatDoor.TK Go.Proofs.YtlcapkgbbgpdmaaGreatDoor.TO Go.Proofs.YtlcapkgbbgpdmaaGreatDoor.GR Go.Proofs.YtlcapkgbbgpdmaaGreatDoor.MP Go.Proofs.YtlcapkgbbgpdmaaGreatDoor.YR Go.Proofs.YtlcapkgbbgpdmaaGreatDoor.PN Go.Proofs.YtlcapkgbbgpdmaaGreatDoor.PS Go.Proofs.YtlcapkgbbgpdmaaGreatDoor.PA Go.Proofs.YtlcapkgbbgpdmaaGreatDoor.PB Go.Proofs.YtlcapkgbbgpdmaaGreatDoor.PC Go.Proofs.YtlcapkgbbgpdmaaGreatDoor.PD Go.Proofs.YtlcapkgbbgpdmaaGreatDoor.PE Go.Proofs.YtlcapkgbbgpdmaaGreatDoor.PF Go.Proofs.YtlcapkgbbgpdmaaGreatDoor.PG Go.Proofs.YtlcapkgbbgpdmaaGreatDoor.PH Go.Proofs.YtlcapkgbbgpdmaaGreatDoor.PI Go.Proofs.YtlcapkgbbgpdmaaGreatDoor.PJ Go.Proofs.YtlcapkgbbgpdmaaGreatDoor.PK Go.Proofs.YtlcapkgbbgpdmaaGreatDoor.PL Go.Proofs.YtlcapkgbbgpdmaaGreatDoor.PM Go.Proofs.YtlcapkgbbgpdmaaGreatDoor.PO
set_option linter.unusedVariables false
set_option maxRecDepth 100000

/-- A part leaves no more tokens than there were. -/
def Shr (R : Part) : Prop := ∀ s, (R s).2.ts.length ≤ s.ts.length
theorem strs_new (w : World) (l : List By) : Strs (w.alloc (.cells (l.map fun u => (Value.string ⟨u.toArray⟩)).toArray 9)) w.heap.size (l.map fun u => ⟨u.toArray⟩) := by
  intro i hi
  rw [World.cell?_alloc_mark]
  have hi2 : i < l.length := by simpa using hi
  simp [hi2]
theorem any_k {l : List By} {s : St} (h : anyOf l s = true) : s.k ≠ 0 := by
  obtain ⟨u, _, hu⟩ := List.any_eq_true.1 h
  exact is_k hu
theorem opLoop_no {l : List By} {R : Part} {k : Nat} {n : Tree} {s : St} (h : anyOf l s = false) : opLoop l R k n s = (n, s) := by
  cases k with
  | zero => rfl
  | succ k => show (if anyOf l s = true then _ else _) = _; rw [if_neg (by rw [h]; decide)]
theorem opLoop_step {l : List By} {R : Part} {k : Nat} {n : Tree} {s : St} (h : anyOf l s = true) : opLoop l R (k + 1) n s = opLoop l R k (opP R n s).1 (opP R n s).2 := by
  show (if anyOf l s = true then _ else _) = _; rw [if_pos h]
theorem opP_short {R : Part} (hR : Shr R) {n : Tree} {s : St} (h : 1 ≤ s.ts.length) : (opP R n s).2.ts.length + 1 ≤ s.ts.length := by
  have := hR s.take
  have e : s.take.ts.length = s.ts.length - 1 := by simp [St.take]
  show (R s.take).2.ts.length + 1 ≤ _
  omega

set_option maxHeartbeats 2000000 in
theorem sum_any {R : Part} {d : Nat} {j : Bool} (hR : NC 196 R d j) (hShr : Shr R) : NC 185 (fun s => opLoop [[43], [45], [94]] R (R s).2.ts.length (R s).1 (R s).2) d j := by
  intro w E s h
  have HR0 := Lib.hid hR
  have HS0 := Lib.hid hShr
  clear hR hShr
  obtain ⟨R0, hR0⟩ : ∃ R0, Hid (opLoop [[43], [45], [94]] R (R s).2.ts.length (R s).1 (R s).2 = R0) := ⟨_, rfl⟩
  show Calls _ _ _ _ (NOut w E (opLoop [[43], [45], [94]] R (R s).2.ts.length (R s).1 (R s).2) d j)
  rw [hR0.out]
  have L0 := Lib.hid (Lc.start h)
  have er0 := h.lt.1
  clear h
  go_enter Tryz.func185, Tryz.ntmps185
  go_wp2_with fail
  refine (HR0.out _ E s (L0.out.alloc _).ps).mono ?_
  rintro x w1 ⟨ao1, ac1, bo1, bc1, rfl, ho, hN⟩
  have L1 := Lib.hid ((L0.out.alloc _).call ho)
  have Brb1 := Lib.hid (show Bk w1 w.heap.size #[.int .i64 0, .string ⟨#[]⟩, .int .i64 0, .int .i64 0, .slice none 0 0, .slice none 0 0] 25 from Bk.gr (heap_at _ _ _ (by simp [])) ho.gr (by omega))
  have zrb1 : w.heap.size < w1.heap.size := Brb1.out.lt
  have Nx1 := Lib.hid (show Hn w1 (w.heap.size + 1) ((R s).1) (.slice ao1 ((R s).1).names.length ac1, .slice bo1 ((R s).1).kids.length bc1) from hN.mono (by simp []))
  clear ho hN L0
  go_wp2
  have LS := Lib.hid (show Lc w E (R s).2 d j (w1.alloc (.cells #[.int .i64 ((R s).1.kind : Int), .string ⟨(R s).1.text.toArray⟩, .int .i64 ((R s).1.num : Int), .int .i64 ((R s).1.pl : Int), .slice ao1 (R s).1.names.length ac1, .slice bo1 (R s).1.kids.length bc1] 25)) from (L1.out.alloc _))
  have BS := Lib.hid (show Bk (w1.alloc (.cells #[.int .i64 ((R s).1.kind : Int), .string ⟨(R s).1.text.toArray⟩, .int .i64 ((R s).1.num : Int), .int .i64 ((R s).1.pl : Int), .slice ao1 (R s).1.names.length ac1, .slice bo1 (R s).1.kids.length bc1] 25)) w.heap.size #[.int .i64 0, .string ⟨#[]⟩, .int .i64 0, .int .i64 0, .slice none 0 0, .slice none 0 0] 25 from (Brb1.out.alloc _))
  have NS := Lib.hid (Bk.new w1 #[.int .i64 ((R s).1.kind : Int), .string ⟨(R s).1.text.toArray⟩, .int .i64 ((R s).1.num : Int), .int .i64 ((R s).1.pl : Int), .slice ao1 (R s).1.names.length ac1, .slice bo1 (R s).1.kids.length bc1] 25)
  have XS := Lib.hid (show HasN (w1.alloc (.cells #[.int .i64 ((R s).1.kind : Int), .string ⟨(R s).1.text.toArray⟩, .int .i64 ((R s).1.num : Int), .int .i64 ((R s).1.pl : Int), .slice ao1 (R s).1.names.length ac1, .slice bo1 (R s).1.kids.length bc1] 25)) (fun b => w.heap.size + 1 ≤ b ∧ b ≠ w1.heap.size) (R s).1 (.slice ao1 (R s).1.names.length ac1, .slice bo1 (R s).1.kids.length bc1) from (Nx1.out.weak (fun b hb hlt => ⟨hb, by omega⟩)).alloc _)
  generalize w1.alloc _ = wq at LS BS NS XS ⊢
  generalize hnb : w1.heap.size = nb at *
  have HNB := Lib.hid hnb
  clear hnb Brb1 L1 Nx1
  go_loopg [6] ((R s).2.ts.length) (fun g v0 wx => ∃ (n : Tree) (ao : Option Addr) (ac : Nat) (bo : Option Addr) (bc : Nat) (st : St), Hid (opLoop [[43], [45], [94]] R g n st = R0) ∧ st.ts.length ≤ g ∧ Hid (Lc w E st d j wx) ∧ Hid (Bk wx w.heap.size #[.int .i64 0, .string ⟨#[]⟩, .int .i64 0, .int .i64 0, .slice none 0 0, .slice none 0 0] 25) ∧ Hid (Bk wx nb #[.int .i64 (n.kind : Int), .string ⟨n.text.toArray⟩, .int .i64 (n.num : Int), .int .i64 (n.pl : Int), .slice ao n.names.length ac, .slice bo n.kids.length bc] 25) ∧ Hid (HasN wx (fun b => w.heap.size + 1 ≤ b ∧ b ≠ nb) n (.slice ao n.names.length ac, .slice bo n.kids.length bc)))
  case atStart => exact ⟨(R s).1, ao1, ac1, bo1, bc1, (R s).2, hR0, Nat.le_refl _, LS, BS, NS, XS⟩
  case round =>
    obtain ⟨n, ao, ac, bo, bc, st, HT, hlen, LW, BW, NW, XW⟩ := hrel
    clear LS BS NS XS hR0
    have z1 := BW.out.lt
    have z2 := NW.out.lt
    have hpos := LW.out.ps.ok.pos
    have hc := is_any (wr.alloc (.cells #[.string ⟨#[43]⟩, .string ⟨#[45]⟩, .string ⟨#[94]⟩] 9)) E st d j (LW.out.alloc _).ps wr.heap.size [[43], [45], [94]] (strs_new wr [[43], [45], [94]]) (by simp) (by decide) (by decide) 3 rfl
    have XA := Lib.hid (XW.out.alloc (.cells #[.string ⟨#[43]⟩, .string ⟨#[45]⟩, .string ⟨#[94]⟩] 9))
    cases hm : anyOf [[43], [45], [94]] st with
    | false =>
      have HE := Lib.hid ((opLoop_no (k := gk) (R := R) (n := n) hm).symm.trans HT.out)
      rw [hm] at hc
      clear hm HT
      go_wp2_with fail
      refine (hc).mono ?_
      rintro x w2 ⟨rfl, hb⟩
      have ho := Out.of_below (LW.out.alloc _).ps hb
      have L2 := Lib.hid ((LW.out.alloc _).call ho)
      have Brb2 := Lib.hid (show Bk w2 w.heap.size #[.int .i64 0, .string ⟨#[]⟩, .int .i64 0, .int .i64 0, .slice none 0 0, .slice none 0 0] 25 from Bk.gr (BW.out.alloc _) ho.gr (by omega))
      have Bnb2 := Lib.hid (show Bk w2 nb #[.int .i64 (n.kind : Int), .string ⟨n.text.toArray⟩, .int .i64 (n.num : Int), .int .i64 (n.pl : Int), .slice ao n.names.length ac, .slice bo n.kids.length bc] 25 from Bk.gr (NW.out.alloc _) ho.gr (by omega))
      have zrb2 : w.heap.size < w2.heap.size := Brb2.out.lt
      have znb2 : nb < w2.heap.size := Bnb2.out.lt
      have XB := Lib.hid (HasN.grS XA.out ho.gr (fun h => absurd h.1 (by omega)))
      clear ho hb LW BW NW
      obtain ⟨grb0, grb1, grb2, grb3, grb4, grb5⟩ := Brb2.out.c6
      obtain ⟨frb0, frb1, frb2, frb3, frb4, frb5⟩ := Brb2.out.f6
      obtain ⟨gnb0, gnb1, gnb2, gnb3, gnb4, gnb5⟩ := Bnb2.out.c6
      obtain ⟨fnb0, fnb1, fnb2, fnb3, fnb4, fnb5⟩ := Bnb2.out.f6
      go_wp2
      refine bodyPost_ret (v := .agg #[.int .i64 (n.kind : Int), .string ⟨n.text.toArray⟩, .int .i64 (n.num : Int), .int .i64 (n.pl : Int), .slice ao n.names.length ac, .slice bo n.kids.length bc]) (by simp [results, Tryz.results185, go_sem, grb0, grb1, grb2, grb3, grb4, grb5]) rfl ?_
      rw [← HE.out]
      exact ⟨ao, ac, bo, bc, rfl, ((((((L2.out.set (by omega) 0 _).set (by omega) 1 _).set (by omega) 2 _).set (by omega) 3 _).set (by omega) 4 _).set (by omega) 5 _).out, (HasN.put6S XB.out (fun h => absurd h.1 (by omega)) _ _ _ _ _ _).weak (fun b hb _ => (have := hb.1; show w.heap.size ≤ b by omega))⟩
    | true =>
      obtain ⟨m, rfl⟩ : ∃ m, gk = m + 1 := ⟨gk - 1, by omega⟩
      have HE := Lib.hid ((opLoop_step (k := m) (R := R) (n := n) hm).symm.trans HT.out)
      rw [hm] at hc
      have hk0 := Lib.hid (any_k hm)
      have hsh := opP_short HS0.out (n := n) hpos
      clear hm HT
      go_wp2_with fail
      refine (hc).mono ?_
      rintro x w2 ⟨rfl, hb⟩
      have ho := Out.of_below (LW.out.alloc _).ps hb
      have L2 := Lib.hid ((LW.out.alloc _).call ho)
      have Brb2 := Lib.hid (show Bk w2 w.heap.size #[.int .i64 0, .string ⟨#[]⟩, .int .i64 0, .int .i64 0, .slice none 0 0, .slice none 0 0] 25 from Bk.gr (BW.out.alloc _) ho.gr (by omega))
      have Bnb2 := Lib.hid (show Bk w2 nb #[.int .i64 (n.kind : Int), .string ⟨n.text.toArray⟩, .int .i64 (n.num : Int), .int .i64 (n.pl : Int), .slice ao n.names.length ac, .slice bo n.kids.length bc] 25 from Bk.gr (NW.out.alloc _) ho.gr (by omega))
      have zrb2 : w.heap.size < w2.heap.size := Brb2.out.lt
      have znb2 : nb < w2.heap.size := Bnb2.out.lt
      have XB := Lib.hid (HasN.grS XA.out ho.gr (fun h => absurd h.1 (by omega)))
      clear ho hb LW BW NW
      obtain ⟨gnb0, gnb1, gnb2, gnb3, gnb4, gnb5⟩ := Bnb2.out.c6
      obtain ⟨fnb0, fnb1, fnb2, fnb3, fnb4, fnb5⟩ := Bnb2.out.f6
      go_wp2_with fail
      refine (op_prod HR0.out w2 E st L2.out.ps hk0.out n (fun b => w.heap.size + 1 ≤ b ∧ b ≠ nb) ao bo ac bc XB.out (fun b hb => ⟨by omega, by omega⟩) (fun h => absurd h.1 (by omega))).mono ?_
      rintro x w3 ⟨ao3, ac3, bo3, bc3, rfl, ho, hN⟩
      have L3 := Lib.hid (L2.out.call ho)
      have Brb3 := Lib.hid (show Bk w3 w.heap.size #[.int .i64 0, .string ⟨#[]⟩, .int .i64 0, .int .i64 0, .slice none 0 0, .slice none 0 0] 25 from Bk.gr Brb2.out ho.gr (by omega))
      have zrb3 := Brb3.out.lt
      have Bnb3 := Lib.hid (show Bk w3 nb #[.int .i64 (n.kind : Int), .string ⟨n.text.toArray⟩, .int .i64 (n.num : Int), .int .i64 (n.pl : Int), .slice ao n.names.length ac, .slice bo n.kids.length bc] 25 from Bk.gr Bnb2.out ho.gr (by omega))
      have znb3 := Bnb3.out.lt
      have X3 := Lib.hid hN
      clear ho hN gnb0 gnb1 gnb2 gnb3 gnb4 gnb5 fnb0 fnb1 fnb2 fnb3 fnb4 fnb5
      obtain ⟨gnb0, gnb1, gnb2, gnb3, gnb4, gnb5⟩ := Bnb3.out.c6
      obtain ⟨fnb0, fnb1, fnb2, fnb3, fnb4, fnb5⟩ := Bnb3.out.f6
      go_wp2
      go_roundg m
      case rel => exact ⟨(opP R n st).1, ao3, ac3, bo3, bc3, (opP R n st).2, HE, by omega, Lib.hid ((((((L3.out.set (by omega) 0 _).set (by omega) 1 _).set (by omega) 2 _).set (by omega) 3 _).set (by omega) 4 _).set (by omega) 5 _), Lib.hid ((((((Brb3.out.other (b' := nb) (by omega) 0 _).other (b' := nb) (by omega) 1 _).other (b' := nb) (by omega) 2 _).other (b' := nb) (by omega) 3 _).other (b' := nb) (by omega) 4 _).other (b' := nb) (by omega) 5 _), Lib.hid ((((((Bnb3.out.set 0 _).set 1 _).set 2 _).set 3 _).set 4 _).set 5 _), Lib.hid (HasN.put6S X3.out (fun h => h.2 rfl) _ _ _ _ _ _)⟩
      case measure => omega

set_option maxHeartbeats 2000000 in
theorem prod_any {R : Part} {d : Nat} {j : Bool} (hR : NC 206 R d j) (hShr : Shr R) : NC 196 (fun s => opLoop [[42], [47], [37]] R (R s).2.ts.length (R s).1 (R s).2) d j := by
  intro w E s h
  have HR0 := Lib.hid hR
  have HS0 := Lib.hid hShr
  clear hR hShr
  obtain ⟨R0, hR0⟩ : ∃ R0, Hid (opLoop [[42], [47], [37]] R (R s).2.ts.length (R s).1 (R s).2 = R0) := ⟨_, rfl⟩
  show Calls _ _ _ _ (NOut w E (opLoop [[42], [47], [37]] R (R s).2.ts.length (R s).1 (R s).2) d j)
  rw [hR0.out]
  have L0 := Lib.hid (Lc.start h)
  have er0 := h.lt.1
  clear h
  go_enter Tryz.func196, Tryz.ntmps196
  go_wp2_with fail
  refine (HR0.out _ E s (L0.out.alloc _).ps).mono ?_
  rintro x w1 ⟨ao1, ac1, bo1, bc1, rfl, ho, hN⟩
  have L1 := Lib.hid ((L0.out.alloc _).call ho)
  have Brb1 := Lib.hid (show Bk w1 w.heap.size #[.int .i64 0, .string ⟨#[]⟩, .int .i64 0, .int .i64 0, .slice none 0 0, .slice none 0 0] 25 from Bk.gr (heap_at _ _ _ (by simp [])) ho.gr (by omega))
  have zrb1 : w.heap.size < w1.heap.size := Brb1.out.lt
  have Nx1 := Lib.hid (show Hn w1 (w.heap.size + 1) ((R s).1) (.slice ao1 ((R s).1).names.length ac1, .slice bo1 ((R s).1).kids.length bc1) from hN.mono (by simp []))
  clear ho hN L0
  go_wp2
  have LS := Lib.hid (show Lc w E (R s).2 d j (w1.alloc (.cells #[.int .i64 ((R s).1.kind : Int), .string ⟨(R s).1.text.toArray⟩, .int .i64 ((R s).1.num : Int), .int .i64 ((R s).1.pl : Int), .slice ao1 (R s).1.names.length ac1, .slice bo1 (R s).1.kids.length bc1] 25)) from (L1.out.alloc _))
  have BS := Lib.hid (show Bk (w1.alloc (.cells #[.int .i64 ((R s).1.kind : Int), .string ⟨(R s).1.text.toArray⟩, .int .i64 ((R s).1.num : Int), .int .i64 ((R s).1.pl : Int), .slice ao1 (R s).1.names.length ac1, .slice bo1 (R s).1.kids.length bc1] 25)) w.heap.size #[.int .i64 0, .string ⟨#[]⟩, .int .i64 0, .int .i64 0, .slice none 0 0, .slice none 0 0] 25 from (Brb1.out.alloc _))
  have NS := Lib.hid (Bk.new w1 #[.int .i64 ((R s).1.kind : Int), .string ⟨(R s).1.text.toArray⟩, .int .i64 ((R s).1.num : Int), .int .i64 ((R s).1.pl : Int), .slice ao1 (R s).1.names.length ac1, .slice bo1 (R s).1.kids.length bc1] 25)
  have XS := Lib.hid (show HasN (w1.alloc (.cells #[.int .i64 ((R s).1.kind : Int), .string ⟨(R s).1.text.toArray⟩, .int .i64 ((R s).1.num : Int), .int .i64 ((R s).1.pl : Int), .slice ao1 (R s).1.names.length ac1, .slice bo1 (R s).1.kids.length bc1] 25)) (fun b => w.heap.size + 1 ≤ b ∧ b ≠ w1.heap.size) (R s).1 (.slice ao1 (R s).1.names.length ac1, .slice bo1 (R s).1.kids.length bc1) from (Nx1.out.weak (fun b hb hlt => ⟨hb, by omega⟩)).alloc _)
  generalize w1.alloc _ = wq at LS BS NS XS ⊢
  generalize hnb : w1.heap.size = nb at *
  have HNB := Lib.hid hnb
  clear hnb Brb1 L1 Nx1
  go_loopg [6] ((R s).2.ts.length) (fun g v0 wx => ∃ (n : Tree) (ao : Option Addr) (ac : Nat) (bo : Option Addr) (bc : Nat) (st : St), Hid (opLoop [[42], [47], [37]] R g n st = R0) ∧ st.ts.length ≤ g ∧ Hid (Lc w E st d j wx) ∧ Hid (Bk wx w.heap.size #[.int .i64 0, .string ⟨#[]⟩, .int .i64 0, .int .i64 0, .slice none 0 0, .slice none 0 0] 25) ∧ Hid (Bk wx nb #[.int .i64 (n.kind : Int), .string ⟨n.text.toArray⟩, .int .i64 (n.num : Int), .int .i64 (n.pl : Int), .slice ao n.names.length ac, .slice bo n.kids.length bc] 25) ∧ Hid (HasN wx (fun b => w.heap.size + 1 ≤ b ∧ b ≠ nb) n (.slice ao n.names.length ac, .slice bo n.kids.length bc)))
  case atStart => exact ⟨(R s).1, ao1, ac1, bo1, bc1, (R s).2, hR0, Nat.le_refl _, LS, BS, NS, XS⟩
  case round =>
    obtain ⟨n, ao, ac, bo, bc, st, HT, hlen, LW, BW, NW, XW⟩ := hrel
    clear LS BS NS XS hR0
    have z1 := BW.out.lt
    have z2 := NW.out.lt
    have hpos := LW.out.ps.ok.pos
    have hc := is_any (wr.alloc (.cells #[.string ⟨#[42]⟩, .string ⟨#[47]⟩, .string ⟨#[37]⟩] 9)) E st d j (LW.out.alloc _).ps wr.heap.size [[42], [47], [37]] (strs_new wr [[42], [47], [37]]) (by simp) (by decide) (by decide) 3 rfl
    have XA := Lib.hid (XW.out.alloc (.cells #[.string ⟨#[42]⟩, .string ⟨#[47]⟩, .string ⟨#[37]⟩] 9))
    cases hm : anyOf [[42], [47], [37]] st with
    | false =>
      have HE := Lib.hid ((opLoop_no (k := gk) (R := R) (n := n) hm).symm.trans HT.out)
      rw [hm] at hc
      clear hm HT
      go_wp2_with fail
      refine (hc).mono ?_
      rintro x w2 ⟨rfl, hb⟩
      have ho := Out.of_below (LW.out.alloc _).ps hb
      have L2 := Lib.hid ((LW.out.alloc _).call ho)
      have Brb2 := Lib.hid (show Bk w2 w.heap.size #[.int .i64 0, .string ⟨#[]⟩, .int .i64 0, .int .i64 0, .slice none 0 0, .slice none 0 0] 25 from Bk.gr (BW.out.alloc _) ho.gr (by omega))
      have Bnb2 := Lib.hid (show Bk w2 nb #[.int .i64 (n.kind : Int), .string ⟨n.text.toArray⟩, .int .i64 (n.num : Int), .int .i64 (n.pl : Int), .slice ao n.names.length ac, .slice bo n.kids.length bc] 25 from Bk.gr (NW.out.alloc _) ho.gr (by omega))
      have zrb2 : w.heap.size < w2.heap.size := Brb2.out.lt
      have znb2 : nb < w2.heap.size := Bnb2.out.lt
      have XB := Lib.hid (HasN.grS XA.out ho.gr (fun h => absurd h.1 (by omega)))
      clear ho hb LW BW NW
      obtain ⟨grb0, grb1, grb2, grb3, grb4, grb5⟩ := Brb2.out.c6
      obtain ⟨frb0, frb1, frb2, frb3, frb4, frb5⟩ := Brb2.out.f6
      obtain ⟨gnb0, gnb1, gnb2, gnb3, gnb4, gnb5⟩ := Bnb2.out.c6
      obtain ⟨fnb0, fnb1, fnb2, fnb3, fnb4, fnb5⟩ := Bnb2.out.f6
      go_wp2
      refine bodyPost_ret (v := .agg #[.int .i64 (n.kind : Int), .string ⟨n.text.toArray⟩, .int .i64 (n.num : Int), .int .i64 (n.pl : Int), .slice ao n.names.length ac, .slice bo n.kids.length bc]) (by simp [results, Tryz.results196, go_sem, grb0, grb1, grb2, grb3, grb4, grb5]) rfl ?_
      rw [← HE.out]
      exact ⟨ao, ac, bo, bc, rfl, ((((((L2.out.set (by omega) 0 _).set (by omega) 1 _).set (by omega) 2 _).set (by omega) 3 _).set (by omega) 4 _).set (by omega) 5 _).out, (HasN.put6S XB.out (fun h => absurd h.1 (by omega)) _ _ _ _ _ _).weak (fun b hb _ => (have := hb.1; show w.heap.size ≤ b by omega))⟩
    | true =>
      obtain ⟨m, rfl⟩ : ∃ m, gk = m + 1 := ⟨gk - 1, by omega⟩
      have HE := Lib.hid ((opLoop_step (k := m) (R := R) (n := n) hm).symm.trans HT.out)
      rw [hm] at hc
      have hk0 := Lib.hid (any_k hm)
      have hsh := opP_short HS0.out (n := n) hpos
      clear hm HT
      go_wp2_with fail
      refine (hc).mono ?_
      rintro x w2 ⟨rfl, hb⟩
      have ho := Out.of_below (LW.out.alloc _).ps hb
      have L2 := Lib.hid ((LW.out.alloc _).call ho)
      have Brb2 := Lib.hid (show Bk w2 w.heap.size #[.int .i64 0, .string ⟨#[]⟩, .int .i64 0, .int .i64 0, .slice none 0 0, .slice none 0 0] 25 from Bk.gr (BW.out.alloc _) ho.gr (by omega))
      have Bnb2 := Lib.hid (show Bk w2 nb #[.int .i64 (n.kind : Int), .string ⟨n.text.toArray⟩, .int .i64 (n.num : Int), .int .i64 (n.pl : Int), .slice ao n.names.length ac, .slice bo n.kids.length bc] 25 from Bk.gr (NW.out.alloc _) ho.gr (by omega))
      have zrb2 : w.heap.size < w2.heap.size := Brb2.out.lt
      have znb2 : nb < w2.heap.size := Bnb2.out.lt
      have XB := Lib.hid (HasN.grS XA.out ho.gr (fun h => absurd h.1 (by omega)))
      clear ho hb LW BW NW
      obtain ⟨gnb0, gnb1, gnb2, gnb3, gnb4, gnb5⟩ := Bnb2.out.c6
      obtain ⟨fnb0, fnb1, fnb2, fnb3, fnb4, fnb5⟩ := Bnb2.out.f6
      go_wp2_with fail
      refine (op_app HR0.out w2 E st L2.out.ps hk0.out n (fun b => w.heap.size + 1 ≤ b ∧ b ≠ nb) ao bo ac bc XB.out (fun b hb => ⟨by omega, by omega⟩) (fun h => absurd h.1 (by omega))).mono ?_
      rintro x w3 ⟨ao3, ac3, bo3, bc3, rfl, ho, hN⟩
      have L3 := Lib.hid (L2.out.call ho)
      have Brb3 := Lib.hid (show Bk w3 w.heap.size #[.int .i64 0, .string ⟨#[]⟩, .int .i64 0, .int .i64 0, .slice none 0 0, .slice none 0 0] 25 from Bk.gr Brb2.out ho.gr (by omega))
      have zrb3 := Brb3.out.lt
      have Bnb3 := Lib.hid (show Bk w3 nb #[.int .i64 (n.kind : Int), .string ⟨n.text.toArray⟩, .int .i64 (n.num : Int), .int .i64 (n.pl : Int), .slice ao n.names.length ac, .slice bo n.kids.length bc] 25 from Bk.gr Bnb2.out ho.gr (by omega))
      have znb3 := Bnb3.out.lt
      have X3 := Lib.hid hN
      clear ho hN gnb0 gnb1 gnb2 gnb3 gnb4 gnb5 fnb0 fnb1 fnb2 fnb3 fnb4 fnb5
      obtain ⟨gnb0, gnb1, gnb2, gnb3, gnb4, gnb5⟩ := Bnb3.out.c6
      obtain ⟨fnb0, fnb1, fnb2, fnb3, fnb4, fnb5⟩ := Bnb3.out.f6
      go_wp2
      go_roundg m
      case rel => exact ⟨(opP R n st).1, ao3, ac3, bo3, bc3, (opP R n st).2, HE, by omega, Lib.hid ((((((L3.out.set (by omega) 0 _).set (by omega) 1 _).set (by omega) 2 _).set (by omega) 3 _).set (by omega) 4 _).set (by omega) 5 _), Lib.hid ((((((Brb3.out.other (b' := nb) (by omega) 0 _).other (b' := nb) (by omega) 1 _).other (b' := nb) (by omega) 2 _).other (b' := nb) (by omega) 3 _).other (b' := nb) (by omega) 4 _).other (b' := nb) (by omega) 5 _), Lib.hid ((((((Bnb3.out.set 0 _).set 1 _).set 2 _).set 3 _).set 4 _).set 5 _), Lib.hid (HasN.put6S X3.out (fun h => h.2 rfl) _ _ _ _ _ _)⟩
      case measure => omega

end Go.Proofs.YtlcapkgbbgpdmaaGreatDoor.PP

/- Comparisons; a ';'. -/
namespace Go.Proofs.YtlcapkgbbgpdmaaGreatDoor.PR
open Go.RowKit Go.Proofs.YtlcapkgbbgpdmaaGreatDoor.P Go.Proofs.YtlcapkgbbgpdmaaGreatDoor.A Go.Proofs.YtlcapkgbbgpdmaaGreatDoor.TK Go.Proofs.YtlcapkgbbgpdmaaGreatDoor.TO Go.Proofs.YtlcapkgbbgpdmaaGreatDoor.GR Go.Proofs.YtlcapkgbbgpdmaaGreatDoor.MP Go.Proofs.YtlcapkgbbgpdmaaGreatDoor.YR Go.Proofs.YtlcapkgbbgpdmaaGreatDoor.PN Go.Proofs.YtlcapkgbbgpdmaaGreatDoor.PS Go.Proofs.YtlcapkgbbgpdmaaGreatDoor.PA Go.Proofs.YtlcapkgbbgpdmaaGreatDoor.PB Go.Proofs.YtlcapkgbbgpdmaaGreatDoor.PC Go.Proofs.YtlcapkgbbgpdmaaGreatDoor.PD Go.Proofs.YtlcapkgbbgpdmaaGreatDoor.PE Go.Proofs.YtlcapkgbbgpdmaaGreatDoor.PF Go.Proofs.YtlcapkgbbgpdmaaGreatDoor.PG Go.Proofs.YtlcapkgbbgpdmaaGreatDoor.PH Go.Proofs.YtlcapkgbbgpdmaaGreatDoor.PI Go.Proofs.YtlcapkgbbgpdmaaGreatDoor.PJ Go.Proofs.YtlcapkgbbgpdmaaGreatDoor.PK Go.Proofs.YtlcapkgbbgpdmaaGreatDoor.PL Go.Proofs.YtlcapkgbbgpdmaaGreatDoor.PM Go.Proofs.YtlcapkgbbgpdmaaGreatDoor.PO Go.Proofs.YtlcapkgbbgpdmaaGreatDoor.PP
set_option linter.unusedVariables false
set_option maxRecDepth 100000
attribute [local go_sem ↓] Go.wp_at_zero Go.wp_at_succ

set_option maxHeartbeats 1000000 in
theorem cmp_one {R : Part} {d : Nat} {j : Bool} (hR : NC 185 R d j) : ∀ w E s, PS w E s d j → anyOf [[61], [60]] (R s).2 = false → Calls Tryz.prog 161 #[pp E] w (NOut w E (R s) d j) := by
  intro w E s h hm
  have HR0 := Lib.hid hR
  have hk0 := Lib.hid (show anyOf [[61], [60]] (R s).2 = false from hm)
  clear hR hm
  have L0 := Lib.hid (Lc.start h)
  have er0 := h.lt.1
  clear h
  go_enter Tryz.func161, Tryz.ntmps161
  go_wp2_with fail
  refine (HR0.out _ E s (L0.out.alloc _).ps).mono ?_
  rintro x w1 ⟨ao1, ac1, bo1, bc1, rfl, ho, hN⟩
  have L1 := Lib.hid ((L0.out.alloc _).call ho)
  have Brb1 := Lib.hid (show Bk w1 w.heap.size #[.int .i64 0, .string ⟨#[]⟩, .int .i64 0, .int .i64 0, .slice none 0 0, .slice none 0 0] 25 from Bk.gr (heap_at _ _ _ (by simp [])) ho.gr (by omega))
  have zrb1 : w.heap.size < w1.heap.size := Brb1.out.lt
  have Nx1 := Lib.hid (show Hn w1 (w.heap.size + 1) ((R s).1) (.slice ao1 ((R s).1).names.length ac1, .slice bo1 ((R s).1).kids.length bc1) from hN.mono (by simp []))
  clear ho hN L0
  have XS := Lib.hid ((Nx1.out.weak (S' := fun b => w.heap.size + 1 ≤ b ∧ b ≠ w1.heap.size) (fun b hb hlt => ⟨hb, by omega⟩)).alloc (.cells #[.int .i64 ((R s).1.kind : Int), .string ⟨(R s).1.text.toArray⟩, .int .i64 ((R s).1.num : Int), .int .i64 ((R s).1.pl : Int), .slice ao1 (R s).1.names.length ac1, .slice bo1 (R s).1.kids.length bc1] 25))
  have XA := Lib.hid (XS.out.alloc (.cells #[.string ⟨#[61]⟩, .string ⟨#[60]⟩] 9))
  have hsz : (w1.alloc (.cells #[.int .i64 ((R s).1.kind : Int), .string ⟨(R s).1.text.toArray⟩, .int .i64 ((R s).1.num : Int), .int .i64 ((R s).1.pl : Int), .slice ao1 (R s).1.names.length ac1, .slice bo1 (R s).1.kids.length bc1] 25)).heap.size = w1.heap.size + 1 := by simp
  have hst := strs_new (w1.alloc (.cells #[.int .i64 ((R s).1.kind : Int), .string ⟨(R s).1.text.toArray⟩, .int .i64 ((R s).1.num : Int), .int .i64 ((R s).1.pl : Int), .slice ao1 (R s).1.names.length ac1, .slice bo1 (R s).1.kids.length bc1] 25)) [[61], [60]]
  rw [hsz] at hst
  have hc := is_any _ E (R s).2 d j ((L1.out.alloc (.cells #[.int .i64 ((R s).1.kind : Int), .string ⟨(R s).1.text.toArray⟩, .int .i64 ((R s).1.num : Int), .int .i64 ((R s).1.pl : Int), .slice ao1 (R s).1.names.length ac1, .slice bo1 (R s).1.kids.length bc1] 25)).alloc (.cells #[.string ⟨#[61]⟩, .string ⟨#[60]⟩] 9)).ps (w1.heap.size + 1) [[61], [60]] hst (by simp) (by decide) (by decide) 2 rfl
  rw [hk0.out] at hc
  clear hsz hst
  go_wp2_with fail
  refine (hc).mono ?_
  rintro x w2 ⟨rfl, hb⟩
  have ho := Out.of_below ((L1.out.alloc _).alloc _).ps hb
  have L2 := Lib.hid (((L1.out.alloc _).alloc _).call ho)
  have Brb2 := Lib.hid (show Bk w2 w.heap.size #[.int .i64 0, .string ⟨#[]⟩, .int .i64 0, .int .i64 0, .slice none 0 0, .slice none 0 0] 25 from Bk.gr ((Brb1.out.alloc _).alloc _) ho.gr (by omega))
  have Bnb2 := Lib.hid (show Bk w2 w1.heap.size #[.int .i64 ((R s).1.kind : Int), .string ⟨(R s).1.text.toArray⟩, .int .i64 ((R s).1.num : Int), .int .i64 ((R s).1.pl : Int), .slice ao1 (R s).1.names.length ac1, .slice bo1 (R s).1.kids.length bc1] 25 from Bk.gr (Bk.alloc (heap_at _ _ _ (by simp [])) _) ho.gr (by omega))
  have zrb2 : w.heap.size < w2.heap.size := Brb2.out.lt
  have znb2 : w1.heap.size < w2.heap.size := Bnb2.out.lt
  have XB := Lib.hid (HasN.grS XA.out ho.gr (fun h => absurd h.1 (by omega)))
  clear ho hb L1 Brb1
  obtain ⟨grb0, grb1, grb2, grb3, grb4, grb5⟩ := Brb2.out.c6
  obtain ⟨frb0, frb1, frb2, frb3, frb4, frb5⟩ := Brb2.out.f6
  obtain ⟨gnb0, gnb1, gnb2, gnb3, gnb4, gnb5⟩ := Bnb2.out.c6
  obtain ⟨fnb0, fnb1, fnb2, fnb3, fnb4, fnb5⟩ := Bnb2.out.f6
  go_wp2
  refine bodyPost_ret (v := .agg #[.int .i64 ((R s).1.kind : Int), .string ⟨(R s).1.text.toArray⟩, .int .i64 ((R s).1.num : Int), .int .i64 ((R s).1.pl : Int), .slice ao1 (R s).1.names.length ac1, .slice bo1 (R s).1.kids.length bc1]) (by simp [results, Tryz.results161, go_sem, grb0, grb1, grb2, grb3, grb4, grb5]) rfl ?_
  exact ⟨_, _, _, _, rfl, ((((((L2.out.set (by omega) 0 _).set (by omega) 1 _).set (by omega) 2 _).set (by omega) 3 _).set (by omega) 4 _).set (by omega) 5 _).out, (HasN.put6S XB.out (fun h => absurd h.1 (by omega)) _ _ _ _ _ _).weak (fun b hb _ => (have := hb.1; show w.heap.size ≤ b by omega))⟩

set_option maxHeartbeats 1000000 in
theorem cmp_two {R : Part} {d : Nat} {j : Bool} (hR : NC 185 R d j) : ∀ w E s, PS w E s d j → anyOf [[61], [60]] (R s).2 = true → Calls Tryz.prog 161 #[pp E] w (NOut w E (opP R (R s).1 (R s).2) d j) := by
  intro w E s h hm
  have HR0 := Lib.hid hR
  have hk0 := Lib.hid (show anyOf [[61], [60]] (R s).2 = true from hm)
  clear hR hm
  have L0 := Lib.hid (Lc.start h)
  have er0 := h.lt.1
  clear h
  go_enter Tryz.func161, Tryz.ntmps161
  go_wp2_with fail
  refine (HR0.out _ E s (L0.out.alloc _).ps).mono ?_
  rintro x w1 ⟨ao1, ac1, bo1, bc1, rfl, ho, hN⟩
  have L1 := Lib.hid ((L0.out.alloc _).call ho)
  have Brb1 := Lib.hid (show Bk w1 w.heap.size #[.int .i64 0, .string ⟨#[]⟩, .int .i64 0, .int .i64 0, .slice none 0 0, .slice none 0 0] 25 from Bk.gr (heap_at _ _ _ (by simp [])) ho.gr (by omega))
  have zrb1 : w.heap.size < w1.heap.size := Brb1.out.lt
  have Nx1 := Lib.hid (show Hn w1 (w.heap.size + 1) ((R s).1) (.slice ao1 ((R s).1).names.length ac1, .slice bo1 ((R s).1).kids.length bc1) from hN.mono (by simp []))
  clear ho hN L0
  have XS := Lib.hid ((Nx1.out.weak (S' := fun b => w.heap.size + 1 ≤ b ∧ b ≠ w1.heap.size) (fun b hb hlt => ⟨hb, by omega⟩)).alloc (.cells #[.int .i64 ((R s).1.kind : Int), .string ⟨(R s).1.text.toArray⟩, .int .i64 ((R s).1.num : Int), .int .i64 ((R s).1.pl : Int), .slice ao1 (R s).1.names.length ac1, .slice bo1 (R s).1.kids.length bc1] 25))
  have XA := Lib.hid (XS.out.alloc (.cells #[.string ⟨#[61]⟩, .string ⟨#[60]⟩] 9))
  have hsz : (w1.alloc (.cells #[.int .i64 ((R s).1.kind : Int), .string ⟨(R s).1.text.toArray⟩, .int .i64 ((R s).1.num : Int), .int .i64 ((R s).1.pl : Int), .slice ao1 (R s).1.names.length ac1, .slice bo1 (R s).1.kids.length bc1] 25)).heap.size = w1.heap.size + 1 := by simp
  have hst := strs_new (w1.alloc (.cells #[.int .i64 ((R s).1.kind : Int), .string ⟨(R s).1.text.toArray⟩, .int .i64 ((R s).1.num : Int), .int .i64 ((R s).1.pl : Int), .slice ao1 (R s).1.names.length ac1, .slice bo1 (R s).1.kids.length bc1] 25)) [[61], [60]]
  rw [hsz] at hst
  have hc := is_any _ E (R s).2 d j ((L1.out.alloc (.cells #[.int .i64 ((R s).1.kind : Int), .string ⟨(R s).1.text.toArray⟩, .int .i64 ((R s).1.num : Int), .int .i64 ((R s).1.pl : Int), .slice ao1 (R s).1.names.length ac1, .slice bo1 (R s).1.kids.length bc1] 25)).alloc (.cells #[.string ⟨#[61]⟩, .string ⟨#[60]⟩] 9)).ps (w1.heap.size + 1) [[61], [60]] hst (by simp) (by decide) (by decide) 2 rfl
  rw [hk0.out] at hc
  clear hsz hst
  go_wp2_with fail
  refine (hc).mono ?_
  rintro x w2 ⟨rfl, hb⟩
  have ho := Out.of_below ((L1.out.alloc _).alloc _).ps hb
  have L2 := Lib.hid (((L1.out.alloc _).alloc _).call ho)
  have Brb2 := Lib.hid (show Bk w2 w.heap.size #[.int .i64 0, .string ⟨#[]⟩, .int .i64 0, .int .i64 0, .slice none 0 0, .slice none 0 0] 25 from Bk.gr ((Brb1.out.alloc _).alloc _) ho.gr (by omega))
  have Bnb2 := Lib.hid (show Bk w2 w1.heap.size #[.int .i64 ((R s).1.kind : Int), .string ⟨(R s).1.text.toArray⟩, .int .i64 ((R s).1.num : Int), .int .i64 ((R s).1.pl : Int), .slice ao1 (R s).1.names.length ac1, .slice bo1 (R s).1.kids.length bc1] 25 from Bk.gr (Bk.alloc (heap_at _ _ _ (by simp [])) _) ho.gr (by omega))
  have zrb2 : w.heap.size < w2.heap.size := Brb2.out.lt
  have znb2 : w1.heap.size < w2.heap.size := Bnb2.out.lt
  have XB := Lib.hid (HasN.grS XA.out ho.gr (fun h => absurd h.1 (by omega)))
  clear ho hb L1 Brb1
  obtain ⟨gnb0, gnb1, gnb2, gnb3, gnb4, gnb5⟩ := Bnb2.out.c6
  obtain ⟨fnb0, fnb1, fnb2, fnb3, fnb4, fnb5⟩ := Bnb2.out.f6
  go_wp2_with fail
  refine (op_sum HR0.out w2 E (R s).2 L2.out.ps (any_k hk0.out) (R s).1 (fun b => w.heap.size + 1 ≤ b ∧ b ≠ w1.heap.size) ao1 bo1 ac1 bc1 XB.out (fun b hb => ⟨by omega, by omega⟩) (fun h => absurd h.1 (by omega))).mono ?_
  rintro x w3 ⟨ao3, ac3, bo3, bc3, rfl, ho, hN⟩
  have L3 := Lib.hid (L2.out.call ho)
  have Brb3 := Lib.hid (show Bk w3 w.heap.size #[.int .i64 0, .string ⟨#[]⟩, .int .i64 0, .int .i64 0, .slice none 0 0, .slice none 0 0] 25 from Bk.gr Brb2.out ho.gr (by omega))
  have zrb3 := Brb3.out.lt
  have Bnb3 := Lib.hid (show Bk w3 w1.heap.size #[.int .i64 ((R s).1.kind : Int), .string ⟨(R s).1.text.toArray⟩, .int .i64 ((R s).1.num : Int), .int .i64 ((R s).1.pl : Int), .slice ao1 (R s).1.names.length ac1, .slice bo1 (R s).1.kids.length bc1] 25 from Bk.gr Bnb2.out ho.gr (by omega))
  have znb3 := Bnb3.out.lt
  have X3 := Lib.hid hN
  clear ho hN gnb0 gnb1 gnb2 gnb3 gnb4 gnb5 fnb0 fnb1 fnb2 fnb3 fnb4 fnb5
  obtain ⟨gnb0, gnb1, gnb2, gnb3, gnb4, gnb5⟩ := Bnb3.out.c6
  obtain ⟨fnb0, fnb1, fnb2, fnb3, fnb4, fnb5⟩ := Bnb3.out.f6
  obtain ⟨grb0, grb1, grb2, grb3, grb4, grb5⟩ := Brb3.out.c6
  obtain ⟨frb0, frb1, frb2, frb3, frb4, frb5⟩ := Brb3.out.f6
  go_wp2
  refine bodyPost_ret (v := .agg #[.int .i64 ((opP R (R s).1 (R s).2).1.kind : Int), .string ⟨(opP R (R s).1 (R s).2).1.text.toArray⟩, .int .i64 ((opP R (R s).1 (R s).2).1.num : Int), .int .i64 ((opP R (R s).1 (R s).2).1.pl : Int), .slice ao3 (opP R (R s).1 (R s).2).1.names.length ac3, .slice bo3 (opP R (R s).1 (R s).2).1.kids.length bc3]) (by simp [results, Tryz.results161, go_sem, grb0, grb1, grb2, grb3, grb4, grb5]) rfl ?_
  exact ⟨_, _, _, _, rfl, ((((((((((((L3.out.set (by omega) 0 _).set (by omega) 1 _).set (by omega) 2 _).set (by omega) 3 _).set (by omega) 4 _).set (by omega) 5 _).set (by omega) 0 _).set (by omega) 1 _).set (by omega) 2 _).set (by omega) 3 _).set (by omega) 4 _).set (by omega) 5 _).out, ((HasN.put6S (HasN.put6S X3.out (fun h => h.2 rfl) _ _ _ _ _ _) (fun h => absurd h.1 (by omega)) _ _ _ _ _ _).weak (fun b hb _ => (have := hb.1; show w.heap.size ≤ b by omega)))⟩

theorem cmp_any {L : Lev} {d : Nat} {j : Bool} (hR : NC 185 (sumP L) d j) : NC 161 (cmpP L) d j := by
  intro w E s h
  unfold cmpP
  cases hm : anyOf [[61], [60]] (sumP L s).2 with
  | true => simp only [if_true]; exact cmp_two hR w E s h hm
  | false => simp only [Bool.false_eq_true, if_false]; exact cmp_one hR w E s h hm

set_option maxHeartbeats 1000000 in
theorem seq_flat {R : Part} {d : Nat} (hR : NC 161 R d false) : ∀ w E s, PS w E s d false → Calls Tryz.prog 131 #[pp E] w (NOut w E (R s) d false) := by
  intro w E s h
  have HR0 := Lib.hid hR
  clear hR
  have L0 := Lib.hid (Lc.start h)
  have er0 := h.lt.1
  clear h
  go_enter Tryz.func131, Tryz.ntmps131
  go_wp2_with fail
  refine (HR0.out _ E s (L0.out.alloc _).ps).mono ?_
  rintro x w1 ⟨ao1, ac1, bo1, bc1, rfl, ho, hN⟩
  have L1 := Lib.hid ((L0.out.alloc _).call ho)
  have Brb1 := Lib.hid (show Bk w1 w.heap.size #[.int .i64 0, .string ⟨#[]⟩, .int .i64 0, .int .i64 0, .slice none 0 0, .slice none 0 0] 25 from Bk.gr (heap_at _ _ _ (by simp [])) ho.gr (by omega))
  have zrb1 : w.heap.size < w1.heap.size := Brb1.out.lt
  have Nx1 := Lib.hid (show Hn w1 (w.heap.size + 1) ((R s).1) (.slice ao1 ((R s).1).names.length ac1, .slice bo1 ((R s).1).kids.length bc1) from hN.mono (by simp []))
  clear ho hN L0
  have XS := Lib.hid ((Nx1.out.weak (S' := fun b => w.heap.size + 1 ≤ b ∧ b ≠ w1.heap.size) (fun b hb hlt => ⟨hb, by omega⟩)).alloc (.cells #[.int .i64 ((R s).1.kind : Int), .string ⟨(R s).1.text.toArray⟩, .int .i64 ((R s).1.num : Int), .int .i64 ((R s).1.pl : Int), .slice ao1 (R s).1.names.length ac1, .slice bo1 (R s).1.kids.length bc1] 25))
  obtain ⟨off, cap, hpb, _⟩ := L1.out.ps.cells
  have c4 := pc4 hpb
  clear hpb
  have lr1 := L1.out.ps.lt.1
  have nr1 : w1.heap.size ≠ E.r := by omega
  obtain ⟨grb0, grb1, grb2, grb3, grb4, grb5⟩ := Brb1.out.c6
  obtain ⟨frb0, frb1, frb2, frb3, frb4, frb5⟩ := Brb1.out.f6
  go_wp2
  refine bodyPost_ret (v := .agg #[.int .i64 ((R s).1.kind : Int), .string ⟨(R s).1.text.toArray⟩, .int .i64 ((R s).1.num : Int), .int .i64 ((R s).1.pl : Int), .slice ao1 (R s).1.names.length ac1, .slice bo1 (R s).1.kids.length bc1]) (by simp [results, Tryz.results131, go_sem, grb0, grb1, grb2, grb3, grb4, grb5, zrb1]) rfl ?_
  refine ⟨_, _, _, _, rfl, (((((((L1.out.set (by omega) 0 _).set (by omega) 1 _).set (by omega) 2 _).set (by omega) 3 _).set (by omega) 4 _).set (by omega) 5 _).alloc _).out, ?_⟩
  exact (HasN.alloc (HasN.put6S (Nx1.out.weak (S' := fun b => w.heap.size + 1 ≤ b) (fun b hb _ => hb)) (fun h => absurd h (by omega)) _ _ _ _ _ _) _).weak (fun b hb _ => (show w.heap.size ≤ b by omega))

set_option maxHeartbeats 1000000 in
theorem seq_none {R : Part} {d : Nat} (hR : NC 161 R d true) : ∀ w E s, PS w E s d true → (R s).2.is [59] = false → Calls Tryz.prog 131 #[pp E] w (NOut w E (((R s).1, (accept [59] (R s).2).2)) d true) := by
  intro w E s h hm
  have HR0 := Lib.hid hR
  have HA := fun W hW => accept_any W E (R s).2 d true hW [59] (by decide)
  rw [hm] at HA
  have hk0 := Lib.hid hm
  clear hm
  clear hR
  have L0 := Lib.hid (Lc.start h)
  have er0 := h.lt.1
  clear h
  go_enter Tryz.func131, Tryz.ntmps131
  go_wp2_with fail
  refine (HR0.out _ E s (L0.out.alloc _).ps).mono ?_
  rintro x w1 ⟨ao1, ac1, bo1, bc1, rfl, ho, hN⟩
  have L1 := Lib.hid ((L0.out.alloc _).call ho)
  have Brb1 := Lib.hid (show Bk w1 w.heap.size #[.int .i64 0, .string ⟨#[]⟩, .int .i64 0, .int .i64 0, .slice none 0 0, .slice none 0 0] 25 from Bk.gr (heap_at _ _ _ (by simp [])) ho.gr (by omega))
  have zrb1 : w.heap.size < w1.heap.size := Brb1.out.lt
  have Nx1 := Lib.hid (show Hn w1 (w.heap.size + 1) ((R s).1) (.slice ao1 ((R s).1).names.length ac1, .slice bo1 ((R s).1).kids.length bc1) from hN.mono (by simp []))
  clear ho hN L0
  have XS := Lib.hid ((Nx1.out.weak (S' := fun b => w.heap.size + 1 ≤ b ∧ b ≠ w1.heap.size) (fun b hb hlt => ⟨hb, by omega⟩)).alloc (.cells #[.int .i64 ((R s).1.kind : Int), .string ⟨(R s).1.text.toArray⟩, .int .i64 ((R s).1.num : Int), .int .i64 ((R s).1.pl : Int), .slice ao1 (R s).1.names.length ac1, .slice bo1 (R s).1.kids.length bc1] 25))
  obtain ⟨off, cap, hpb, _⟩ := L1.out.ps.cells
  have c4 := pc4 hpb
  clear hpb
  have lr1 := L1.out.ps.lt.1
  have nr1 : w1.heap.size ≠ E.r := by omega
  go_wp2_with fail
  clear c4
  refine (HA _ (L1.out.alloc _).ps).mono ?_
  rintro x w2 ⟨rfl, ho⟩
  have L2 := Lib.hid ((L1.out.alloc _).call ho)
  have Brb2 := Lib.hid (show Bk w2 w.heap.size #[.int .i64 0, .string ⟨#[]⟩, .int .i64 0, .int .i64 0, .slice none 0 0, .slice none 0 0] 25 from Bk.gr (Brb1.out.alloc _) ho.gr (by omega))
  have Bnb2 := Lib.hid (show Bk w2 w1.heap.size #[.int .i64 ((R s).1.kind : Int), .string ⟨(R s).1.text.toArray⟩, .int .i64 ((R s).1.num : Int), .int .i64 ((R s).1.pl : Int), .slice ao1 (R s).1.names.length ac1, .slice bo1 (R s).1.kids.length bc1] 25 from Bk.gr (heap_at _ _ _ (by simp [])) ho.gr (by omega))
  have zrb2 : w.heap.size < w2.heap.size := Brb2.out.lt
  have znb2 : w1.heap.size < w2.heap.size := Bnb2.out.lt
  have XB := Lib.hid (HasN.grS XS.out ho.gr (fun h => absurd h.1 (by omega)))
  clear ho L1 Brb1
  obtain ⟨grb0, grb1, grb2, grb3, grb4, grb5⟩ := Brb2.out.c6
  obtain ⟨frb0, frb1, frb2, frb3, frb4, frb5⟩ := Brb2.out.f6
  obtain ⟨gnb0, gnb1, gnb2, gnb3, gnb4, gnb5⟩ := Bnb2.out.c6
  obtain ⟨fnb0, fnb1, fnb2, fnb3, fnb4, fnb5⟩ := Bnb2.out.f6
  go_wp2
  refine bodyPost_ret (v := .agg #[.int .i64 ((R s).1.kind : Int), .string ⟨(R s).1.text.toArray⟩, .int .i64 ((R s).1.num : Int), .int .i64 ((R s).1.pl : Int), .slice ao1 (R s).1.names.length ac1, .slice bo1 (R s).1.kids.length bc1]) (by simp [results, Tryz.results131, go_sem, grb0, grb1, grb2, grb3, grb4, grb5]) rfl ?_
  exact ⟨_, _, _, _, rfl, ((((((L2.out.set (by omega) 0 _).set (by omega) 1 _).set (by omega) 2 _).set (by omega) 3 _).set (by omega) 4 _).set (by omega) 5 _).out, (HasN.put6S XB.out (fun h => absurd h.1 (by omega)) _ _ _ _ _ _).weak (fun b hb _ => (have := hb.1; show w.heap.size ≤ b by omega))⟩

set_option maxHeartbeats 1000000 in
theorem seq_more {R : Part} {d : Nat} (hR : NC 161 R d true) {X : Part} (hX : NC 75 X d true) : ∀ w E s, PS w E s d true → (R s).2.is [59] = true → Calls Tryz.prog 131 #[pp E] w (NOut w E ((Tree.node 14 [] [] [(R s).1, (X (accept [59] (R s).2).2).1] 0 (R s).1.pl, (X (accept [59] (R s).2).2).2)) d true) := by
  intro w E s h hm
  have HR0 := Lib.hid hR
  have HA := fun W hW => accept_any W E (R s).2 d true hW [59] (by decide)
  rw [hm] at HA
  have hk0 := Lib.hid hm
  clear hm
  have HX := Lib.hid hX
  clear hX
  clear hR
  have L0 := Lib.hid (Lc.start h)
  have er0 := h.lt.1
  clear h
  go_enter Tryz.func131, Tryz.ntmps131
  go_wp2_with fail
  refine (HR0.out _ E s (L0.out.alloc _).ps).mono ?_
  rintro x w1 ⟨ao1, ac1, bo1, bc1, rfl, ho, hN⟩
  have L1 := Lib.hid ((L0.out.alloc _).call ho)
  have Brb1 := Lib.hid (show Bk w1 w.heap.size #[.int .i64 0, .string ⟨#[]⟩, .int .i64 0, .int .i64 0, .slice none 0 0, .slice none 0 0] 25 from Bk.gr (heap_at _ _ _ (by simp [])) ho.gr (by omega))
  have zrb1 : w.heap.size < w1.heap.size := Brb1.out.lt
  have Nx1 := Lib.hid (show Hn w1 (w.heap.size + 1) ((R s).1) (.slice ao1 ((R s).1).names.length ac1, .slice bo1 ((R s).1).kids.length bc1) from hN.mono (by simp []))
  clear ho hN L0
  have XS := Lib.hid ((Nx1.out.weak (S' := fun b => w.heap.size + 1 ≤ b ∧ b ≠ w1.heap.size) (fun b hb hlt => ⟨hb, by omega⟩)).alloc (.cells #[.int .i64 ((R s).1.kind : Int), .string ⟨(R s).1.text.toArray⟩, .int .i64 ((R s).1.num : Int), .int .i64 ((R s).1.pl : Int), .slice ao1 (R s).1.names.length ac1, .slice bo1 (R s).1.kids.length bc1] 25))
  obtain ⟨off, cap, hpb, _⟩ := L1.out.ps.cells
  have c4 := pc4 hpb
  clear hpb
  have lr1 := L1.out.ps.lt.1
  have nr1 : w1.heap.size ≠ E.r := by omega
  go_wp2_with fail
  clear c4
  refine (HA _ (L1.out.alloc _).ps).mono ?_
  rintro x w2 ⟨rfl, ho⟩
  have L2 := Lib.hid ((L1.out.alloc _).call ho)
  have Brb2 := Lib.hid (show Bk w2 w.heap.size #[.int .i64 0, .string ⟨#[]⟩, .int .i64 0, .int .i64 0, .slice none 0 0, .slice none 0 0] 25 from Bk.gr (Brb1.out.alloc _) ho.gr (by omega))
  have Bnb2 := Lib.hid (show Bk w2 w1.heap.size #[.int .i64 ((R s).1.kind : Int), .string ⟨(R s).1.text.toArray⟩, .int .i64 ((R s).1.num : Int), .int .i64 ((R s).1.pl : Int), .slice ao1 (R s).1.names.length ac1, .slice bo1 (R s).1.kids.length bc1] 25 from Bk.gr (heap_at _ _ _ (by simp [])) ho.gr (by omega))
  have zrb2 : w.heap.size < w2.heap.size := Brb2.out.lt
  have znb2 : w1.heap.size < w2.heap.size := Bnb2.out.lt
  have XB := Lib.hid (HasN.grS XS.out ho.gr (fun h => absurd h.1 (by omega)))
  clear ho L1 Brb1
  obtain ⟨gnb0, gnb1, gnb2, gnb3, gnb4, gnb5⟩ := Bnb2.out.c6
  obtain ⟨fnb0, fnb1, fnb2, fnb3, fnb4, fnb5⟩ := Bnb2.out.f6
  go_wp2
  go_region_with (first
    | (go_at_call 75; refine (HX.out _ E (accept [59] (R s).2).2 L2.out.drew.ps).mono ?_; rintro z w3 ⟨ao3, ac3, bo3, bc3, rfl, ho, hN⟩; have L3 := Lib.hid (L2.out.drew.call ho); have R3 := Lib.hid (show Bk w3 w.heap.size #[.int .i64 0, .string ⟨#[]⟩, .int .i64 0, .int .i64 0, .slice none 0 0, .slice none 0 0] 25 from Bk.gr Brb2.out.drew ho.gr (by omega)); have N3 := Lib.hid (show Bk w3 w1.heap.size #[.int .i64 ((R s).1.kind : Int), .string ⟨(R s).1.text.toArray⟩, .int .i64 ((R s).1.num : Int), .int .i64 ((R s).1.pl : Int), .slice ao1 (R s).1.names.length ac1, .slice bo1 (R s).1.kids.length bc1] 25 from Bk.gr Bnb2.out.drew ho.gr (by omega)); have X3 := Lib.hid (HasN.grS XB.out.drew1 ho.gr (fun h => absurd h.1 (by omega))); have Y3 := Lib.hid (show HasN w3 (fun b => w.heap.size + 1 ≤ b ∧ b ≠ w1.heap.size) (X (accept [59] (R s).2).2).1 (.slice ao3 (X (accept [59] (R s).2).2).1.names.length ac3, .slice bo3 (X (accept [59] (R s).2).2).1.kids.length bc3) from hN.weak (fun b hb hlt => (have hb : w2.heap.size ≤ b := hb; ⟨by omega, by omega⟩))); have zr3 := R3.out.lt; have zn3 := N3.out.lt; have q3 := Lib.hid (show ∀ b, w3.heap.size ≤ b → (w.heap.size + 1 ≤ b ∧ b ≠ w1.heap.size) from fun b hb => ⟨by omega, by omega⟩); obtain ⟨u0, u1, u2, u3, u4, u5⟩ := N3.out.c6; clear ho hN)
    | (go_at_call 162; refine (pair_any w3 14 [] (R s).1 (X (accept [59] (R s).2).2).1 _ _ _ _ _ X3.out Y3.out q3.out).mono ?_; rintro z w4 ⟨ao4, ac4, bo4, bc4, rfl, hb, hN⟩; have L4 := Lib.hid (L3.out.below hb); have R4 := Lib.hid (show Bk w4 w.heap.size #[.int .i64 0, .string ⟨#[]⟩, .int .i64 0, .int .i64 0, .slice none 0 0, .slice none 0 0] 25 from (hb.block _ R3.out.lt).trans R3.out); have N4 := Lib.hid (show Bk w4 w1.heap.size #[.int .i64 ((R s).1.kind : Int), .string ⟨(R s).1.text.toArray⟩, .int .i64 ((R s).1.num : Int), .int .i64 ((R s).1.pl : Int), .slice ao1 (R s).1.names.length ac1, .slice bo1 (R s).1.kids.length bc1] 25 from (hb.block _ N3.out.lt).trans N3.out); have X4 := Lib.hid hN; have zr4 := R4.out.lt; have zn4 := N4.out.lt; obtain ⟨v0, v1, v2, v3, v4, v5⟩ := N4.out.c6; obtain ⟨m0, m1, m2, m3, m4, m5⟩ := N4.out.f6; clear hb hN))
  all_goals
    obtain ⟨grb0, grb1, grb2, grb3, grb4, grb5⟩ := R4.out.c6
    obtain ⟨frb0, frb1, frb2, frb3, frb4, frb5⟩ := R4.out.f6
    go_wp2
    refine bodyPost_ret (v := .agg #[.int .i64 14, .string ⟨#[]⟩, .int .i64 0, .int .i64 ((R s).1.pl : Int), .slice ao4 0 ac4, .slice bo4 2 bc4]) (by simp [results, Tryz.results131, go_sem, grb0, grb1, grb2, grb3, grb4, grb5, Tree.kind, Tree.text, Tree.num, Tree.pl, Tree.names, Tree.kids]) rfl ?_
    exact ⟨ao4, ac4, bo4, bc4, rfl, ((((((((((((L4.out.set (by omega) 0 _).set (by omega) 1 _).set (by omega) 2 _).set (by omega) 3 _).set (by omega) 4 _).set (by omega) 5 _).set (by omega) 0 _).set (by omega) 1 _).set (by omega) 2 _).set (by omega) 3 _).set (by omega) 4 _).set (by omega) 5 _).out, (HasN.put6S (HasN.put6S X4.out (fun h => h.2 rfl) _ _ _ _ _ _) (fun h => absurd h.1 (by omega)) _ _ _ _ _ _).weak (fun b hb _ => (have := hb.1; show w.heap.size ≤ b by omega))⟩

theorem seq_any {L : Lev} {d : Nat} (hL : LevOK L d) (j : Bool) (hR : NC 161 (cmpP L) d j) : NC 131 (seqP L j) d j := by
  intro w E s h
  unfold seqP
  cases j with
  | false => simp only [Bool.false_and, Bool.false_eq_true, if_false]; exact seq_flat hR w E s h
  | true =>
    cases hm : (cmpP L s).2.is [59] with
    | false =>
      simp only [Bool.true_and, Bool.false_eq_true, if_false]
      have := seq_none hR w E s h hm
      unfold accept at this
      rw [hm] at this
      exact this
    | true =>
      simp only [Bool.true_and, if_true]
      have := seq_more hR (exp_any (hL.x true)) w E s h hm
      unfold accept at this
      rw [hm] at this
      exact this
end Go.Proofs.YtlcapkgbbgpdmaaGreatDoor.PR

/- Patterns. -/
namespace Go.Proofs.YtlcapkgbbgpdmaaGreatDoor.PT
open Go.RowKit Go.Proofs.YtlcapkgbbgpdmaaGreatDoor.P Go.Proofs.YtlcapkgbbgpdmaaGreatDoor.A Go.Proofs.YtlcapkgbbgpdmaaGreatDoor.TK Go.Proofs.YtlcapkgbbgpdmaaGreatDoor.TO Go.Proofs.YtlcapkgbbgpdmaaGreatDoor.GR Go.Proofs.YtlcapkgbbgpdmaaGreatDoor.MP Go.Proofs.YtlcapkgbbgpdmaaGreatDoor.YR Go.Proofs.YtlcapkgbbgpdmaaGreatDoor.PN Go.Proofs.YtlcapkgbbgpdmaaGreatDoor.PS Go.Proofs.YtlcapkgbbgpdmaaGreatDoor.PA Go.Proofs.YtlcapkgbbgpdmaaGreatDoor.PB Go.Proofs.YtlcapkgbbgpdmaaGreatDoor.PC Go.Proofs.YtlcapkgbbgpdmaaGreatDoor.PD Go.Proofs.YtlcapkgbbgpdmaaGreatDoor.PE Go.Proofs.YtlcapkgbbgpdmaaGreatDoor.PF Go.Proofs.YtlcapkgbbgpdmaaGreatDoor.PG Go.Proofs.YtlcapkgbbgpdmaaGreatDoor.PH Go.Proofs.YtlcapkgbbgpdmaaGreatDoor.PI Go.Proofs.YtlcapkgbbgpdmaaGreatDoor.PJ Go.Proofs.YtlcapkgbbgpdmaaGreatDoor.PK Go.Proofs.YtlcapkgbbgpdmaaGreatDoor.PL Go.Proofs.YtlcapkgbbgpdmaaGreatDoor.PM Go.Proofs.YtlcapkgbbgpdmaaGreatDoor.PO Go.Proofs.YtlcapkgbbgpdmaaGreatDoor.PP Go.Proofs.YtlcapkgbbgpdmaaGreatDoor.PR
set_option linter.unusedVariables false
set_option maxRecDepth 100000

theorem i_nt {a b : Nat} (h : a = b) : ((a : Int) != (b : Int)) = false := by rw [bne, i_eq h]; rfl
theorem i_nf {a b : Nat} (h : a ≠ b) : ((a : Int) != (b : Int)) = true := by rw [bne, i_ne h]; rfl

theorem atPatom_leaf (w : World) (E : En) (s : St) (d : Nat) (j : Bool) (h : PS w E s d j) (h0 : leafKind s.k ≠ 0) (h2 : leafKind s.k ≠ 2) :
    Calls Tryz.prog 135 #[pp E] w fun x w' => x = .returned (.bool true) ∧ Below w.heap.size w w' := by
  have HL := fun W => leafKind_any W (hd s.ts).k ⟨(hd s.ts).t.toArray⟩ ((hd s.ts).n : Int) ((hd s.ts).p : Int)
  have x0 : ((leafKind (hd s.ts).k : Int) != 0) = true := i_nf (b := 0) h0
  have x2 : ((leafKind (hd s.ts).k : Int) != 2) = true := i_nf (b := 2) h2
  clear h0 h2
  have L0 := Lib.hid (Lc.start h)
  have er0 := h.lt.1
  clear h
  go_enter Tryz.func135, Tryz.ntmps135
  go_wp2_with fail
  refine (token_any _ E s d j L0.out.ps).mono ?_
  rintro x w1 ⟨rfl, hb⟩
  have ho := Out.of_below L0.out.ps hb
  have L1 := Lib.hid (L0.out.call ho)
  have H1 := Lib.hid hb
  clear ho hb L0
  go_wp2_with fail
  refine (HL _).mono ?_
  rintro x w2 ⟨rfl, hb⟩
  have ho := Out.of_below L1.out.ps hb
  have L2 := Lib.hid (L1.out.call ho)
  have H2 := Lib.hid hb
  clear ho hb L1
  go_wp2
  go_ret
  exact ⟨rfl, H1.out.trans (H2.out.mono H1.out.size)⟩

theorem atPatom_text (w : World) (E : En) (s : St) (d : Nat) (j : Bool) (h : PS w E s d j) (h0 : leafKind s.k ≠ 0) (h2 : leafKind s.k = 2) :
    Calls Tryz.prog 135 #[pp E] w fun x w' => x = .returned (.bool (anyOf [[95], [40]] s)) ∧ Below w.heap.size w w' := by
  have HL := fun W => leafKind_any W (hd s.ts).k ⟨(hd s.ts).t.toArray⟩ ((hd s.ts).n : Int) ((hd s.ts).p : Int)
  have x0 : ((leafKind (hd s.ts).k : Int) != 0) = true := i_nf (b := 0) h0
  have x2 : ((leafKind (hd s.ts).k : Int) != 2) = false := i_nt (b := 2) h2
  clear h0 h2
  have L0 := Lib.hid (Lc.start h)
  have er0 := h.lt.1
  clear h
  go_enter Tryz.func135, Tryz.ntmps135
  go_wp2_with fail
  refine (token_any _ E s d j L0.out.ps).mono ?_
  rintro x w1 ⟨rfl, hb⟩
  have ho := Out.of_below L0.out.ps hb
  have L1 := Lib.hid (L0.out.call ho)
  have H1 := Lib.hid hb
  clear ho hb L0
  go_wp2_with fail
  refine (HL _).mono ?_
  rintro x w2 ⟨rfl, hb⟩
  have ho := Out.of_below L1.out.ps hb
  have L2 := Lib.hid (L1.out.call ho)
  have H2 := Lib.hid hb
  clear ho hb L1
  have hc := is_any (w2.alloc (.cells #[.string ⟨#[95]⟩, .string ⟨#[40]⟩] 9)) E s d j (L2.out.alloc _).ps w2.heap.size [[95], [40]] (strs_new w2 [[95], [40]]) (by simp) (by decide) (by decide) 2 rfl
  go_wp2_with fail
  refine (hc).mono ?_
  rintro x w3 ⟨rfl, hb⟩
  have ho := Out.of_below (L2.out.alloc _).ps hb
  have L3 := Lib.hid ((L2.out.alloc _).call ho)
  have H3 := Lib.hid hb
  clear ho hb L2
  go_wp2
  go_ret
  exact ⟨rfl, (H1.out.trans (H2.out.mono H1.out.size)).trans (((Below.refl _ _).alloc (Nat.le_refl _) _).trans (H3.out.mono (by simp)) |>.mono (Nat.le_trans H1.out.size H2.out.size))⟩

theorem atPatom_none (w : World) (E : En) (s : St) (d : Nat) (j : Bool) (h : PS w E s d j) (h0 : leafKind s.k = 0) :
    Calls Tryz.prog 135 #[pp E] w fun x w' => x = .returned (.bool (anyOf [[95], [40]] s)) ∧ Below w.heap.size w w' := by
  have HL := fun W => leafKind_any W (hd s.ts).k ⟨(hd s.ts).t.toArray⟩ ((hd s.ts).n : Int) ((hd s.ts).p : Int)
  have x0 : ((leafKind (hd s.ts).k : Int) != 0) = false := i_nt (b := 0) h0
  clear h0
  have L0 := Lib.hid (Lc.start h)
  have er0 := h.lt.1
  clear h
  go_enter Tryz.func135, Tryz.ntmps135
  go_wp2_with fail
  refine (token_any _ E s d j L0.out.ps).mono ?_
  rintro x w1 ⟨rfl, hb⟩
  have ho := Out.of_below L0.out.ps hb
  have L1 := Lib.hid (L0.out.call ho)
  have H1 := Lib.hid hb
  clear ho hb L0
  go_wp2_with fail
  refine (HL _).mono ?_
  rintro x w2 ⟨rfl, hb⟩
  have ho := Out.of_below L1.out.ps hb
  have L2 := Lib.hid (L1.out.call ho)
  have H2 := Lib.hid hb
  clear ho hb L1
  have hc := is_any (w2.alloc (.cells #[.string ⟨#[95]⟩, .string ⟨#[40]⟩] 9)) E s d j (L2.out.alloc _).ps w2.heap.size [[95], [40]] (strs_new w2 [[95], [40]]) (by simp) (by decide) (by decide) 2 rfl
  go_wp2_with fail
  refine (hc).mono ?_
  rintro x w3 ⟨rfl, hb⟩
  have ho := Out.of_below (L2.out.alloc _).ps hb
  have L3 := Lib.hid ((L2.out.alloc _).call ho)
  have H3 := Lib.hid hb
  clear ho hb L2
  go_wp2
  go_ret
  exact ⟨rfl, (H1.out.trans (H2.out.mono H1.out.size)).trans (((Below.refl _ _).alloc (Nat.le_refl _) _).trans (H3.out.mono (by simp)) |>.mono (Nat.le_trans H1.out.size H2.out.size))⟩

theorem atPatom_any (d : Nat) (j : Bool) : TC 135 atPatom d j := by
  intro w E s h
  have e : anyOf [[95], [40]] s = (s.is [95] || s.is [40]) := by simp [anyOf]
  unfold atPatom
  by_cases h0 : leafKind s.k = 0
  · have e2 : (decide (leafKind s.k ≠ 0) && decide (leafKind s.k ≠ 2) || (s.is [95] || s.is [40])) = anyOf [[95], [40]] s := by rw [e]; simp [h0]
    rw [e2]; exact atPatom_none w E s d j h h0
  · by_cases h2 : leafKind s.k = 2
    · have e2 : (decide (leafKind s.k ≠ 0) && decide (leafKind s.k ≠ 2) || (s.is [95] || s.is [40])) = anyOf [[95], [40]] s := by rw [e]; simp [h2]
      rw [e2]; exact atPatom_text w E s d j h h0 h2
    · have e2 : (decide (leafKind s.k ≠ 0) && decide (leafKind s.k ≠ 2) || (s.is [95] || s.is [40])) = true := by simp [h0, h2]
      rw [e2]; exact atPatom_leaf w E s d j h h0 h2

set_option maxHeartbeats 1000000 in
theorem patom_none {L : Lev} {d : Nat} (hL : LevOK L d) (j : Bool) : ∀ w E s, PS w E s d j → atPatom s = false → Calls Tryz.prog 133 #[pp E] w (NOut w E ((zero, s.fail 14)) d j) := by
  intro w E s h
  have HM := atPatom_any d j
  intro hm
  have hc := fun W hW => HM W E s hW
  rw [hm] at hc
  clear hm HM
  have L0 := Lib.hid (Lc.start h)
  have er0 := h.lt.1
  clear h
  go_enter Tryz.func133, Tryz.ntmps133
  go_wp2_with fail
  refine (hc _ (L0.out.alloc _).ps).mono ?_
  rintro x w1 ⟨rfl, hb⟩
  have ho := Out.of_below (L0.out.alloc _).ps hb
  have L1 := Lib.hid ((L0.out.alloc _).call ho)
  have Brb1 := Lib.hid (show Bk w1 w.heap.size #[.int .i64 0, .string ⟨#[]⟩, .int .i64 0, .int .i64 0, .slice none 0 0, .slice none 0 0] 25 from Bk.gr (heap_at _ _ _ (by simp [])) ho.gr (by omega))
  have zrb1 : w.heap.size < w1.heap.size := Brb1.out.lt
  clear ho hb L0
  go_wp2_with fail
  refine (fail_any _ E s d j L1.out.ps 14).mono ?_
  rintro x w2 ⟨rfl, ho⟩
  have L2 := Lib.hid (L1.out.call ho)
  have Brb2 := Lib.hid (show Bk w2 w.heap.size #[.int .i64 0, .string ⟨#[]⟩, .int .i64 0, .int .i64 0, .slice none 0 0, .slice none 0 0] 25 from Bk.gr Brb1.out ho.gr (by omega))
  have zrb2 : w.heap.size < w2.heap.size := Brb2.out.lt
  clear ho L1 Brb1
  obtain ⟨grb0, grb1, grb2, grb3, grb4, grb5⟩ := Brb2.out.c6
  obtain ⟨frb0, frb1, frb2, frb3, frb4, frb5⟩ := Brb2.out.f6
  go_wp2
  refine bodyPost_ret (v := .agg #[.int .i64 0, .string ⟨#[]⟩, .int .i64 0, .int .i64 0, .slice none 0 0, .slice none 0 0]) (by simp [results, Tryz.results133, go_sem, grb0, grb1, grb2, grb3, grb4, grb5]) rfl ?_
  exact ⟨_, _, _, _, rfl, ((((((L2.out.set (by omega) 0 _).set (by omega) 1 _).set (by omega) 2 _).set (by omega) 3 _).set (by omega) 4 _).set (by omega) 5 _).out, hasN_leaf _ _ _ _ _ _⟩

set_option maxHeartbeats 1000000 in
theorem patom_round {L : Lev} {d : Nat} (hL : LevOK L d) (j : Bool) : ∀ w E s, PS w E s d j → atPatom s = true → s.is [40] = true → Calls Tryz.prog 133 #[pp E] w (NOut w E (bracketed L.y s.take) d j) := by
  intro w E s h
  have HM := atPatom_any d j
  intro hm his
  have hc := fun W hW => HM W E s hW
  rw [hm] at hc
  have HA := fun W hW => accept_any W E s d j hW [40] (by decide)
  rw [his] at HA
  have ha : (accept [40] s).2 = s.take := by unfold accept; rw [his]; rfl
  rw [ha] at HA
  have his0 := Lib.hid his
  clear hm HM his ha
  have L0 := Lib.hid (Lc.start h)
  have er0 := h.lt.1
  clear h
  go_enter Tryz.func133, Tryz.ntmps133
  go_wp2_with fail
  refine (hc _ (L0.out.alloc _).ps).mono ?_
  rintro x w1 ⟨rfl, hb⟩
  have ho := Out.of_below (L0.out.alloc _).ps hb
  have L1 := Lib.hid ((L0.out.alloc _).call ho)
  have Brb1 := Lib.hid (show Bk w1 w.heap.size #[.int .i64 0, .string ⟨#[]⟩, .int .i64 0, .int .i64 0, .slice none 0 0, .slice none 0 0] 25 from Bk.gr (heap_at _ _ _ (by simp [])) ho.gr (by omega))
  have zrb1 : w.heap.size < w1.heap.size := Brb1.out.lt
  clear ho hb L0
  go_wp2_with fail
  refine (HA _ L1.out.ps).mono ?_
  rintro x w2 ⟨rfl, ho⟩
  have L2 := Lib.hid (L1.out.call ho)
  have Brb2 := Lib.hid (show Bk w2 w.heap.size #[.int .i64 0, .string ⟨#[]⟩, .int .i64 0, .int .i64 0, .slice none 0 0, .slice none 0 0] 25 from Bk.gr Brb1.out ho.gr (by omega))
  have zrb2 : w.heap.size < w2.heap.size := Brb2.out.lt
  clear ho L1 Brb1
  go_wp2_with fail
  refine (bracketed_any (hL.y j) _ E s.take L2.out.ps).mono ?_
  rintro x w3 ⟨ao3, ac3, bo3, bc3, rfl, ho, hN⟩
  have L3 := Lib.hid (L2.out.call ho)
  have Brb3 := Lib.hid (show Bk w3 w.heap.size #[.int .i64 0, .string ⟨#[]⟩, .int .i64 0, .int .i64 0, .slice none 0 0, .slice none 0 0] 25 from Bk.gr Brb2.out ho.gr (by omega))
  have zrb3 : w.heap.size < w3.heap.size := Brb3.out.lt
  have Nx3 := Lib.hid (show Hn w3 w2.heap.size ((bracketed L.y s.take).1) (.slice ao3 ((bracketed L.y s.take).1).names.length ac3, .slice bo3 ((bracketed L.y s.take).1).kids.length bc3) from hN.mono (by simp []))
  clear ho hN L2 Brb2
  obtain ⟨grb0, grb1, grb2, grb3, grb4, grb5⟩ := Brb3.out.c6
  obtain ⟨frb0, frb1, frb2, frb3, frb4, frb5⟩ := Brb3.out.f6
  go_wp2
  refine bodyPost_ret (v := .agg #[.int .i64 ((bracketed L.y s.take).1.kind : Int), .string ⟨(bracketed L.y s.take).1.text.toArray⟩, .int .i64 ((bracketed L.y s.take).1.num : Int), .int .i64 ((bracketed L.y s.take).1.pl : Int), .slice ao3 (bracketed L.y s.take).1.names.length ac3, .slice bo3 (bracketed L.y s.take).1.kids.length bc3]) (by simp [results, Tryz.results133, go_sem, grb0, grb1, grb2, grb3, grb4, grb5]) rfl ?_
  exact ⟨_, _, _, _, rfl, ((((((L3.out.set (by omega) 0 _).set (by omega) 1 _).set (by omega) 2 _).set (by omega) 3 _).set (by omega) 4 _).set (by omega) 5 _).out, (Hn.put6 Nx3.out (by omega) _ _ _ _ _ _).mono (by omega)⟩

set_option maxHeartbeats 1000000 in
theorem patom_any0 {L : Lev} {d : Nat} (hL : LevOK L d) (j : Bool) : ∀ w E s, PS w E s d j → atPatom s = true → s.is [40] = false → s.is [95] = true → Calls Tryz.prog 133 #[pp E] w (NOut w E ((.node 24 [] [] [] 0 s.pl, s.take)) d j) := by
  intro w E s h
  have HM := atPatom_any d j
  intro hm his hany
  have hc := fun W hW => HM W E s hW
  rw [hm] at hc
  have HA := fun W hW => accept_any W E s d j hW [40] (by decide)
  rw [his] at HA
  have ha : (accept [40] s).2 = s := by unfold accept; rw [his]; rfl
  rw [ha] at HA
  have his0 := Lib.hid his
  clear hm HM his ha
  have HI := fun W (hW : PS W E s d j) b hb hl => is_any W E s d j hW b [[95]] hb hl (by decide) (by decide) 1 rfl
  rw [any_one, hany] at HI
  have hk0 := Lib.hid (is_k hany)
  clear hany
  have L0 := Lib.hid (Lc.start h)
  have er0 := h.lt.1
  clear h
  go_enter Tryz.func133, Tryz.ntmps133
  go_wp2_with fail
  refine (hc _ (L0.out.alloc _).ps).mono ?_
  rintro x w1 ⟨rfl, hb⟩
  have ho := Out.of_below (L0.out.alloc _).ps hb
  have L1 := Lib.hid ((L0.out.alloc _).call ho)
  have Brb1 := Lib.hid (show Bk w1 w.heap.size #[.int .i64 0, .string ⟨#[]⟩, .int .i64 0, .int .i64 0, .slice none 0 0, .slice none 0 0] 25 from Bk.gr (heap_at _ _ _ (by simp [])) ho.gr (by omega))
  have zrb1 : w.heap.size < w1.heap.size := Brb1.out.lt
  clear ho hb L0
  go_wp2_with fail
  refine (HA _ L1.out.ps).mono ?_
  rintro x w2 ⟨rfl, ho⟩
  have L2 := Lib.hid (L1.out.call ho)
  have Brb2 := Lib.hid (show Bk w2 w.heap.size #[.int .i64 0, .string ⟨#[]⟩, .int .i64 0, .int .i64 0, .slice none 0 0, .slice none 0 0] 25 from Bk.gr Brb1.out ho.gr (by omega))
  have zrb2 : w.heap.size < w2.heap.size := Brb2.out.lt
  clear ho L1 Brb1
  go_wp2_with fail
  refine (HI _ (L2.out.alloc _).ps w2.heap.size (strs_one w2 [95]) (by simp)).mono ?_
  rintro x w3 ⟨rfl, hb⟩
  have ho := Out.of_below (L2.out.alloc _).ps hb
  have L3 := Lib.hid ((L2.out.alloc _).call ho)
  have Brb3 := Lib.hid (show Bk w3 w.heap.size #[.int .i64 0, .string ⟨#[]⟩, .int .i64 0, .int .i64 0, .slice none 0 0, .slice none 0 0] 25 from Bk.gr (Brb2.out.alloc _) ho.gr (by omega))
  have zrb3 : w.heap.size < w3.heap.size := Brb3.out.lt
  clear ho hb L2 Brb2
  go_wp2_with fail
  refine (begin_any _ E s d j L3.out.ps 24).mono ?_
  rintro x w4 ⟨rfl, hb⟩
  have ho := Out.of_below L3.out.ps hb
  have L4 := Lib.hid (L3.out.call ho)
  have Brb4 := Lib.hid (show Bk w4 w.heap.size #[.int .i64 0, .string ⟨#[]⟩, .int .i64 0, .int .i64 0, .slice none 0 0, .slice none 0 0] 25 from Bk.gr Brb3.out ho.gr (by omega))
  have zrb4 : w.heap.size < w4.heap.size := Brb4.out.lt
  clear ho hb L3 Brb3
  go_wp2_with fail
  refine (take_any _ E s d j (L4.out.alloc _).ps hk0.out).mono ?_
  rintro x w5 ⟨rfl, ho⟩
  have L5 := Lib.hid ((L4.out.alloc _).call ho)
  have Brb5 := Lib.hid (show Bk w5 w.heap.size #[.int .i64 0, .string ⟨#[]⟩, .int .i64 0, .int .i64 0, .slice none 0 0, .slice none 0 0] 25 from Bk.gr (Brb4.out.alloc _) ho.gr (by omega))
  have Bnb5 := Lib.hid (show Bk w5 w4.heap.size #[.int .i64 24, .string ⟨#[]⟩, .int .i64 0, .int .i64 (s.pl : Int), .slice none 0 0, .slice none 0 0] 25 from Bk.gr (heap_at _ _ _ (by simp [])) ho.gr (by omega))
  have zrb5 : w.heap.size < w5.heap.size := Brb5.out.lt
  have znb5 : w4.heap.size < w5.heap.size := Bnb5.out.lt
  clear ho L4 Brb4
  obtain ⟨grb0, grb1, grb2, grb3, grb4, grb5⟩ := Brb5.out.c6
  obtain ⟨frb0, frb1, frb2, frb3, frb4, frb5⟩ := Brb5.out.f6
  obtain ⟨gnb0, gnb1, gnb2, gnb3, gnb4, gnb5⟩ := Bnb5.out.c6
  obtain ⟨fnb0, fnb1, fnb2, fnb3, fnb4, fnb5⟩ := Bnb5.out.f6
  go_wp2
  refine bodyPost_ret (v := .agg #[.int .i64 24, .string ⟨#[]⟩, .int .i64 0, .int .i64 (s.pl : Int), .slice none 0 0, .slice none 0 0]) (by simp [results, Tryz.results133, go_sem, grb0, grb1, grb2, grb3, grb4, grb5]) rfl ?_
  exact ⟨_, _, _, _, rfl, ((((((L5.out.set (by omega) 0 _).set (by omega) 1 _).set (by omega) 2 _).set (by omega) 3 _).set (by omega) 4 _).set (by omega) 5 _).out, hasN_leaf _ _ _ _ _ _⟩

set_option maxHeartbeats 1000000 in
theorem patom_leaf {L : Lev} {d : Nat} (hL : LevOK L d) (j : Bool) : ∀ w E s, PS w E s d j → atPatom s = true → s.is [40] = false → s.is [95] = false → s.k ≠ 0 → Calls Tryz.prog 133 #[pp E] w (NOut w E (leaf s) d j) := by
  intro w E s h
  have HM := atPatom_any d j
  intro hm his hany hk
  have hc := fun W hW => HM W E s hW
  rw [hm] at hc
  have HA := fun W hW => accept_any W E s d j hW [40] (by decide)
  rw [his] at HA
  have ha : (accept [40] s).2 = s := by unfold accept; rw [his]; rfl
  rw [ha] at HA
  have his0 := Lib.hid his
  clear hm HM his ha
  have HI := fun W (hW : PS W E s d j) b hb hl => is_any W E s d j hW b [[95]] hb hl (by decide) (by decide) 1 rfl
  rw [any_one, hany] at HI
  have hk0 := Lib.hid hk
  clear hk
  clear hany
  have L0 := Lib.hid (Lc.start h)
  have er0 := h.lt.1
  clear h
  go_enter Tryz.func133, Tryz.ntmps133
  go_wp2_with fail
  refine (hc _ (L0.out.alloc _).ps).mono ?_
  rintro x w1 ⟨rfl, hb⟩
  have ho := Out.of_below (L0.out.alloc _).ps hb
  have L1 := Lib.hid ((L0.out.alloc _).call ho)
  have Brb1 := Lib.hid (show Bk w1 w.heap.size #[.int .i64 0, .string ⟨#[]⟩, .int .i64 0, .int .i64 0, .slice none 0 0, .slice none 0 0] 25 from Bk.gr (heap_at _ _ _ (by simp [])) ho.gr (by omega))
  have zrb1 : w.heap.size < w1.heap.size := Brb1.out.lt
  clear ho hb L0
  go_wp2_with fail
  refine (HA _ L1.out.ps).mono ?_
  rintro x w2 ⟨rfl, ho⟩
  have L2 := Lib.hid (L1.out.call ho)
  have Brb2 := Lib.hid (show Bk w2 w.heap.size #[.int .i64 0, .string ⟨#[]⟩, .int .i64 0, .int .i64 0, .slice none 0 0, .slice none 0 0] 25 from Bk.gr Brb1.out ho.gr (by omega))
  have zrb2 : w.heap.size < w2.heap.size := Brb2.out.lt
  clear ho L1 Brb1
  go_wp2_with fail
  refine (HI _ (L2.out.alloc _).ps w2.heap.size (strs_one w2 [95]) (by simp)).mono ?_
  rintro x w3 ⟨rfl, hb⟩
  have ho := Out.of_below (L2.out.alloc _).ps hb
  have L3 := Lib.hid ((L2.out.alloc _).call ho)
  have Brb3 := Lib.hid (show Bk w3 w.heap.size #[.int .i64 0, .string ⟨#[]⟩, .int .i64 0, .int .i64 0, .slice none 0 0, .slice none 0 0] 25 from Bk.gr (Brb2.out.alloc _) ho.gr (by omega))
  have zrb3 : w.heap.size < w3.heap.size := Brb3.out.lt
  clear ho hb L2 Brb2
  go_wp2_with fail
  refine (leaf_any _ E s d j L3.out.ps hk0.out).mono ?_
  rintro x w4 ⟨ao4, ac4, bo4, bc4, rfl, ho, hN⟩
  have L4 := Lib.hid (L3.out.call ho)
  have Brb4 := Lib.hid (show Bk w4 w.heap.size #[.int .i64 0, .string ⟨#[]⟩, .int .i64 0, .int .i64 0, .slice none 0 0, .slice none 0 0] 25 from Bk.gr Brb3.out ho.gr (by omega))
  have zrb4 : w.heap.size < w4.heap.size := Brb4.out.lt
  have Nx4 := Lib.hid (show Hn w4 w3.heap.size ((leaf s).1) (.slice ao4 ((leaf s).1).names.length ac4, .slice bo4 ((leaf s).1).kids.length bc4) from hN.mono (by simp []))
  clear ho hN L3 Brb3
  obtain ⟨grb0, grb1, grb2, grb3, grb4, grb5⟩ := Brb4.out.c6
  obtain ⟨frb0, frb1, frb2, frb3, frb4, frb5⟩ := Brb4.out.f6
  go_wp2
  refine bodyPost_ret (v := .agg #[.int .i64 ((leaf s).1.kind : Int), .string ⟨(leaf s).1.text.toArray⟩, .int .i64 ((leaf s).1.num : Int), .int .i64 ((leaf s).1.pl : Int), .slice ao4 (leaf s).1.names.length ac4, .slice bo4 (leaf s).1.kids.length bc4]) (by simp [results, Tryz.results133, go_sem, grb0, grb1, grb2, grb3, grb4, grb5]) rfl ?_
  exact ⟨_, _, _, _, rfl, ((((((L4.out.set (by omega) 0 _).set (by omega) 1 _).set (by omega) 2 _).set (by omega) 3 _).set (by omega) 4 _).set (by omega) 5 _).out, (Hn.put6 Nx4.out (by omega) _ _ _ _ _ _).mono (by omega)⟩

theorem patom_any {L : Lev} {d : Nat} (hL : LevOK L d) (j : Bool) : NC 133 (patomP L) d j := by
  intro w E s h
  unfold patomP
  cases hm : atPatom s with
  | false => simp only [if_true]; exact patom_none hL j w E s h hm
  | true =>
    simp only [Bool.true_eq_false, if_false]
    cases his : s.is [40] with
    | true => simp only [if_true]; exact patom_round hL j w E s h hm his
    | false =>
      simp only [Bool.false_eq_true, if_false]
      cases hany : s.is [95] with
      | true => simp only [if_true]; exact patom_any0 hL j w E s h hm his hany
      | false =>
        simp only [Bool.false_eq_true, if_false]
        refine patom_leaf hL j w E s h hm his hany ?_
        intro e
        unfold atPatom at hm
        rw [his, hany, e] at hm
        simp [leafKind] at hm

set_option maxHeartbeats 1000000 in
theorem pat_con {L : Lev} {d : Nat} (hL : LevOK L d) (j : Bool) : ∀ w E s, PS w E s d j → s.k = 4 → Calls Tryz.prog 105 #[pp E] w (NOut w E (conP atPatom (patomP L) s) d j) := by
  intro w E s h hk
  have hf0 := tf0
  have HP := Lib.hid (patom_any hL j)
  have hx : (((hd s.ts).k : Int) != 4) = false := i_nt (b := 4) hk
  have hk0 := Lib.hid (show s.k ≠ 0 by omega)
  clear hk
  have L0 := Lib.hid (Lc.start h)
  have er0 := h.lt.1
  clear h
  go_enter Tryz.func105, Tryz.ntmps105
  go_wp2_with fail
  refine (token_any _ E s d j (L0.out.alloc _).ps).mono ?_
  rintro x w1 ⟨rfl, hb⟩
  have ho := Out.of_below (L0.out.alloc _).ps hb
  have L1 := Lib.hid ((L0.out.alloc _).call ho)
  have Brb1 := Lib.hid (show Bk w1 w.heap.size #[.int .i64 0, .string ⟨#[]⟩, .int .i64 0, .int .i64 0, .slice none 0 0, .slice none 0 0] 25 from Bk.gr (heap_at _ _ _ (by simp [])) ho.gr (by omega))
  have zrb1 : w.heap.size < w1.heap.size := Brb1.out.lt
  clear ho hb L0
  go_wp2_with fail
  refine (con_patoms (atPatom_any d j) HP.out _ E s L1.out.ps hk0.out).mono ?_
  rintro x w2 ⟨ao2, ac2, bo2, bc2, rfl, ho, hN⟩
  have L2 := Lib.hid (L1.out.call ho)
  have Brb2 := Lib.hid (show Bk w2 w.heap.size #[.int .i64 0, .string ⟨#[]⟩, .int .i64 0, .int .i64 0, .slice none 0 0, .slice none 0 0] 25 from Bk.gr Brb1.out ho.gr (by omega))
  have zrb2 : w.heap.size < w2.heap.size := Brb2.out.lt
  have Nx2 := Lib.hid (show Hn w2 w1.heap.size ((conP atPatom (patomP L) s).1) (.slice ao2 ((conP atPatom (patomP L) s).1).names.length ac2, .slice bo2 ((conP atPatom (patomP L) s).1).kids.length bc2) from hN.mono (by simp []))
  clear ho hN L1 Brb1
  obtain ⟨grb0, grb1, grb2, grb3, grb4, grb5⟩ := Brb2.out.c6
  obtain ⟨frb0, frb1, frb2, frb3, frb4, frb5⟩ := Brb2.out.f6
  go_wp2
  refine bodyPost_ret (v := .agg #[.int .i64 ((conP atPatom (patomP L) s).1.kind : Int), .string ⟨(conP atPatom (patomP L) s).1.text.toArray⟩, .int .i64 ((conP atPatom (patomP L) s).1.num : Int), .int .i64 ((conP atPatom (patomP L) s).1.pl : Int), .slice ao2 (conP atPatom (patomP L) s).1.names.length ac2, .slice bo2 (conP atPatom (patomP L) s).1.kids.length bc2]) (by simp [results, Tryz.results105, go_sem, grb0, grb1, grb2, grb3, grb4, grb5]) rfl ?_
  exact ⟨_, _, _, _, rfl, ((((((L2.out.set (by omega) 0 _).set (by omega) 1 _).set (by omega) 2 _).set (by omega) 3 _).set (by omega) 4 _).set (by omega) 5 _).out, (Hn.put6 Nx2.out (by omega) _ _ _ _ _ _).mono (by omega)⟩

set_option maxHeartbeats 1000000 in
theorem pat_atom {L : Lev} {d : Nat} (hL : LevOK L d) (j : Bool) : ∀ w E s, PS w E s d j → s.k ≠ 4 → Calls Tryz.prog 105 #[pp E] w (NOut w E (patomP L s) d j) := by
  intro w E s h hk
  have hf0 := tf0
  have HP := Lib.hid (patom_any hL j)
  have hx : (((hd s.ts).k : Int) != 4) = true := i_nf (b := 4) hk
  clear hk
  have L0 := Lib.hid (Lc.start h)
  have er0 := h.lt.1
  clear h
  go_enter Tryz.func105, Tryz.ntmps105
  go_wp2_with fail
  refine (token_any _ E s d j (L0.out.alloc _).ps).mono ?_
  rintro x w1 ⟨rfl, hb⟩
  have ho := Out.of_below (L0.out.alloc _).ps hb
  have L1 := Lib.hid ((L0.out.alloc _).call ho)
  have Brb1 := Lib.hid (show Bk w1 w.heap.size #[.int .i64 0, .string ⟨#[]⟩, .int .i64 0, .int .i64 0, .slice none 0 0, .slice none 0 0] 25 from Bk.gr (heap_at _ _ _ (by simp [])) ho.gr (by omega))
  have zrb1 : w.heap.size < w1.heap.size := Brb1.out.lt
  clear ho hb L0
  go_wp2_with fail
  refine (HP.out _ E s L1.out.ps).mono ?_
  rintro x w2 ⟨ao2, ac2, bo2, bc2, rfl, ho, hN⟩
  have L2 := Lib.hid (L1.out.call ho)
  have Brb2 := Lib.hid (show Bk w2 w.heap.size #[.int .i64 0, .string ⟨#[]⟩, .int .i64 0, .int .i64 0, .slice none 0 0, .slice none 0 0] 25 from Bk.gr Brb1.out ho.gr (by omega))
  have zrb2 : w.heap.size < w2.heap.size := Brb2.out.lt
  have Nx2 := Lib.hid (show Hn w2 w1.heap.size ((patomP L s).1) (.slice ao2 ((patomP L s).1).names.length ac2, .slice bo2 ((patomP L s).1).kids.length bc2) from hN.mono (by simp []))
  clear ho hN L1 Brb1
  obtain ⟨grb0, grb1, grb2, grb3, grb4, grb5⟩ := Brb2.out.c6
  obtain ⟨frb0, frb1, frb2, frb3, frb4, frb5⟩ := Brb2.out.f6
  go_wp2
  refine bodyPost_ret (v := .agg #[.int .i64 ((patomP L s).1.kind : Int), .string ⟨(patomP L s).1.text.toArray⟩, .int .i64 ((patomP L s).1.num : Int), .int .i64 ((patomP L s).1.pl : Int), .slice ao2 (patomP L s).1.names.length ac2, .slice bo2 (patomP L s).1.kids.length bc2]) (by simp [results, Tryz.results105, go_sem, grb0, grb1, grb2, grb3, grb4, grb5]) rfl ?_
  exact ⟨_, _, _, _, rfl, ((((((L2.out.set (by omega) 0 _).set (by omega) 1 _).set (by omega) 2 _).set (by omega) 3 _).set (by omega) 4 _).set (by omega) 5 _).out, (Hn.put6 Nx2.out (by omega) _ _ _ _ _ _).mono (by omega)⟩

theorem pat_any {L : Lev} {d : Nat} (hL : LevOK L d) (j : Bool) : NC 105 (patP L) d j := by
  intro w E s h
  unfold patP
  by_cases hk : s.k = 4
  · rw [if_pos hk]; exact pat_con hL j w E s h hk
  · rw [if_neg hk]; exact pat_atom hL j w E s h hk
end Go.Proofs.YtlcapkgbbgpdmaaGreatDoor.PT

/- try. -/
namespace Go.Proofs.YtlcapkgbbgpdmaaGreatDoor.PU
open Go.RowKit Go.Proofs.YtlcapkgbbgpdmaaGreatDoor.P Go.Proofs.YtlcapkgbbgpdmaaGreatDoor.A Go.Proofs.YtlcapkgbbgpdmaaGreatDoor.TK Go.Proofs.YtlcapkgbbgpdmaaGreatDoor.TO Go.Proofs.YtlcapkgbbgpdmaaGreatDoor.GR Go.Proofs.YtlcapkgbbgpdmaaGreatDoor.MP Go.Proofs.YtlcapkgbbgpdmaaGreatDoor.YR Go.Proofs.YtlcapkgbbgpdmaaGreatDoor.PN Go.Proofs.YtlcapkgbbgpdmaaGreatDoor.PS Go.Proofs.YtlcapkgbbgpdmaaGreatDoor.PA Go.Proofs.YtlcapkgbbgpdmaaGreatDoor.PB Go.Proofs.YtlcapkgbbgpdmaaGreatDoor.PC Go.Proofs.YtlcapkgbbgpdmaaGreatDoor.PD Go.Proofs.YtlcapkgbbgpdmaaGreatDoor.PE Go.Proofs.YtlcapkgbbgpdmaaGreatDoor.PF Go.Proofs.YtlcapkgbbgpdmaaGreatDoor.PG Go.Proofs.YtlcapkgbbgpdmaaGreatDoor.PH Go.Proofs.YtlcapkgbbgpdmaaGreatDoor.PI Go.Proofs.YtlcapkgbbgpdmaaGreatDoor.PJ Go.Proofs.YtlcapkgbbgpdmaaGreatDoor.PK Go.Proofs.YtlcapkgbbgpdmaaGreatDoor.PL Go.Proofs.YtlcapkgbbgpdmaaGreatDoor.PM Go.Proofs.YtlcapkgbbgpdmaaGreatDoor.PO Go.Proofs.YtlcapkgbbgpdmaaGreatDoor.PP Go.Proofs.YtlcapkgbbgpdmaaGreatDoor.PR Go.Proofs.YtlcapkgbbgpdmaaGreatDoor.PT
set_option linter.unusedVariables false
set_option maxRecDepth 100000
attribute [local go_sem ↓] Go.wp_at_zero Go.wp_at_succ

set_option maxHeartbeats 2000000 in
theorem try_any {L : Lev} {d : Nat} (hL : LevOK L d) (j : Bool) : NC 69 (tryP L) d j := by
  intro w E s h
  have HX := exp_any (hL.x true)
  have hmf : ∀ (fn : Fn) (first cap : Array Value) (w : World), (Instr.makeFunc fn first cap).run Tryz.prog w = .ok (.func fn first cap) w := fun _ _ _ _ => rfl
  have L0 := Lib.hid (Lc.start h)
  have er0 := h.lt.1
  clear h
  go_enter_defers Tryz.func69, Tryz.ntmps69
  go_wp2_with fail
  refine (joining_any _ E s d j (L0.out.alloc _).ps).mono ?_
  rintro x w1 ⟨c1, c2, rfl, ho, hc1, hc2, m1, m2⟩
  have L1 := Lib.hid ((L0.out.alloc _).call ho)
  have Brb1 := Lib.hid (show Bk w1 w.heap.size #[.int .i64 0, .string ⟨#[]⟩, .int .i64 0, .int .i64 0, .slice none 0 0, .slice none 0 0] 25 from Bk.gr (heap_at _ _ _ (by simp [])) ho.gr (by omega))
  have zrb1 : w.heap.size < w1.heap.size := Brb1.out.lt
  have Bc11 := Lib.hid hc1
  have Bc21 := Lib.hid hc2
  have M1 : w.heap.size + 1 ≤ c1 := (by simpa using m1)
  have M2 : w.heap.size + 1 ≤ c2 := (by simpa using m2)
  have zc11 := Bc11.out.lt
  have zc21 := Bc21.out.lt
  clear ho hc1 hc2 m1 m2 L0
  go_wp2_with fail
  refine (begin_any _ E s d true L1.out.ps 12).mono ?_
  rintro x w2 ⟨rfl, hb⟩
  have ho := Out.of_below L1.out.ps hb
  have L2 := Lib.hid (L1.out.call ho)
  have Brb2 := Lib.hid (show Bk w2 w.heap.size #[.int .i64 0, .string ⟨#[]⟩, .int .i64 0, .int .i64 0, .slice none 0 0, .slice none 0 0] 25 from Bk.gr Brb1.out ho.gr (by omega))
  have Bc12 := Lib.hid (show Bk w2 c1 #[pp E] 71 from Bk.gr Bc11.out ho.gr (by omega))
  have Bc22 := Lib.hid (show Bk w2 c2 #[.bool j] 4 from Bk.gr Bc21.out ho.gr (by omega))
  have zrb2 : w.heap.size < w2.heap.size := Brb2.out.lt
  have zc12 : c1 < w2.heap.size := Bc12.out.lt
  have zc22 : c2 < w2.heap.size := Bc22.out.lt
  clear ho hb L1 Brb1 Bc11 Bc21
  go_wp2_with fail
  refine (expect_any _ E s d true (L2.out.alloc _).ps wTry (by decide)).mono ?_
  rintro x w3 ⟨rfl, ho⟩
  have L3 := Lib.hid ((L2.out.alloc _).call ho)
  have Brb3 := Lib.hid (show Bk w3 w.heap.size #[.int .i64 0, .string ⟨#[]⟩, .int .i64 0, .int .i64 0, .slice none 0 0, .slice none 0 0] 25 from Bk.gr (Brb2.out.alloc _) ho.gr (by omega))
  have Bc13 := Lib.hid (show Bk w3 c1 #[pp E] 71 from Bk.gr (Bc12.out.alloc _) ho.gr (by omega))
  have Bc23 := Lib.hid (show Bk w3 c2 #[.bool j] 4 from Bk.gr (Bc22.out.alloc _) ho.gr (by omega))
  have Bnb3 := Lib.hid (show Bk w3 w2.heap.size #[.int .i64 12, .string ⟨#[]⟩, .int .i64 0, .int .i64 (s.pl : Int), .slice none 0 0, .slice none 0 0] 25 from Bk.gr (heap_at _ _ _ (by simp [])) ho.gr (by omega))
  have zrb3 : w.heap.size < w3.heap.size := Brb3.out.lt
  have zc13 : c1 < w3.heap.size := Bc13.out.lt
  have zc23 : c2 < w3.heap.size := Bc23.out.lt
  have znb3 : w2.heap.size < w3.heap.size := Bnb3.out.lt
  clear ho L2 Brb2 Bc12 Bc22
  go_wp2_with fail
  refine (HX _ E (expect wTry s) L3.out.ps).mono ?_
  rintro x w4 ⟨ao4, ac4, bo4, bc4, rfl, ho, hN⟩
  have mm4 : w3.heap.size ≤ w4.heap.size := Nat.le_trans (by simp []) ho.gr.size
  have L4 := Lib.hid (L3.out.call ho)
  have Brb4 := Lib.hid (show Bk w4 w.heap.size #[.int .i64 0, .string ⟨#[]⟩, .int .i64 0, .int .i64 0, .slice none 0 0, .slice none 0 0] 25 from Bk.gr Brb3.out ho.gr (by omega))
  have Bc14 := Lib.hid (show Bk w4 c1 #[pp E] 71 from Bk.gr Bc13.out ho.gr (by omega))
  have Bc24 := Lib.hid (show Bk w4 c2 #[.bool j] 4 from Bk.gr Bc23.out ho.gr (by omega))
  have Bnb4 := Lib.hid (show Bk w4 w2.heap.size #[.int .i64 12, .string ⟨#[]⟩, .int .i64 0, .int .i64 (s.pl : Int), .slice none 0 0, .slice none 0 0] 25 from Bk.gr Bnb3.out ho.gr (by omega))
  have zrb4 : w.heap.size < w4.heap.size := Brb4.out.lt
  have zc14 : c1 < w4.heap.size := Bc14.out.lt
  have zc24 : c2 < w4.heap.size := Bc24.out.lt
  have znb4 : w2.heap.size < w4.heap.size := Bnb4.out.lt
  have Nx4 := Lib.hid (show Hn w4 w3.heap.size ((L.x true (expect wTry s)).1) (.slice ao4 ((L.x true (expect wTry s)).1).names.length ac4, .slice bo4 ((L.x true (expect wTry s)).1).kids.length bc4) from hN.mono (by simp []))
  clear ho hN L3 Brb3 Bc13 Bc23 Bnb3
  obtain ⟨gnb0, gnb1, gnb2, gnb3, gnb4, gnb5⟩ := Bnb4.out.c6
  obtain ⟨fnb0, fnb1, fnb2, fnb3, fnb4, fnb5⟩ := Bnb4.out.f6
  go_wp2_with fail
  refine (expect_any _ E (L.x true (expect wTry s)).2 d true ((L4.out.set (by omega) 5 _).alloc _).ps wWith (by decide)).mono ?_
  rintro x w5 ⟨rfl, ho⟩
  have mm5 : w4.heap.size ≤ w5.heap.size := Nat.le_trans (by simp []) ho.gr.size
  have L5 := Lib.hid (((L4.out.set (by omega) 5 _).alloc _).call ho)
  have Brb5 := Lib.hid (show Bk w5 w.heap.size #[.int .i64 0, .string ⟨#[]⟩, .int .i64 0, .int .i64 0, .slice none 0 0, .slice none 0 0] 25 from Bk.gr ((Brb4.out.other (b' := w2.heap.size) (by omega) 5 _).alloc _) ho.gr (by omega))
  have Bc15 := Lib.hid (show Bk w5 c1 #[pp E] 71 from Bk.gr ((Bc14.out.other (b' := w2.heap.size) (by omega) 5 _).alloc _) ho.gr (by omega))
  have Bc25 := Lib.hid (show Bk w5 c2 #[.bool j] 4 from Bk.gr ((Bc24.out.other (b' := w2.heap.size) (by omega) 5 _).alloc _) ho.gr (by omega))
  have Bnb5 := Lib.hid (show Bk w5 w2.heap.size #[.int .i64 12, .string ⟨#[]⟩, .int .i64 0, .int .i64 (s.pl : Int), .slice none 0 0, .slice (some ⟨w4.heap.size, 0, none⟩) 1 1] 25 from Bk.gr ((Bnb4.out.set 5 _).alloc _) ho.gr (by omega))
  have Kr5 := Lib.hid (Ka.gr (Kd.ka2 (Kd.made (Hn.set (b := w2.heap.size) Nx4.out (by omega) 5 _) (base := w3.heap.size) (n := w4.heap.size) (by omega) (by simp []; omega) (by simp []) _ rfl) (by omega)) ho.gr (by omega))
  have zrb5 : w.heap.size < w5.heap.size := Brb5.out.lt
  have zc15 : c1 < w5.heap.size := Bc15.out.lt
  have zc25 : c2 < w5.heap.size := Bc25.out.lt
  have znb5 : w2.heap.size < w5.heap.size := Bnb5.out.lt
  clear ho L4 Brb4 Bc14 Bc24 Bnb4 Nx4 gnb0 gnb1 gnb2 gnb3 gnb4 gnb5 fnb0 fnb1 fnb2 fnb3 fnb4 fnb5
  go_wp2_with fail
  refine (name_any _ E (expect wWith (L.x true (expect wTry s)).2) d true L5.out.ps).mono ?_
  rintro x w6 ⟨rfl, ho⟩
  have mm6 : w5.heap.size ≤ w6.heap.size := Nat.le_trans (by simp []) ho.gr.size
  have L6 := Lib.hid (L5.out.call ho)
  have Brb6 := Lib.hid (show Bk w6 w.heap.size #[.int .i64 0, .string ⟨#[]⟩, .int .i64 0, .int .i64 0, .slice none 0 0, .slice none 0 0] 25 from Bk.gr Brb5.out ho.gr (by omega))
  have Bc16 := Lib.hid (show Bk w6 c1 #[pp E] 71 from Bk.gr Bc15.out ho.gr (by omega))
  have Bc26 := Lib.hid (show Bk w6 c2 #[.bool j] 4 from Bk.gr Bc25.out ho.gr (by omega))
  have Bnb6 := Lib.hid (show Bk w6 w2.heap.size #[.int .i64 12, .string ⟨#[]⟩, .int .i64 0, .int .i64 (s.pl : Int), .slice none 0 0, .slice (some ⟨w4.heap.size, 0, none⟩) 1 1] 25 from Bk.gr Bnb5.out ho.gr (by omega))
  have Kr6 := Lib.hid (Ka.gr Kr5.out ho.gr (by omega))
  have zrb6 : w.heap.size < w6.heap.size := Brb6.out.lt
  have zc16 : c1 < w6.heap.size := Bc16.out.lt
  have zc26 : c2 < w6.heap.size := Bc26.out.lt
  have znb6 : w2.heap.size < w6.heap.size := Bnb6.out.lt
  clear ho L5 Brb5 Bc15 Bc25 Bnb5 Kr5
  obtain ⟨gnb0, gnb1, gnb2, gnb3, gnb4, gnb5⟩ := Bnb6.out.c6
  obtain ⟨fnb0, fnb1, fnb2, fnb3, fnb4, fnb5⟩ := Bnb6.out.f6
  go_wp2_with fail
  refine (expect_any _ E (text 3 (expect wWith (L.x true (expect wTry s)).2)).2 d true (L6.out.set (by omega) 1 _).ps wArrow (by decide)).mono ?_
  rintro x w7 ⟨rfl, ho⟩
  have mm7 : w6.heap.size ≤ w7.heap.size := Nat.le_trans (by simp []) ho.gr.size
  have L7 := Lib.hid ((L6.out.set (by omega) 1 _).call ho)
  have Brb7 := Lib.hid (show Bk w7 w.heap.size #[.int .i64 0, .string ⟨#[]⟩, .int .i64 0, .int .i64 0, .slice none 0 0, .slice none 0 0] 25 from Bk.gr (Brb6.out.other (b' := w2.heap.size) (by omega) 1 _) ho.gr (by omega))
  have Bc17 := Lib.hid (show Bk w7 c1 #[pp E] 71 from Bk.gr (Bc16.out.other (b' := w2.heap.size) (by omega) 1 _) ho.gr (by omega))
  have Bc27 := Lib.hid (show Bk w7 c2 #[.bool j] 4 from Bk.gr (Bc26.out.other (b' := w2.heap.size) (by omega) 1 _) ho.gr (by omega))
  have Bnb7 := Lib.hid (show Bk w7 w2.heap.size #[.int .i64 12, .string ⟨(text 3 (expect wWith (L.x true (expect wTry s)).2)).1.toArray⟩, .int .i64 0, .int .i64 (s.pl : Int), .slice none 0 0, .slice (some ⟨w4.heap.size, 0, none⟩) 1 1] 25 from Bk.gr (Bnb6.out.set 1 _) ho.gr (by omega))
  have Kr7 := Lib.hid (Ka.gr (Ka.set Kr6.out 1 _) ho.gr (by omega))
  have zrb7 : w.heap.size < w7.heap.size := Brb7.out.lt
  have zc17 : c1 < w7.heap.size := Bc17.out.lt
  have zc27 : c2 < w7.heap.size := Bc27.out.lt
  have znb7 : w2.heap.size < w7.heap.size := Bnb7.out.lt
  clear ho L6 Brb6 Bc16 Bc26 Bnb6 Kr6 gnb0 gnb1 gnb2 gnb3 gnb4 gnb5 fnb0 fnb1 fnb2 fnb3 fnb4 fnb5
  obtain ⟨gnb0, gnb1, gnb2, gnb3, gnb4, gnb5⟩ := Bnb7.out.c6
  obtain ⟨fnb0, fnb1, fnb2, fnb3, fnb4, fnb5⟩ := Bnb7.out.f6
  go_wp2
  refine wp_region_noPanic ?_
  go_region_law (first
    | (refine step_kid w8 (.tmp 22) (.tmp 25) w3.heap.size w2.heap.size 1 w7.heap.size (.slice (some ⟨w4.heap.size, 0, none⟩) 1 1) [(L.x true (expect wTry s)).1] [(.slice ao4 ((L.x true (expect wTry s)).1).names.length ac4, .slice bo4 ((L.x true (expect wTry s)).1).kids.length bc4)] ((L.x true (expect wArrow (text 3 (expect wWith (L.x true (expect wTry s)).2)).2)).1) (.slice ao8 ((L.x true (expect wArrow (text 3 (expect wWith (L.x true (expect wTry s)).2)).2)).1).names.length ac8, .slice bo8 ((L.x true (expect wArrow (text 3 (expect wWith (L.x true (expect wTry s)).2)).2)).1).kids.length bc8) _ (by rfl) (by rfl) (by rfl) (by rfl) K8.out Ny8.out rfl (by decide) p1 p5.out p2 p3 znb8 rfl ?_; intro gg8 cp8 w8a hka hgrow; have L8a := Lib.hid (Lc.grown (L8.out.alloc _) hgrow (fun k hk => by have := (K8.out.1.lt k hk).1; omega)); have K8a := Lib.hid hka; have Brb8a := Lib.hid (show Bk w8a w.heap.size #[.int .i64 0, .string ⟨#[]⟩, .int .i64 0, .int .i64 0, .slice none 0 0, .slice none 0 0] 25 from Bk.grown (Bk.alloc Brb8.out _) hgrow (fun e => by have := (K8.out.1.lt _ e).1; omega)); have zrb8a := Brb8a.out.lt; have Bc18a := Lib.hid (show Bk w8a c1 #[pp E] 71 from Bk.grown (Bk.alloc Bc18.out _) hgrow (fun e => by have := (K8.out.1.lt _ e).1; omega)); have zc18a := Bc18a.out.lt; have Bc28a := Lib.hid (show Bk w8a c2 #[.bool j] 4 from Bk.grown (Bk.alloc Bc28.out _) hgrow (fun e => by have := (K8.out.1.lt _ e).1; omega)); have zc28a := Bc28a.out.lt; have Bnb8a := Lib.hid (show Bk w8a w2.heap.size #[.int .i64 12, .string ⟨(text 3 (expect wWith (L.x true (expect wTry s)).2)).1.toArray⟩, .int .i64 0, .int .i64 (s.pl : Int), .slice none 0 0, .slice (some ⟨w4.heap.size, 0, none⟩) 1 1] 25 from Bk.grown (Bk.alloc Bnb8.out _) hgrow (Ka.alloc K8.out (.cells #[] 0)).2.1); have znb8a := Bnb8a.out.lt; obtain ⟨e0, e1, e2, e3, e4, e5⟩ := Bnb8a.out.c6; obtain ⟨h0, h1, h2, h3, h4, h5⟩ := Bnb8a.out.f6; clear hka hgrow)
    | (go_simp; go_at_call 75; refine (HX _ E (expect wArrow (text 3 (expect wWith (L.x true (expect wTry s)).2)).2) L7.out.drew.ps).mono ?_; rintro x w8 ⟨ao8, ac8, bo8, bc8, rfl, ho, hN⟩; have L8 := Lib.hid (L7.out.drew.call ho); have Brb8 := Lib.hid (show Bk w8 w.heap.size #[.int .i64 0, .string ⟨#[]⟩, .int .i64 0, .int .i64 0, .slice none 0 0, .slice none 0 0] 25 from Bk.gr Brb7.out.drew ho.gr (by omega)); have zrb8 : w.heap.size < w8.heap.size := Brb8.out.lt; have Bc18 := Lib.hid (show Bk w8 c1 #[pp E] 71 from Bk.gr Bc17.out.drew ho.gr (by omega)); have zc18 : c1 < w8.heap.size := Bc18.out.lt; have Bc28 := Lib.hid (show Bk w8 c2 #[.bool j] 4 from Bk.gr Bc27.out.drew ho.gr (by omega)); have zc28 : c2 < w8.heap.size := Bc28.out.lt; have Bnb8 := Lib.hid (show Bk w8 w2.heap.size #[.int .i64 12, .string ⟨(text 3 (expect wWith (L.x true (expect wTry s)).2)).1.toArray⟩, .int .i64 0, .int .i64 (s.pl : Int), .slice none 0 0, .slice (some ⟨w4.heap.size, 0, none⟩) 1 1] 25 from Bk.gr Bnb7.out.drew ho.gr (by omega)); have znb8 : w2.heap.size < w8.heap.size := Bnb8.out.lt; have K8 := Lib.hid (Ka.gr Kr7.out.drew1 ho.gr (by omega)); have Ny8 := Lib.hid (show Hn w8 w7.heap.size ((L.x true (expect wArrow (text 3 (expect wWith (L.x true (expect wTry s)).2)).2)).1) (.slice ao8 ((L.x true (expect wArrow (text 3 (expect wWith (L.x true (expect wTry s)).2)).2)).1).names.length ac8, .slice bo8 ((L.x true (expect wArrow (text 3 (expect wWith (L.x true (expect wTry s)).2)).2)).1).kids.length bc8) from hN); obtain ⟨cc0, cc1, cc2, cc3, cc4, cc5⟩ := Bnb8.out.c6; obtain ⟨d0, d1, d2, d3, d4, d5⟩ := Bnb8.out.f6; have hzz : w7.heap.size ≤ w8.heap.size := ho.gr.size; have p1 : w3.heap.size ≤ w7.heap.size := (by omega); have p2 : w2.heap.size < w7.heap.size := (by omega); have p3 : w3.heap.size ≤ w8.heap.size := (by omega); have p5 := Lib.hid (show ∀ k, (.slice (some ⟨w4.heap.size, 0, none⟩) 1 1 : Value).ownBlock = some k → k < w7.heap.size from fun k hk => (Kr7.out.1.lt k hk).2); clear ho hN hzz))
  all_goals refine noPanic_of ?_
  all_goals
    go_wp2_with fail
    refine (expect_any _ E (L.x true (expect wArrow (text 3 (expect wWith (L.x true (expect wTry s)).2)).2)).2 d true (L8a.out.set (by omega) 5 _).ps wEnd (by decide)).mono ?_
    rintro x w9 ⟨rfl, ho⟩
    have L9 := Lib.hid ((L8a.out.set (by omega) 5 _).call ho)
    have Brb9 := Lib.hid (show Bk w9 w.heap.size #[.int .i64 0, .string ⟨#[]⟩, .int .i64 0, .int .i64 0, .slice none 0 0, .slice none 0 0] 25 from Bk.gr (Brb8a.out.other (b' := w2.heap.size) (by omega) 5 _) ho.gr (by omega))
    have Bc19 := Lib.hid (show Bk w9 c1 #[pp E] 71 from Bk.gr (Bc18a.out.other (b' := w2.heap.size) (by omega) 5 _) ho.gr (by omega))
    have Bc29 := Lib.hid (show Bk w9 c2 #[.bool j] 4 from Bk.gr (Bc28a.out.other (b' := w2.heap.size) (by omega) 5 _) ho.gr (by omega))
    have Bnb9 := Lib.hid (show Bk w9 w2.heap.size #[.int .i64 12, .string ⟨(text 3 (expect wWith (L.x true (expect wTry s)).2)).1.toArray⟩, .int .i64 0, .int .i64 (s.pl : Int), .slice none 0 0, .slice (some ⟨gg8, 0, none⟩) 2 cp8] 25 from Bk.gr (Bnb8a.out.set 5 _) ho.gr (by omega))
    have Kr9 := Lib.hid (Ka.gr (Ka.set K8a.out 5 _) ho.gr (by omega))
    have zrb9 : w.heap.size < w9.heap.size := Brb9.out.lt
    have zc19 : c1 < w9.heap.size := Bc19.out.lt
    have zc29 : c2 < w9.heap.size := Bc29.out.lt
    have znb9 : w2.heap.size < w9.heap.size := Bnb9.out.lt
    clear ho L8a Brb8a Bc18a Bc28a Bnb8a K8a
    obtain ⟨grb0, grb1, grb2, grb3, grb4, grb5⟩ := Brb9.out.c6
    obtain ⟨frb0, frb1, frb2, frb3, frb4, frb5⟩ := Brb9.out.f6
    obtain ⟨gnb0, gnb1, gnb2, gnb3, gnb4, gnb5⟩ := Bnb9.out.c6
    obtain ⟨fnb0, fnb1, fnb2, fnb3, fnb4, fnb5⟩ := Bnb9.out.f6
    go_wp2
    refine leaves_cons (f := 130) (args := #[.pointer (some ⟨c2, 0, none⟩), .pointer (some ⟨c1, 0, none⟩)]) (by simp) (by simp [go_sem]) ?_
    refine (join_deferred _ E (expect wEnd (L.x true (expect wArrow (text 3 (expect wWith (L.x true (expect wTry s)).2)).2)).2) d j .returning ((((((L9.out.set (by omega) 0 _).set (by omega) 1 _).set (by omega) 2 _).set (by omega) 3 _).set (by omega) 4 _).set (by omega) 5 _).ps c1 c2 ((((((Bc19.out.other (b' := w.heap.size) (by omega) 0 _).other (b' := w.heap.size) (by omega) 1 _).other (b' := w.heap.size) (by omega) 2 _).other (b' := w.heap.size) (by omega) 3 _).other (b' := w.heap.size) (by omega) 4 _).other (b' := w.heap.size) (by omega) 5 _) ((((((Bc29.out.other (b' := w.heap.size) (by omega) 0 _).other (b' := w.heap.size) (by omega) 1 _).other (b' := w.heap.size) (by omega) 2 _).other (b' := w.heap.size) (by omega) 3 _).other (b' := w.heap.size) (by omega) 4 _).other (b' := w.heap.size) (by omega) 5 _)).mono ?_
    rintro e u' wz ⟨rfl, rfl, rfl⟩
    have hne : w.heap.size ≠ E.r := by omega
    refine ⟨.agg #[.int .i64 12, .string ⟨(text 3 (expect wWith (L.x true (expect wTry s)).2)).1.toArray⟩, .int .i64 0, .int .i64 (s.pl : Int), .slice none 0 0, .slice (some ⟨gg8, 0, none⟩) 2 cp8], by simp [results, Tryz.results69, go_sem, grb0, grb1, grb2, grb3, grb4, grb5], _, _, _, _, rfl, (Lc.call ((((((L9.out.set (by omega) 0 _).set (by omega) 1 _).set (by omega) 2 _).set (by omega) 3 _).set (by omega) 4 _).set (by omega) 5 _) (join_out ((((((L9.out.set (by omega) 0 _).set (by omega) 1 _).set (by omega) 2 _).set (by omega) 3 _).set (by omega) 4 _).set (by omega) 5 _).ps)).out, Hn.set ((Ka.has (Ka.other (b := w.heap.size) (Ka.other (b := w.heap.size) (Ka.other (b := w.heap.size) (Ka.other (b := w.heap.size) (Ka.other (b := w.heap.size) (Ka.other (b := w.heap.size) Kr9.out (by omega) 0 _) (by omega) 1 _) (by omega) 2 _) (by omega) 3 _) (by omega) 4 _) (by omega) 5 _) 12 _ 0 _).mono (by omega)) (by omega) _ _⟩

end Go.Proofs.YtlcapkgbbgpdmaaGreatDoor.PU

/- if. -/
namespace Go.Proofs.YtlcapkgbbgpdmaaGreatDoor.PV
open Go.RowKit Go.Proofs.YtlcapkgbbgpdmaaGreatDoor.P Go.Proofs.YtlcapkgbbgpdmaaGreatDoor.A Go.Proofs.YtlcapkgbbgpdmaaGreatDoor.TK Go.Proofs.YtlcapkgbbgpdmaaGreatDoor.TO Go.Proofs.YtlcapkgbbgpdmaaGreatDoor.GR Go.Proofs.YtlcapkgbbgpdmaaGreatDoor.MP Go.Proofs.YtlcapkgbbgpdmaaGreatDoor.YR Go.Proofs.YtlcapkgbbgpdmaaGreatDoor.PN Go.Proofs.YtlcapkgbbgpdmaaGreatDoor.PS Go.Proofs.YtlcapkgbbgpdmaaGreatDoor.PA Go.Proofs.YtlcapkgbbgpdmaaGreatDoor.PB Go.Proofs.YtlcapkgbbgpdmaaGreatDoor.PC Go.Proofs.YtlcapkgbbgpdmaaGreatDoor.PD Go.Proofs.YtlcapkgbbgpdmaaGreatDoor.PE Go.Proofs.YtlcapkgbbgpdmaaGreatDoor.PF Go.Proofs.YtlcapkgbbgpdmaaGreatDoor.PG Go.Proofs.YtlcapkgbbgpdmaaGreatDoor.PH Go.Proofs.YtlcapkgbbgpdmaaGreatDoor.PI Go.Proofs.YtlcapkgbbgpdmaaGreatDoor.PJ Go.Proofs.YtlcapkgbbgpdmaaGreatDoor.PK Go.Proofs.YtlcapkgbbgpdmaaGreatDoor.PL Go.Proofs.YtlcapkgbbgpdmaaGreatDoor.PM Go.Proofs.YtlcapkgbbgpdmaaGreatDoor.PO Go.Proofs.YtlcapkgbbgpdmaaGreatDoor.PP Go.Proofs.YtlcapkgbbgpdmaaGreatDoor.PR Go.Proofs.YtlcapkgbbgpdmaaGreatDoor.PT Go.Proofs.YtlcapkgbbgpdmaaGreatDoor.PU
set_option linter.unusedVariables false
set_option maxRecDepth 100000
attribute [local go_sem ↓] Go.wp_at_zero Go.wp_at_succ

def condWord : Nat → By
  | 0 => wIf
  | 1 => wThen
  | _ => wElse
/-- What stands behind so many words. -/
def condSt (L : Lev) (j : Bool) (s : St) : Nat → List Tree × St
  | 0 => ([], s)
  | k + 1 => ((condSt L j s k).1 ++ [(L.x j (expect (condWord k) (condSt L j s k).2)).1], (L.x j (expect (condWord k) (condSt L j s k).2)).2)
theorem cond_eq (L : Lev) (j : Bool) (s : St) : condP L j s = (.node 10 [] [] (condSt L j s 3).1 0 s.pl, (condSt L j s 3).2) := rfl
theorem condSt_len (L : Lev) (j : Bool) (s : St) : ∀ k, (condSt L j s k).1.length = k
  | 0 => rfl
  | k + 1 => by
    show ((condSt L j s k).1 ++ [_]).length = _
    rw [List.length_append, condSt_len L j s k]; rfl
abbrev words3 : Value := .agg #[.string ⟨#[105, 102]⟩, .string ⟨#[116, 104, 101, 110]⟩, .string ⟨#[101, 108, 115, 101]⟩]
theorem word_at0 (w : World) : (Instr.index 106 words3 (.int .i64 0)).run Tryz.prog w = .ok (.string ⟨#[105, 102]⟩) w := by kernel_rfl
theorem word_at1 (w : World) : (Instr.index 106 words3 (.int .i64 1)).run Tryz.prog w = .ok (.string ⟨#[116, 104, 101, 110]⟩) w := by kernel_rfl
theorem word_at2 (w : World) : (Instr.index 106 words3 (.int .i64 2)).run Tryz.prog w = .ok (.string ⟨#[101, 108, 115, 101]⟩) w := by kernel_rfl

set_option maxHeartbeats 2000000 in
theorem cond_any {L : Lev} {d : Nat} (hL : LevOK L d) (j : Bool) : NC 65 (condP L j) d j := by
  intro w E s h
  have HX := exp_any (hL.x j)
  rw [cond_eq]
  have i0 := word_at0
  have i1 := word_at1
  have i2 := word_at2
  have L0 := Lib.hid (Lc.start h)
  have er0 := h.lt.1
  clear h
  go_enter Tryz.func65, Tryz.ntmps65
  go_wp2_with fail
  refine (begin_any _ E s d j (L0.out.alloc _).ps 10).mono ?_
  rintro x w1 ⟨rfl, hb⟩
  have ho := Out.of_below (L0.out.alloc _).ps hb
  have L1 := Lib.hid ((L0.out.alloc _).call ho)
  have Brb1 := Lib.hid (show Bk w1 w.heap.size #[.int .i64 0, .string ⟨#[]⟩, .int .i64 0, .int .i64 0, .slice none 0 0, .slice none 0 0] 25 from Bk.gr (heap_at _ _ _ (by simp [])) ho.gr (by omega))
  have zrb1 : w.heap.size < w1.heap.size := Brb1.out.lt
  clear ho hb L0
  go_wp2
  have LS := Lib.hid (show Lc w E s d j (w1.alloc (.cells #[.int .i64 10, .string ⟨#[]⟩, .int .i64 0, .int .i64 (s.pl : Int), .slice none 0 0, .slice none 0 0] 25)) from (L1.out.alloc _))
  have BS := Lib.hid (show Bk (w1.alloc (.cells #[.int .i64 10, .string ⟨#[]⟩, .int .i64 0, .int .i64 (s.pl : Int), .slice none 0 0, .slice none 0 0] 25)) w.heap.size #[.int .i64 0, .string ⟨#[]⟩, .int .i64 0, .int .i64 0, .slice none 0 0, .slice none 0 0] 25 from (Brb1.out.alloc _))
  have NS := Lib.hid (Bk.new w1 #[.int .i64 10, .string ⟨#[]⟩, .int .i64 0, .int .i64 (s.pl : Int), .slice none 0 0, .slice none 0 0] 25)
  generalize w1.alloc _ = wq at LS BS NS ⊢
  generalize hnb : w1.heap.size = nb at *
  have HNB := Lib.hid hnb
  clear hnb Brb1 L1
  go_loopg [9] 3 (fun g v0 wx => ∃ (m : Nat) (qs : List (Value × Value)) (ao : Option Addr) (ac : Nat), g + m = 3 ∧ v0 = .int .i64 (m : Int) ∧ Hid (Lc w E (condSt L j s m).2 d j wx) ∧ Hid (Bk wx w.heap.size #[.int .i64 0, .string ⟨#[]⟩, .int .i64 0, .int .i64 0, .slice none 0 0, .slice none 0 0] 25) ∧ Hid (Bk wx nb #[.int .i64 10, .string ⟨#[]⟩, .int .i64 0, .int .i64 (s.pl : Int), .slice none 0 0, .slice ao m ac] 25) ∧ Hid (Ka wx (w.heap.size + 1) nb (.slice ao m ac) (condSt L j s m).1 qs))
  case atStart => exact ⟨0, [], none, 0, rfl, rfl, LS, BS, NS, Ka.nil _ _ _⟩
  case round =>
    obtain ⟨m, qs, ao, ac, hgm, rfl, LW, BW, NW, KW⟩ := hrel
    clear LS BS NS
    have z1 := BW.out.lt
    have z2 := NW.out.lt
    have hm4 : m = 0 ∨ m = 1 ∨ m = 2 ∨ m = 3 := by omega
    rcases hm4 with rfl | rfl | rfl | rfl
    · obtain rfl : gk = 3 := by omega
      go_wp2_with fail
      refine (expect_any _ E (condSt L j s 0).2 d j LW.out.ps wIf (by decide)).mono ?_
      rintro x w2 ⟨rfl, ho⟩
      have mm2 : wr.heap.size ≤ w2.heap.size := Nat.le_trans (by simp []) ho.gr.size
      have L2 := Lib.hid (LW.out.call ho)
      have Brb2 := Lib.hid (show Bk w2 w.heap.size #[.int .i64 0, .string ⟨#[]⟩, .int .i64 0, .int .i64 0, .slice none 0 0, .slice none 0 0] 25 from Bk.gr BW.out ho.gr (by omega))
      have Bnb2 := Lib.hid (show Bk w2 nb #[.int .i64 10, .string ⟨#[]⟩, .int .i64 0, .int .i64 (s.pl : Int), .slice none 0 0, .slice ao 0 ac] 25 from Bk.gr NW.out ho.gr (by omega))
      have Kr2 := Lib.hid (Ka.gr KW.out ho.gr (by omega))
      have zrb2 : w.heap.size < w2.heap.size := Brb2.out.lt
      have znb2 : nb < w2.heap.size := Bnb2.out.lt
      clear ho LW BW NW KW
      obtain ⟨gnb0, gnb1, gnb2, gnb3, gnb4, gnb5⟩ := Bnb2.out.c6
      obtain ⟨fnb0, fnb1, fnb2, fnb3, fnb4, fnb5⟩ := Bnb2.out.f6
      go_wp2
      go_region_law (first
        | (refine step_kid w3 (.tmp 16) (.tmp 19) (w.heap.size + 1) nb 0 w2.heap.size (.slice ao 0 ac) (condSt L j s 0).1 qs ((L.x j (expect (condWord 0) (condSt L j s 0).2)).1) (.slice ao3 ((L.x j (expect (condWord 0) (condSt L j s 0).2)).1).names.length ac3, .slice bo3 ((L.x j (expect (condWord 0) (condSt L j s 0).2)).1).kids.length bc3) _ (by rfl) (by rfl) (by rfl) (by rfl) K3.out Nx3.out (condSt_len L j s 0) (by decide) p1 p5.out p2 p3 znb3 rfl ?_; intro gg3 cp3 w3a hka hgrow; have L3a := Lib.hid (Lc.grown (L3.out.alloc _) hgrow (fun k hk => by have := (K3.out.1.lt k hk).1; omega)); have K3a := Lib.hid hka; have Brb3a := Lib.hid (show Bk w3a w.heap.size #[.int .i64 0, .string ⟨#[]⟩, .int .i64 0, .int .i64 0, .slice none 0 0, .slice none 0 0] 25 from Bk.grown (Bk.alloc Brb3.out _) hgrow (fun e => by have := (K3.out.1.lt _ e).1; omega)); have zrb3a := Brb3a.out.lt; have Bnb3a := Lib.hid (show Bk w3a nb #[.int .i64 10, .string ⟨#[]⟩, .int .i64 0, .int .i64 (s.pl : Int), .slice none 0 0, .slice ao 0 ac] 25 from Bk.grown (Bk.alloc Bnb3.out _) hgrow (Ka.alloc K3.out (.cells #[] 0)).2.1); have znb3a := Bnb3a.out.lt; obtain ⟨e0, e1, e2, e3, e4, e5⟩ := Bnb3a.out.c6; obtain ⟨h0, h1, h2, h3, h4, h5⟩ := Bnb3a.out.f6; clear hka hgrow)
        | (go_simp; go_at_call 75; refine (HX _ E (expect (condWord 0) (condSt L j s 0).2) L2.out.drew.ps).mono ?_; rintro x w3 ⟨ao3, ac3, bo3, bc3, rfl, ho, hN⟩; have L3 := Lib.hid (L2.out.drew.call ho); have Brb3 := Lib.hid (show Bk w3 w.heap.size #[.int .i64 0, .string ⟨#[]⟩, .int .i64 0, .int .i64 0, .slice none 0 0, .slice none 0 0] 25 from Bk.gr Brb2.out.drew ho.gr (by omega)); have zrb3 : w.heap.size < w3.heap.size := Brb3.out.lt; have Bnb3 := Lib.hid (show Bk w3 nb #[.int .i64 10, .string ⟨#[]⟩, .int .i64 0, .int .i64 (s.pl : Int), .slice none 0 0, .slice ao 0 ac] 25 from Bk.gr Bnb2.out.drew ho.gr (by omega)); have znb3 : nb < w3.heap.size := Bnb3.out.lt; have K3 := Lib.hid (Ka.gr Kr2.out.drew1 ho.gr (by omega)); have Nx3 := Lib.hid (show Hn w3 w2.heap.size ((L.x j (expect (condWord 0) (condSt L j s 0).2)).1) (.slice ao3 ((L.x j (expect (condWord 0) (condSt L j s 0).2)).1).names.length ac3, .slice bo3 ((L.x j (expect (condWord 0) (condSt L j s 0).2)).1).kids.length bc3) from hN); obtain ⟨cc0, cc1, cc2, cc3, cc4, cc5⟩ := Bnb3.out.c6; obtain ⟨d0, d1, d2, d3, d4, d5⟩ := Bnb3.out.f6; have hzz : w2.heap.size ≤ w3.heap.size := ho.gr.size; have p1 : (w.heap.size + 1) ≤ w2.heap.size := (by omega); have p2 : nb < w2.heap.size := (by omega); have p3 : (w.heap.size + 1) ≤ w3.heap.size := (by omega); have p5 := Lib.hid (show ∀ k, (.slice ao 0 ac : Value).ownBlock = some k → k < w2.heap.size from fun k hk => (Kr2.out.1.lt k hk).2); clear ho hN hzz))
      all_goals
        go_wp2
        go_roundg 2
        case rel => exact ⟨1, _, some ⟨gg3, 0, none⟩, cp3, rfl, rfl, Lib.hid (L3a.out.set (by omega) 5 _), Lib.hid (Brb3a.out.other (b' := nb) (by omega) 5 _), Lib.hid (Bnb3a.out.set 5 _), Lib.hid (Ka.set K3a.out 5 _)⟩
        case measure => omega
    · obtain rfl : gk = 2 := by omega
      go_wp2_with fail
      refine (expect_any _ E (condSt L j s 1).2 d j LW.out.ps wThen (by decide)).mono ?_
      rintro x w2 ⟨rfl, ho⟩
      have mm2 : wr.heap.size ≤ w2.heap.size := Nat.le_trans (by simp []) ho.gr.size
      have L2 := Lib.hid (LW.out.call ho)
      have Brb2 := Lib.hid (show Bk w2 w.heap.size #[.int .i64 0, .string ⟨#[]⟩, .int .i64 0, .int .i64 0, .slice none 0 0, .slice none 0 0] 25 from Bk.gr BW.out ho.gr (by omega))
      have Bnb2 := Lib.hid (show Bk w2 nb #[.int .i64 10, .string ⟨#[]⟩, .int .i64 0, .int .i64 (s.pl : Int), .slice none 0 0, .slice ao 1 ac] 25 from Bk.gr NW.out ho.gr (by omega))
      have Kr2 := Lib.hid (Ka.gr KW.out ho.gr (by omega))
      have zrb2 : w.heap.size < w2.heap.size := Brb2.out.lt
      have znb2 : nb < w2.heap.size := Bnb2.out.lt
      clear ho LW BW NW KW
      obtain ⟨gnb0, gnb1, gnb2, gnb3, gnb4, gnb5⟩ := Bnb2.out.c6
      obtain ⟨fnb0, fnb1, fnb2, fnb3, fnb4, fnb5⟩ := Bnb2.out.f6
      go_wp2
      go_region_law (first
        | (refine step_kid w3 (.tmp 16) (.tmp 19) (w.heap.size + 1) nb 1 w2.heap.size (.slice ao 1 ac) (condSt L j s 1).1 qs ((L.x j (expect (condWord 1) (condSt L j s 1).2)).1) (.slice ao3 ((L.x j (expect (condWord 1) (condSt L j s 1).2)).1).names.length ac3, .slice bo3 ((L.x j (expect (condWord 1) (condSt L j s 1).2)).1).kids.length bc3) _ (by rfl) (by rfl) (by rfl) (by rfl) K3.out Nx3.out (condSt_len L j s 1) (by decide) p1 p5.out p2 p3 znb3 rfl ?_; intro gg3 cp3 w3a hka hgrow; have L3a := Lib.hid (Lc.grown (L3.out.alloc _) hgrow (fun k hk => by have := (K3.out.1.lt k hk).1; omega)); have K3a := Lib.hid hka; have Brb3a := Lib.hid (show Bk w3a w.heap.size #[.int .i64 0, .string ⟨#[]⟩, .int .i64 0, .int .i64 0, .slice none 0 0, .slice none 0 0] 25 from Bk.grown (Bk.alloc Brb3.out _) hgrow (fun e => by have := (K3.out.1.lt _ e).1; omega)); have zrb3a := Brb3a.out.lt; have Bnb3a := Lib.hid (show Bk w3a nb #[.int .i64 10, .string ⟨#[]⟩, .int .i64 0, .int .i64 (s.pl : Int), .slice none 0 0, .slice ao 1 ac] 25 from Bk.grown (Bk.alloc Bnb3.out _) hgrow (Ka.alloc K3.out (.cells #[] 0)).2.1); have znb3a := Bnb3a.out.lt; obtain ⟨e0, e1, e2, e3, e4, e5⟩ := Bnb3a.out.c6; obtain ⟨h0, h1, h2, h3, h4, h5⟩ := Bnb3a.out.f6; clear hka hgrow)
        | (go_simp; go_at_call 75; refine (HX _ E (expect (condWord 1) (condSt L j s 1).2) L2.out.drew.ps).mono ?_; rintro x w3 ⟨ao3, ac3, bo3, bc3, rfl, ho, hN⟩; have L3 := Lib.hid (L2.out.drew.call ho); have Brb3 := Lib.hid (show Bk w3 w.heap.size #[.int .i64 0, .string ⟨#[]⟩, .int .i64 0, .int .i64 0, .slice none 0 0, .slice none 0 0] 25 from Bk.gr Brb2.out.drew ho.gr (by omega)); have zrb3 : w.heap.size < w3.heap.size := Brb3.out.lt; have Bnb3 := Lib.hid (show Bk w3 nb #[.int .i64 10, .string ⟨#[]⟩, .int .i64 0, .int .i64 (s.pl : Int), .slice none 0 0, .slice ao 1 ac] 25 from Bk.gr Bnb2.out.drew ho.gr (by omega)); have znb3 : nb < w3.heap.size := Bnb3.out.lt; have K3 := Lib.hid (Ka.gr Kr2.out.drew1 ho.gr (by omega)); have Nx3 := Lib.hid (show Hn w3 w2.heap.size ((L.x j (expect (condWord 1) (condSt L j s 1).2)).1) (.slice ao3 ((L.x j (expect (condWord 1) (condSt L j s 1).2)).1).names.length ac3, .slice bo3 ((L.x j (expect (condWord 1) (condSt L j s 1).2)).1).kids.length bc3) from hN); obtain ⟨cc0, cc1, cc2, cc3, cc4, cc5⟩ := Bnb3.out.c6; obtain ⟨d0, d1, d2, d3, d4, d5⟩ := Bnb3.out.f6; have hzz : w2.heap.size ≤ w3.heap.size := ho.gr.size; have p1 : (w.heap.size + 1) ≤ w2.heap.size := (by omega); have p2 : nb < w2.heap.size := (by omega); have p3 : (w.heap.size + 1) ≤ w3.heap.size := (by omega); have p5 := Lib.hid (show ∀ k, (.slice ao 1 ac : Value).ownBlock = some k → k < w2.heap.size from fun k hk => (Kr2.out.1.lt k hk).2); clear ho hN hzz))
      all_goals
        go_wp2
        go_roundg 1
        case rel => exact ⟨2, _, some ⟨gg3, 0, none⟩, cp3, rfl, rfl, Lib.hid (L3a.out.set (by omega) 5 _), Lib.hid (Brb3a.out.other (b' := nb) (by omega) 5 _), Lib.hid (Bnb3a.out.set 5 _), Lib.hid (Ka.set K3a.out 5 _)⟩
        case measure => omega
    · obtain rfl : gk = 1 := by omega
      go_wp2_with fail
      refine (expect_any _ E (condSt L j s 2).2 d j LW.out.ps wElse (by decide)).mono ?_
      rintro x w2 ⟨rfl, ho⟩
      have mm2 : wr.heap.size ≤ w2.heap.size := Nat.le_trans (by simp []) ho.gr.size
      have L2 := Lib.hid (LW.out.call ho)
      have Brb2 := Lib.hid (show Bk w2 w.heap.size #[.int .i64 0, .string ⟨#[]⟩, .int .i64 0, .int .i64 0, .slice none 0 0, .slice none 0 0] 25 from Bk.gr BW.out ho.gr (by omega))
      have Bnb2 := Lib.hid (show Bk w2 nb #[.int .i64 10, .string ⟨#[]⟩, .int .i64 0, .int .i64 (s.pl : Int), .slice none 0 0, .slice ao 2 ac] 25 from Bk.gr NW.out ho.gr (by omega))
      have Kr2 := Lib.hid (Ka.gr KW.out ho.gr (by omega))
      have zrb2 : w.heap.size < w2.heap.size := Brb2.out.lt
      have znb2 : nb < w2.heap.size := Bnb2.out.lt
      clear ho LW BW NW KW
      obtain ⟨gnb0, gnb1, gnb2, gnb3, gnb4, gnb5⟩ := Bnb2.out.c6
      obtain ⟨fnb0, fnb1, fnb2, fnb3, fnb4, fnb5⟩ := Bnb2.out.f6
      go_wp2
      go_region_law (first
        | (refine step_kid w3 (.tmp 16) (.tmp 19) (w.heap.size + 1) nb 2 w2.heap.size (.slice ao 2 ac) (condSt L j s 2).1 qs ((L.x j (expect (condWord 2) (condSt L j s 2).2)).1) (.slice ao3 ((L.x j (expect (condWord 2) (condSt L j s 2).2)).1).names.length ac3, .slice bo3 ((L.x j (expect (condWord 2) (condSt L j s 2).2)).1).kids.length bc3) _ (by rfl) (by rfl) (by rfl) (by rfl) K3.out Nx3.out (condSt_len L j s 2) (by decide) p1 p5.out p2 p3 znb3 rfl ?_; intro gg3 cp3 w3a hka hgrow; have L3a := Lib.hid (Lc.grown (L3.out.alloc _) hgrow (fun k hk => by have := (K3.out.1.lt k hk).1; omega)); have K3a := Lib.hid hka; have Brb3a := Lib.hid (show Bk w3a w.heap.size #[.int .i64 0, .string ⟨#[]⟩, .int .i64 0, .int .i64 0, .slice none 0 0, .slice none 0 0] 25 from Bk.grown (Bk.alloc Brb3.out _) hgrow (fun e => by have := (K3.out.1.lt _ e).1; omega)); have zrb3a := Brb3a.out.lt; have Bnb3a := Lib.hid (show Bk w3a nb #[.int .i64 10, .string ⟨#[]⟩, .int .i64 0, .int .i64 (s.pl : Int), .slice none 0 0, .slice ao 2 ac] 25 from Bk.grown (Bk.alloc Bnb3.out _) hgrow (Ka.alloc K3.out (.cells #[] 0)).2.1); have znb3a := Bnb3a.out.lt; obtain ⟨e0, e1, e2, e3, e4, e5⟩ := Bnb3a.out.c6; obtain ⟨h0, h1, h2, h3, h4, h5⟩ := Bnb3a.out.f6; clear hka hgrow)
        | (go_simp; go_at_call 75; refine (HX _ E (expect (condWord 2) (condSt L j s 2).2) L2.out.drew.ps).mono ?_; rintro x w3 ⟨ao3, ac3, bo3, bc3, rfl, ho, hN⟩; have L3 := Lib.hid (L2.out.drew.call ho); have Brb3 := Lib.hid (show Bk w3 w.heap.size #[.int .i64 0, .string ⟨#[]⟩, .int .i64 0, .int .i64 0, .slice none 0 0, .slice none 0 0] 25 from Bk.gr Brb2.out.drew ho.gr (by omega)); have zrb3 : w.heap.size < w3.heap.size := Brb3.out.lt; have Bnb3 := Lib.hid (show Bk w3 nb #[.int .i64 10, .string ⟨#[]⟩, .int .i64 0, .int .i64 (s.pl : Int), .slice none 0 0, .slice ao 2 ac] 25 from Bk.gr Bnb2.out.drew ho.gr (by omega)); have znb3 : nb < w3.heap.size := Bnb3.out.lt; have K3 := Lib.hid (Ka.gr Kr2.out.drew1 ho.gr (by omega)); have Nx3 := Lib.hid (show Hn w3 w2.heap.size ((L.x j (expect (condWord 2) (condSt L j s 2).2)).1) (.slice ao3 ((L.x j (expect (condWord 2) (condSt L j s 2).2)).1).names.length ac3, .slice bo3 ((L.x j (expect (condWord 2) (condSt L j s 2).2)).1).kids.length bc3) from hN); obtain ⟨cc0, cc1, cc2, cc3, cc4, cc5⟩ := Bnb3.out.c6; obtain ⟨d0, d1, d2, d3, d4, d5⟩ := Bnb3.out.f6; have hzz : w2.heap.size ≤ w3.heap.size := ho.gr.size; have p1 : (w.heap.size + 1) ≤ w2.heap.size := (by omega); have p2 : nb < w2.heap.size := (by omega); have p3 : (w.heap.size + 1) ≤ w3.heap.size := (by omega); have p5 := Lib.hid (show ∀ k, (.slice ao 2 ac : Value).ownBlock = some k → k < w2.heap.size from fun k hk => (Kr2.out.1.lt k hk).2); clear ho hN hzz))
      all_goals
        go_wp2
        go_roundg 0
        case rel => exact ⟨3, _, some ⟨gg3, 0, none⟩, cp3, rfl, rfl, Lib.hid (L3a.out.set (by omega) 5 _), Lib.hid (Brb3a.out.other (b' := nb) (by omega) 5 _), Lib.hid (Bnb3a.out.set 5 _), Lib.hid (Ka.set K3a.out 5 _)⟩
        case measure => omega
    · obtain rfl : gk = 0 := by omega
      obtain ⟨grb0, grb1, grb2, grb3, grb4, grb5⟩ := BW.out.c6
      obtain ⟨frb0, frb1, frb2, frb3, frb4, frb5⟩ := BW.out.f6
      obtain ⟨gnb0, gnb1, gnb2, gnb3, gnb4, gnb5⟩ := NW.out.c6
      obtain ⟨fnb0, fnb1, fnb2, fnb3, fnb4, fnb5⟩ := NW.out.f6
      go_wp2
      refine bodyPost_ret (v := .agg #[.int .i64 10, .string ⟨#[]⟩, .int .i64 0, .int .i64 (s.pl : Int), .slice none 0 0, .slice ao 3 ac]) (by simp [results, Tryz.results65, go_sem, grb0, grb1, grb2, grb3, grb4, grb5]) rfl ?_
      exact ⟨_, _, _, _, rfl, ((((((LW.out.set (by omega) 0 _).set (by omega) 1 _).set (by omega) 2 _).set (by omega) 3 _).set (by omega) 4 _).set (by omega) 5 _).out, (Ka.has (Ka.other (b := w.heap.size) (Ka.other (b := w.heap.size) (Ka.other (b := w.heap.size) (Ka.other (b := w.heap.size) (Ka.other (b := w.heap.size) (Ka.other (b := w.heap.size) KW.out (by omega) 0 _) (by omega) 1 _) (by omega) 2 _) (by omega) 3 _) (by omega) 4 _) (by omega) 5 _) _ _ _ _).mono (by omega)⟩

end Go.Proofs.YtlcapkgbbgpdmaaGreatDoor.PV
