/- The reader's signs, and what the other readers share: a token's block. -/
import Derived.Test.YtlcapkgbbgpdmaaGreatDoorYN
namespace Go.Proofs.YtlcapkgbbgpdmaaGreatDoor.YS
open Go.RowKit Go.Proofs.YtlcapkgbbgpdmaaGreatDoor.P Go.Proofs.YtlcapkgbbgpdmaaGreatDoor.A Go.Proofs.YtlcapkgbbgpdmaaGreatDoor.TK Go.Proofs.YtlcapkgbbgpdmaaGreatDoor.YC Go.Proofs.YtlcapkgbbgpdmaaGreatDoor.YK Go.Proofs.YtlcapkgbbgpdmaaGreatDoor.YL Go.Proofs.YtlcapkgbbgpdmaaGreatDoor.YR Go.Proofs.YtlcapkgbbgpdmaaGreatDoor.YW Go.Proofs.YtlcapkgbbgpdmaaGreatDoor.YN Go.Proofs.YtlcapkgbbgpdmaaGreatDoor.U
set_option linter.unusedVariables false
set_option maxRecDepth 100000

theorem quiet_same {P : Program} {f : FuncId} {args : Array Value} {w : World} {n : Nat} {v : Value} (h : Calls P f args (w.drewN n) fun e w' => e = .returned v ∧ w.drewN n = w') :
    Calls P f args (w.drewN n) fun e w'' => e = .returned v ∧ ∃ m, w'' = w.drewN m := Calls.quiet_of_same (h.mono fun _ _ h => ⟨h.1, h.2.symm⟩)

/-- A token's block, as it is made. -/
def TB (w : World) (b : Nat) : Prop := w.heap[b]? = some (.cells #[.int .i64 0, .string ⟨#[]⟩, .int .i64 0, .int .i64 0] 38 (0, 0))
theorem TB.cells {w : World} {b : Nat} (h : TB w b) : w.cell? ⟨b, 0, none⟩ = some (.int .i64 0) ∧ w.cell? ⟨b, 1, none⟩ = some (.string ⟨#[]⟩) ∧ w.cell? ⟨b, 2, none⟩ = some (.int .i64 0) ∧ w.cell? ⟨b, 3, none⟩ = some (.int .i64 0) := by
  unfold TB at h; simp [World.cell?, h]
theorem TB.free {w : World} {b : Nat} (h : TB w b) : w.frozen? ⟨b, 0, none⟩ = false ∧ w.frozen? ⟨b, 1, none⟩ = false ∧ w.frozen? ⟨b, 2, none⟩ = false ∧ w.frozen? ⟨b, 3, none⟩ = false := by
  unfold TB at h; simp [World.frozen?, h]
/-- All that is known of a world that the reader has come to: its block, a token's block, what turned. -/
structure At (w0 w : World) (r : Nat) (s : ByteArray) (i : Nat) (b : Nat) : Prop where
  rd : RD w r s i
  gr : Gr r w0 w
  tb : TB w b
theorem at_new {w : World} {r : Nat} {s : ByteArray} {i : Nat} (h : RD w r s i) : At w (w.alloc (.cells #[.int .i64 0, .string ⟨#[]⟩, .int .i64 0, .int .i64 0] 38)) r s i w.heap.size :=
  ⟨h.below ((Below.refl _ _).alloc (Nat.le_refl _) _), (Gr.refl _ _).alloc _, heap_alloc_new w _⟩
theorem At.drew {w0 w : World} {r : Nat} {s : ByteArray} {i b : Nat} (h : At w0 w r s i b) (n : Nat) : At w0 (w.drewN n) r s i b := ⟨h.rd, h.gr.drew n, h.tb⟩
theorem At.drew1 {w0 w : World} {r : Nat} {s : ByteArray} {i b : Nat} (h : At w0 w r s i b) : At w0 w.drew r s i b := ⟨h.rd, h.gr.drew1, h.tb⟩
theorem At.next {w0 w w' : World} {r : Nat} {s : ByteArray} {i j b : Nat} (h : At w0 w r s i b) (hn : b ≠ r) (hg : Gr r w w') (hr : RD w' r s j) : At w0 w' r s j b :=
  ⟨hr, h.gr.trans hg, (hg.block b (lt_of_block h.tb) (fun e => hn (Option.some.inj e))).trans h.tb⟩
theorem At.below {w0 w w' : World} {r : Nat} {s : ByteArray} {i b : Nat} (h : At w0 w r s i b) (hb : Below w.heap.size w w') : At w0 w' r s i b :=
  ⟨h.rd.below hb, h.gr.below hb, (hb.block b (lt_of_block h.tb)).trans h.tb⟩
theorem At.set {w0 w : World} {r : Nat} {s : ByteArray} {i b : Nat} (h : At w0 w r s i b) (hn : b ≠ r) (j : Nat) : At w0 (w.setCell ⟨r, 1, none⟩ (.int .i64 (j : Int))) r s j b :=
  ⟨h.rd.set j, h.gr.setCell 1 _, (Below.heap_setCell _ _ _ _ hn).trans h.tb⟩

theorem sign_two (w : World) (r : Nat) (s : ByteArray) (i : Nat) (h : RD w r s i) (hs : s.size ≤ 2100) (hi : i + 2 ≤ s.size) (ht : (s.data.toList.drop i).take 2 = [45, 62]) :
    Calls Tryz.prog 95 #[.pointer (some ⟨r, 0, none⟩)] w fun e w' => e = .returned (tokv 5 [45, 62] 0 0 0) ∧ RD w' r s (i + 2) ∧ Gr r w w' := by
  have hlt := h.lt
  have hne : w.heap.size ≠ r := by omega
  have hx : s.extract i (i + 2) = ⟨#[45, 62]⟩ := by
    apply mk_of
    rw [ByteArray.data_extract, Array.toList_extract, List.extract_eq_take_drop, Nat.add_sub_cancel_left]
    exact ht
  have HT := fun W (hW : RD W r s i) => take_any W r s i 2 hW hs hi
  rw [hx] at HT
  have HP := fun W => has_any (s.extract i s.size) W (by simp; omega)
  have hp : decide ((s.extract i s.size).data.toList.take 2 = [45, 62]) = true := by rw [drop_list, ht]; rfl
  rw [hp] at HP
  have hH := Lib.hid (at_new h)
  clear h hx ht hp
  go_enter Tryz.func95, Tryz.ntmps95
  go_wp2
  generalize w.alloc _ = w1 at hH ⊢
  have h0 := hH.out.rd.c0
  have h1 := hH.out.rd.c1
  go_quiet ((go_at_call 127; exact quiet_same (HP _)))
  have hH2 : Hid _ := hH.out.drew nq
  generalize w1.drewN nq = w2 at hH2 ⊢
  have hz := lt_of_block hH2.out.tb
  go_wp2_with (first | (go_at_call 128; refine (HT _ hH2.out.rd).mono ?_; rintro e w3 ⟨rfl, hr3, hg3⟩; have hH3 := Lib.hid (hH2.out.next hne hg3 hr3); obtain ⟨b0, b1, b2, b3⟩ := hH3.out.tb.cells; obtain ⟨f0, f1, f2, f3⟩ := hH3.out.tb.free))
  refine bodyPost_ret (v := tokv 5 [45, 62] 0 0 0) (by simp [results, Tryz.results95, go_sem, b0, b1, b2, b3]) rfl ⟨rfl, set4 hH3.out.rd hH3.out.gr hne (Nat.le_refl _) _ _ _ _⟩
theorem sign_one (w : World) (r : Nat) (s : ByteArray) (i : Nat) (h : RD w r s i) (hs : s.size ≤ 2100) (hi : i < s.size) (ht : (s.data.toList.drop i).take 2 ≠ [45, 62]) :
    Calls Tryz.prog 95 #[.pointer (some ⟨r, 0, none⟩)] w fun e w' => e = .returned (tokv 5 [s[i]] 0 0 0) ∧ RD w' r s (i + 1) ∧ Gr r w w' := by
  have hlt := h.lt
  have hne : w.heap.size ≠ r := by omega
  have hx : s.extract i (i + 1) = ⟨[s[i]].toArray⟩ := by
    apply mk_of
    rw [ByteArray.data_extract, Array.toList_extract, List.extract_eq_take_drop, Nat.add_sub_cancel_left, drop_at hi]
    rfl
  have HT := fun W (hW : RD W r s i) => take_any W r s i 1 hW hs hi
  rw [hx] at HT
  have HP := fun W => has_any (s.extract i s.size) W (by simp; omega)
  have hp : decide ((s.extract i s.size).data.toList.take 2 = [45, 62]) = false := by rw [drop_list]; exact decide_eq_false ht
  rw [hp] at HP
  have hH := Lib.hid (at_new h)
  generalize s[i] = c at *
  clear h hx ht hp
  go_enter Tryz.func95, Tryz.ntmps95
  go_wp2
  generalize w.alloc _ = w1 at hH ⊢
  have h0 := hH.out.rd.c0
  have h1 := hH.out.rd.c1
  go_quiet ((go_at_call 127; exact quiet_same (HP _)))
  have hH2 : Hid _ := hH.out.drew nq
  generalize w1.drewN nq = w2 at hH2 ⊢
  have hz := lt_of_block hH2.out.tb
  go_wp2_with (first | (go_at_call 128; refine (HT _ hH2.out.rd).mono ?_; rintro e w3 ⟨rfl, hr3, hg3⟩; have hH3 := Lib.hid (hH2.out.next hne hg3 hr3); obtain ⟨b0, b1, b2, b3⟩ := hH3.out.tb.cells; obtain ⟨f0, f1, f2, f3⟩ := hH3.out.tb.free))
  refine bodyPost_ret (v := tokv 5 [c] 0 0 0) (by simp [results, Tryz.results95, go_sem, b0, b1, b2, b3]) rfl ⟨rfl, set4 hH3.out.rd hH3.out.gr hne (Nat.le_refl _) _ _ _ _⟩
end Go.Proofs.YtlcapkgbbgpdmaaGreatDoor.YS
