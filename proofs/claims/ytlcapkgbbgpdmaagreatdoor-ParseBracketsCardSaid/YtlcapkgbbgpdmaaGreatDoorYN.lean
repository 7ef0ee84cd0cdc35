/- The reader's words: names, keys, constructors. -/
import Derived.Test.YtlcapkgbbgpdmaaGreatDoorYW
import Derived.Outline
namespace Go.Proofs.YtlcapkgbbgpdmaaGreatDoor.YN
open Go.RowKit Go.Proofs.YtlcapkgbbgpdmaaGreatDoor.P Go.Proofs.YtlcapkgbbgpdmaaGreatDoor.A Go.Proofs.YtlcapkgbbgpdmaaGreatDoor.TK Go.Proofs.YtlcapkgbbgpdmaaGreatDoor.YC Go.Proofs.YtlcapkgbbgpdmaaGreatDoor.YK Go.Proofs.YtlcapkgbbgpdmaaGreatDoor.YL Go.Proofs.YtlcapkgbbgpdmaaGreatDoor.YR Go.Proofs.YtlcapkgbbgpdmaaGreatDoor.YW Go.Proofs.YtlcapkgbbgpdmaaGreatDoor.U
set_option linter.unusedVariables false
set_option maxRecDepth 100000

/-- A token as it is handed back, and an error. -/
abbrev tokv (k : Int) (t : List UInt8) (n p : Int) (e : Int) : Value := .tuple #[.agg #[.int .i64 k, .string ⟨t.toArray⟩, .int .i64 n, .int .i64 p], .int .i64 e]
theorem gcell {r : Nat} {W w1 : World} {b : Nat} (hg : Gr r W w1) (hb : b < W.heap.size) (hn : b ≠ r) : (∀ o, w1.cell? ⟨b, o, none⟩ = W.cell? ⟨b, o, none⟩) ∧ (∀ o, w1.frozen? ⟨b, o, none⟩ = W.frozen? ⟨b, o, none⟩) := by
  have e := hg.block b hb (fun e => hn (Option.some.inj e))
  exact ⟨fun o => World.cell?_of_block (w := W) (a := ⟨b, o, none⟩) e, fun o => World.frozen?_of_block (w := W) (a := ⟨b, o, none⟩) e⟩

theorem Gr.other {r : Nat} {a w : World} (h : Gr r a w) {b : Nat} (hb : a.heap.size ≤ b) (o : Nat) (v : Value) : Gr r a (w.setCell ⟨b, o, none⟩ v) :=
  ⟨h.os, h.tape, h.output, by have := h.size; simp [World.setCell]; omega, fun k hk hn => (Below.heap_setCell _ _ _ _ (by show k ≠ b; omega)).trans (h.block k hk hn)⟩
theorem RD.other {w : World} {r : Nat} {s : ByteArray} {i : Nat} (h : RD w r s i) {b : Nat} (hb : b ≠ r) (o : Nat) (v : Value) : RD (w.setCell ⟨b, o, none⟩ v) r s i :=
  h.of_block (Below.heap_setCell _ _ _ _ (fun e => hb e.symm))

theorem word_long (w : World) (r : Nat) (s : ByteArray) (i : Nat) (K : Int) (h : RD w r s i) (hs : s.size ≤ 2100) (hi : i ≤ s.size) (hl : 16 < lasts isN s i) :
    Calls Tryz.prog 124 #[.pointer (some ⟨r, 0, none⟩), .int .i64 K] w fun e w' => e = .returned (tokv 0 [] 0 0 12) ∧ RD w' r s (i + lasts isN s i) ∧ Gr r w w' := by
  have hlt := h.lt
  have hne : w.heap.size ≠ r := by omega
  obtain ⟨t, ht⟩ : ∃ t : ByteArray, t = ⟨((s.data.toList.drop i).takeWhile isN).toArray⟩ := ⟨_, rfl⟩
  have hts : 16 < t.size := by rw [ht]; exact hl
  have HR := fun W (hW : RD W r s i) => run_names W r s i hW hs hi
  rw [← ht] at HR
  have HH := Lib.hid h
  clear h ht hl
  go_enter Tryz.func124, Tryz.ntmps124
  go_wp2_with (first | (go_at_call 120; refine (HR _ (HH.out.below ((Below.refl _ _).alloc (Nat.le_refl _) _))).mono ?_; rintro e w1 ⟨rfl, hr1, hg1⟩; obtain ⟨hc, hf⟩ := gcell (b := w.heap.size) hg1 (by simp) hne))
  refine bodyPost_ret (v := tokv 0 [] 0 0 12) (by simp [results, Tryz.results124, go_sem, hc]) rfl ⟨rfl, ?_, ?_⟩
  · exact RD.other (RD.other (RD.other (RD.other hr1 hne _ _) hne _ _) hne _ _) hne _ _
  · exact Gr.other (Gr.other (Gr.other (Gr.other (((Gr.refl _ _).alloc _).trans hg1) (Nat.le_refl _) _ _) (Nat.le_refl _) _ _) (Nat.le_refl _) _ _) (Nat.le_refl _) _ _

theorem set4 {r : Nat} {a w : World} {s : ByteArray} {i : Nat} {b : Nat} (hr : RD w r s i) (hg : Gr r a w) (hn : b ≠ r) (hb : a.heap.size ≤ b) (v0 v1 v2 v3 : Value) :
    RD ((((w.setCell ⟨b, 0, none⟩ v0).setCell ⟨b, 1, none⟩ v1).setCell ⟨b, 2, none⟩ v2).setCell ⟨b, 3, none⟩ v3) r s i ∧ Gr r a ((((w.setCell ⟨b, 0, none⟩ v0).setCell ⟨b, 1, none⟩ v1).setCell ⟨b, 2, none⟩ v2).setCell ⟨b, 3, none⟩ v3) :=
  ⟨RD.other (RD.other (RD.other (RD.other hr hn _ _) hn _ _) hn _ _) hn _ _, Gr.other (Gr.other (Gr.other (Gr.other hg hb _ _) hb _ _) hb _ _) hb _ _⟩

theorem set4a {r : Nat} {a w : World} {s : ByteArray} {i : Nat} {b : Nat} (hr : RD w r s i) (hg : Gr r a w) (hn : b ≠ r) (hb : a.heap.size ≤ b) (v0 v1 v2 v3 : Value) (o : Obj) :
    RD (((((w.setCell ⟨b, 0, none⟩ v0).setCell ⟨b, 1, none⟩ v1).setCell ⟨b, 2, none⟩ v2).setCell ⟨b, 3, none⟩ v3).alloc o) r s i ∧ Gr r a (((((w.setCell ⟨b, 0, none⟩ v0).setCell ⟨b, 1, none⟩ v1).setCell ⟨b, 2, none⟩ v2).setCell ⟨b, 3, none⟩ v3).alloc o) :=
  ⟨(set4 hr hg hn hb v0 v1 v2 v3).1.below ((Below.refl _ _).alloc (Nat.le_refl _) o), (set4 hr hg hn hb v0 v1 v2 v3).2.alloc o⟩

theorem word_short (w : World) (r : Nat) (s : ByteArray) (i : Nat) (K : Int) (h : RD w r s i) (hs : s.size ≤ 2100) (hi : i ≤ s.size) (hl : lasts isN s i ≤ 16) :
    Calls Tryz.prog 124 #[.pointer (some ⟨r, 0, none⟩), .int .i64 K] w fun e w' => e = .returned (tokv K ((s.data.toList.drop i).takeWhile isN) 0 0 0) ∧ RD w' r s (i + lasts isN s i) ∧ Gr r w w' := by
  have hlt := h.lt
  have hne : w.heap.size ≠ r := by omega
  have HR := fun W (hW : RD W r s i) => run_names W r s i hW hs hi
  have hl' : ((s.data.toList.drop i).takeWhile isN).length ≤ 16 := hl
  clear hl
  generalize (s.data.toList.drop i).takeWhile isN = t at *
  have hts : t.length ≤ 16 := hl'
  have HH := Lib.hid h
  clear h hl'
  go_enter Tryz.func124, Tryz.ntmps124
  go_wp2_with (first | (go_at_call 120; refine (HR _ (HH.out.below ((Below.refl _ _).alloc (Nat.le_refl _) _))).mono ?_; rintro e w1 ⟨rfl, hr1, hg1⟩; obtain ⟨hc, hf⟩ := gcell (b := w.heap.size) hg1 (by simp) hne))
  refine bodyPost_ret (v := tokv K t 0 0 0) (by simp [results, Tryz.results124, go_sem, hc]) rfl ⟨rfl, set4 hr1 (((Gr.refl _ _).alloc _).trans hg1) hne (Nat.le_refl _) _ _ _ _⟩

theorem con_long (w : World) (r : Nat) (s : ByteArray) (i : Nat) (h : RD w r s i) (hs : s.size ≤ 2100) (hi : i ≤ s.size) (hl : 16 < lasts isN s i) :
    Calls Tryz.prog 93 #[.pointer (some ⟨r, 0, none⟩)] w fun e w' => e = .returned (tokv 0 [] 0 0 12) ∧ RD w' r s (i + lasts isN s i) ∧ Gr r w w' := by
  have hlt := h.lt
  have hne : w.heap.size ≠ r := by omega
  have HR := fun W (hW : RD W r s i) => word_long W r s i 4 hW hs hi hl
  have HH := Lib.hid h
  clear h
  go_enter Tryz.func93, Tryz.ntmps93
  go_wp2_with (first | (go_at_call 124; refine (HR _ (HH.out.below ((Below.refl _ _).alloc (Nat.le_refl _) _))).mono ?_; rintro e w1 ⟨rfl, hr1, hg1⟩; obtain ⟨hc, hf⟩ := gcell (b := w.heap.size) hg1 (by simp) hne))
  refine bodyPost_ret (v := tokv 0 [] 0 0 12) (by simp [results, Tryz.results93, go_sem, hc]) rfl ⟨rfl, set4 hr1 (((Gr.refl _ _).alloc _).trans hg1) hne (Nat.le_refl _) _ _ _ _⟩
theorem con_short (w : World) (r : Nat) (s : ByteArray) (i : Nat) (h : RD w r s i) (hs : s.size ≤ 2100) (hi : i ≤ s.size) (hl : lasts isN s i ≤ 16) :
    Calls Tryz.prog 93 #[.pointer (some ⟨r, 0, none⟩)] w fun e w' => e = .returned (tokv 4 ((s.data.toList.drop i).takeWhile isN) 0 0 0) ∧ RD w' r s (i + lasts isN s i) ∧ Gr r w w' := by
  have hlt := h.lt
  have hne : w.heap.size ≠ r := by omega
  have HR := fun W (hW : RD W r s i) => word_short W r s i 4 hW hs hi hl
  generalize (s.data.toList.drop i).takeWhile isN = t at *
  have HH := Lib.hid h
  clear h hl
  go_enter Tryz.func93, Tryz.ntmps93
  go_wp2_with (first | (go_at_call 124; refine (HR _ (HH.out.below ((Below.refl _ _).alloc (Nat.le_refl _) _))).mono ?_; rintro e w1 ⟨rfl, hr1, hg1⟩; obtain ⟨hc, hf⟩ := gcell (b := w.heap.size) hg1 (by simp) hne))
  refine bodyPost_ret (v := tokv 4 t 0 0 0) (by simp [results, Tryz.results93, go_sem, hc]) rfl ⟨rfl, set4 hr1 (((Gr.refl _ _).alloc _).trans hg1) hne (Nat.le_refl _) _ _ _ _⟩

theorem nothing_any (w : World) (r : Nat) (s : ByteArray) (i : Nat) (h : RD w r s i) :
    Calls Tryz.prog 96 #[.pointer (some ⟨r, 0, none⟩)] w fun e w' => e = .returned (tokv 0 [] 0 0 10) ∧ RD w' r s i ∧ Gr r w w' := by
  have HH := Lib.hid h
  clear h
  go_enter Tryz.func96, Tryz.ntmps96
  go_wp2
  refine bodyPost_ret (v := tokv 0 [] 0 0 10) (by simp [results, Tryz.results96, go_sem]) rfl ⟨rfl, HH.out.below ((Below.refl _ _).alloc (Nat.le_refl _) _), (Gr.refl _ _).alloc _⟩

theorem name_long (w : World) (r : Nat) (s : ByteArray) (i : Nat) (h : RD w r s i) (hs : s.size ≤ 2100) (hi : i ≤ s.size) (hl : 16 < lasts isN s i) :
    Calls Tryz.prog 91 #[.pointer (some ⟨r, 0, none⟩)] w fun e w' => e = .returned (tokv 0 [] 0 0 12) ∧ RD w' r s (i + lasts isN s i) ∧ Gr r w w' := by
  have hlt := h.lt
  have hne : w.heap.size ≠ r := by omega
  have HR := fun W (hW : RD W r s i) => word_long W r s i 3 hW hs hi hl
  have hk : isKey (⟨#[]⟩ : ByteArray).data.toList = false := by decide
  have HK := fun W => key_any ⟨#[]⟩ W
  rw [hk] at HK
  have HH := Lib.hid h
  clear h hk
  go_enter Tryz.func91, Tryz.ntmps91
  go_wp2_with (first
    | (go_at_call 124; refine (HR _ (HH.out.below ((Below.refl _ _).alloc (Nat.le_refl _) _))).mono ?_; rintro e w1 ⟨rfl, hr1, hg1⟩; obtain ⟨hc, hf⟩ := gcell (b := w.heap.size) hg1 (by simp) hne; have hz : w.heap.size < w1.heap.size := by have := hg1.size; simp at this; omega)
    | (go_at_call 125; refine (HK _).mono ?_; rintro e w2 ⟨rfl, rfl⟩))
  refine bodyPost_ret (v := tokv 0 [] 0 0 12) (by simp [results, Tryz.results91, go_sem, hc, hz]) rfl ⟨rfl, set4a hr1 (((Gr.refl _ _).alloc _).trans hg1) hne (Nat.le_refl _) _ _ _ _ _⟩
theorem name_key (w : World) (r : Nat) (s : ByteArray) (i : Nat) (h : RD w r s i) (hs : s.size ≤ 2100) (hi : i ≤ s.size) (hl : lasts isN s i ≤ 16) (hk : isKey ((s.data.toList.drop i).takeWhile isN) = true) :
    Calls Tryz.prog 91 #[.pointer (some ⟨r, 0, none⟩)] w fun e w' => e = .returned (tokv 6 ((s.data.toList.drop i).takeWhile isN) 0 0 0) ∧ RD w' r s (i + lasts isN s i) ∧ Gr r w w' := by
  have hlt := h.lt
  have hne : w.heap.size ≠ r := by omega
  have HR := fun W (hW : RD W r s i) => word_short W r s i 3 hW hs hi hl
  generalize (s.data.toList.drop i).takeWhile isN = t at *
  have HK := fun W => key_any ⟨t.toArray⟩ W
  have hk' : isKey (⟨t.toArray⟩ : ByteArray).data.toList = true := hk
  rw [hk'] at HK
  have HH := Lib.hid h
  clear h hl hk hk'
  go_enter Tryz.func91, Tryz.ntmps91
  go_wp2_with (first
    | (go_at_call 124; refine (HR _ (HH.out.below ((Below.refl _ _).alloc (Nat.le_refl _) _))).mono ?_; rintro e w1 ⟨rfl, hr1, hg1⟩; obtain ⟨hc, hf⟩ := gcell (b := w.heap.size) hg1 (by simp) hne; have hz : w.heap.size < w1.heap.size := by have := hg1.size; simp at this; omega)
    | (go_at_call 125; refine (HK _).mono ?_; rintro e w2 ⟨rfl, rfl⟩))
  refine bodyPost_ret (v := tokv 6 t 0 0 0) (by simp [results, Tryz.results91, go_sem, hc, hz]) rfl ⟨rfl, set4a hr1 (((Gr.refl _ _).alloc _).trans hg1) hne (Nat.le_refl _) _ _ _ _ _⟩
theorem name_plain (w : World) (r : Nat) (s : ByteArray) (i : Nat) (h : RD w r s i) (hs : s.size ≤ 2100) (hi : i ≤ s.size) (hl : lasts isN s i ≤ 16) (hk : isKey ((s.data.toList.drop i).takeWhile isN) = false) :
    Calls Tryz.prog 91 #[.pointer (some ⟨r, 0, none⟩)] w fun e w' => e = .returned (tokv 3 ((s.data.toList.drop i).takeWhile isN) 0 0 0) ∧ RD w' r s (i + lasts isN s i) ∧ Gr r w w' := by
  have hlt := h.lt
  have hne : w.heap.size ≠ r := by omega
  have HR := fun W (hW : RD W r s i) => word_short W r s i 3 hW hs hi hl
  generalize (s.data.toList.drop i).takeWhile isN = t at *
  have HK := fun W => key_any ⟨t.toArray⟩ W
  have hk' : isKey (⟨t.toArray⟩ : ByteArray).data.toList = false := hk
  rw [hk'] at HK
  have HH := Lib.hid h
  clear h hl hk hk'
  go_enter Tryz.func91, Tryz.ntmps91
  go_wp2_with (first
    | (go_at_call 124; refine (HR _ (HH.out.below ((Below.refl _ _).alloc (Nat.le_refl _) _))).mono ?_; rintro e w1 ⟨rfl, hr1, hg1⟩; obtain ⟨hc, hf⟩ := gcell (b := w.heap.size) hg1 (by simp) hne; have hz : w.heap.size < w1.heap.size := by have := hg1.size; simp at this; omega)
    | (go_at_call 125; refine (HK _).mono ?_; rintro e w2 ⟨rfl, rfl⟩))
  refine bodyPost_ret (v := tokv 3 t 0 0 0) (by simp [results, Tryz.results91, go_sem, hc, hz]) rfl ⟨rfl, set4a hr1 (((Gr.refl _ _).alloc _).trans hg1) hne (Nat.le_refl _) _ _ _ _ _⟩
end Go.Proofs.YtlcapkgbbgpdmaaGreatDoor.YN
