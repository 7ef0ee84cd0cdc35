/- The reader's strings. -/
import Derived.Test.YtlcapkgbbgpdmaaGreatDoorYS
import Derived.Test.YtlcapkgbbgpdmaaGreatDoorV
import Derived.Deep.RegionHeld3
namespace Go.Proofs.YtlcapkgbbgpdmaaGreatDoor.YX
open Go.RowKit Go.Proofs.YtlcapkgbbgpdmaaGreatDoor.P Go.Proofs.YtlcapkgbbgpdmaaGreatDoor.A Go.Proofs.YtlcapkgbbgpdmaaGreatDoor.Q Go.Proofs.YtlcapkgbbgpdmaaGreatDoor.V Go.Proofs.YtlcapkgbbgpdmaaGreatDoor.TK Go.Proofs.YtlcapkgbbgpdmaaGreatDoor.YC Go.Proofs.YtlcapkgbbgpdmaaGreatDoor.YK Go.Proofs.YtlcapkgbbgpdmaaGreatDoor.YL Go.Proofs.YtlcapkgbbgpdmaaGreatDoor.YR Go.Proofs.YtlcapkgbbgpdmaaGreatDoor.YW Go.Proofs.YtlcapkgbbgpdmaaGreatDoor.YN Go.Proofs.YtlcapkgbbgpdmaaGreatDoor.YS Go.Proofs.YtlcapkgbbgpdmaaGreatDoor.U
set_option linter.unusedVariables false
set_option maxRecDepth 100000

theorem rl_bound : ∀ (f : Nat) (l : List UInt8) (i : Nat) (acc : List UInt8), (rl f l i acc).2.1 ≤ i + l.length
  | 0, l, i, acc => by simp [rl]
  | f + 1, [], i, acc => by simp [rl]
  | f + 1, c :: t, i, acc => by
    have e : rl (f + 1) (c :: t) i acc = if c = 34 then (if acc.length ≤ 60 then (acc, i + 1, 0) else ([], 0, 12)) else
      if (fs (c :: t)).2.2 = 0 then rl f (t.drop ((fs (c :: t)).2.1 - 1)) (i + (fs (c :: t)).2.1) (acc ++ [(fs (c :: t)).1]) else ([], 0, (fs (c :: t)).2.2) := rfl
    rw [e]
    by_cases hc : c = 34
    · rw [if_pos hc]
      split <;> simp <;> omega
    · rw [if_neg hc]
      by_cases he : (fs (c :: t)).2.2 = 0
      · rw [if_pos he]
        have hk := fs_ok he
        have := rl_bound f (t.drop ((fs (c :: t)).2.1 - 1)) (i + (fs (c :: t)).2.1) (acc ++ [(fs (c :: t)).1])
        simp only [List.length_cons, List.length_drop] at hk this ⊢
        omega
      · rw [if_neg he]; simp
theorem unq_bound (l : List UInt8) : (unq l).2.1 ≤ l.length + 1 := by
  match l with
  | [] => simp [unq]
  | c :: t =>
    have e : unq (c :: t) = if c = 34 then rl (t.length + 1) t 1 [] else ([], 0, 14) := rfl
    rw [e]
    split
    · have := rl_bound (t.length + 1) t 1 []; simp; omega
    · simp
theorem Dig.gr {w w' : World} {r : Nat} (h : Dig w) (hg : Gr r w w') (hn : 1 ≠ r) : Dig w' := by
  have e := hg.block _ h.1 (fun e => hn (Option.some.inj e))
  exact ⟨Nat.lt_of_lt_of_le h.1 hg.size, fun i hi => (World.cell?_of_block (w := w) (a := ⟨1, i, none⟩) e).trans (h.2 i hi)⟩

theorem text_any (w : World) (r : Nat) (s : ByteArray) (i : Nat) (h : RD w r s i) (hs : s.size ≤ 2100) (hi : i ≤ s.size) (hd : Dig w) (hn : 1 ≠ r) (q : List UInt8 × Nat × Nat) (hq : unq (s.data.toList.drop i) = q) :
    Calls Tryz.prog 89 #[.pointer (some ⟨r, 0, none⟩)] w fun x w' => x = .returned (tokv 2 q.1 0 0 (q.2.2 : Int)) ∧ RD w' r s (i + q.2.1) ∧ Gr r w w' := by
  have hlt := h.lt
  have hne : w.heap.size ≠ r := by omega
  have hqb : q.2.1 ≤ 2101 := by have := unq_bound (s.data.toList.drop i); rw [hq] at this; simp at this; omega
  have HU := fun W (hW : Dig W) => unquote_any (s.extract i s.size) W (by simp; omega) hW
  have hq' : unq (s.extract i s.size).data.toList = q := by rw [drop_list]; exact hq
  rw [hq'] at HU
  obtain ⟨qt, qn, qe⟩ := q
  have hqb' : qn ≤ 2101 := hqb
  have hH := Lib.hid (at_new h)
  have HD : Hid (Dig (w.alloc (.cells #[.int .i64 0, .string ⟨#[]⟩, .int .i64 0, .int .i64 0] 38))) := hd.below ((Below.refl _ _).alloc (Nat.le_refl _) _)
  clear h hq hq' hqb hd
  go_enter Tryz.func89, Tryz.ntmps89
  go_wp2
  generalize w.alloc _ = w1 at hH HD ⊢
  have h0 := hH.out.rd.c0
  have h1 := hH.out.rd.c1
  have a1 : (0 : Int) ≤ (i : Int) := by omega
  have a2 : (i : Int) ≤ (s.size : Int) := by omega
  have hd1 : Hid _ := hH.out.drew1
  have HDd : Hid (Dig w1.drew) := HD.out
  go_region_held3 (fun w' => w'.cell? ⟨r, 0, none⟩ = some (.string s) ∧ w'.cell? ⟨r, 1, none⟩ = some (.int .i64 (i : Int))) (first | exact ⟨h0, h1⟩ | exact ⟨hh0, hh1⟩)
    (first | (go_at_call 123; refine (HU w1.drew HDd.out).mono ?_; rintro x w3 ⟨rfl, hb3⟩; have hH3 := Lib.hid (hd1.out.below hb3); have hh0 := hH3.out.rd.c0; have hh1 := hH3.out.rd.c1))
  have hf1 := hH3.out.rd.f1
  obtain ⟨b0, b1, b2, b3⟩ := hH3.out.tb.cells
  obtain ⟨f0, f1, f2, f3⟩ := hH3.out.tb.free
  have hH4 := hH3.out.set hne (i + qn)
  simp only [Int.natCast_add] at hH4
  have HH4 := Lib.hid hH4
  clear hH4 hh0
  go_wp2
  refine bodyPost_ret (v := tokv 2 qt 0 0 (qe : Int)) (by simp [results, Tryz.results89, go_sem, b0, b1, b2, b3]) rfl ⟨rfl, set4 HH4.out.rd HH4.out.gr hne (Nat.le_refl _) _ _ _ _⟩
end Go.Proofs.YtlcapkgbbgpdmaaGreatDoor.YX
