/- What a token makes by itself; a node of two; whether an atom, a pattern's atom is next; how deep. -/
import Derived.Test.YtlcapkgbbgpdmaaGreatDoorPC
import Derived.Deep.RegionHeld3
namespace Go.Proofs.YtlcapkgbbgpdmaaGreatDoor.PD
open Go.RowKit Go.Proofs.YtlcapkgbbgpdmaaGreatDoor.P Go.Proofs.YtlcapkgbbgpdmaaGreatDoor.A Go.Proofs.YtlcapkgbbgpdmaaGreatDoor.TK Go.Proofs.YtlcapkgbbgpdmaaGreatDoor.TO Go.Proofs.YtlcapkgbbgpdmaaGreatDoor.GR Go.Proofs.YtlcapkgbbgpdmaaGreatDoor.MP Go.Proofs.YtlcapkgbbgpdmaaGreatDoor.YR Go.Proofs.YtlcapkgbbgpdmaaGreatDoor.PN Go.Proofs.YtlcapkgbbgpdmaaGreatDoor.PS Go.Proofs.YtlcapkgbbgpdmaaGreatDoor.PA Go.Proofs.YtlcapkgbbgpdmaaGreatDoor.PB Go.Proofs.YtlcapkgbbgpdmaaGreatDoor.PC
set_option linter.unusedVariables false
set_option maxRecDepth 100000

theorem i_eq {a b : Nat} (h : a = b) : ((a : Int) == (b : Int)) = true := by rw [beq_iff_eq]; omega
theorem i_ne {a b : Nat} (h : a ≠ b) : ((a : Int) == (b : Int)) = false := by rw [beq_eq_false_iff_ne]; omega

theorem leafKind_any (w : World) (k : Nat) (t : ByteArray) (n p : Int) :
    Calls Tryz.prog 164 #[.agg #[.int .i64 (k : Int), .string t, .int .i64 n, .int .i64 p]] w fun x w' => x = .returned (.int .i64 (leafKind k : Int)) ∧ Below w.heap.size w w' := by
  by_cases h1 : k = 1
  · have e1 : ((k : Int) == 1) = true := i_eq (b := 1) h1
    have hv : leafKind k = 1 := by unfold leafKind; rw [if_pos h1]
    rw [hv]
    clear hv h1
    go_enter Tryz.func164, Tryz.ntmps164
    go_wp2
    go_ret
    exact ⟨rfl, (Below.refl _ _).alloc (Nat.le_refl _) _⟩
  · by_cases h2 : k = 2
    · have e1 : ((k : Int) == 1) = false := i_ne (b := 1) h1
      have e2 : ((k : Int) == 2) = true := i_eq (b := 2) h2
      have hv : leafKind k = 2 := by unfold leafKind; rw [if_neg h1]; rw [if_pos h2]
      rw [hv]
      clear hv h1 h2
      go_enter Tryz.func164, Tryz.ntmps164
      go_wp2
      go_ret
      exact ⟨rfl, (Below.refl _ _).alloc (Nat.le_refl _) _⟩
    · by_cases h3 : k = 3
      · have e1 : ((k : Int) == 1) = false := i_ne (b := 1) h1
        have e2 : ((k : Int) == 2) = false := i_ne (b := 2) h2
        have e3 : ((k : Int) == 3) = true := i_eq (b := 3) h3
        have hv : leafKind k = 4 := by unfold leafKind; rw [if_neg h1]; rw [if_neg h2]; rw [if_pos h3]
        rw [hv]
        clear hv h1 h2 h3
        go_enter Tryz.func164, Tryz.ntmps164
        go_wp2
        go_ret
        exact ⟨rfl, (Below.refl _ _).alloc (Nat.le_refl _) _⟩
      · by_cases h4 : k = 4
        · have e1 : ((k : Int) == 1) = false := i_ne (b := 1) h1
          have e2 : ((k : Int) == 2) = false := i_ne (b := 2) h2
          have e3 : ((k : Int) == 3) = false := i_ne (b := 3) h3
          have e4 : ((k : Int) == 4) = true := i_eq (b := 4) h4
          have hv : leafKind k = 5 := by unfold leafKind; rw [if_neg h1]; rw [if_neg h2]; rw [if_neg h3]; rw [if_pos h4]
          rw [hv]
          clear hv h1 h2 h3 h4
          go_enter Tryz.func164, Tryz.ntmps164
          go_wp2
          go_ret
          exact ⟨rfl, (Below.refl _ _).alloc (Nat.le_refl _) _⟩
        · have e1 : ((k : Int) == 1) = false := i_ne (b := 1) h1
          have e2 : ((k : Int) == 2) = false := i_ne (b := 2) h2
          have e3 : ((k : Int) == 3) = false := i_ne (b := 3) h3
          have e4 : ((k : Int) == 4) = false := i_ne (b := 4) h4
          have hv : leafKind k = 0 := by unfold leafKind; rw [if_neg h1]; rw [if_neg h2]; rw [if_neg h3]; rw [if_neg h4]
          rw [hv]
          clear hv h1 h2 h3 h4
          go_enter Tryz.func164, Tryz.ntmps164
          go_wp2
          go_ret
          exact ⟨rfl, (Below.refl _ _).alloc (Nat.le_refl _) _⟩

/-- A part's answer: a node that reads as a tree, all of it new, and what it leaves. -/
def NOut (w : World) (E : En) (r : Tree × St) (d : Nat) (j : Bool) (x : Ending) (w' : World) : Prop :=
  ∃ ao ac bo bc, x = .returned (.agg #[.int .i64 (r.1.kind : Int), .string ⟨r.1.text.toArray⟩, .int .i64 (r.1.num : Int), .int .i64 (r.1.pl : Int), .slice ao r.1.names.length ac, .slice bo r.1.kids.length bc]) ∧ Out w E r.2 d j w' ∧ Hn w' w.heap.size r.1 (.slice ao r.1.names.length ac, .slice bo r.1.kids.length bc)
def NLow (w : World) (S : Nat → Prop) (t : Tree) (x : Ending) (w' : World) : Prop :=
  ∃ ao ac bo bc, x = .returned (.agg #[.int .i64 (t.kind : Int), .string ⟨t.text.toArray⟩, .int .i64 (t.num : Int), .int .i64 (t.pl : Int), .slice ao t.names.length ac, .slice bo t.kids.length bc]) ∧ Below w.heap.size w w' ∧ HasN w' S t (.slice ao t.names.length ac, .slice bo t.kids.length bc)

theorem pair_any (w : World) (k : Nat) (t : By) (x y : Tree) (S : Nat → Prop) (a1 a2 b1 b2 : Value) (hx : HasN w S x (a1, a2)) (hy : HasN w S y (b1, b2)) (hS : ∀ b, w.heap.size ≤ b → S b) :
    Calls Tryz.prog 162 #[.int .i64 (k : Int), .string ⟨t.toArray⟩, .agg #[.int .i64 (x.kind : Int), .string ⟨x.text.toArray⟩, .int .i64 (x.num : Int), .int .i64 (x.pl : Int), a1, a2], .agg #[.int .i64 (y.kind : Int), .string ⟨y.text.toArray⟩, .int .i64 (y.num : Int), .int .i64 (y.pl : Int), b1, b2]] w
      (NLow w S (.node k t [] [x, y] 0 x.pl)) := by
  have HX := Lib.hid hx
  have HY := Lib.hid hy
  have HS := Lib.hid hS
  clear hx hy hS
  go_enter Tryz.func162, Tryz.ntmps162
  go_wp2
  refine bodyPost_ret (v := .agg #[.int .i64 (k : Int), .string ⟨t.toArray⟩, .int .i64 0, .int .i64 (x.pl : Int), .slice none 0 0, .slice (some ⟨w.heap.size + 1 + 1 + 1, 0, none⟩) 2 2]) (by simp [results, Tryz.results162, go_sem]) rfl
    ⟨_, _, _, _, rfl, ((((Below.refl _ _).alloc (Nat.le_refl _) _).alloc (by simp) _).alloc (by simp; omega) _).alloc (by simp; omega) _, ?_⟩
  refine has_two (q := (a1, a2)) (r := (b1, b2)) ?_ (HS.out _ (by omega)) ((((HX.out.alloc _).alloc _).alloc _).alloc _) ((((HY.out.alloc _).alloc _).alloc _).alloc _) k t 0 x.pl
  exact heap_at _ _ _ (by simp)
end Go.Proofs.YtlcapkgbbgpdmaaGreatDoor.PD
