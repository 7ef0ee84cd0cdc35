/- Nodes in memory: six cells each; rows of names and of nodes. What stays as it was. -/
import Derived.Test.YtlcapkgbbgpdmaaGreatDoorMP
import Derived.Test.YtlcapkgbbgpdmaaGreatDoorYR
import Derived.Test.YtlcapkgbbgpdmaaGreatDoorTO
import Derived.Deep.AppendLies
namespace Go.Proofs.YtlcapkgbbgpdmaaGreatDoor.PN
open Go.RowKit Go.Proofs.YtlcapkgbbgpdmaaGreatDoor.P Go.Proofs.YtlcapkgbbgpdmaaGreatDoor.A Go.Proofs.YtlcapkgbbgpdmaaGreatDoor.TK Go.Proofs.YtlcapkgbbgpdmaaGreatDoor.TO Go.Proofs.YtlcapkgbbgpdmaaGreatDoor.GR Go.Proofs.YtlcapkgbbgpdmaaGreatDoor.MP Go.Proofs.YtlcapkgbbgpdmaaGreatDoor.YR
set_option linter.unusedVariables false
set_option maxRecDepth 100000

def sv (s : By) : Value := .string ⟨s.toArray⟩
def ncells (t : Tree) (q : Value × Value) : List Value := [.int .i64 (t.kind : Int), .string ⟨t.text.toArray⟩, .int .i64 (t.num : Int), .int .i64 (t.pl : Int), q.1, q.2]
def nrow : List Tree → List (Value × Value) → List Value
  | t :: ts, q :: qs => ncells t q ++ nrow ts qs
  | _, _ => []

/-- A row of n things that lies in a block that S allows. -/
def Rw (w : World) (S : Nat → Prop) (v : Value) (n : Nat) (xs : List Value) : Prop :=
  ∃ ao cap, v = .slice ao n cap ∧ n ≤ cap ∧ (n = 0 ∨ ∃ b off, ao = some ⟨b, off, none⟩ ∧ S b ∧ b < w.heap.size ∧ (∃ c t, w.heap[b]? = some (.cells c t (0, 0))) ∧ ∀ j u, xs[j]? = some u → w.cell? ⟨b, off + j, none⟩ = some u)

mutual
def HasN (w : World) (S : Nat → Prop) : Tree → Value × Value → Prop
  | .node _ _ nms kids _ _, q => Rw w S q.1 nms.length (nms.map sv) ∧ ∃ qs, Rw w S q.2 kids.length (nrow kids qs) ∧ HasNs w S kids qs
def HasNs (w : World) (S : Nat → Prop) : List Tree → List (Value × Value) → Prop
  | [], [] => True
  | t :: ts, q :: qs => HasN w S t q ∧ HasNs w S ts qs
  | _, _ => False
end

theorem Rw.keep {w w' : World} {S S' : Nat → Prop} {v : Value} {n : Nat} {xs : List Value} (hs : w.heap.size ≤ w'.heap.size) (hk : ∀ b, S b → b < w.heap.size → S' b ∧ w'.heap[b]? = w.heap[b]?) (h : Rw w S v n xs) : Rw w' S' v n xs := by
  obtain ⟨ao, cap, hv, hc, h⟩ := h
  refine ⟨ao, cap, hv, hc, ?_⟩
  rcases h with h | ⟨b, off, ha, hS, hlt, ⟨c, t, hblk⟩, hcell⟩
  · exact .inl h
  · have := hk b hS hlt
    exact .inr ⟨b, off, ha, this.1, by omega, ⟨c, t, this.2.trans hblk⟩, fun j u hj => (World.cell?_of_block (w := w) (a := ⟨b, off + j, none⟩) this.2).trans (hcell j u hj)⟩
mutual
theorem HasN.keep {w w' : World} {S S' : Nat → Prop} (hs : w.heap.size ≤ w'.heap.size) (hk : ∀ b, S b → b < w.heap.size → S' b ∧ w'.heap[b]? = w.heap[b]?) : ∀ (t : Tree) (q : Value × Value), HasN w S t q → HasN w' S' t q
  | .node _ _ nms kids _ _, q, h => by
    obtain ⟨h1, qs, h2, h3⟩ := h
    exact ⟨h1.keep hs hk, qs, h2.keep hs hk, HasNs.keep hs hk kids qs h3⟩
theorem HasNs.keep {w w' : World} {S S' : Nat → Prop} (hs : w.heap.size ≤ w'.heap.size) (hk : ∀ b, S b → b < w.heap.size → S' b ∧ w'.heap[b]? = w.heap[b]?) : ∀ (ts : List Tree) (qs : List (Value × Value)), HasNs w S ts qs → HasNs w' S' ts qs
  | [], [], _ => trivial
  | t :: ts, q :: qs, h => ⟨HasN.keep hs hk t q h.1, HasNs.keep hs hk ts qs h.2⟩
  | [], _ :: _, h => h
  | _ :: _, [], h => h
end
theorem HasNs.len {w : World} {S : Nat → Prop} : ∀ {ts : List Tree} {qs : List (Value × Value)}, HasNs w S ts qs → qs.length = ts.length
  | [], [], _ => rfl
  | t :: ts, q :: qs, h => by simp [HasNs.len h.2]
  | [], _ :: _, h => h.elim
  | _ :: _, [], h => h.elim
theorem HasNs.append {w : World} {S : Nat → Prop} : ∀ {ts us : List Tree} {qs rs : List (Value × Value)}, HasNs w S ts qs → HasNs w S us rs → HasNs w S (ts ++ us) (qs ++ rs)
  | [], us, [], rs, _, h => h
  | t :: ts, us, q :: qs, rs, h1, h2 => ⟨h1.1, HasNs.append h1.2 h2⟩
  | [], _, _ :: _, _, h, _ => h.elim
  | _ :: _, _, [], _, h, _ => h.elim
theorem nrow_append : ∀ (ts us : List Tree) (qs rs : List (Value × Value)), qs.length = ts.length → nrow (ts ++ us) (qs ++ rs) = nrow ts qs ++ nrow us rs
  | [], us, [], rs, _ => rfl
  | t :: ts, us, q :: qs, rs, h => by
    show ncells t q ++ nrow (ts ++ us) (qs ++ rs) = (ncells t q ++ nrow ts qs) ++ nrow us rs
    rw [nrow_append ts us qs rs (by simpa using h), List.append_assoc]
  | [], _, _ :: _, _, h => by simp at h
  | _ :: _, _, [], _, h => by simp at h
theorem nrow_one (t : Tree) (q : Value × Value) : nrow [t] [q] = ncells t q := by simp [nrow]
theorem nrow_len : ∀ (ts : List Tree) (qs : List (Value × Value)), qs.length = ts.length → (nrow ts qs).length = ts.length * 6
  | [], [], _ => rfl
  | t :: ts, q :: qs, h => by
    show (ncells t q ++ nrow ts qs).length = _
    rw [List.length_append, nrow_len ts qs (by simpa using h)]
    simp [ncells]; omega
  | [], _ :: _, h => by simp at h
  | _ :: _, [], h => by simp at h

/-- What lies from a block on. -/
abbrev Hn (w : World) (lo : Nat) (t : Tree) (q : Value × Value) : Prop := HasN w (fun b => lo ≤ b) t q
theorem rw_nil (w : World) (S : Nat → Prop) (xs : List Value) : Rw w S (.slice none 0 0) 0 xs := ⟨none, 0, rfl, Nat.le_refl _, .inl rfl⟩
theorem hasN_leaf (w : World) (S : Nat → Prop) (k : Nat) (t : By) (n p : Nat) : HasN w S (.node k t [] [] n p) (.slice none 0 0, .slice none 0 0) :=
  ⟨rw_nil w S _, [], rw_nil w S _, trivial⟩
theorem Hn.mono {w : World} {lo lo' : Nat} {t : Tree} {q : Value × Value} (h : Hn w lo t q) (hl : lo' ≤ lo) : Hn w lo' t q :=
  HasN.keep (Nat.le_refl _) (fun b hb _ => ⟨Nat.le_trans hl hb, rfl⟩) t q h
theorem Hn.gr {w w' : World} {lo r : Nat} {t : Tree} {q : Value × Value} (h : Hn w lo t q) (hg : Gr r w w') (hr : r < lo) : Hn w' lo t q :=
  HasN.keep hg.size (fun b hb hlt => ⟨hb, hg.block b hlt (fun e => by have := Option.some.inj e; omega)⟩) t q h
theorem Hn.grown {w w' : World} {lo : Nat} {row : Option Nat} {t : Tree} {q : Value × Value} (h : Hn w lo t q) (hg : w.grownBy w' row) (hr : ∀ k, row = some k → k < lo) : Hn w' lo t q :=
  HasN.keep hg.size (fun b hb hlt => ⟨hb, hg.block b hlt (fun e => by have := hr b e.symm; omega)⟩) t q h
theorem Hn.set {w : World} {lo b : Nat} {t : Tree} {q : Value × Value} (h : Hn w lo t q) (hb : b < lo) (i : Nat) (v : Value) : Hn (w.setCell ⟨b, i, none⟩ v) lo t q :=
  HasN.keep (by simp [World.setCell]) (fun c hc _ => ⟨hc, Below.heap_setCell _ _ _ _ (by show c ≠ b; omega)⟩) t q h
theorem Hn.alloc {w : World} {lo : Nat} {t : Tree} {q : Value × Value} (h : Hn w lo t q) (o : Obj) : Hn (w.alloc o) lo t q :=
  HasN.keep (by simp) (fun c hc hlt => ⟨hc, Below.heap_alloc _ _ _ hlt⟩) t q h
theorem Hn.drew {w : World} {lo : Nat} {t : Tree} {q : Value × Value} (h : Hn w lo t q) (n : Nat) : Hn (w.drewN n) lo t q :=
  HasN.keep (w := w) (w' := w.drewN n) (Nat.le_refl _) (fun c hc hlt => ⟨hc, rfl⟩) t q h
theorem Hn.drew1 {w : World} {lo : Nat} {t : Tree} {q : Value × Value} (h : Hn w lo t q) : Hn w.drew lo t q :=
  HasN.keep (w := w) (w' := w.drew) (Nat.le_refl _) (fun c hc hlt => ⟨hc, rfl⟩) t q h

theorem Hn.put6 {w : World} {lo : Nat} {t : Tree} {q : Value × Value} (h : Hn w lo t q) {b : Nat} (hb : b < lo) (v0 v1 v2 v3 v4 v5 : Value) :
    Hn ((((((w.setCell ⟨b, 0, none⟩ v0).setCell ⟨b, 1, none⟩ v1).setCell ⟨b, 2, none⟩ v2).setCell ⟨b, 3, none⟩ v3).setCell ⟨b, 4, none⟩ v4).setCell ⟨b, 5, none⟩ v5) lo t q := ((((((h.set hb 0 v0).set hb 1 v1).set hb 2 v2).set hb 3 v3).set hb 4 v4).set hb 5 v5)

/-- A row of nodes that the call owns; the nodes lie elsewhere, from a block on. -/
def Kd (w : World) (base : Nat) (v : Value) (kids : List Tree) (qs : List (Value × Value)) : Prop :=
  w.ownsRow base 25 6 v kids.length (nrow kids qs) ∧ HasNs w (fun b => base ≤ b ∧ v.ownBlock ≠ some b) kids qs
theorem Kd.nil (w : World) (base : Nat) : Kd w base (.slice none 0 0) [] [] := ⟨World.ownsRow_nil _ _ _ _, trivial⟩
theorem Kd.keep {w w' : World} {base : Nat} {v : Value} {kids : List Tree} {qs : List (Value × Value)} (h : Kd w base v kids qs) {row : Option Nat} (hg : w.grownBy w' row) (hr : ∀ k, row = some k → k < base) : Kd w' base v kids qs := by
  refine ⟨h.1.kept hg ?_, HasNs.keep hg.size (fun b hb hlt => ⟨hb, hg.block b hlt (fun e => by have := hr b e.symm; omega)⟩) _ _ h.2⟩
  cases hv : v.ownBlock with
  | none => exact .inl rfl
  | some b =>
    refine .inr (fun e => ?_)
    have := (h.1.lt b hv).1
    have := hr b e.symm
    omega
theorem Kd.gr {w w' : World} {base r : Nat} {v : Value} {kids : List Tree} {qs : List (Value × Value)} (h : Kd w base v kids qs) (hg : Gr r w w') (hr : r < base) : Kd w' base v kids qs :=
  h.keep hg (fun k hk => by cases hk; exact hr)
theorem grown_alloc (w : World) (o : Obj) : w.grownBy (w.alloc o) none := World.grownBy_alloc w o none
theorem grown_set (w : World) (b i : Nat) (v : Value) : w.grownBy (w.setCell ⟨b, i, none⟩ v) (some b) :=
  ⟨rfl, rfl, rfl, by simp [World.setCell], fun k hk hn => Below.heap_setCell _ _ _ _ (fun e => hn (by simp [e]))⟩
theorem Kd.alloc {w : World} {base : Nat} {v : Value} {kids : List Tree} {qs : List (Value × Value)} (h : Kd w base v kids qs) (o : Obj) : Kd (w.alloc o) base v kids qs := h.keep (grown_alloc w o) (by simp)
theorem Kd.set {w : World} {base b : Nat} {v : Value} {kids : List Tree} {qs : List (Value × Value)} (h : Kd w base v kids qs) (hb : b < base) (i : Nat) (u : Value) : Kd (w.setCell ⟨b, i, none⟩ u) base v kids qs :=
  h.keep (grown_set w b i u) (fun k hk => by cases hk; exact hb)
theorem Kd.drew1 {w : World} {base : Nat} {v : Value} {kids : List Tree} {qs : List (Value × Value)} (h : Kd w base v kids qs) : Kd w.drew base v kids qs :=
  h.keep (row := none) ⟨rfl, rfl, rfl, Nat.le_refl _, fun _ _ _ => rfl⟩ (by simp)
/-- Behind an append of one node. -/
theorem Kd.snoc {w w1 : World} {base g H cap : Nat} {v : Value} {kids : List Tree} {qs : List (Value × Value)} {t : Tree} {q : Value × Value} (h : Kd w base v kids qs) (hn : HasN w (fun b => base ≤ b ∧ v.ownBlock ≠ some b) t q)
    (hown : w1.ownsRow base 25 6 (.slice (some ⟨g, 0, none⟩) (kids.length + 1) cap) (kids.length + 1) (nrow kids qs ++ ncells t q)) (hg : w.grownBy w1 v.ownBlock) (hat : v.ownBlock = some g ∨ g = H) (hH : w.heap.size ≤ H) :
    Kd w1 base (.slice (some ⟨g, 0, none⟩) (kids.length + 1) cap) (kids ++ [t]) (qs ++ [q]) := by
  have hlen := h.2.len
  refine ⟨?_, ?_⟩
  · rw [nrow_append kids [t] qs [q] hlen, nrow_one, List.length_append]; exact hown
  · have hk : ∀ b, (base ≤ b ∧ v.ownBlock ≠ some b) → b < w.heap.size → (base ≤ b ∧ (Value.slice (some ⟨g, 0, none⟩) (kids.length + 1) cap).ownBlock ≠ some b) ∧ w1.heap[b]? = w.heap[b]? := by
      rintro b ⟨hb, hne⟩ hlt
      refine ⟨⟨hb, ?_⟩, hg.block b hlt (fun e => hne e.symm)⟩
      show some g ≠ some b
      intro e
      have e := Option.some.inj e
      rcases hat with hat | hat
      · exact hne (by rw [hat, e])
      · omega
    exact HasNs.append (HasNs.keep hg.size hk kids qs h.2) ⟨HasN.keep hg.size hk t q hn, trivial⟩
/-- A row of one, made at once. -/
theorem Kd.made {w : World} {base lo n : Nat} {t : Tree} {q : Value × Value} (h : Hn w lo t q) (hb : base ≤ lo) (hs : base ≤ w.heap.size) (hn : w.heap.size = n) (c : Array Value) (hc : c = (ncells t q).toArray) :
    Kd (w.alloc (.cells c 25)) base (.slice (some ⟨n, 0, none⟩) 1 1) [t] [q] := by
  subst hn
  subst hc
  refine ⟨⟨?_, .inr ⟨w.heap.size, 1, (ncells t q).toArray, rfl, hs, heap_alloc_new w _, Nat.le_refl _, by decide, by simp [ncells], by simp [nrow, ncells]⟩⟩, HasN.keep (by simp) (fun b hb2 hlt => ⟨⟨Nat.le_trans hb hb2, ?_⟩, Below.heap_alloc _ _ _ hlt⟩) t q h, trivial⟩
  · simp [nrow, ncells]
  · intro e
    have e2 : w.heap.size = b := Option.some.inj e
    omega
theorem Rw.own {w : World} {base : Nat} {e : TypeId} {size : Nat} {v : Value} {n : Nat} {xs : List Value} (h : w.ownsRow base e size v n xs) : Rw w (fun b => base ≤ b) v n xs := by
  rcases h.2 with ⟨hv, hn⟩ | ⟨g, cap, cur, hv, hb, hg, hn, hcm, hcs, htake⟩
  · subst hn
    exact ⟨none, 0, hv, Nat.le_refl _, .inl rfl⟩
  · refine ⟨_, cap, hv, hn, .inr ⟨g, 0, rfl, hb, (Array.getElem?_eq_some_iff.1 hg).1, ⟨cur, e, hg⟩, fun j u hj => ?_⟩⟩
    rw [cell_of_row w g (0 + j) cur e (0, 0) hg]
    rw [← htake, List.getElem?_take] at hj
    split at hj
    · simpa using hj
    · simp at hj
theorem Kd.has {w : World} {base : Nat} {v : Value} {kids : List Tree} {qs : List (Value × Value)} (h : Kd w base v kids qs) (k : Nat) (s : By) (n p : Nat) : Hn w base (.node k s [] kids n p) (.slice none 0 0, v) :=
  ⟨rw_nil w _ _, qs, Rw.own h.1, HasNs.keep (Nat.le_refl _) (fun b hb _ => ⟨hb.1, rfl⟩) _ _ h.2⟩
theorem ncells_one (t : Tree) {w : World} {base : Nat} {q : Value × Value} (h : Hn w base t q) : ∀ u ∈ ncells t q, u.oneCell' = true := by
  obtain ⟨k, s, nms, kids, n, p⟩ := t
  obtain ⟨⟨ao, cap, h1, _⟩, qs, ⟨ao', cap', h2, _⟩, _⟩ := h
  intro u hu
  simp only [ncells, List.mem_cons, List.not_mem_nil, or_false] at hu
  rcases hu with rfl | rfl | rfl | rfl | rfl | rfl
  · rfl
  · rfl
  · rfl
  · rfl
  · rw [h1]; rfl
  · rw [h2]; rfl
/-- Rows of one, two and three nodes, laid at once. -/
theorem rows_cells {w : World} {b : Nat} {c : Array Value} {t : TypeId} (h : w.heap[b]? = some (.cells c t (0, 0))) : ∀ j u, c.toList[j]? = some u → w.cell? ⟨b, 0 + j, none⟩ = some u := by
  intro j u hj
  simp [World.cell?, h]
  simpa using hj
theorem has_one {w : World} {b lo : Nat} {x : Tree} {q : Value × Value} (hb : w.heap[b]? = some (.cells (ncells x q).toArray 25 (0, 0))) (hlo : lo ≤ b) (h : Hn w lo x q) (k : Nat) (s : By) (n p : Nat) :
    Hn w lo (.node k s [] [x] n p) (.slice none 0 0, .slice (some ⟨b, 0, none⟩) 1 1) := by
  refine ⟨rw_nil w _ _, [q], ⟨_, 1, rfl, Nat.le_refl _, .inr ⟨b, 0, rfl, hlo, (Array.getElem?_eq_some_iff.1 hb).1, ⟨_, _, hb⟩, fun j u hj => rows_cells hb j u ?_⟩⟩, h, trivial⟩
  rw [nrow_one] at hj
  simpa using hj
theorem has_two {w : World} {b : Nat} {S : Nat → Prop} {x y : Tree} {q r : Value × Value} (hb : w.heap[b]? = some (.cells (ncells x q ++ ncells y r).toArray 25 (0, 0))) (hS : S b) (h : HasN w S x q) (h2 : HasN w S y r) (k : Nat) (s : By) (n p : Nat) :
    HasN w S (.node k s [] [x, y] n p) (.slice none 0 0, .slice (some ⟨b, 0, none⟩) 2 2) := by
  refine ⟨rw_nil w _ _, [q, r], ⟨_, 2, rfl, Nat.le_refl _, .inr ⟨b, 0, rfl, hS, (Array.getElem?_eq_some_iff.1 hb).1, ⟨_, _, hb⟩, fun j u hj => rows_cells hb j u ?_⟩⟩, h, h2, trivial⟩
  simpa [nrow] using hj
theorem HasN.weak {w : World} {S S' : Nat → Prop} {t : Tree} {q : Value × Value} (h : HasN w S t q) (hS : ∀ b, S b → b < w.heap.size → S' b) : HasN w S' t q :=
  HasN.keep (Nat.le_refl _) (fun b hb hlt => ⟨hS b hb hlt, rfl⟩) t q h
theorem HasN.grS {w w' : World} {S : Nat → Prop} {r : Nat} {t : Tree} {q : Value × Value} (h : HasN w S t q) (hg : Gr r w w') (hS : ¬ S r) : HasN w' S t q :=
  HasN.keep hg.size (fun b hb hlt => ⟨hb, hg.block b hlt (fun e => hS (by cases e; exact hb))⟩) t q h
theorem HasN.setS {w : World} {S : Nat → Prop} {nb : Nat} {t : Tree} {q : Value × Value} (h : HasN w S t q) (hS : ¬ S nb) (i : Nat) (v : Value) : HasN (w.setCell ⟨nb, i, none⟩ v) S t q :=
  HasN.keep (by simp [World.setCell]) (fun c hc _ => ⟨hc, Below.heap_setCell _ _ _ _ (fun e => hS (by have e : c = nb := e; subst e; exact hc))⟩) t q h
theorem HasN.put6S {w : World} {S : Nat → Prop} {nb : Nat} {t : Tree} {q : Value × Value} (h : HasN w S t q) (hS : ¬ S nb) (v0 v1 v2 v3 v4 v5 : Value) :
    HasN ((((((w.setCell ⟨nb, 0, none⟩ v0).setCell ⟨nb, 1, none⟩ v1).setCell ⟨nb, 2, none⟩ v2).setCell ⟨nb, 3, none⟩ v3).setCell ⟨nb, 4, none⟩ v4).setCell ⟨nb, 5, none⟩ v5) S t q :=
  (((((h.setS hS 0 v0).setS hS 1 v1).setS hS 2 v2).setS hS 3 v3).setS hS 4 v4).setS hS 5 v5
theorem HasN.drew1 {w : World} {S : Nat → Prop} {t : Tree} {q : Value × Value} (h : HasN w S t q) : HasN w.drew S t q :=
  HasN.keep (w := w) (w' := w.drew) (Nat.le_refl _) (fun c hc hlt => ⟨hc, rfl⟩) t q h
theorem HasN.low {w w' : World} {S : Nat → Prop} {t : Tree} {q : Value × Value} (h : HasN w S t q) (hb : Below w.heap.size w w') : HasN w' S t q :=
  HasN.keep hb.size (fun b hS hlt => ⟨hS, hb.block b hlt⟩) t q h
theorem HasN.alloc {w : World} {S : Nat → Prop} {t : Tree} {q : Value × Value} (h : HasN w S t q) (o : Obj) : HasN (w.alloc o) S t q :=
  HasN.keep (by simp) (fun c hc hlt => ⟨hc, Below.heap_alloc _ _ _ hlt⟩) t q h

/-- What lies from a block on, but not in block nb: where a variable of the part's own was laid behind it. -/
abbrev Ha (w : World) (lo nb : Nat) (t : Tree) (q : Value × Value) : Prop := HasN w (fun b => lo ≤ b ∧ b ≠ nb) t q
theorem Hn.ha {w : World} {lo nb : Nat} {t : Tree} {q : Value × Value} (h : Hn w lo t q) (hn : w.heap.size ≤ nb) : Ha w lo nb t q :=
  HasN.keep (Nat.le_refl _) (fun b hb hlt => ⟨⟨hb, by omega⟩, rfl⟩) t q h
theorem Hn.ha2 {w : World} {lo lo' nb : Nat} {t : Tree} {q : Value × Value} (h : Hn w lo t q) (hn : nb < lo) (hl : lo' ≤ lo) : Ha w lo' nb t q :=
  HasN.keep (Nat.le_refl _) (fun b hb hlt => ⟨⟨Nat.le_trans hl hb, by have : lo ≤ b := hb; omega⟩, rfl⟩) t q h
theorem Ha.hn {w : World} {lo nb : Nat} {t : Tree} {q : Value × Value} (h : Ha w lo nb t q) : Hn w lo t q :=
  HasN.keep (Nat.le_refl _) (fun b hb hlt => ⟨hb.1, rfl⟩) t q h
theorem Ha.mono {w : World} {lo lo' nb : Nat} {t : Tree} {q : Value × Value} (h : Ha w lo nb t q) (hl : lo' ≤ lo) : Ha w lo' nb t q :=
  HasN.keep (Nat.le_refl _) (fun b hb hlt => ⟨⟨Nat.le_trans hl hb.1, hb.2⟩, rfl⟩) t q h
theorem Ha.gr {w w' : World} {lo nb r : Nat} {t : Tree} {q : Value × Value} (h : Ha w lo nb t q) (hg : Gr r w w') (hr : r < lo) : Ha w' lo nb t q :=
  HasN.keep hg.size (fun b hb hlt => ⟨hb, hg.block b hlt (fun e => by have := Option.some.inj e; have := hb.1; omega)⟩) t q h
theorem Ha.set {w : World} {lo nb : Nat} {t : Tree} {q : Value × Value} (h : Ha w lo nb t q) (i : Nat) (v : Value) : Ha (w.setCell ⟨nb, i, none⟩ v) lo nb t q :=
  HasN.keep (by simp [World.setCell]) (fun c hc _ => ⟨hc, Below.heap_setCell _ _ _ _ hc.2⟩) t q h
theorem Ha.other {w : World} {lo nb b : Nat} {t : Tree} {q : Value × Value} (h : Ha w lo nb t q) (hb : b < lo) (i : Nat) (v : Value) : Ha (w.setCell ⟨b, i, none⟩ v) lo nb t q :=
  HasN.keep (by simp [World.setCell]) (fun c hc _ => ⟨hc, Below.heap_setCell _ _ _ _ (by have := hc.1; show c ≠ b; omega)⟩) t q h
theorem Ha.alloc {w : World} {lo nb : Nat} {t : Tree} {q : Value × Value} (h : Ha w lo nb t q) (o : Obj) : Ha (w.alloc o) lo nb t q :=
  HasN.keep (by simp) (fun c hc hlt => ⟨hc, Below.heap_alloc _ _ _ hlt⟩) t q h
theorem Ha.drew1 {w : World} {lo nb : Nat} {t : Tree} {q : Value × Value} (h : Ha w lo nb t q) : Ha w.drew lo nb t q :=
  HasN.keep (w := w) (w' := w.drew) (Nat.le_refl _) (fun c hc hlt => ⟨hc, rfl⟩) t q h
theorem Ha.put6 {w : World} {lo nb : Nat} {t : Tree} {q : Value × Value} (h : Ha w lo nb t q) (v0 v1 v2 v3 v4 v5 : Value) :
    Ha ((((((w.setCell ⟨nb, 0, none⟩ v0).setCell ⟨nb, 1, none⟩ v1).setCell ⟨nb, 2, none⟩ v2).setCell ⟨nb, 3, none⟩ v3).setCell ⟨nb, 4, none⟩ v4).setCell ⟨nb, 5, none⟩ v5) lo nb t q := ((((((h.set 0 v0).set 1 v1).set 2 v2).set 3 v3).set 4 v4).set 5 v5)

/-- A row that is owned, likewise. -/
def Ka (w : World) (base nb : Nat) (v : Value) (kids : List Tree) (qs : List (Value × Value)) : Prop :=
  w.ownsRow base 25 6 v kids.length (nrow kids qs) ∧ v.ownBlock ≠ some nb ∧ HasNs w (fun b => base ≤ b ∧ b ≠ nb ∧ v.ownBlock ≠ some b) kids qs
theorem Kd.ka {w : World} {base nb : Nat} {v : Value} {kids : List Tree} {qs : List (Value × Value)} (h : Kd w base v kids qs) (hn : w.heap.size ≤ nb) : Ka w base nb v kids qs :=
  ⟨h.1, fun e => by have := (h.1.lt nb e).2; omega, HasNs.keep (Nat.le_refl _) (fun b hb hlt => ⟨⟨hb.1, by omega, hb.2⟩, rfl⟩) _ _ h.2⟩
theorem Kd.ka2 {w : World} {base nb : Nat} {v : Value} {kids : List Tree} {qs : List (Value × Value)} (h : Kd w base v kids qs) (hn : nb < base) : Ka w base nb v kids qs :=
  ⟨h.1, fun e => by have := (h.1.lt nb e).1; omega, HasNs.keep (Nat.le_refl _) (fun b hb hlt => ⟨⟨hb.1, by have := hb.1; omega, hb.2⟩, rfl⟩) _ _ h.2⟩
theorem Ka.nil (w : World) (base nb : Nat) : Ka w base nb (.slice none 0 0) [] [] := ⟨World.ownsRow_nil _ _ _ _, by simp [Value.ownBlock], trivial⟩
theorem Ka.keep {w w' : World} {base nb : Nat} {v : Value} {kids : List Tree} {qs : List (Value × Value)} (h : Ka w base nb v kids qs) {row : Option Nat} (hg : w.grownBy w' row) (hr : ∀ k, row = some k → k < base ∨ k = nb) : Ka w' base nb v kids qs := by
  refine ⟨h.1.kept hg ?_, h.2.1, HasNs.keep hg.size (fun b hb hlt => ⟨hb, hg.block b hlt (fun e => by have := hr b e.symm; have h1 := hb.1; have h2 := hb.2.1; omega)⟩) _ _ h.2.2⟩
  cases hv : v.ownBlock with
  | none => exact .inl rfl
  | some b =>
    refine .inr (fun e => ?_)
    have h1 := (h.1.lt b hv).1
    rcases hr b e.symm with h2 | h2
    · omega
    · exact h.2.1 (by rw [hv, h2])
theorem Ka.gr {w w' : World} {base nb r : Nat} {v : Value} {kids : List Tree} {qs : List (Value × Value)} (h : Ka w base nb v kids qs) (hg : Gr r w w') (hr : r < base) : Ka w' base nb v kids qs :=
  h.keep hg (fun k hk => by cases hk; exact .inl hr)
theorem Ka.alloc {w : World} {base nb : Nat} {v : Value} {kids : List Tree} {qs : List (Value × Value)} (h : Ka w base nb v kids qs) (o : Obj) : Ka (w.alloc o) base nb v kids qs := h.keep (grown_alloc w o) (by simp)
theorem Ka.set {w : World} {base nb : Nat} {v : Value} {kids : List Tree} {qs : List (Value × Value)} (h : Ka w base nb v kids qs) (i : Nat) (u : Value) : Ka (w.setCell ⟨nb, i, none⟩ u) base nb v kids qs :=
  h.keep (grown_set w nb i u) (fun k hk => by cases hk; exact .inr rfl)
theorem Ka.other {w : World} {base nb b : Nat} {v : Value} {kids : List Tree} {qs : List (Value × Value)} (h : Ka w base nb v kids qs) (hb : b < base) (i : Nat) (u : Value) : Ka (w.setCell ⟨b, i, none⟩ u) base nb v kids qs :=
  h.keep (grown_set w b i u) (fun k hk => by cases hk; exact .inl hb)
theorem Ka.drew1 {w : World} {base nb : Nat} {v : Value} {kids : List Tree} {qs : List (Value × Value)} (h : Ka w base nb v kids qs) : Ka w.drew base nb v kids qs :=
  h.keep (row := none) ⟨rfl, rfl, rfl, Nat.le_refl _, fun _ _ _ => rfl⟩ (by simp)
theorem Ka.snoc {w w1 : World} {base nb lo g H cap : Nat} {v : Value} {kids : List Tree} {qs : List (Value × Value)} {t : Tree} {q : Value × Value} (h : Ka w base nb v kids qs) (hn : Hn w lo t q) (hb : base ≤ lo) (hlo : ∀ k, v.ownBlock = some k → k < lo) (hnb : nb < lo)
    (hown : w1.ownsRow base 25 6 (.slice (some ⟨g, 0, none⟩) (kids.length + 1) cap) (kids.length + 1) (nrow kids qs ++ ncells t q)) (hg : w.grownBy w1 v.ownBlock) (hat : v.ownBlock = some g ∨ g = H) (hH : w.heap.size ≤ H) (hnbl : nb < w.heap.size) :
    Ka w1 base nb (.slice (some ⟨g, 0, none⟩) (kids.length + 1) cap) (kids ++ [t]) (qs ++ [q]) := by
  have hlen := h.2.2.len
  refine ⟨?_, ?_, ?_⟩
  · rw [nrow_append kids [t] qs [q] hlen, nrow_one, List.length_append]; exact hown
  · intro e
    have e : g = nb := Option.some.inj e
    rcases hat with hat | hat
    · exact h.2.1 (by rw [hat, e])
    · omega
  · have hk : ∀ b, (base ≤ b ∧ b ≠ nb ∧ v.ownBlock ≠ some b) → b < w.heap.size → (base ≤ b ∧ b ≠ nb ∧ (Value.slice (some ⟨g, 0, none⟩) (kids.length + 1) cap).ownBlock ≠ some b) ∧ w1.heap[b]? = w.heap[b]? := by
      rintro b ⟨hb, hb2, hne⟩ hlt
      refine ⟨⟨hb, hb2, ?_⟩, hg.block b hlt (fun e => hne e.symm)⟩
      show some g ≠ some b
      intro e
      have e := Option.some.inj e
      rcases hat with hat | hat
      · exact hne (by rw [hat, e])
      · omega
    refine HasNs.append (HasNs.keep hg.size hk kids qs h.2.2) ⟨HasN.keep hg.size (fun b hb2 hlt => hk b ⟨Nat.le_trans hb hb2, by have : lo ≤ b := hb2; omega, fun e => by have := hlo b e; have : lo ≤ b := hb2; omega⟩ hlt) t q hn, trivial⟩
theorem Ka.has {w : World} {base nb : Nat} {v : Value} {kids : List Tree} {qs : List (Value × Value)} (h : Ka w base nb v kids qs) (k : Nat) (s : By) (n p : Nat) : Hn w base (.node k s [] kids n p) (.slice none 0 0, v) :=
  ⟨rw_nil w _ _, qs, Rw.own h.1, HasNs.keep (Nat.le_refl _) (fun b hb _ => ⟨hb.1, rfl⟩) _ _ h.2.2⟩
theorem Ka.form {w : World} {base nb : Nat} {v : Value} {kids : List Tree} {qs : List (Value × Value)} (h : Ka w base nb v kids qs) : ∃ ao cap, v = .slice ao kids.length cap := by
  rcases h.1.2 with ⟨hv, hn⟩ | ⟨g, cap, cur, hv, _⟩
  · exact ⟨none, 0, by rw [hv, hn]⟩
  · exact ⟨_, _, hv⟩
theorem Ka.len {w : World} {base nb : Nat} {v : Value} {kids : List Tree} {qs : List (Value × Value)} (h : Ka w base nb v kids qs) : (nrow kids qs).length = kids.length * 6 := nrow_len _ _ h.2.2.len
theorem infoN : (Tryz.prog.info? 25).map (fun i => (i.zero, i.size, i.bytes)) = some (some (.agg #[.int .i64 0, .string ByteArray.empty, .int .i64 0, .int .i64 0, .slice none 0 0, .slice none 0 0]), 6, 88) := by kernel_rfl
theorem cell_six_at (w : World) (a b c d e f : Value) (t : TypeId) (n : Nat) (hn : w.heap.size = n) : ∀ j u, [a, b, c, d, e, f][j]? = some u → (w.alloc (.cells #[a, b, c, d, e, f] t)).cell? ((⟨n, 0, none⟩ : Addr).add j) = some u := by
  subst hn
  intro j u hj
  have hl : j < 6 := by
    rcases Nat.lt_or_ge j 6 with h | h
    · exact h
    · rw [List.getElem?_eq_none (by simpa using h)] at hj; cases hj
  have e : (⟨w.heap.size, 0, none⟩ : Addr).add j = ⟨w.heap.size, j, none⟩ := by unfold Addr.add; split <;> simp_all
  rw [e, World.cell?_alloc_mark]
  simpa using hj

/-- One node more: at a step of a region that draws, and in a plain one. -/
theorem own_kid {w : World} {base nb n lo : Nat} {v : Value} {kids : List Tree} {qs : List (Value × Value)} {t : Tree} {q : Value × Value} {c : Array Value}
    (hk : Ka w base nb v kids qs) (hn : Hn w lo t q) (hlen : kids.length = n) (hn4 : n ≤ 5000) (hb : base ≤ lo) (hlo : ∀ k, v.ownBlock = some k → k < lo) (hnb : nb < lo) (hbase : base ≤ w.heap.size) (hnbl : nb < w.heap.size) (hc : c = (ncells t q).toArray) :
    (w.alloc (.cells c 25)).ownsRow base 25 6 v n (nrow kids qs) ∧ (∀ j u, (ncells t q)[j]? = some u → (w.alloc (.cells c 25)).cell? ((⟨w.heap.size, 0, none⟩ : Addr).add j) = some u) ∧ (∀ u ∈ ncells t q, u.oneCell' = true) ∧ base ≤ (w.alloc (.cells c 25)).heap.size ∧
    ∀ g cap w', w'.ownsRow base 25 6 (.slice (some ⟨g, 0, none⟩) (n + 1) cap) (n + 1) (nrow kids qs ++ ncells t q) → (w.alloc (.cells c 25)).grownBy w' v.ownBlock → (v.ownBlock = some g ∨ g = w.heap.size + 1) → Ka w' base nb (.slice (some ⟨g, 0, none⟩) (n + 1) cap) (kids ++ [t]) (qs ++ [q]) := by
  subst hlen
  subst hc
  refine ⟨(Ka.alloc hk _).1, fun j u hj => cell_six_at _ _ _ _ _ _ _ _ _ rfl j u hj, ncells_one t hn, by simp; omega, fun g cap w' hown hg hat => ?_⟩
  exact Ka.snoc (Ka.alloc hk _) (Hn.alloc hn _) hb hlo hnb hown hg hat (by simp) (by simp; omega)
theorem step_kid {ops : Array Oper} {o : Oper} {a : Act} {K : Act → World → Prop} {Q : Exit → Act → World → Prop} {E' : Prop} (w : World) (s x : Operand) (base nb n lo : Nat) (v : Value) (kids : List Tree) (qs : List (Value × Value)) (t : Tree) (q : Value × Value) (c : Array Value)
    (hgd : o.guard = none) (ho : o.op = .call { callee := .builtin .append, args := #[s, x], argTypes := #[23, 23] }) (hs : a.eval s = v) (hx : a.eval x = .slice (some ⟨w.heap.size, 0, none⟩) 1 1)
    (hk : Ka w base nb v kids qs) (hn : Hn w lo t q) (hlen : kids.length = n) (hn4 : n ≤ 5000) (hb : base ≤ lo) (hlo : ∀ k, v.ownBlock = some k → k < lo) (hnb : nb < lo) (hbase : base ≤ w.heap.size) (hnbl : nb < w.heap.size) (hc : c = (ncells t q).toArray)
    (h : ∀ g cap w', Ka w' base nb (.slice (some ⟨g, 0, none⟩) (n + 1) cap) (kids ++ [t]) (qs ++ [q]) → (w.alloc (.cells c 25)).grownBy w' v.ownBlock → K (a.put o.dst (.slice (some ⟨g, 0, none⟩) (n + 1) cap)) w') :
    if Region.wanted o (yielded ops a.tmps) = true then Oper.wp Tryz.prog o a (w.alloc (.cells c 25)) K Q else E' := by
  obtain ⟨i0, hi0, hz0, hz1, hz2⟩ := info_parts infoN
  obtain ⟨h1, h2, h3, h4, h5⟩ := own_kid hk hn hlen hn4 hb hlo hnb hbase hnbl hc
  refine step_append_lies _ hgd s x 23 ho base 25 i0 _ 6 88 Tryz.underlying23 hi0 hz0 hz1 hz2 rfl (by decide) v n (nrow kids qs) hs h1 ⟨w.heap.size, 0, none⟩ 1 1 (ncells t q) hx rfl h2 h3 (by decide) (by unfold maxLen; omega) (by omega) h4 (w.heap.size + 1) (by simp) ?_
  intro g cap w' hown hg hat _
  exact h g cap w' (h5 g cap w' hown hg hat) hg
theorem wpList_kid {ops : Array Oper} {rest : List Oper} {o : Oper} {a : Act} {Q : Exit → Act → World → Prop} (w : World) (s x : Operand) (base nb n lo : Nat) (v : Value) (kids : List Tree) (qs : List (Value × Value)) (t : Tree) (q : Value × Value) (c : Array Value)
    (hgd : o.guard = none) (ho : o.op = .call { callee := .builtin .append, args := #[s, x], argTypes := #[23, 23] }) (hs : a.eval s = v) (hx : a.eval x = .slice (some ⟨w.heap.size, 0, none⟩) 1 1)
    (hk : Ka w base nb v kids qs) (hn : Hn w lo t q) (hlen : kids.length = n) (hn4 : n ≤ 5000) (hb : base ≤ lo) (hlo : ∀ k, v.ownBlock = some k → k < lo) (hnb : nb < lo) (hbase : base ≤ w.heap.size) (hnbl : nb < w.heap.size) (hc : c = (ncells t q).toArray)
    (h : ∀ g cap w', Ka w' base nb (.slice (some ⟨g, 0, none⟩) (n + 1) cap) (kids ++ [t]) (qs ++ [q]) → (w.alloc (.cells c 25)).grownBy w' v.ownBlock → wpList Tryz.prog ops Q rest (a.put o.dst (.slice (some ⟨g, 0, none⟩) (n + 1) cap)) w') :
    wpList Tryz.prog ops Q (o :: rest) a (w.alloc (.cells c 25)) := by
  obtain ⟨i0, hi0, hz0, hz1, hz2⟩ := info_parts infoN
  obtain ⟨h1, h2, h3, h4, h5⟩ := own_kid hk hn hlen hn4 hb hlo hnb hbase hnbl hc
  refine wpList_append_lies _ hgd s x 23 ho base 25 i0 _ 6 88 Tryz.underlying23 hi0 hz0 hz1 hz2 rfl (by decide) v n (nrow kids qs) hs h1 ⟨w.heap.size, 0, none⟩ 1 1 (ncells t q) hx rfl h2 h3 (by decide) (by unfold maxLen; omega) (by omega) h4 (w.heap.size + 1) (by simp) ?_
  intro g cap w' hown hg hat _
  exact h g cap w' (h5 g cap w' hown hg hat) hg

-- rows of names
theorem infoS : (Tryz.prog.info? 9).map (fun i => (i.zero, i.size, i.bytes)) = some (some (.string ByteArray.empty), 1, 16) := by kernel_rfl
/-- A row of strings that the call owns; block nb is not it. -/
def Na (w : World) (base nb : Nat) (v : Value) (ns : List By) : Prop := w.ownsRow base 9 1 v ns.length (ns.map sv) ∧ v.ownBlock ≠ some nb
theorem Na.nil (w : World) (base nb : Nat) : Na w base nb (.slice none 0 0) [] := ⟨World.ownsRow_nil _ _ _ _, by simp [Value.ownBlock]⟩
theorem Na.keep {w w' : World} {base nb : Nat} {v : Value} {ns : List By} (h : Na w base nb v ns) {row : Option Nat} (hg : w.grownBy w' row) (hr : ∀ k, row = some k → k < base ∨ k = nb) : Na w' base nb v ns := by
  refine ⟨h.1.kept hg ?_, h.2⟩
  cases hv : v.ownBlock with
  | none => exact .inl rfl
  | some b =>
    refine .inr (fun e => ?_)
    have h1 := (h.1.lt b hv).1
    rcases hr b e.symm with h2 | h2
    · omega
    · exact h.2 (by rw [hv, h2])
theorem Na.gr {w w' : World} {base nb r : Nat} {v : Value} {ns : List By} (h : Na w base nb v ns) (hg : Gr r w w') (hr : r < base) : Na w' base nb v ns := h.keep hg (fun k hk => by cases hk; exact .inl hr)
theorem Na.alloc {w : World} {base nb : Nat} {v : Value} {ns : List By} (h : Na w base nb v ns) (o : Obj) : Na (w.alloc o) base nb v ns := h.keep (grown_alloc w o) (by simp)
theorem Na.set {w : World} {base nb : Nat} {v : Value} {ns : List By} (h : Na w base nb v ns) (i : Nat) (u : Value) : Na (w.setCell ⟨nb, i, none⟩ u) base nb v ns := h.keep (grown_set w nb i u) (fun k hk => by cases hk; exact .inr rfl)
theorem Na.other {w : World} {base nb b : Nat} {v : Value} {ns : List By} (h : Na w base nb v ns) (hb : b < base) (i : Nat) (u : Value) : Na (w.setCell ⟨b, i, none⟩ u) base nb v ns := h.keep (grown_set w b i u) (fun k hk => by cases hk; exact .inl hb)
theorem Na.drew1 {w : World} {base nb : Nat} {v : Value} {ns : List By} (h : Na w base nb v ns) : Na w.drew base nb v ns := h.keep (row := none) ⟨rfl, rfl, rfl, Nat.le_refl _, fun _ _ _ => rfl⟩ (by simp)
theorem step_name {ops : Array Oper} {o : Oper} {a : Act} {K : Act → World → Prop} {Q : Exit → Act → World → Prop} {E' : Prop} (w : World) (s x : Operand) (base nb n : Nat) (v : Value) (ns : List By) (u : By)
    (hgd : o.guard = none) (ho : o.op = .call { callee := .builtin .append, args := #[s, x], argTypes := #[22, 22] }) (hs : a.eval s = v) (hx : a.eval x = .slice (some ⟨w.heap.size, 0, none⟩) 1 1)
    (hk : Na w base nb v ns) (hlen : ns.length = n) (hn4 : n ≤ 5000) (hbase : base ≤ w.heap.size) (hnbl : nb < w.heap.size)
    (h : ∀ g cap w', Na w' base nb (.slice (some ⟨g, 0, none⟩) (n + 1) cap) (ns ++ [u]) → (w.alloc (.cells #[.string ⟨u.toArray⟩] 9)).grownBy w' v.ownBlock → K (a.put o.dst (.slice (some ⟨g, 0, none⟩) (n + 1) cap)) w') :
    if Region.wanted o (yielded ops a.tmps) = true then Oper.wp Tryz.prog o a (w.alloc (.cells #[.string ⟨u.toArray⟩] 9)) K Q else E' := by
  obtain ⟨i0, hi0, hz0, hz1, hz2⟩ := info_parts infoS
  subst hlen
  refine step_append_lies _ hgd s x 22 ho base 9 i0 _ 1 16 Tryz.underlying22 hi0 hz0 hz1 hz2 rfl (by decide) v ns.length (ns.map sv) hs (Na.alloc hk _).1 ⟨w.heap.size, 0, none⟩ 1 1 [.string ⟨u.toArray⟩] hx rfl ?_ ?_ (by decide) (by unfold maxLen; omega) (by omega) (by simp; omega) (w.heap.size + 1) (by simp) ?_
  · intro j q hj
    match j, hj with
    | 0, hj => simp at hj; subst hj; simp [Addr.add]
    | j + 1, hj => simp at hj
  · intro q hq
    simp at hq
    subst hq; rfl
  · intro g cap w' hown hg hat _
    refine h g cap w' ⟨?_, ?_⟩ hg
    · rw [List.length_append, List.map_append]; exact hown
    · intro e
      have e : g = nb := Option.some.inj e
      rcases hat with hat | hat
      · exact hk.2 (by rw [hat, e])
      · omega
theorem Na.rw {w : World} {base nb : Nat} {v : Value} {ns : List By} (h : Na w base nb v ns) : Rw w (fun b => base ≤ b) v ns.length (ns.map sv) := Rw.own h.1
end Go.Proofs.YtlcapkgbbgpdmaaGreatDoor.PN
