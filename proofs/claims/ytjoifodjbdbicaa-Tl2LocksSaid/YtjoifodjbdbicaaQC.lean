/- The program's engine is all that the laws ask of it. -/
import Derived.Test.YtjoifodjbdbicaaZY
import Derived.Test.YtjoifodjbdbicaaZV
import Derived.Test.YtjoifodjbdbicaaZG
import Derived.Test.YtjoifodjbdbicaaPL
import Derived.Test.YtjoifodjbdbicaaZT
import Derived.Test.YtjoifodjbdbicaaZR
namespace Go.Proofs.Ytjoifodjbdbicaa.QC
open Go.RowKit Go.Proofs.Ytjoifodjbdbicaa.RG Go.Proofs.Ytjoifodjbdbicaa.RB Go.Proofs.Ytjoifodjbdbicaa.RI Go.Proofs.Ytjoifodjbdbicaa.RM Go.Proofs.Ytjoifodjbdbicaa.UA Go.Proofs.Ytjoifodjbdbicaa.UB Go.Proofs.Ytjoifodjbdbicaa.UD Go.Proofs.Ytjoifodjbdbicaa.UE Go.Proofs.Ytjoifodjbdbicaa.UG Go.Proofs.Ytjoifodjbdbicaa.UH Go.Proofs.Ytjoifodjbdbicaa.UI Go.Proofs.Ytjoifodjbdbicaa.UK Go.Proofs.Ytjoifodjbdbicaa.UQ Go.Proofs.Ytjoifodjbdbicaa.UR Go.Proofs.Ytjoifodjbdbicaa.UU Go.Proofs.Ytjoifodjbdbicaa.UX Go.Proofs.Ytjoifodjbdbicaa.UZ Go.Proofs.Ytjoifodjbdbicaa.PA Go.Proofs.Ytjoifodjbdbicaa.PB Go.Proofs.Ytjoifodjbdbicaa.PC Go.Proofs.Ytjoifodjbdbicaa.PD Go.Proofs.Ytjoifodjbdbicaa.PE Go.Proofs.Ytjoifodjbdbicaa.PF Go.Proofs.Ytjoifodjbdbicaa.PG Go.Proofs.Ytjoifodjbdbicaa.PJ Go.Proofs.Ytjoifodjbdbicaa.PK Go.Proofs.Ytjoifodjbdbicaa.PL Go.Proofs.Ytjoifodjbdbicaa.PM Go.Proofs.Ytjoifodjbdbicaa.PN Go.Proofs.Ytjoifodjbdbicaa.PO Go.Proofs.Ytjoifodjbdbicaa.PP Go.Proofs.Ytjoifodjbdbicaa.PQ Go.Proofs.Ytjoifodjbdbicaa.PR Go.Proofs.Ytjoifodjbdbicaa.PU Go.Proofs.Ytjoifodjbdbicaa.PV Go.Proofs.Ytjoifodjbdbicaa.PW Go.Proofs.Ytjoifodjbdbicaa.PX Go.Proofs.Ytjoifodjbdbicaa.PZ Go.Proofs.Ytjoifodjbdbicaa.QA Go.Proofs.Ytjoifodjbdbicaa.QB
set_option linter.unusedVariables false
set_option maxRecDepth 100000
set_option maxRecDepth 100000

def TP (w : World) (F : Nat → Prop) (p : Nat) (E : Eg) : Prop := (∃ vv tv G, EI w F p E vv tv G) ∧ Pv E
section
variable {m : Nat} {E : Eg}
theorem tq_all (hP : Pv E) (hg : Wg m E) (hm : m ≤ 1000) : ∀ (i : Nat) (x : Tx), E.T[i]? = some x → x.is = true → TQ E i x := fun i x hx hs => by
  have hxm := mem_of hx
  have hw := hg.wf.tx x hxm
  have hck := hg.wf.ck
  exact ⟨hP.un x hxm, by have := hw.puts; omega, fun q hq => hw.inp q hq, fun n hn => hw.inr n hn, by have := hw.reads; omega, hP.lo, hg.wf.vs, ⟨hck.1, by omega⟩, hw.stamp, hg.dn x hxm, hP.ow i x hx⟩
theorem hp1 (hg : Wg m E) (hm : m ≤ 1000) : ∀ x, x ∈ E.T → x.is = true → 1 ≤ x.parts ∧ x.parts ≤ 1000000 := fun x hx hs => by
  have hw := hg.wf.tx x hx
  have := hw.parts
  exact ⟨hw.parts1 hs, by omega⟩
theorem hp2 (hP : Pv E) (hg : Wg m E) (hm : m ≤ 1000) : ∀ x, x ∈ E.T → (∀ q, q ∈ x.puts → q.part ≤ x.parts) ∧ x.parts ≤ 1000000 := fun x hx => by
  have := (hg.wf.tx x hx).parts
  exact ⟨fun q hq => (hP.pr x hx q hq).2, by omega⟩
theorem hst (hg : Wg m E) : ∀ x, x ∈ E.T → opn x = true → ¬ 0 < x.stamp := fun x hx ho => open_stamp hg hx ho
theorem hrl (hg : Wg m E) (hm : m ≤ 1000) : ∀ x, x ∈ E.T → x.reads.length ≤ 1000000 := fun x hx => by have := (hg.wf.tx x hx).reads; omega
theorem h00 (hg : Wg m E) : ∀ x, x ∈ E.T → ∀ p, p ∈ x.puts → 0 ≤ p.n := fun x hx p hp => ((hg.wf.tx x hx).inp p hp).1
theorem hnn (hP : Pv E) (hg : Wg m E) (hm : m ≤ 1000) : (adE E).length ≤ 20000000 := by
  have := words_len4 hg.wf hm
  rwa [← adE_val hP.un, List.length_map] at this
theorem pv_begin (hP : Pv E) (hg : Wg m E) (t : Int) : Pv (beginR E t).1 := pv_deed hP hg ⟨0, t, 0, 0⟩
theorem pv_read (hP : Pv E) (hg : Wg m E) (t n : Int) : Pv (readR E t n).1 := pv_deed hP hg ⟨1, t, n, 0⟩
theorem pv_write (hP : Pv E) (hg : Wg m E) (t n v : Int) : Pv (writeR E t n v).1 := pv_deed hP hg ⟨2, t, n, v⟩
theorem pv_step (hP : Pv E) (hg : Wg m E) (t : Int) : Pv (stepR E t).1 := pv_deed hP hg ⟨3, t, 0, 0⟩
theorem pv_part (hP : Pv E) (hg : Wg m E) (t : Int) : Pv (partR E t).1 := pv_deed hP hg ⟨4, t, 0, 0⟩
theorem pv_join (hP : Pv E) (hg : Wg m E) (t : Int) : Pv (shutR E t true).1 := pv_deed hP hg ⟨5, t, 0, 0⟩
theorem pv_undo (hP : Pv E) (hg : Wg m E) (t : Int) : Pv (shutR E t false).1 := pv_deed hP hg ⟨6, t, 0, 0⟩
theorem pv_abort (hP : Pv E) (hg : Wg m E) (t : Int) : Pv (abortR E t).1 := pv_deed hP hg ⟨7, t, 0, 0⟩
theorem pv_make (hP : Pv E) (hg : Wg m E) (v : Int) : Pv (makeR E v).1 := pv_deed hP hg ⟨8, 0, 0, v⟩
end
theorem below_eq {w w' : World} (h : w' = w) : Below w.heap.size w w' := by subst h; exact ⟨rfl, rfl, rfl, Nat.le_refl _, fun _ _ => rfl⟩
theorem pt : PT TP where
  low := fun h b hb => by
    obtain ⟨⟨vv, tv, G, H⟩, _⟩ := h
    exact H.lt b hb
  on := fun h ho hn => by
    obtain ⟨⟨vv, tv, G, H⟩, hP⟩ := h
    exact ⟨⟨vv, tv, G, H.on ho hn⟩, hP⟩
  new := fun w => (new_c w).mono fun e w' h => by
    obtain ⟨p, F, G, h1, h2, h3, h4⟩ := h
    exact ⟨p, F, h1, ⟨⟨_, _, G, h2⟩, pv_new⟩, h3, h4⟩
  make := fun h m hg hm v _ => by
    obtain ⟨⟨vv, tv, G, H⟩, hP⟩ := h
    refine (make_c _ H hg.wf.vs (fun x hx q hq => (hg.wf.tx x hx).inp q hq) v).mono fun e w' h => ?_
    obtain ⟨h1, h2, F', ⟨vv', h3⟩, h4⟩ := h
    exact ⟨h1, h2, F', ⟨⟨vv', tv, G, h3⟩, pv_make hP hg v⟩, h4⟩
  begin_ := fun h m hg hm t _ => by
    obtain ⟨⟨vv, tv, G, H⟩, hP⟩ := h
    refine (begin_c _ H hg.wf.th t (hst hg) (hp2 hP hg hm)).mono fun e w' h => ?_
    obtain ⟨h1, h2, F', tv', G', h3, h4⟩ := h
    exact ⟨h1, h2, F', ⟨⟨vv, tv', G', h3⟩, pv_begin hP hg t⟩, h4⟩
  read := fun h m hg hm t n _ _ => by
    obtain ⟨⟨vv, tv, G, H⟩, hP⟩ := h
    refine (read_c _ H hg.wf.th t n (hst hg) (hp1 hg hm) (fun x hx => ⟨hP.un x hx, hP.pr x hx⟩) hP.lo (hrl hg hm)).mono fun e w' h => ?_
    obtain ⟨h1, h2, F', ⟨G', h3⟩, h4⟩ := h
    exact ⟨h1, h2, F', ⟨⟨vv, tv, G', h3⟩, pv_read hP hg t n⟩, h4⟩
  write := fun h m hg hm t n v _ _ _ => by
    obtain ⟨⟨vv, tv, G, H⟩, hP⟩ := h
    refine (write_c _ H hg.wf.th t n v (hst hg) (hp1 hg hm)).mono fun e w' h => ?_
    obtain ⟨h1, h2, F', G', h3, h4⟩ := h
    exact ⟨h1, h2, F', ⟨⟨vv, tv, G', h3⟩, pv_write hP hg t n v⟩, h4⟩
  part := fun h m hg hm t _ => by
    obtain ⟨⟨vv, tv, G, H⟩, hP⟩ := h
    refine (part_c _ H hg.wf.th t (hst hg) (hp2 hP hg hm)).mono fun e w' h => ?_
    obtain ⟨h1, h2, F', G', h3, h4⟩ := h
    exact ⟨h1, h2, F', ⟨⟨vv, tv, G', h3⟩, pv_part hP hg t⟩, h4⟩
  join := fun h m hg hm t _ => by
    obtain ⟨⟨vv, tv, G, H⟩, hP⟩ := h
    refine (join_c _ H hg.wf.th t (hst hg) (hp1 hg hm) hP.un (fun x hx => ⟨by have := (hg.wf.tx x hx).puts; omega, fun q hq => by have := (hg.wf.tx x hx).inp q hq; have := hg.wf.vs; omega⟩)).mono fun e w' h => ?_
    obtain ⟨h1, h2, F', ⟨G', h3⟩, h4⟩ := h
    exact ⟨h1, h2, F', ⟨⟨vv, tv, G', h3⟩, pv_join hP hg t⟩, h4⟩
  undo := fun h m hg hm t _ => by
    obtain ⟨⟨vv, tv, G, H⟩, hP⟩ := h
    refine (undo_c _ H hg.wf.th t (hst hg) (hp1 hg hm) hP.un).mono fun e w' h => ?_
    obtain ⟨h1, h2, F', ⟨G', h3⟩, h4⟩ := h
    exact ⟨h1, h2, F', ⟨⟨vv, tv, G', h3⟩, pv_undo hP hg t⟩, h4⟩
  valid := fun h m hg hm t _ => by
    obtain ⟨⟨vv, tv, G, H⟩, hP⟩ := h
    exact valid_c _ H hg.wf.th t hP.lo fun x hx => ⟨fun n hn => (hg.wf.tx x hx).inr n hn, hrl hg hm x hx⟩
  step := fun h m hg hm t _ => by
    obtain ⟨⟨vv, tv, G, H⟩, hP⟩ := h
    refine (step_c _ H hg.wf.th t (tq_all hP hg hm) (hp1 hg hm) hg.com hP.lk).mono fun e w' h => ?_
    obtain ⟨h1, h2, F', ⟨tv', G', h3⟩, h4⟩ := h
    exact ⟨h1, h2, F', ⟨⟨vv, tv', G', h3⟩, pv_step hP hg t⟩, h4⟩
  abort := fun h m hg hm t _ => by
    obtain ⟨⟨vv, tv, G, H⟩, hP⟩ := h
    refine (abort_c _ H hg.wf.th t (tq_all hP hg hm) (hp1 hg hm) hP.lk).mono fun e w' h => ?_
    obtain ⟨h1, h2, F', ⟨tv', G', h3⟩, h4⟩ := h
    exact ⟨h1, h2, F', ⟨⟨vv, tv', G', h3⟩, pv_abort hP hg t⟩, h4⟩
  active := fun h m hg hm t _ => by
    obtain ⟨⟨vv, tv, G, H⟩, hP⟩ := h
    exact (active_c _ H hg.wf.th t).mono fun e w' h => ⟨h.1, below_eq h.2⟩
  clock := fun h m hg hm => by
    obtain ⟨⟨vv, tv, G, H⟩, hP⟩ := h
    exact (clock_c _ H).mono fun e w' h => ⟨h.1, below_eq h.2⟩
  start := fun h m hg hm t _ => by
    obtain ⟨⟨vv, tv, G, H⟩, hP⟩ := h
    exact (start_c _ H hg.wf.th t).mono fun e w' h => ⟨h.1, below_eq h.2⟩
  reads := fun h m hg hm t _ => by
    obtain ⟨⟨vv, tv, G, H⟩, hP⟩ := h
    exact reads_c _ H hg.wf.th t (hrl hg hm)
  newer := fun h m hg hm n u _ _ => by
    obtain ⟨⟨vv, tv, G, H⟩, hP⟩ := h
    exact (newer_c _ H n u).mono fun e w' h => ⟨h.1, below_eq h.2⟩
  value := fun h m hg hm n _ => by
    obtain ⟨⟨vv, tv, G, H⟩, hP⟩ := h
    exact (value_c _ H n).mono fun e w' h => ⟨h.1, below_eq h.2⟩
  words := fun h m hg hm => by
    obtain ⟨⟨vv, tv, G, H⟩, hP⟩ := h
    exact words_c _ H hg.wf.th hg.wf.vs (tq_all hP hg hm) (hp1 hg hm) (h00 hg) hP (hnn hP hg hm)
  set := fun h m hg hm v ws hr hl hv => by
    obtain ⟨⟨vv, tv, G, H⟩, hP⟩ := h
    refine (set_c _ H hg.wf.th hg.wf.vs (tq_all hP hg hm) (hp1 hg hm) (h00 hg) hP (hnn hP hg hm) v ws hr hv hl).mono fun e w' h => ?_
    obtain ⟨h1, h2, E', h3, h4, h5⟩ := h
    exact ⟨h1, h2, _, E', ⟨⟨vv, tv, G, h3⟩, h4⟩, Gr.refl _ _, hv, h5⟩
end Go.Proofs.Ytjoifodjbdbicaa.QC
