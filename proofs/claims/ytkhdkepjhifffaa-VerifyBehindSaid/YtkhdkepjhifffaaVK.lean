/- What each of the program's rules answers. -/
import Derived.Test.YtkhdkepjhifffaaVJ
import Derived.BigQuiet
import Derived.Deep.QuietTactic
namespace Go.Proofs.Ytkhdkepjhifffaa.VK
open Go.RowKit Go.Proofs.Ytkhdkepjhifffaa.RG Go.Proofs.Ytkhdkepjhifffaa.RB Go.Proofs.Ytkhdkepjhifffaa.KA Go.Proofs.Ytkhdkepjhifffaa.KB Go.Proofs.Ytkhdkepjhifffaa.VA Go.Proofs.Ytkhdkepjhifffaa.VB Go.Proofs.Ytkhdkepjhifffaa.VE Go.Proofs.Ytkhdkepjhifffaa.VJ
set_option linter.unusedVariables false
set_option maxRecDepth 100000
set_option maxRecDepth 100000

/-- A walk is one through function n of a code. -/
structure WOk (c : Cd) (n : Nat) (f : Bd) (k : WC) (w : World) (S : Nat → Prop) : Prop where
  has : HasC w S c k.fv k.iv k.tv
  lets : k.lets = c.lets
  num : k.num = (n : Int)
  fn : c.funs[n]? = some f
  ke : k.ke = f.kept
  lo : k.lo = f.locals
  st : k.st = f.stack
  cv : RowR TN w S k.cv f.code
  N : k.N = f.code.length
theorem WOk.keep {c : Cd} {n : Nat} {f : Bd} {k : WC} {w w' : World} {S : Nat → Prop} (h : WOk c n f k w S) (hb : Below w.heap.size w w') : WOk c n f k w' S := ⟨h.has.keep hb, h.lets, h.num, h.fn, h.ke, h.lo, h.st, h.cv.keep hb, h.N⟩
def RuleRes (c : Cd) (n : Nat) (f : Bd) (i : In) (w : World) (e : Ending) (w' : World) : Prop :=
  e = .returned (.tuple #[.int .i64 (takesN i), .int .i64 (putsN i.op), .bool (rightB c n f i)]) ∧ Below w.heap.size w w'
theorem rule_of {c : Cd} {n : Nat} {f : Bd} {i : In} {w w' : World} {b : Bool} {t p : Int} (h1 : rightB c n f i = b) (h2 : takesN i = t) (h3 : putsN i.op = p) (h4 : Below w.heap.size w w') : RuleRes c n f i w (.returned (.tuple #[.int .i64 t, .int .i64 p, .bool b])) w' := by
  subst h1 h2 h3; exact ⟨rfl, h4⟩
theorem lim_lets (w : World) (p : Nat) (k : WC) (ov : Value) (hb : Bk w p (wcells k ov) 69) : Calls Try.prog 49 #[.pointer (some ⟨p, 0, none⟩)] w fun e w' => e = .returned (.int .i64 k.lets) ∧ w' = w := by
  have c0 := hb.cell 3 (.int .i64 k.lets) (by rfl)
  clear hb
  go_enter Try.func49, Try.ntmps49
  go_wp2_with fail
  go_ret
  exact ⟨rfl, rfl⟩
theorem lim_locals (w : World) (p : Nat) (k : WC) (ov : Value) (hb : Bk w p (wcells k ov) 69) : Calls Try.prog 50 #[.pointer (some ⟨p, 0, none⟩)] w fun e w' => e = .returned (.int .i64 k.lo) ∧ w' = w := by
  have c0 := hb.cell 6 (.int .i64 k.lo) (by rfl)
  clear hb
  go_enter Try.func50, Try.ntmps50
  go_wp2_with fail
  go_ret
  exact ⟨rfl, rfl⟩
theorem lim_kept (w : World) (p : Nat) (k : WC) (ov : Value) (hb : Bk w p (wcells k ov) 69) : Calls Try.prog 54 #[.pointer (some ⟨p, 0, none⟩)] w fun e w' => e = .returned (.int .i64 k.ke) ∧ w' = w := by
  have c0 := hb.cell 5 (.int .i64 k.ke) (by rfl)
  clear hb
  go_enter Try.func54, Try.ntmps54
  go_wp2_with fail
  go_ret
  exact ⟨rfl, rfl⟩
theorem lim_ints (w : World) (p : Nat) (k : WC) (ov : Value) (hb : Bk w p (wcells k ov) 69) (io : Option Addr) (NI ic : Nat) (hv : k.iv = .slice io NI ic) : Calls Try.prog 52 #[.pointer (some ⟨p, 0, none⟩)] w fun e w' => e = .returned (.int .i64 (NI : Int)) ∧ w' = w := by
  have c0 := hb.cell 1 (.slice io NI ic) (by unfold wcells; rw [hv]; rfl)
  clear hv
  clear hb
  go_enter Try.func52, Try.ntmps52
  go_wp2_with fail
  go_ret
  exact ⟨rfl, rfl⟩
theorem lim_texts (w : World) (p : Nat) (k : WC) (ov : Value) (hb : Bk w p (wcells k ov) 69) (io : Option Addr) (NI ic : Nat) (hv : k.tv = .slice io NI ic) : Calls Try.prog 53 #[.pointer (some ⟨p, 0, none⟩)] w fun e w' => e = .returned (.int .i64 (NI : Int)) ∧ w' = w := by
  have c0 := hb.cell 2 (.slice io NI ic) (by unfold wcells; rw [hv]; rfl)
  clear hv
  clear hb
  go_enter Try.func53, Try.ntmps53
  go_wp2_with fail
  go_ret
  exact ⟨rfl, rfl⟩
theorem lim_arity (w : World) (p : Nat) (k : WC) (ov : Value) (hb : Bk w p (wcells k ov) 69) : Calls Try.prog 59 #[.pointer (some ⟨p, 0, none⟩)] w fun e w' => e = .returned (.int .i64 4) ∧ w' = w := by
  clear hb
  go_enter Try.func59, Try.ntmps59
  go_wp2_with fail
  go_ret
  exact ⟨rfl, rfl⟩
theorem lim_sums (w : World) (p : Nat) (k : WC) (ov : Value) (hb : Bk w p (wcells k ov) 69) : Calls Try.prog 60 #[.pointer (some ⟨p, 0, none⟩)] w fun e w' => e = .returned (.int .i64 7) ∧ w' = w := by
  clear hb
  go_enter Try.func60, Try.ntmps60
  go_wp2_with fail
  go_ret
  exact ⟨rfl, rfl⟩
set_option maxHeartbeats 2000000 in
theorem below_lets (w : World) (p : Nat) (k : WC) (ov : Value) (hb : Bk w p (wcells k ov) 69) (op : Int) (an bn : Nat) (x y z : Nat) (t q : Int) (hx : Bk w x #[.int .i64 t] 3) (hy : Bk w y #[.int .i64 q] 3) (hz : Bk w z #[fn 49] 90) :
    Calls Try.prog 67 #[.pointer (some ⟨p, 0, none⟩), .agg #[.int .i64 op, .int .i64 (an : Int), .int .i64 (bn : Int)], .pointer (some ⟨x, 0, none⟩), .pointer (some ⟨y, 0, none⟩), .pointer (some ⟨z, 0, none⟩)] w fun e w' => e = .returned (.tuple #[.int .i64 t, .int .i64 q, .bool (decide ((an : Int) < k.lets))]) ∧ Below w.heap.size w w' := by
  have HX := Lib.hid (balloc w (.cells #[.int .i64 op, .int .i64 (an : Int), .int .i64 (bn : Int)] 45))
  have HLM := Lib.hid (fun n => lim_lets ((w.alloc (.cells #[.int .i64 op, .int .i64 (an : Int), .int .i64 (bn : Int)] 45)).drewN n) p k ov ((hb.keep HX.out).dN n))
  have x0 := (hx.keep HX.out).cell 0 (.int .i64 t) rfl
  have y0 := (hy.keep HX.out).cell 0 (.int .i64 q) rfl
  have z0 := (hz.keep HX.out).cell 0 (fn 49) rfl
  obtain ⟨R, hR⟩ : ∃ R, Hid (decide ((an : Int) < k.lets) = R) := ⟨_, Lib.hid rfl⟩
  rw [hR.out]
  clear hx hy hz hb
  cases R
  · have hc : decide ((an : Int) < k.lets) = false := hR.out
    have hd : ¬ (an : Int) < k.lets := by simpa using hc
    clear hR
    go_enter Try.func67, Try.ntmps67
    go_wp2_with fail
    go_quiet ((go_at_call 49; exact Calls.quiet_of_same (HLM.out _)))
    go_wp2_with fail
    exact bodyPost_ret (v := .tuple #[.int .i64 t, .int .i64 q, .bool false]) (by simp [results, Try.results67, go_sem]) rfl ⟨rfl, below_dN HX.out _⟩
  · have hc : decide ((an : Int) < k.lets) = true := hR.out
    have hd : (an : Int) < k.lets := by simpa using hc
    clear hR
    go_enter Try.func67, Try.ntmps67
    go_wp2_with fail
    go_quiet ((go_at_call 49; exact Calls.quiet_of_same (HLM.out _)))
    go_wp2_with fail
    exact bodyPost_ret (v := .tuple #[.int .i64 t, .int .i64 q, .bool true]) (by simp [results, Try.results67, go_sem]) rfl ⟨rfl, below_dN HX.out _⟩
set_option maxHeartbeats 2000000 in
theorem below_locals (w : World) (p : Nat) (k : WC) (ov : Value) (hb : Bk w p (wcells k ov) 69) (op : Int) (an bn : Nat) (x y z : Nat) (t q : Int) (hx : Bk w x #[.int .i64 t] 3) (hy : Bk w y #[.int .i64 q] 3) (hz : Bk w z #[fn 50] 90) :
    Calls Try.prog 67 #[.pointer (some ⟨p, 0, none⟩), .agg #[.int .i64 op, .int .i64 (an : Int), .int .i64 (bn : Int)], .pointer (some ⟨x, 0, none⟩), .pointer (some ⟨y, 0, none⟩), .pointer (some ⟨z, 0, none⟩)] w fun e w' => e = .returned (.tuple #[.int .i64 t, .int .i64 q, .bool (decide ((an : Int) < k.lo))]) ∧ Below w.heap.size w w' := by
  have HX := Lib.hid (balloc w (.cells #[.int .i64 op, .int .i64 (an : Int), .int .i64 (bn : Int)] 45))
  have HLM := Lib.hid (fun n => lim_locals ((w.alloc (.cells #[.int .i64 op, .int .i64 (an : Int), .int .i64 (bn : Int)] 45)).drewN n) p k ov ((hb.keep HX.out).dN n))
  have x0 := (hx.keep HX.out).cell 0 (.int .i64 t) rfl
  have y0 := (hy.keep HX.out).cell 0 (.int .i64 q) rfl
  have z0 := (hz.keep HX.out).cell 0 (fn 50) rfl
  obtain ⟨R, hR⟩ : ∃ R, Hid (decide ((an : Int) < k.lo) = R) := ⟨_, Lib.hid rfl⟩
  rw [hR.out]
  clear hx hy hz hb
  cases R
  · have hc : decide ((an : Int) < k.lo) = false := hR.out
    have hd : ¬ (an : Int) < k.lo := by simpa using hc
    clear hR
    go_enter Try.func67, Try.ntmps67
    go_wp2_with fail
    go_quiet ((go_at_call 50; exact Calls.quiet_of_same (HLM.out _)))
    go_wp2_with fail
    exact bodyPost_ret (v := .tuple #[.int .i64 t, .int .i64 q, .bool false]) (by simp [results, Try.results67, go_sem]) rfl ⟨rfl, below_dN HX.out _⟩
  · have hc : decide ((an : Int) < k.lo) = true := hR.out
    have hd : (an : Int) < k.lo := by simpa using hc
    clear hR
    go_enter Try.func67, Try.ntmps67
    go_wp2_with fail
    go_quiet ((go_at_call 50; exact Calls.quiet_of_same (HLM.out _)))
    go_wp2_with fail
    exact bodyPost_ret (v := .tuple #[.int .i64 t, .int .i64 q, .bool true]) (by simp [results, Try.results67, go_sem]) rfl ⟨rfl, below_dN HX.out _⟩
set_option maxHeartbeats 2000000 in
theorem below_kept (w : World) (p : Nat) (k : WC) (ov : Value) (hb : Bk w p (wcells k ov) 69) (op : Int) (an bn : Nat) (x y z : Nat) (t q : Int) (hx : Bk w x #[.int .i64 t] 3) (hy : Bk w y #[.int .i64 q] 3) (hz : Bk w z #[fn 54] 90) :
    Calls Try.prog 67 #[.pointer (some ⟨p, 0, none⟩), .agg #[.int .i64 op, .int .i64 (an : Int), .int .i64 (bn : Int)], .pointer (some ⟨x, 0, none⟩), .pointer (some ⟨y, 0, none⟩), .pointer (some ⟨z, 0, none⟩)] w fun e w' => e = .returned (.tuple #[.int .i64 t, .int .i64 q, .bool (decide ((an : Int) < k.ke))]) ∧ Below w.heap.size w w' := by
  have HX := Lib.hid (balloc w (.cells #[.int .i64 op, .int .i64 (an : Int), .int .i64 (bn : Int)] 45))
  have HLM := Lib.hid (fun n => lim_kept ((w.alloc (.cells #[.int .i64 op, .int .i64 (an : Int), .int .i64 (bn : Int)] 45)).drewN n) p k ov ((hb.keep HX.out).dN n))
  have x0 := (hx.keep HX.out).cell 0 (.int .i64 t) rfl
  have y0 := (hy.keep HX.out).cell 0 (.int .i64 q) rfl
  have z0 := (hz.keep HX.out).cell 0 (fn 54) rfl
  obtain ⟨R, hR⟩ : ∃ R, Hid (decide ((an : Int) < k.ke) = R) := ⟨_, Lib.hid rfl⟩
  rw [hR.out]
  clear hx hy hz hb
  cases R
  · have hc : decide ((an : Int) < k.ke) = false := hR.out
    have hd : ¬ (an : Int) < k.ke := by simpa using hc
    clear hR
    go_enter Try.func67, Try.ntmps67
    go_wp2_with fail
    go_quiet ((go_at_call 54; exact Calls.quiet_of_same (HLM.out _)))
    go_wp2_with fail
    exact bodyPost_ret (v := .tuple #[.int .i64 t, .int .i64 q, .bool false]) (by simp [results, Try.results67, go_sem]) rfl ⟨rfl, below_dN HX.out _⟩
  · have hc : decide ((an : Int) < k.ke) = true := hR.out
    have hd : (an : Int) < k.ke := by simpa using hc
    clear hR
    go_enter Try.func67, Try.ntmps67
    go_wp2_with fail
    go_quiet ((go_at_call 54; exact Calls.quiet_of_same (HLM.out _)))
    go_wp2_with fail
    exact bodyPost_ret (v := .tuple #[.int .i64 t, .int .i64 q, .bool true]) (by simp [results, Try.results67, go_sem]) rfl ⟨rfl, below_dN HX.out _⟩
set_option maxHeartbeats 2000000 in
theorem below_ints (w : World) (p : Nat) (k : WC) (ov : Value) (hb : Bk w p (wcells k ov) 69) (io : Option Addr) (NI ic : Nat) (hv : k.iv = .slice io NI ic) (op : Int) (an bn : Nat) (x y z : Nat) (t q : Int) (hx : Bk w x #[.int .i64 t] 3) (hy : Bk w y #[.int .i64 q] 3) (hz : Bk w z #[fn 52] 90) :
    Calls Try.prog 67 #[.pointer (some ⟨p, 0, none⟩), .agg #[.int .i64 op, .int .i64 (an : Int), .int .i64 (bn : Int)], .pointer (some ⟨x, 0, none⟩), .pointer (some ⟨y, 0, none⟩), .pointer (some ⟨z, 0, none⟩)] w fun e w' => e = .returned (.tuple #[.int .i64 t, .int .i64 q, .bool (decide ((an : Int) < (NI : Int)))]) ∧ Below w.heap.size w w' := by
  have HX := Lib.hid (balloc w (.cells #[.int .i64 op, .int .i64 (an : Int), .int .i64 (bn : Int)] 45))
  have HLM := Lib.hid (fun n => lim_ints ((w.alloc (.cells #[.int .i64 op, .int .i64 (an : Int), .int .i64 (bn : Int)] 45)).drewN n) p k ov ((hb.keep HX.out).dN n) io NI ic hv)
  have x0 := (hx.keep HX.out).cell 0 (.int .i64 t) rfl
  have y0 := (hy.keep HX.out).cell 0 (.int .i64 q) rfl
  have z0 := (hz.keep HX.out).cell 0 (fn 52) rfl
  obtain ⟨R, hR⟩ : ∃ R, Hid (decide ((an : Int) < (NI : Int)) = R) := ⟨_, Lib.hid rfl⟩
  rw [hR.out]
  clear hx hy hz hb hv
  cases R
  · have hc : decide ((an : Int) < (NI : Int)) = false := hR.out
    have hd : ¬ (an : Int) < (NI : Int) := by simpa using hc
    have hd2 : decide (an < NI) = false := by simp; omega
    have hd3 : NI ≤ an := by omega
    clear hR
    go_enter Try.func67, Try.ntmps67
    go_wp2_with fail
    go_quiet ((go_at_call 52; exact Calls.quiet_of_same (HLM.out _)))
    go_wp2_with fail
    exact bodyPost_ret (v := .tuple #[.int .i64 t, .int .i64 q, .bool false]) (by simp [results, Try.results67, go_sem]) rfl ⟨rfl, below_dN HX.out _⟩
  · have hc : decide ((an : Int) < (NI : Int)) = true := hR.out
    have hd : (an : Int) < (NI : Int) := by simpa using hc
    have hd2 : decide (an < NI) = true := by simp; omega
    have hd3 : an < NI := by omega
    clear hR
    go_enter Try.func67, Try.ntmps67
    go_wp2_with fail
    go_quiet ((go_at_call 52; exact Calls.quiet_of_same (HLM.out _)))
    go_wp2_with fail
    exact bodyPost_ret (v := .tuple #[.int .i64 t, .int .i64 q, .bool true]) (by simp [results, Try.results67, go_sem]) rfl ⟨rfl, below_dN HX.out _⟩
set_option maxHeartbeats 2000000 in
theorem below_texts (w : World) (p : Nat) (k : WC) (ov : Value) (hb : Bk w p (wcells k ov) 69) (io : Option Addr) (NI ic : Nat) (hv : k.tv = .slice io NI ic) (op : Int) (an bn : Nat) (x y z : Nat) (t q : Int) (hx : Bk w x #[.int .i64 t] 3) (hy : Bk w y #[.int .i64 q] 3) (hz : Bk w z #[fn 53] 90) :
    Calls Try.prog 67 #[.pointer (some ⟨p, 0, none⟩), .agg #[.int .i64 op, .int .i64 (an : Int), .int .i64 (bn : Int)], .pointer (some ⟨x, 0, none⟩), .pointer (some ⟨y, 0, none⟩), .pointer (some ⟨z, 0, none⟩)] w fun e w' => e = .returned (.tuple #[.int .i64 t, .int .i64 q, .bool (decide ((an : Int) < (NI : Int)))]) ∧ Below w.heap.size w w' := by
  have HX := Lib.hid (balloc w (.cells #[.int .i64 op, .int .i64 (an : Int), .int .i64 (bn : Int)] 45))
  have HLM := Lib.hid (fun n => lim_texts ((w.alloc (.cells #[.int .i64 op, .int .i64 (an : Int), .int .i64 (bn : Int)] 45)).drewN n) p k ov ((hb.keep HX.out).dN n) io NI ic hv)
  have x0 := (hx.keep HX.out).cell 0 (.int .i64 t) rfl
  have y0 := (hy.keep HX.out).cell 0 (.int .i64 q) rfl
  have z0 := (hz.keep HX.out).cell 0 (fn 53) rfl
  obtain ⟨R, hR⟩ : ∃ R, Hid (decide ((an : Int) < (NI : Int)) = R) := ⟨_, Lib.hid rfl⟩
  rw [hR.out]
  clear hx hy hz hb hv
  cases R
  · have hc : decide ((an : Int) < (NI : Int)) = false := hR.out
    have hd : ¬ (an : Int) < (NI : Int) := by simpa using hc
    have hd2 : decide (an < NI) = false := by simp; omega
    have hd3 : NI ≤ an := by omega
    clear hR
    go_enter Try.func67, Try.ntmps67
    go_wp2_with fail
    go_quiet ((go_at_call 53; exact Calls.quiet_of_same (HLM.out _)))
    go_wp2_with fail
    exact bodyPost_ret (v := .tuple #[.int .i64 t, .int .i64 q, .bool false]) (by simp [results, Try.results67, go_sem]) rfl ⟨rfl, below_dN HX.out _⟩
  · have hc : decide ((an : Int) < (NI : Int)) = true := hR.out
    have hd : (an : Int) < (NI : Int) := by simpa using hc
    have hd2 : decide (an < NI) = true := by simp; omega
    have hd3 : an < NI := by omega
    clear hR
    go_enter Try.func67, Try.ntmps67
    go_wp2_with fail
    go_quiet ((go_at_call 53; exact Calls.quiet_of_same (HLM.out _)))
    go_wp2_with fail
    exact bodyPost_ret (v := .tuple #[.int .i64 t, .int .i64 q, .bool true]) (by simp [results, Try.results67, go_sem]) rfl ⟨rfl, below_dN HX.out _⟩
set_option maxHeartbeats 2000000 in
theorem below_arity (w : World) (p : Nat) (k : WC) (ov : Value) (hb : Bk w p (wcells k ov) 69) (op : Int) (an bn : Nat) (x y z : Nat) (t q : Int) (hx : Bk w x #[.int .i64 t] 3) (hy : Bk w y #[.int .i64 q] 3) (hz : Bk w z #[fn 59] 90) :
    Calls Try.prog 67 #[.pointer (some ⟨p, 0, none⟩), .agg #[.int .i64 op, .int .i64 (an : Int), .int .i64 (bn : Int)], .pointer (some ⟨x, 0, none⟩), .pointer (some ⟨y, 0, none⟩), .pointer (some ⟨z, 0, none⟩)] w fun e w' => e = .returned (.tuple #[.int .i64 t, .int .i64 q, .bool (decide ((an : Int) < 4))]) ∧ Below w.heap.size w w' := by
  have HX := Lib.hid (balloc w (.cells #[.int .i64 op, .int .i64 (an : Int), .int .i64 (bn : Int)] 45))
  have HLM := Lib.hid (fun n => lim_arity ((w.alloc (.cells #[.int .i64 op, .int .i64 (an : Int), .int .i64 (bn : Int)] 45)).drewN n) p k ov ((hb.keep HX.out).dN n))
  have x0 := (hx.keep HX.out).cell 0 (.int .i64 t) rfl
  have y0 := (hy.keep HX.out).cell 0 (.int .i64 q) rfl
  have z0 := (hz.keep HX.out).cell 0 (fn 59) rfl
  obtain ⟨R, hR⟩ : ∃ R, Hid (decide ((an : Int) < 4) = R) := ⟨_, Lib.hid rfl⟩
  rw [hR.out]
  clear hx hy hz hb
  cases R
  · have hc : decide ((an : Int) < 4) = false := hR.out
    have hd : ¬ (an : Int) < 4 := by simpa using hc
    clear hR
    go_enter Try.func67, Try.ntmps67
    go_wp2_with fail
    go_quiet ((go_at_call 59; exact Calls.quiet_of_same (HLM.out _)))
    go_wp2_with fail
    exact bodyPost_ret (v := .tuple #[.int .i64 t, .int .i64 q, .bool false]) (by simp [results, Try.results67, go_sem]) rfl ⟨rfl, below_dN HX.out _⟩
  · have hc : decide ((an : Int) < 4) = true := hR.out
    have hd : (an : Int) < 4 := by simpa using hc
    clear hR
    go_enter Try.func67, Try.ntmps67
    go_wp2_with fail
    go_quiet ((go_at_call 59; exact Calls.quiet_of_same (HLM.out _)))
    go_wp2_with fail
    exact bodyPost_ret (v := .tuple #[.int .i64 t, .int .i64 q, .bool true]) (by simp [results, Try.results67, go_sem]) rfl ⟨rfl, below_dN HX.out _⟩
set_option maxHeartbeats 2000000 in
theorem below_sums (w : World) (p : Nat) (k : WC) (ov : Value) (hb : Bk w p (wcells k ov) 69) (op : Int) (an bn : Nat) (x y z : Nat) (t q : Int) (hx : Bk w x #[.int .i64 t] 3) (hy : Bk w y #[.int .i64 q] 3) (hz : Bk w z #[fn 60] 90) :
    Calls Try.prog 67 #[.pointer (some ⟨p, 0, none⟩), .agg #[.int .i64 op, .int .i64 (an : Int), .int .i64 (bn : Int)], .pointer (some ⟨x, 0, none⟩), .pointer (some ⟨y, 0, none⟩), .pointer (some ⟨z, 0, none⟩)] w fun e w' => e = .returned (.tuple #[.int .i64 t, .int .i64 q, .bool (decide ((an : Int) < 7))]) ∧ Below w.heap.size w w' := by
  have HX := Lib.hid (balloc w (.cells #[.int .i64 op, .int .i64 (an : Int), .int .i64 (bn : Int)] 45))
  have HLM := Lib.hid (fun n => lim_sums ((w.alloc (.cells #[.int .i64 op, .int .i64 (an : Int), .int .i64 (bn : Int)] 45)).drewN n) p k ov ((hb.keep HX.out).dN n))
  have x0 := (hx.keep HX.out).cell 0 (.int .i64 t) rfl
  have y0 := (hy.keep HX.out).cell 0 (.int .i64 q) rfl
  have z0 := (hz.keep HX.out).cell 0 (fn 60) rfl
  obtain ⟨R, hR⟩ : ∃ R, Hid (decide ((an : Int) < 7) = R) := ⟨_, Lib.hid rfl⟩
  rw [hR.out]
  clear hx hy hz hb
  cases R
  · have hc : decide ((an : Int) < 7) = false := hR.out
    have hd : ¬ (an : Int) < 7 := by simpa using hc
    clear hR
    go_enter Try.func67, Try.ntmps67
    go_wp2_with fail
    go_quiet ((go_at_call 60; exact Calls.quiet_of_same (HLM.out _)))
    go_wp2_with fail
    exact bodyPost_ret (v := .tuple #[.int .i64 t, .int .i64 q, .bool false]) (by simp [results, Try.results67, go_sem]) rfl ⟨rfl, below_dN HX.out _⟩
  · have hc : decide ((an : Int) < 7) = true := hR.out
    have hd : (an : Int) < 7 := by simpa using hc
    clear hR
    go_enter Try.func67, Try.ntmps67
    go_wp2_with fail
    go_quiet ((go_at_call 60; exact Calls.quiet_of_same (HLM.out _)))
    go_wp2_with fail
    exact bodyPost_ret (v := .tuple #[.int .i64 t, .int .i64 q, .bool true]) (by simp [results, Try.results67, go_sem]) rfl ⟨rfl, below_dN HX.out _⟩
theorem plain1_c (w : World) (p : Nat) (op : Int) (an bn : Nat) (x y : Nat) (t q : Int) (hx : Bk w x #[.int .i64 t] 3) (hy : Bk w y #[.int .i64 q] 3) :
    Calls Try.prog 68 #[.pointer (some ⟨p, 0, none⟩), .agg #[.int .i64 op, .int .i64 (an : Int), .int .i64 (bn : Int)], .pointer (some ⟨x, 0, none⟩), .pointer (some ⟨y, 0, none⟩)] w fun e w' => e = .returned (.tuple #[.int .i64 t, .int .i64 q, .bool true]) ∧ Below w.heap.size w w' := by
  have HX := Lib.hid (balloc w (.cells #[.int .i64 op, .int .i64 (an : Int), .int .i64 (bn : Int)] 45))
  have x0 := (hx.keep HX.out).cell 0 (.int .i64 t) rfl
  have y0 := (hy.keep HX.out).cell 0 (.int .i64 q) rfl
  clear hx hy
  go_enter Try.func68, Try.ntmps68
  go_wp2_with fail
  go_quiet (fail)
  go_wp2_with fail
  exact bodyPost_ret (v := .tuple #[.int .i64 t, .int .i64 q, .bool true]) (by simp [results, Try.results68, go_sem]) rfl ⟨rfl, below_dN HX.out _⟩
theorem self_c (c : Cd) (n : Nat) (f : Bd) (w : World) (p : Nat) (k : WC) (ov : Value) (hb : Bk w p (wcells k ov) 69) (hn : k.num = (n : Int)) (an bn : Nat) :
    Calls Try.prog 55 #[.pointer (some ⟨p, 0, none⟩), .agg #[.int .i64 5, .int .i64 (an : Int), .int .i64 (bn : Int)]] w (RuleRes c n f ⟨5, an, bn⟩ w) := by
  have HX := Lib.hid (balloc w (.cells #[.int .i64 5, .int .i64 (an : Int), .int .i64 (bn : Int)] 45))
  have c0 := (hb.keep HX.out).cell 4 (.int .i64 (n : Int)) (by unfold wcells; rw [hn]; rfl)
  clear hb hn
  by_cases hz : n = 0
  · have t0 : ((n : Int) != 0) = false := by simp [hz]
    have HR : Hid (rightB c n f ⟨5, an, bn⟩ = false) := Lib.hid (by simp [rightB, hz])
    clear hz
    go_enter Try.func55, Try.ntmps55
    go_wp2_with fail
    go_quiet (fail)
    go_wp2_with fail
    exact bodyPost_ret (v := .tuple #[.int .i64 0, .int .i64 1, .bool false]) (by simp [results, Try.results55, go_sem]) rfl (rule_of HR.out (by simp [takesN]) (by simp [putsN]) (below_dN HX.out _))
  · have t0 : ((n : Int) != 0) = true := by simp [hz]
    have HR : Hid (rightB c n f ⟨5, an, bn⟩ = true) := Lib.hid (by simp [rightB, hz])
    clear hz
    go_enter Try.func55, Try.ntmps55
    go_wp2_with fail
    go_quiet (fail)
    go_wp2_with fail
    exact bodyPost_ret (v := .tuple #[.int .i64 0, .int .i64 1, .bool true]) (by simp [results, Try.results55, go_sem]) rfl (rule_of HR.out (by simp [takesN]) (by simp [putsN]) (below_dN HX.out _))
theorem block_c (c : Cd) (n : Nat) (f : Bd) (w : World) (p : Nat) (an bn : Nat) :
    Calls Try.prog 57 #[.pointer (some ⟨p, 0, none⟩), .agg #[.int .i64 10, .int .i64 (an : Int), .int .i64 (bn : Int)]] w (RuleRes c n f ⟨10, an, bn⟩ w) := by
  have HX := Lib.hid (balloc w (.cells #[.int .i64 10, .int .i64 (an : Int), .int .i64 (bn : Int)] 45))
  by_cases ha : (an : Int) ≤ 199
  · have ga : decide ((an : Int) ≤ 199) = true := by simpa using ha
    by_cases hb : (1 : Int) ≤ (bn : Int)
    · have gb : decide ((1 : Int) ≤ (bn : Int)) = true := by simpa using hb
      by_cases hc : (bn : Int) ≤ 4
      · have gc : decide ((bn : Int) ≤ 4) = true := by simpa using hc
        have HR : Hid (rightB c n f ⟨10, an, bn⟩ = true) := Lib.hid (by simp [rightB]; omega)
        go_enter Try.func57, Try.ntmps57
        go_wp2_with fail
        go_quiet (fail)
        go_wp2_with fail
        exact bodyPost_ret (v := .tuple #[.int .i64 (bn : Int), .int .i64 1, .bool true]) (by simp [results, Try.results57, go_sem]) rfl (rule_of HR.out (by simp [takesN]) (by simp [putsN]) (below_dN HX.out _))
      · have gc : decide ((bn : Int) ≤ 4) = false := by simpa using hc
        have HR : Hid (rightB c n f ⟨10, an, bn⟩ = false) := Lib.hid (by simp [rightB]; omega)
        go_enter Try.func57, Try.ntmps57
        go_wp2_with fail
        go_quiet (fail)
        go_wp2_with fail
        exact bodyPost_ret (v := .tuple #[.int .i64 (bn : Int), .int .i64 1, .bool false]) (by simp [results, Try.results57, go_sem]) rfl (rule_of HR.out (by simp [takesN]) (by simp [putsN]) (below_dN HX.out _))
    · have gb : decide ((1 : Int) ≤ (bn : Int)) = false := by simpa using hb
      have HR : Hid (rightB c n f ⟨10, an, bn⟩ = false) := Lib.hid (by simp [rightB]; omega)
      go_enter Try.func57, Try.ntmps57
      go_wp2_with fail
      go_quiet (fail)
      go_wp2_with fail
      exact bodyPost_ret (v := .tuple #[.int .i64 (bn : Int), .int .i64 1, .bool false]) (by simp [results, Try.results57, go_sem]) rfl (rule_of HR.out (by simp [takesN]) (by simp [putsN]) (below_dN HX.out _))
  · have ga : decide ((an : Int) ≤ 199) = false := by simpa using ha
    have HR : Hid (rightB c n f ⟨10, an, bn⟩ = false) := Lib.hid (by simp [rightB]; omega)
    go_enter Try.func57, Try.ntmps57
    go_wp2_with fail
    go_quiet (fail)
    go_wp2_with fail
    exact bodyPost_ret (v := .tuple #[.int .i64 (bn : Int), .int .i64 1, .bool false]) (by simp [results, Try.results57, go_sem]) rfl (rule_of HR.out (by simp [takesN]) (by simp [putsN]) (below_dN HX.out _))
set_option maxHeartbeats 4000000 in
theorem closure_c (c : Cd) (n : Nat) (f : Bd) (w : World) (S : Nat → Prop) (p : Nat) (k : WC) (ov : Value) (hb : Bk w p (wcells k ov) 69) (hw : WOk c n f k w S) (an bn : Nat) :
    Calls Try.prog 58 #[.pointer (some ⟨p, 0, none⟩), .agg #[.int .i64 11, .int .i64 (an : Int), .int .i64 (bn : Int)]] w (RuleRes c n f ⟨11, an, bn⟩ w) := by
  have HX := Lib.hid (balloc w (.cells #[.int .i64 11, .int .i64 (an : Int), .int .i64 (bn : Int)] 45))
  have hn := (List.getElem?_eq_some_iff.1 hw.fn).1
  obtain ⟨fb, fo, fc, hfv, _, hfb, hcell⟩ := hw.has.funs.open_ (by intro e; rw [e] at hn; simp at hn)
  obtain ⟨NF, hNF⟩ : ∃ x, Hid (c.funs.length = x) := ⟨_, Lib.hid rfl⟩
  rw [hNF.out] at hfv
  have c0 := (hb.keep HX.out).cell 0 (.slice (some ⟨fb, fo, none⟩) NF fc) (by unfold wcells; rw [hfv]; rfl)
  have HCL := Lib.hid hcell
  have HFB := Lib.hid hfb
  clear hb hw hn hfv hcell hfb
  by_cases ha : (0 : Int) < (an : Int)
  · have ga : decide ((0 : Int) < (an : Int)) = true := by simpa using ha
    have ga2 : 0 < an := by omega
    by_cases hb : (an : Int) < (NF : Int)
    · have gb2 : an < NF := by omega
      have gb : decide (an < NF) = true := by simpa using gb2
      obtain ⟨g, hg⟩ := getElem?_of_lt (l := c.funs) (k := an) (by rw [hNF.out]; exact gb2)
      obtain ⟨q2, hL2, _⟩ := HCL.out an g hg
      have hM2 := hL2.keep HX.out HFB.out
      obtain ⟨GK, hGK⟩ : ∃ x, Hid (g.kept = x) := ⟨_, Lib.hid rfl⟩
      have w0 : (w.alloc (.cells #[.int .i64 11, .int .i64 (an : Int), .int .i64 (bn : Int)] 45)).cell? ⟨fb, fo + an * 4, none⟩ = some (.int .i64 GK) := by rw [← hGK.out]; exact hM2 0 _ rfl
      have i3 : (0 : Int) ≤ (an : Int) := by omega
      have HG := Lib.hid hg
      clear hL2 hM2 hg
      by_cases hc : (bn : Int) = GK
      · have HR : Hid (rightB c n f ⟨11, an, bn⟩ = true) := Lib.hid (by simp [rightB, HG.out, hGK.out, hNF.out, ← hc]; omega)
        have t0 : ((bn : Int) == GK) = true := by simpa using hc
        clear hc
        go_enter Try.func58, Try.ntmps58
        go_wp2_with fail
        go_quiet (fail)
        go_wp2_with fail
        exact bodyPost_ret (v := .tuple #[.int .i64 (bn : Int), .int .i64 1, .bool true]) (by simp [results, Try.results58, go_sem]) rfl (rule_of HR.out (by simp [takesN]) (by simp [putsN]) (below_dN HX.out _))
      · have HR : Hid (rightB c n f ⟨11, an, bn⟩ = false) := Lib.hid (by simp [rightB, HG.out, hGK.out]; intro _ _ e; exact hc e.symm)
        have t0 : ((bn : Int) == GK) = false := by simpa using hc
        clear hc
        go_enter Try.func58, Try.ntmps58
        go_wp2_with fail
        go_quiet (fail)
        go_wp2_with fail
        exact bodyPost_ret (v := .tuple #[.int .i64 (bn : Int), .int .i64 1, .bool false]) (by simp [results, Try.results58, go_sem]) rfl (rule_of HR.out (by simp [takesN]) (by simp [putsN]) (below_dN HX.out _))
    · have gb2 : NF ≤ an := by omega
      have gb3 : decide (an < NF) = false := by simp; omega
      have HR : Hid (rightB c n f ⟨11, an, bn⟩ = false) := Lib.hid (by simp [rightB]; intro h1 h2; rw [hNF.out] at h2; omega)
      go_enter Try.func58, Try.ntmps58
      go_wp2_with fail
      go_quiet (fail)
      go_wp2_with fail
      exact bodyPost_ret (v := .tuple #[.int .i64 (bn : Int), .int .i64 1, .bool false]) (by simp [results, Try.results58, go_sem]) rfl (rule_of HR.out (by simp [takesN]) (by simp [putsN]) (below_dN HX.out _))
  · have ga : decide ((0 : Int) < (an : Int)) = false := by simpa using ha
    have ga2 : ¬ 0 < an := by omega
    have HR : Hid (rightB c n f ⟨11, an, bn⟩ = false) := Lib.hid (by simp [rightB]; intro h1 h2; omega)
    go_enter Try.func58, Try.ntmps58
    go_wp2_with fail
    go_quiet (fail)
    go_wp2_with fail
    exact bodyPost_ret (v := .tuple #[.int .i64 (bn : Int), .int .i64 1, .bool false]) (by simp [results, Try.results58, go_sem]) rfl (rule_of HR.out (by simp [takesN]) (by simp [putsN]) (below_dN HX.out _))
end Go.Proofs.Ytkhdkepjhifffaa.VK
