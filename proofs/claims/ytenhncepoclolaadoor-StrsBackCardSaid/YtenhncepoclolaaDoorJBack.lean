/- StrsBack: the walk. -/
import Derived.Test.YtenhncepoclolaaDoorL
import Derived.Test.YtenhncepoclolaaDoorD
import Derived.Test.YtenhncepoclolaaDoorB
namespace Go.Proofs.YtenhncepoclolaaDoor.strsBack
open Go.RowKit Go.Maps
open Go.Proofs.YtenhncepoclolaaDoor.P Go.Proofs.YtenhncepoclolaaDoor.A Go.Proofs.YtenhncepoclolaaDoor.E Go.Proofs.YtenhncepoclolaaDoor.V Go.Proofs.YtenhncepoclolaaDoor.L Go.Proofs.YtenhncepoclolaaDoor.D Go.Proofs.YtenhncepoclolaaDoor.Q Go.Proofs.YtenhncepoclolaaDoor.B
set_option linter.unusedVariables false

theorem core (t r : ByteArray) (ht : t.size ≤ 60) (hr : r.size ≤ 150) (q : ByteArray) (hq : q.data.toList = quoteL t.data.toList) : uv (unq (q ++ r).data.toList) = .tuple #[.string t, .int .i64 (q.size : Int), .int .i64 0] ∧ q.size + r.size ≤ 1000 := by
  have e : (q ++ r).data.toList = quoteL t.data.toList ++ r.data.toList := by rw [← hq]; simp
  have hl : t.data.toList.length ≤ 60 := by simpa using ht
  have hs : (quoteL t.data.toList).length = q.size := by rw [← hq]; simp
  have := quote_len t.data.toList
  rw [e, unq_quote _ _ hl, hs]
  refine ⟨?_, by omega⟩
  have : (⟨t.data.toList.toArray⟩ : ByteArray) = t := by apply ByteArray.ext; simp
  show Value.tuple #[.string ⟨t.data.toList.toArray⟩, _, _] = _
  rw [this]; rfl

theorem arms (t a1 : ByteArray) (ht : t.size ≤ 60) (w : World) (hd : Dig w) :
    Calls Tryd.prog 20 #[.string t] w fun e w' => (∃ q : ByteArray, q.data.toList = quoteL t.data.toList ∧ e = .returned (.string q)) ∧ Below w.heap.size w w' := by
  refine (quote_any t w (by omega) hd).mono ?_
  rintro e w' ⟨rfl, hb⟩
  exact ⟨⟨_, rfl, rfl⟩, hb⟩

theorem walk (w : World) (a0 : ByteArray) (w0 : a0.size ≤ maxLen) (a1 : ByteArray) (w1 : a1.size ≤ maxLen) (hd : Dig w) :
    Calls Tryd.prog 9 #[.string a0, .string a1] w fun e w' => e = .returned (.bool true) ∧ Below w.heap.size w w' := by
  by_cases h60 : a0.size ≤ 60
  · go_enter Tryd.func9, Tryd.ntmps9
    go_wp2_with (first
      | (go_at_call 20; refine (arms a0 a1 h60 _ hd).mono ?_; rintro e w1 ⟨⟨q, hq, rfl⟩, hb1⟩)
      | (go_at_call 12; refine (few_any a1 _).mono ?_; rintro e w2 ⟨⟨r, hr, rfl⟩, rfl⟩; obtain ⟨hu, hqs⟩ := core a0 r h60 hr q hq)
      | (go_at_call 22; go_loud (refine (unquote_any (q ++ r) _ (by simp; omega) (hd.below hb1)).mono ?_; rw [hu]); rintro e w3 ⟨rfl, hb3⟩)
      | (go_at_call 16; refine (lives_any _ (hd.next hb1 hb3)).mono ?_; rintro e w4 ⟨rfl, hb4⟩))
    go_ret
    exact ⟨rfl, bnext (bnext hb1 hb3) hb4⟩
  · have hx : (a0.extract 0 60).size ≤ 60 := by simp; omega
    go_enter Tryd.func9, Tryd.ntmps9
    go_wp2_with (first
      | (go_at_call 20; refine (arms (a0.extract 0 60) a1 hx _ hd).mono ?_; rintro e w1 ⟨⟨q, hq, rfl⟩, hb1⟩)
      | (go_at_call 12; refine (few_any a1 _).mono ?_; rintro e w2 ⟨⟨r, hr, rfl⟩, rfl⟩; obtain ⟨hu, hqs⟩ := core (a0.extract 0 60) r hx hr q hq)
      | (go_at_call 22; go_loud (refine (unquote_any (q ++ r) _ (by simp; omega) (hd.below hb1)).mono ?_; rw [hu]); rintro e w3 ⟨rfl, hb3⟩)
      | (go_at_call 16; refine (lives_any _ (hd.next hb1 hb3)).mono ?_; rintro e w4 ⟨rfl, hb4⟩))
    go_ret
    exact ⟨rfl, bnext (bnext hb1 hb3) hb4⟩

end Go.Proofs.YtenhncepoclolaaDoor.strsBack
