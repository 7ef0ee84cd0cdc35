/- PrimsTold: the walk. -/
import Derived.Test.YtphebogjmbaboaaDoorII
namespace Go.Proofs.YtphebogjmbaboaaDoor.primsTold
open Go.RowKit Go.Proofs.YtphebogjmbaboaaDoor.RG Go.Proofs.YtphebogjmbaboaaDoor.IB Go.Proofs.YtphebogjmbaboaaDoor.HZ Go.Proofs.YtphebogjmbaboaaDoor.PD
set_option linter.unusedVariables false
set_option maxRecDepth 100000

theorem walk (w : World) (v : Value) (L : List Dd) (h : RowR TDd w (fun _ => True) v L) (hz : ∀ d, d ∈ L → okD d) (z : Int) (hz0 : -9223372036854775808 ≤ z) (hz1 : z ≤ 9223372036854775807) (hd : Sig w) :
    Calls Tryd.prog 4 #[v, .int .i64 z] w fun e w' => e = .returned (.bool true) ∧ Below w.heap.size w w' :=
  Go.Proofs.YtphebogjmbaboaaDoor.II.ltold_c (Go.Proofs.YtphebogjmbaboaaDoor.IC.lives_c Go.Proofs.YtphebogjmbaboaaDoor.IG.pclose_c) w v L h hz z hz0 hz1 hd
end Go.Proofs.YtphebogjmbaboaaDoor.primsTold
