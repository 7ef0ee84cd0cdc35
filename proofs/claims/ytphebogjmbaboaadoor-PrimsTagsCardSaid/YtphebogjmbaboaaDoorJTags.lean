/- PrimsTags: the walk. -/
import Derived.Test.YtphebogjmbaboaaDoorIC
namespace Go.Proofs.YtphebogjmbaboaaDoor.primsTags
open Go.RowKit Go.Proofs.YtphebogjmbaboaaDoor.RG Go.Proofs.YtphebogjmbaboaaDoor.IB Go.Proofs.YtphebogjmbaboaaDoor.HZ
set_option linter.unusedVariables false
set_option maxRecDepth 100000

theorem walk (w : World) (n0 : Int) (l0 : -9223372036854775808 ≤ n0) (u0 : n0 ≤ 9223372036854775807) (n1 : Int) (l1 : -9223372036854775808 ≤ n1) (u1 : n1 ≤ 9223372036854775807) (n2 : Int) (l2 : -9223372036854775808 ≤ n2) (u2 : n2 ≤ 9223372036854775807) (hd : Sig w) :
    Calls Tryd.prog 8 #[.int .i64 n0, .int .i64 n1, .int .i64 n2] w fun e w' => e = .returned (.bool true) ∧ Below w.heap.size w w' :=
  ltags_c (Go.Proofs.YtphebogjmbaboaaDoor.IC.lives_c Go.Proofs.YtphebogjmbaboaaDoor.IG.pclose_c) n0 n1 n2 w l1 u1 l2 u2 hd
end Go.Proofs.YtphebogjmbaboaaDoor.primsTags
