/- PrimsKeep: the walk. -/
import Derived.Test.YtphebogjmbaboaaDoorIS
namespace Go.Proofs.YtphebogjmbaboaaDoor.primsKeep
open Go.RowKit Go.Proofs.YtphebogjmbaboaaDoor.RG Go.Proofs.YtphebogjmbaboaaDoor.IB Go.Proofs.YtphebogjmbaboaaDoor.HZ
set_option linter.unusedVariables false
set_option maxRecDepth 100000

theorem walk (w : World) (a0 a1 : ByteArray) (n : Int) (hn0 : -9223372036854775808 ≤ n) (hn1 : n ≤ 9223372036854775807) (hd : Sig w) :
    Calls Tryd.prog 6 #[.string a0, .string a1, .int .i64 n] w fun e w' => e = .returned (.bool true) ∧ Below w.heap.size w w' :=
  Go.Proofs.YtphebogjmbaboaaDoor.IS.lkeep_c (Go.Proofs.YtphebogjmbaboaaDoor.IC.lives_c Go.Proofs.YtphebogjmbaboaaDoor.IG.pclose_c) a0 a1 n hn0 hn1 w hd
end Go.Proofs.YtphebogjmbaboaaDoor.primsKeep
