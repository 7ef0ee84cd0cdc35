/- PrimsJoin: the walk. -/
import Derived.Test.YtphebogjmbaboaaDoorIE
namespace Go.Proofs.YtphebogjmbaboaaDoor.primsJoin
open Go.RowKit Go.Proofs.YtphebogjmbaboaaDoor.RG Go.Proofs.YtphebogjmbaboaaDoor.IB Go.Proofs.YtphebogjmbaboaaDoor.HZ
set_option linter.unusedVariables false
set_option maxRecDepth 100000

theorem walk (w : World) (a0 a1 : ByteArray) (hd : Sig w) :
    Calls Tryd.prog 7 #[.string a0, .string a1] w fun e w' => e = .returned (.bool true) ∧ Below w.heap.size w w' :=
  Go.Proofs.YtphebogjmbaboaaDoor.IE.ljoin_c (Go.Proofs.YtphebogjmbaboaaDoor.IC.lives_c Go.Proofs.YtphebogjmbaboaaDoor.IG.pclose_c) a0 a1 w hd
end Go.Proofs.YtphebogjmbaboaaDoor.primsJoin
