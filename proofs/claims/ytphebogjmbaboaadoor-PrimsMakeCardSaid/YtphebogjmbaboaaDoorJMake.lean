/- PrimsMake: the walk. -/
import Derived.Test.YtphebogjmbaboaaDoorIH
namespace Go.Proofs.YtphebogjmbaboaaDoor.primsMake
open Go.RowKit Go.Proofs.YtphebogjmbaboaaDoor.RG Go.Proofs.YtphebogjmbaboaaDoor.IB Go.Proofs.YtphebogjmbaboaaDoor.HZ Go.Proofs.YtphebogjmbaboaaDoor.PD
set_option linter.unusedVariables false
set_option maxRecDepth 100000

theorem walk (w : World) (v : Value) (L : List Dd) (h : RowR TDd w (fun _ => True) v L) (hz : ∀ d, d ∈ L → okD d) (hd : Sig w) :
    Calls Tryd.prog 3 #[v] w fun e w' => e = .returned (.bool true) ∧ Below w.heap.size w w' :=
  Go.Proofs.YtphebogjmbaboaaDoor.IH.lmake_c (Go.Proofs.YtphebogjmbaboaaDoor.IC.lives_c Go.Proofs.YtphebogjmbaboaaDoor.IG.pclose_c) w v L h hz hd
end Go.Proofs.YtphebogjmbaboaaDoor.primsMake
