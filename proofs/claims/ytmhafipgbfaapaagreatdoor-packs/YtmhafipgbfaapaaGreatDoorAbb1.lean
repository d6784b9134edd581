import Derived.Conc.WgGenW
set_option linter.unusedVariables false
namespace Go.Proofs
theorem Y0 {p:Prop}(h:p:=by k_ne):p:=h
end Go.Proofs

