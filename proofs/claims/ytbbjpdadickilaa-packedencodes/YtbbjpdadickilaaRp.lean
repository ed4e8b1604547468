/- Regions that draw their order and may panic. -/
import Derived.Test.YtbbjpdadickilaaRg
namespace Go.Proofs.Ytbbjpdadickilaa.Wt
open Go
/-- Q, but for a panic X. -/
def PanicTo (X : List PanicEntry → World → Prop) (Q : Exit → Act → World → Prop) : Exit → Act → World → Prop
  | .panic c, a, w => a.defers = [] ∧ X c w
  | e, a, w => Q e a w
theorem PanicTo.normal {X : List PanicEntry → World → Prop} {Q : Exit → Act → World → Prop} {a : Act} {w : World} (h : Q .normal a w) : PanicTo X Q .normal a w := h
theorem region_anyP (X : List PanicEntry → World → Prop) (S : World → Prop) (L : Nat) {P : Program} {ops : Array Oper} {Q : Exit → Act → World → Prop} {id : Nat} {a : Act} {w : World} (hm : P.follows .mixedOrders = true)
    (hX : ∀ c a w, a.defers = [] → X c w → Q (.panic c) a w) (h : AnyL P .any ops (PanicTo X Q) S L ops.size (Array.replicate ops.size false) a w.drew) : (Code.region id ops true).wp P Q a w :=
  Code.wp_mono (fun e a w h => by
    cases e <;> first | exact h | exact hX _ _ _ h.1 h.2) (wp_region_any hm (AnyL.any _ _ _ _ h))
end Go.Proofs.Ytbbjpdadickilaa.Wt
