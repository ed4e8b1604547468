/- The reference: numbers of two and of four bytes. -/
import Derived.Test.YtbbjpdadickilaaBz
import Derived.Test.YtbbjpdadickilaaBo
namespace Go.Proofs.Ytbbjpdadickilaa.Wt
open Go.ChangeShapes Go.WideShapes Go.ChangeAt Go.RowKit
open Go.Proofs.Ytbbjpdadickilaa.Pl
set_option linter.unusedVariables false
set_option linter.unusedSimpArgs false
theorem split2 (n : Int) (w : World) (h0 : 0 ≤ n) (hn : n < 4294967296) :
    Calls Try.prog 22 #[.int .i64 n, .int .i64 2] w fun e w' => e = .returned (.slice (some ⟨w.heap.size, 0, none⟩) 2 2) ∧ Bys w' (.slice (some ⟨w.heap.size, 0, none⟩) 2 2) (splitL n 2) ∧ Below w.heap.size w w' :=
  (split_any n 2 w h0 hn (by omega)).mono fun e w' ⟨h1, h2, h3⟩ => ⟨h1, bys_block h2, h3⟩
theorem split4 (n : Int) (w : World) (h0 : 0 ≤ n) (hn : n < 4294967296) :
    Calls Try.prog 22 #[.int .i64 n, .int .i64 4] w fun e w' => e = .returned (.slice (some ⟨w.heap.size, 0, none⟩) 4 4) ∧ Bys w' (.slice (some ⟨w.heap.size, 0, none⟩) 4 4) (splitL n 4) ∧ Below w.heap.size w w' :=
  (split_any n 4 w h0 hn (by omega)).mono fun e w' ⟨h1, h2, h3⟩ => ⟨h1, bys_block h2, h3⟩
end Go.Proofs.Ytbbjpdadickilaa.Wt
