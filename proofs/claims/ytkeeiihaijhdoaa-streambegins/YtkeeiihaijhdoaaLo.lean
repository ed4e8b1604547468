/- What lay there lies there still. -/
import Derived.Test.YtkeeiihaijhdoaaBlk
namespace Go.Proofs.Ytkeeiihaijhdoaa.Wt
open Go.ChangeShapes Go.WideShapes Go.ChangeAt Go.RowKit
set_option linter.unusedVariables false
theorem low {w w' : World} {a : Addr} {v : Value} (h : w.cell? a = some v) (hb : Below w.heap.size w w') : w'.cell? a = some v := (hb.cell (World.block_lt_of_cell? _ _ h)).trans h
theorem lowA {w w' : World} {o : Obj} {a : Addr} {v : Value} (h : w.cell? a = some v) (hb : Below (w.alloc o).heap.size (w.alloc o) w') : w'.cell? a = some v := low (low h ((Below.refl _ _).alloc (Nat.le_refl _) o)) hb
theorem lowN {w w' : World} {c : Value} {t : TypeId} (hb : Below (w.alloc (.cells #[c] t)).heap.size (w.alloc (.cells #[c] t)) w') : w'.cell? ⟨w.heap.size, 0, none⟩ = some c := low ((Blk.made w #[c] t).cell 0 rfl) hb
end Go.Proofs.Ytkeeiihaijhdoaa.Wt
