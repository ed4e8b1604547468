/- What the keeping statements' 'picked' answers: a number brought into bounds. -/
import Derived.Test.YtljpbkkofalinaaDoorRows
import Derived.Test.YtljpbkkofalinaaDoorPlain
import Derived.WalkKit
import Derived.ProofKit
import Derived.OpenShut
namespace Go.Proofs.YtljpbkkofalinaaDoor.Wt
open Go.ChangeShapes Go.WideShapes Go.ChangeAt Go.RowKit
open Go.Proofs.YtljpbkkofalinaaDoor.Pl
set_option linter.unusedVariables false

def pk (n many : Int) : Int := (if n < 0 then -(n + 1) else n) % many
theorem pk_bd (n many : Int) (h : 0 < many) : 0 ≤ pk n many ∧ pk n many < many := by
  unfold pk
  exact ⟨Int.emod_nonneg _ (by omega), Int.emod_lt_of_pos _ h⟩
theorem picked_any (n many : Int) (w : World) (hn : (Lit.int .i64 n).wf = true) (hm : 0 < many) (hm2 : many ≤ 9223372036854775807) :
    Calls Tryd.prog 24 #[.int .i64 n, .int .i64 many] w fun e w' => e = .returned (.int .i64 (pk n many)) ∧ w = w' := by
  obtain ⟨b1, b2⟩ := bounds_i64 hn
  clear hn
  by_cases h : n < 0
  · have HP : Hid (pk n many = (-(n + 1)) % many) := by show _ = _; simp [pk, h]
    go_enter Tryd.func24, Tryd.ntmps24
    go_wp2
    go_ret
    exact ⟨ret_int (by rw [HP.out, ← Int.neg_tmod, Int.tmod_eq_emod_of_nonneg (by omega)]), rfl⟩
  · have HP : Hid (pk n many = n % many) := by show _ = _; simp [pk, h]
    go_enter Tryd.func24, Tryd.ntmps24
    go_wp2
    go_ret
    exact ⟨ret_int (by rw [HP.out]), rfl⟩

end Go.Proofs.YtljpbkkofalinaaDoor.Wt
