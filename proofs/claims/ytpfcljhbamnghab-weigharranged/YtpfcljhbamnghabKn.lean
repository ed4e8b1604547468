/- Arranged, merged, trimmed: what the program answers of a machine that is right. -/
import Derived.Test.YtpfcljhbamnghabJ12q
import Derived.Test.YtpfcljhbamnghabJ12m
import Derived.Test.YtpfcljhbamnghabJ12o
import Derived.Test.YtpfcljhbamnghabRn
import Derived.Test.YtpfcljhbamnghabJ12s
namespace Go.Proofs.Ytpfcljhbamnghab.Wt
open Go.ChangeShapes Go.WideShapes Go.ChangeAt Go.RowKit
open Go.Proofs.Ytpfcljhbamnghab.Pl
set_option linter.unusedVariables false
theorem sortedK_any (v : Value) (m : Mc) (w : World) (h : Mach w v m) (hok : okM m) (hf : faultM m = 0) : Calls Try.prog 17 #[v] w fun e w' => RatRes (mapM (sortS false) m) 0 w e w' :=
  (sorted_any v m w h hok 0 hf).mono fun e w' ⟨v', he, hm, hb⟩ => ⟨v', he, hm.mach, hb⟩
theorem byOutK_any (v : Value) (m : Mc) (w : World) (h : Mach w v m) (hok : okM m) (hf : faultM m = 0) : Calls Try.prog 18 #[v] w fun e w' => RatRes (mapM (sortS true) m) 0 w e w' :=
  (byOut_any v m w h hok 0 hf).mono fun e w' ⟨v', he, hm, hb⟩ => ⟨v', he, hm.mach, hb⟩
theorem mergedK_any (v : Value) (m : Mc) (w : World) (h : Mach w v m) (hok : okM m) (hf : faultM m = 0) : Calls Try.prog 19 #[v] w fun e w' => RatRes (mapM (fun l => lightL (sortS false l)) m) 0 w e w' :=
  (merged_any v m w h hok 0 hf).mono fun e w' ⟨v', he, hm, hb⟩ => ⟨v', he, hm.mach, hb⟩
theorem trimK_any (v : Value) (m : Mc) (w : World) (h : Mach w v m) (hok : okM m) (hf : faultM m = 0) (hc : CheapL m.2) : Calls Try.prog 20 #[v] w fun e w' => ∃ T : Mc, (faultM T = 0 ∧ CheapL T.2 ∧ ∀ x y c, Costs T x y c ↔ Costs m x y c) ∧ RatRes T 0 w e w' :=
  (trim_run v m w h hok hf).mono fun e w' ⟨v', he, ⟨aa, hA, bs, hB, hm⟩, hb⟩ => ⟨_, ⟨trim_fault hf, trim_cheap rfl hc, fun x y c => costs_trim hf hA hB x y c⟩, v', he, hm, hb⟩
end Go.Proofs.Ytpfcljhbamnghab.Wt
