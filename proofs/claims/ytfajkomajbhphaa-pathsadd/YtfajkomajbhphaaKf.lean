/- The machines of six states that lead forward. -/
import Derived.Test.YtfajkomajbhphaaFw
import Derived.Test.YtfajkomajbhphaaRn
import Derived.Test.YtfajkomajbhphaaJ10b
namespace Go.Proofs.Ytfajkomajbhphaa.Wt
open Go.ChangeShapes Go.WideShapes Go.ChangeAt Go.RowKit
open Go.Proofs.Ytfajkomajbhphaa.Pl
set_option linter.unusedVariables false
theorem made_fourK (r : Rw) (n : Nat) (full : Bool) {q : Nat} (hq : q < (madeM r n full).2.length) : (el (madeM r n full).2 q).2.length ≤ 4 := by
  unfold madeM at hq ⊢
  simp only [statesM_length] at hq ⊢
  unfold statesM
  rw [el_range_map _ hq]
  split
  · simp
  · simp [Pl.stM]; omega
/-- forward(x, 6): what is made, and that it is slim. -/
theorem slim6 (r : Rw) : faultM (fwdM (madeM r 6 false)) = 0 ∧ Slim (fwdM (madeM r 6 false)) := by
  have hlen : (madeM r 6 false).2.length = sizeM r 6 := statesM_length _ _ _
  have hn : 0 < (madeM r 6 false).2.length ∧ (madeM r 6 false).2.length ≤ 6 := by rw [hlen]; unfold sizeM; omega
  have hfM := madeM_right r 6 (by omega) (by omega) false
  refine ⟨fwdM_fault hfM hn.1, ⟨?_, rfl, by rw [fwdM_length]; exact hn.1, by rw [fwdM_length]; exact hn.2, fun q hq => ?_⟩⟩
  · intro q hq a ha
    rw [fwdM_length] at hq
    rw [fwdM_el _ hq] at ha
    obtain ⟨b, _, rfl, h1⟩ := fwdR_mem ha
    obtain ⟨t, h2, h3, h4⟩ := fwdA_to h1 b
    exact ⟨t, h2, h3, by rw [fwdM_length]; exact h4⟩
  · rw [fwdM_length] at hq
    rw [fwdM_el _ hq]
    exact Nat.le_trans (fwdR_le _ _ _) (made_fourK r 6 false hq)
theorem fwd6 (v : Value) (r : Rw) (w : World) (h : RawV w v r) (hok : okR r) (hwf : wfR r) :
    Calls Try.prog 17 #[v, .int .i64 6] w fun e w' => ∃ v', e = .returned v' ∧ Mach w' v' (fwdM (madeM r 6 false)) ∧ Below w.heap.size w w' := forward_any v r 6 w h hok hwf (by omega) (by omega)
theorem okR0 {m : Mc} (h : faultM m = 0) : okM m := by
  have h1 := right_size (z := m.1) (l := m.2) h
  exact small_ok (by omega) (by omega)
theorem fit_small {m : Mc} (h1 : m.2.length ≤ 60) (h2 : arcN m.2 ≤ 400) : sizeB m = true := by simp [sizeB, h1, h2]
theorem slim_arcs {m : Mc} (h : Slim m) : arcN m.2 ≤ 24 := by
  have key : ∀ l : List St, (∀ q, q < l.length → (el l q).2.length ≤ 4) → arcN l ≤ 4 * l.length := by
    intro l
    induction l with
    | nil => intro _; simp [arcN]
    | cons s l ih =>
      intro hh
      have h0 := hh 0 (by simp)
      rw [el_zero] at h0
      have := ih (fun q hq => by have := hh (q + 1) (by simpa using hq); rwa [el_succ] at this)
      simp only [arcN, List.length_cons]
      omega
  have := key m.2 h.four
  have := h.six
  omega
/-- What rational answers of such machines. -/
theorem slim_uni {a b : Mc} (ha : Slim a) (hb : Slim b) (fa : faultM a = 0) (fb : faultM b = 0) : ratM a b (uniM a b) = uniM a b ∧ ratE a b (uniM a b) = 0 ∧ faultM (uniM a b) = 0 := by
  have h1 := uniM_len a b
  have h2 := uniM_arcs a b
  have := slim_arcs ha; have := slim_arcs hb; have := ha.six; have := hb.six
  have hs : sizeB (uniM a b) = true := fit_small (by omega) (by omega)
  refine ⟨?_, ?_, uniM_right fa fb hs⟩
  · unfold ratM fitM; rw [if_neg (by simp [fa]), if_neg (by simp [fb]), if_pos hs]
  · unfold ratE fitE; rw [if_neg (by simp [fa]), if_neg (by simp [fb]), if_pos hs]
theorem slim_cat {a b : Mc} (ha : Slim a) (hb : Slim b) (fa : faultM a = 0) (fb : faultM b = 0) : ratM a b (catM a b) = catM a b ∧ ratE a b (catM a b) = 0 ∧ faultM (catM a b) = 0 := by
  have h1 := catM_len a b
  have h2 := catM_arcs a b
  have := slim_arcs ha; have := slim_arcs hb; have := ha.six; have := hb.six
  have hs : sizeB (catM a b) = true := fit_small (by omega) (by omega)
  refine ⟨?_, ?_, catM_right fa fb hs⟩
  · unfold ratM fitM; rw [if_neg (by simp [fa]), if_neg (by simp [fb]), if_pos hs]
  · unfold ratE fitE; rw [if_neg (by simp [fa]), if_neg (by simp [fb]), if_pos hs]
theorem slim_sta {a : Mc} (ha : Slim a) (fa : faultM a = 0) : ratM a (-1, []) (staM a) = staM a ∧ ratE a (-1, []) (staM a) = 0 ∧ faultM (staM a) = 0 := by
  have h1 := staM_len a
  have h2 := staM_arcs a
  have := slim_arcs ha; have := ha.six
  have hs : sizeB (staM a) = true := fit_small (by omega) (by omega)
  refine ⟨?_, ?_, staM_right fa hs⟩
  · unfold ratM fitM; rw [if_neg (by simp [fa]), if_neg (by decide), if_pos hs]
  · unfold ratE fitE; rw [if_neg (by simp [fa]), if_neg (by decide), if_pos hs]
end Go.Proofs.Ytfajkomajbhphaa.Wt
