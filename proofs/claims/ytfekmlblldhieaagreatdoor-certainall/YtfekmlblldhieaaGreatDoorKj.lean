/- The machines and the words that the keeping statements make: what is known of them. -/
import Derived.Test.YtfekmlblldhieaaGreatDoorJ17a
import Derived.Test.YtfekmlblldhieaaGreatDoorJ17q
namespace Go.Proofs.YtfekmlblldhieaaGreatDoor.Wt
open Go.ChangeShapes Go.WideShapes Go.ChangeAt Go.RowKit
open Go.Proofs.YtfekmlblldhieaaGreatDoor.Pl
set_option linter.unusedVariables false
set_option linter.unusedSimpArgs false
theorem right_ok {m : Mc} (h : faultM m = 0) : okM m := by
  have h1 := right_size (z := m.1) (l := m.2) h
  exact small_ok (by omega) (by omega)
theorem row_wf {w : World} {a : Option Addr} {len cap : Nat} {zs : List Int} (h : IsRow .i64 w a len cap zs) : ∀ n ∈ zs.take len, (Lit.int .i64 n).wf = true := by
  rcases h with ⟨rfl, rfl, rfl, rfl⟩ | ⟨x, rfl, h1, h2, h3, h4, h5⟩
  · intro n hn; simp at hn
  · intro n hn
    exact h5 n (List.mem_of_mem_take hn)
theorem arcN_four : ∀ l : List St, (∀ s ∈ l, s.2.length ≤ 4) → arcN l ≤ 4 * l.length
  | [], _ => by simp [arcN]
  | s :: l, h => by
    have h0 := h s (by simp)
    have := arcN_four l (fun t ht => h t (by simp [ht]))
    simp only [arcN, List.length_cons]
    omega
theorem made_facts (r : Int × List (Int × Bool × List Ar)) (k : Nat) (h0 : 0 < k) (h8 : k ≤ 8) : faultM (madeM r k false) = 0 ∧ CheapL (madeM r k false).2 ∧ (madeM r k false).2.length ≤ k ∧ arcN (madeM r k false).2 ≤ 4 * k ∧ 0 < (madeM r k false).2.length := by
  have hlen : (madeM r k false).2.length = sizeM r k := statesM_length _ _ _
  have hn : 0 < sizeM r k ∧ sizeM r k ≤ k := by unfold sizeM; omega
  refine ⟨madeM_right r k h0 h8 false, made_cheap r k false, by omega, ?_, by omega⟩
  have := arcN_four (madeM r k false).2 (fun s hs => by
    simp only [madeM, statesM, List.mem_map] at hs
    obtain ⟨q, _, rfl⟩ := hs
    split
    · simp
    · exact stM_few _ _ _)
  omega
theorem small_size {m : Mc} (h1 : m.2.length ≤ 60) (h2 : arcN m.2 ≤ 400) : sizeB m = true := by simp [sizeB, h1, h2]
theorem two_uni {a b : Mc} (fa : faultM a = 0) (fb : faultM b = 0) (h1 : a.2.length + b.2.length ≤ 59) (h2 : arcN a.2 + arcN b.2 ≤ 398) : ratM a b (uniM a b) = uniM a b ∧ ratE a b (uniM a b) = 0 ∧ faultM (uniM a b) = 0 := by
  have e1 := uniM_len a b
  have e2 := uniM_arcs a b
  have hs : sizeB (uniM a b) = true := small_size (by omega) (by omega)
  refine ⟨?_, ?_, uniM_right fa fb hs⟩
  · unfold ratM fitM; rw [if_neg (by simp [fa]), if_neg (by simp [fb]), if_pos hs]
  · unfold ratE fitE; rw [if_neg (by simp [fa]), if_neg (by simp [fb]), if_pos hs]
theorem two_cat {a b : Mc} (fa : faultM a = 0) (fb : faultM b = 0) (h1 : a.2.length + b.2.length ≤ 60) (h2 : arcN a.2 + arcN b.2 + a.2.length ≤ 400) : ratM a b (catM a b) = catM a b ∧ ratE a b (catM a b) = 0 ∧ faultM (catM a b) = 0 := by
  have e1 := catM_len a b
  have e2 := catM_arcs a b
  have hs : sizeB (catM a b) = true := small_size (by omega) (by omega)
  refine ⟨?_, ?_, catM_right fa fb hs⟩
  · unfold ratM fitM; rw [if_neg (by simp [fa]), if_neg (by simp [fb]), if_pos hs]
  · unfold ratE fitE; rw [if_neg (by simp [fa]), if_neg (by simp [fb]), if_pos hs]
theorem one_sta {a : Mc} (fa : faultM a = 0) (h1 : a.2.length ≤ 59) (h2 : arcN a.2 + a.2.length ≤ 399) : ratM a (-1, []) (staM a) = staM a ∧ ratE a (-1, []) (staM a) = 0 ∧ faultM (staM a) = 0 := by
  have e1 := staM_len a
  have e2 := staM_arcs a
  have hs : sizeB (staM a) = true := small_size (by omega) (by omega)
  refine ⟨?_, ?_, staM_right fa hs⟩
  · unfold ratM fitM; rw [if_neg (by simp [fa]), if_neg (by decide), if_pos hs]
  · unfold ratE fitE; rw [if_neg (by simp [fa]), if_neg (by decide), if_pos hs]
theorem start_lt {m : Mc} (h : faultM m = 0) : m.1 < (m.2.length : Int) := by
  have := (right_parts h).1.2
  omega
end Go.Proofs.YtfekmlblldhieaaGreatDoor.Wt
