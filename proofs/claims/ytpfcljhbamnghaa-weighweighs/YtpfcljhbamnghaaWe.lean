/- The reference: what the cheapest path for two words costs, or whatever is written. -/
import Derived.Test.YtpfcljhbamnghaaWd
import Derived.Test.YtpfcljhbamnghaaPlainTv
namespace Go.Proofs.Ytpfcljhbamnghaa.Wt
open Go.ChangeShapes Go.WideShapes Go.ChangeAt Go.RowKit
open Go.Proofs.Ytpfcljhbamnghaa.Pl
set_option linter.unusedVariables false
set_option linter.unusedSimpArgs false
theorem right_to {m : Mc} (h : faultM m = 0) : ∀ q, q < m.2.length → ∀ a ∈ (el m.2 q).2, (∃ t : Nat, a.2.2.2 = (t : Int) ∧ t < m.2.length) ∧ a.2.2.1 ≤ 1000000000 := fun q hq a ha => by
  have h1 := (right_parts h).2 _ (el_mem hq)
  simp only [stB, Bool.and_eq_true, List.all_eq_true] at h1
  have h2 := h1.2 _ ha
  simp only [arcB, inB, Bool.and_eq_true, decide_eq_true_eq] at h2
  exact ⟨⟨a.2.2.2.toNat, by omega, by omega⟩, by omega⟩
theorem right_fin {m : Mc} (h : faultM m = 0) : ∀ q, q < m.2.length → (el m.2 q).1 ≠ 1000000001 → 0 ≤ (el m.2 q).1 ∧ (el m.2 q).1 ≤ 1000000000 := fun q hq hf => by
  have h1 := stB_fin ((right_parts h).2 _ (el_mem hq))
  simp [finB, inB] at h1
  omega
/-- What the table tells, all states together. -/
theorem table_ans {m : Mc} {x y : List Int} {fr : Bool} {cs : List Int} (hr : faultM m = 0) (hx : x.length ≤ 12) (hy : y.length ≤ 12) (h : CostT m.2 x y fr m.1 cs) (hc : ClosedT m.2 x y fr cs) (R : Nat → Nat → Prop)
    (hR : 0 ≤ m.1 → ∀ q, q < m.2.length → ∀ c, (∃ n, Run (Pl.Edge m.2 x y fr) (idx x.length y.length m.1.toNat 0 0) n (idx x.length y.length q x.length y.length) c) ↔ R q c) (hN : m.1 < 0 → ∀ q c, ¬ R q c) :
    ChpAns (fun c => ∃ q d, q < m.2.length ∧ R q d ∧ (el m.2 q).1 ≠ 1000000001 ∧ c = d + (el m.2 q).1.toNat) (bstF cs m.2 x.length y.length m.2.length) := by
  obtain ⟨⟨hz1, hz2⟩, _⟩ := right_parts hr
  have h60 := (right_size (z := m.1) (l := m.2) hr).1
  refine (bst_ans (R := R) (right_fin hr) (fun q hq => ?_) m.2.length (Nat.le_refl _)).1
  have hlt : idx x.length y.length q x.length y.length < cs.length := by rw [h.len]; exact idx_lt hq (Nat.le_refl _) (Nat.le_refl _)
  have hrng := h.rng _ hlt
  by_cases hz : 0 ≤ m.1
  · have hzt : (m.1.toNat : Int) = m.1 := by omega
    have h' : CostT m.2 x y fr (m.1.toNat : Int) cs := by rw [hzt]; exact h
    rcases h'.told hc (by omega) h60 (by omega) (by omega) (right_to hr) hlt with ⟨h1, h2⟩ | ⟨h1, h2⟩
    · refine .inl ⟨hrng.1, h1, (hR hz q hq _).1 h2.1, fun d hd => h2.2 d ((hR hz q hq d).2 hd)⟩
    · exact .inr ⟨h1, fun c hcR => by obtain ⟨n, hn⟩ := (hR hz q hq c).2 hcR; exact h2 n c hn⟩
  · refine .inr ⟨?_, hN (by omega) q⟩
    by_cases e : el cs (idx x.length y.length q x.length y.length) < noneI
    · exact absurd (h.run _ hlt e).1 hz
    · omega
theorem cheapest_two (v vx vy : Value) (m : Mc) (x y : List Int) (w : World) (h : Mach w v m) (hr : faultM m = 0) (nx : Nums w vx x) (ny : Nums w vy y) (ex : wrdE x = 0) (ey : wrdE y = 0) :
    Calls Try.prog 33 #[v, vx, vy, .bool false] w fun e w' => ∃ b : Int, e = .returned (.int .i64 b) ∧ ChpAns (Costs m x y) b ∧ Below w.heap.size w w' :=
  (cheapest_any false v vx vy m x y w h hr nx ny ex ey).mono fun e w' ⟨cs, he, h1, h2, hb⟩ => by
    refine ⟨_, he, ?_, hb⟩
    obtain ⟨⟨hz1, hz2⟩, _⟩ := right_parts hr
    have hto : ∀ q, q < m.2.length → ∀ a ∈ (el m.2 q).2, ∃ t : Nat, a.2.2.2 = (t : Int) ∧ t < m.2.length := fun q hq a ha => (right_to hr q hq a ha).1
    refine (table_ans hr (wrd_parts ex).1 (wrd_parts ey).1 h1 h2 (fun q c => 0 ≤ m.1 ∧ Pl.Way m.2 m.1.toNat x y q c) (fun hz q hq c => ?_) (fun hz q c hc => by omega)).congr fun c => ?_
    · rw [ends_way (by omega) hto]
      exact ⟨fun h => ⟨hz, h⟩, fun h => h.2⟩
    · exact ⟨fun ⟨q, d, hq, ⟨hz, hw⟩, hf, hc⟩ => ⟨hz, q, d, hw, hq, hf, hc⟩, fun ⟨hz, q, d, hw, hq, hf, hc⟩ => ⟨q, d, hq, ⟨hz, hw⟩, hf, hc⟩⟩
theorem nums_nil (w : World) : Nums w (.slice none 0 0) [] := .inl ⟨rfl, rfl⟩
theorem cheapest_free (v vx : Value) (m : Mc) (x : List Int) (w : World) (h : Mach w v m) (hr : faultM m = 0) (nx : Nums w vx x) (ex : wrdE x = 0) :
    Calls Try.prog 33 #[v, vx, .slice none 0 0, .bool true] w fun e w' => ∃ b : Int, e = .returned (.int .i64 b) ∧ ChpAns (CostsR m x) b ∧ Below w.heap.size w w' :=
  (cheapest_any true v vx (.slice none 0 0) m x [] w h hr nx (nums_nil w) ex rfl).mono fun e w' ⟨cs, he, h1, h2, hb⟩ => by
    refine ⟨_, he, ?_, hb⟩
    obtain ⟨⟨hz1, hz2⟩, _⟩ := right_parts hr
    have hto : ∀ q, q < m.2.length → ∀ a ∈ (el m.2 q).2, ∃ t : Nat, a.2.2.2 = (t : Int) ∧ t < m.2.length := fun q hq a ha => (right_to hr q hq a ha).1
    refine (table_ans hr (wrd_parts ex).1 (by simp) h1 h2 (fun q c => 0 ≤ m.1 ∧ ∃ v, Pl.Way m.2 m.1.toNat x v q c) (fun hz q hq c => ?_) (fun hz q c hc => by omega)).congr fun c => ?_
    · have := ends_wayF (x := x) (q := q) (c := c) (by omega : m.1.toNat < m.2.length) hto
      simp only [List.length_nil]
      rw [this]
      exact ⟨fun h => ⟨hz, h⟩, fun h => h.2⟩
    · exact ⟨fun ⟨q, d, hq, ⟨hz, y, hw⟩, hf, hc⟩ => ⟨y, hz, q, d, hw, hq, hf, hc⟩, fun ⟨y, hz, q, d, hw, hq, hf, hc⟩ => ⟨q, d, hq, ⟨hz, y, hw⟩, hf, hc⟩⟩
end Go.Proofs.Ytpfcljhbamnghaa.Wt
