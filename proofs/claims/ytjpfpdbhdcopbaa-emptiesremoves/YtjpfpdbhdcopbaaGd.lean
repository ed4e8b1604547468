/- A table of rows of numbers, each row in a block of its own. -/
import Derived.Test.YtjpfpdbhdcopbaaNn
import Derived.Test.YtjpfpdbhdcopbaaJ14i
import Derived.Test.YtjpfpdbhdcopbaaPlainEb
namespace Go.Proofs.Ytjpfpdbhdcopbaa.Wt
open Go.ChangeShapes Go.WideShapes Go.ChangeAt Go.RowKit
open Go.Proofs.Ytjpfpdbhdcopbaa.Pl
set_option linter.unusedVariables false
set_option linter.unusedSimpArgs false
def encG (n : Nat) (g : Nat) : List Value := [.slice (some ⟨g, 0, none⟩) n n]
theorem encG_len (n g : Nat) : (encG n g).length = 1 := rfl
theorem encG_one (n g : Nat) : ∀ u ∈ encG n g, u.oneCell' = true := by
  intro u hu
  simp [encG] at hu
  subst hu
  rfl
theorem infoRow : (Try.prog.info? 34).map (fun i => (i.zero, i.size, i.bytes)) = some (some (.slice none 0 0), 1, 24) := by kernel_rfl
/-- The value v is the table d: rows of n numbers in the blocks gs, apart from each other. -/
def GridM (w : World) (base n : Nat) (v : Value) (gs : List Nat) (d : List (List Int)) : Prop :=
  gs.length = d.length ∧ w.ownsRow base 34 1 v gs.length (gs.flatMap (encG n)) ∧ (∀ j, j < gs.length → base ≤ el gs j ∧ (el d j).length = n ∧ Blk w (el gs j) ((el d j).map (Value.int .i64)).toArray 3) ∧ ∀ i j, i < gs.length → j < gs.length → i ≠ j → el gs i ≠ el gs j
theorem GridM.nil (w : World) (base n : Nat) : GridM w base n (.slice none 0 0) [] [] := ⟨rfl, World.ownsRow_nil _ _ _ _, fun j hj => absurd hj (by simp), fun i j hi => absurd hi (by simp)⟩
theorem GridM.later {w w' : World} {base n : Nat} {v : Value} {gs : List Nat} {d : List (List Int)} (h : GridM w base n v gs d) (hb : Below w.heap.size w w') : GridM w' base n v gs d := by
  obtain ⟨h1, h2, h3, h4⟩ := h
  exact ⟨h1, ownBelow h2 hb, fun j hj => ⟨(h3 j hj).1, (h3 j hj).2.1, (h3 j hj).2.2.below hb (h3 j hj).2.2.lt⟩, h4⟩
theorem GridM.sl {w : World} {base n : Nat} {v : Value} {gs : List Nat} {d : List (List Int)} (h : GridM w base n v gs d) : ∃ a c, v = .slice a d.length c := by
  obtain ⟨a, c, hv⟩ := own_sl h.2.1
  exact ⟨a, c, by rw [hv, h.1]⟩
theorem GridM.cells {w : World} {base n : Nat} {v : Value} {gs : List Nat} {d : List (List Int)} (h : GridM w base n v gs d) (hz : 0 < d.length) : ∃ G cap, v = .slice (some ⟨G, 0, none⟩) d.length cap ∧ base ≤ G ∧ G < w.heap.size ∧ ∀ j, j < d.length → w.cell? ⟨G, j, none⟩ = some (.slice (some ⟨el gs j, 0, none⟩) n n) := by
  obtain ⟨h1, h2, h3, h4⟩ := h
  have h2' := h2
  rcases h2.2 with ⟨_, h0⟩ | ⟨G, cap, cur, hv, hb, hG, _⟩
  · omega
  · refine ⟨G, cap, by rw [hv, h1], hb, lt_of_block hG, fun j hj => ?_⟩
    have h9 := h2'.cells (g := G) (by rw [hv]; rfl) j (.slice (some ⟨el gs j, 0, none⟩) n n) (by
      have := flat_at (encG_len n) gs j (by omega) 0 (by omega)
      rw [Nat.mul_one, Nat.add_zero] at this
      rw [this]; rfl)
    rw [Addr.add_lit, Nat.zero_add] at h9
    exact h9
theorem GridM.get {w : World} {base n : Nat} {v : Value} {gs : List Nat} {d : List (List Int)} (h : GridM w base n v gs d) {q p : Nat} (hq : q < d.length) (hp : p < n) : w.cell? ⟨el gs q, p, none⟩ = some (.int .i64 (el (el d q) p)) := by
  obtain ⟨h1, h2, h3, h4⟩ := h
  obtain ⟨_, hl, hb⟩ := h3 q (by omega)
  exact num_cell hb (by rw [hl]; exact hp)
theorem GridM.fz {w : World} {base n : Nat} {v : Value} {gs : List Nat} {d : List (List Int)} (h : GridM w base n v gs d) {q : Nat} (hq : q < d.length) (p : Nat) : w.frozen? ⟨el gs q, p, none⟩ = false := (h.2.2.1 q (by rw [h.1]; exact hq)).2.2.fz p
theorem GridM.set {w : World} {base n : Nat} {v : Value} {gs : List Nat} {d : List (List Int)} (h : GridM w base n v gs d) {q p : Nat} (hq : q < d.length) (hp : p < n) (x : Int) : GridM (w.setCell ⟨el gs q, p, none⟩ (.int .i64 x)) base n v gs (putD d q p x) := by
  obtain ⟨h1, h2, h3, h4⟩ := h
  have hqg : q < gs.length := by omega
  have hbq := (h3 q hqg).2.2
  refine ⟨by unfold putD; rw [List.length_set]; exact h1, h2.kept (gSet w (el gs q) p _) (.inr (Ne.symm (own_ne h2 hbq (by decide)))), fun j hj => ?_, h4⟩
  unfold putD
  rw [el_set (by omega)]
  by_cases e : q = j
  · subst e
    rw [if_pos rfl]
    refine ⟨(h3 q hj).1, by rw [List.length_set]; exact (h3 q hj).2.1, ?_⟩
    have h9 := hbq.set p (.int .i64 x)
    rw [set_num] at h9
    exact h9
  · rw [if_neg e]
    exact ⟨(h3 j hj).1, (h3 j hj).2.1, (h3 j hj).2.2.setO _ _ (h4 j q hj hqg (Ne.symm e))⟩
/-- append(d, row), the row newer than the table. -/
theorem GridM.push {w0 W : World} {base n g : Nat} {v : Value} {gs : List Nat} {d : List (List Int)} {row : List Int} (h : GridM w0 base n v gs d) (hb : Below w0.heap.size w0 W) (hbase : base ≤ w0.heap.size) (hg : w0.heap.size ≤ g) (hrow : Blk W g (row.map (Value.int .i64)).toArray 3) (hn : row.length = n) (hl : d.length ≤ 1000) :
    ∃ a c w', (Builtin.append_ #[48, 48] 48 #[v, .slice (some ⟨W.heap.size, 0, none⟩) 1 1]).run Try.prog (W.alloc (.cells #[.slice (some ⟨g, 0, none⟩) n n] 34)) = .ok (.slice a (d.length + 1) c) w' ∧ GridM w' base n (.slice a (d.length + 1) c) (gs ++ [g]) (d ++ [row]) ∧ Below base W w' := by
  obtain ⟨i1, hi1, hy0, hy1, hy2⟩ := info_parts infoRow
  have hW := h.later hb
  obtain ⟨h1, h2, h3, h4⟩ := hW
  have hA : Below W.heap.size W (W.alloc (.cells #[.slice (some ⟨g, 0, none⟩) n n] 34)) := (Below.refl _ _).alloc (Nat.le_refl _) _
  have hX : Row 1 (encG n) (W.alloc (.cells #[.slice (some ⟨g, 0, none⟩) n n] 34)) (.slice (some ⟨W.heap.size, 0, none⟩) 1 1) [g] := by
    refine .inr ⟨⟨W.heap.size, 0, none⟩, 1, rfl, fun j hj i u hu => ?_⟩
    obtain rfl : j = 0 := by simpa using hj
    rw [Addr.add_lit]
    refine (Blk.made W _ _).cell _ ?_
    rw [Nat.zero_mul, Nat.zero_add, Nat.zero_add]
    rw [el_zero] at hu
    simpa [encG] using hu
  obtain ⟨v4, w4, r4, o4, g4, _⟩ := run_append_spot (P := Try.prog) (encG_len n) (by decide) (encG_one n) 48 48 base 34 i1 _ 24 Try.underlying48 hi1 hy0 hy1 hy2 rfl v gs.length (gs.flatMap (encG n)) (ownBelow h2 hA) _ [g] hX (by simp; unfold maxLen; omega) (by simp; omega) (by have := hb.size; simp; omega)
  obtain ⟨a, c, hv⟩ := own_sl o4
  subst hv
  have hne : ∀ k cs, Blk W k cs 3 → some k ≠ v.ownBlock := fun k cs hk => own_ne h2 hk (by decide)
  refine ⟨a, c, w4, by rw [← h1]; exact r4, ⟨by simp [h1], ?_, fun j hj => ?_, fun i j hi hj hij => ?_⟩, (hA.mono (by have := hb.size; omega)).trans ((Below.refl _ _).grown g4 (by have := hb.size; simp; omega) (fun k hk => (h2.lt k hk).1))⟩
  · rw [List.length_append, List.flatMap_append, ← h1]
    exact o4
  · rw [List.length_append] at hj
    simp at hj
    by_cases e : j < gs.length
    · rw [el_left e, el_left (by omega)]
      exact ⟨(h3 j e).1, (h3 j e).2.1, ((h3 j e).2.2.alloc _).grown g4 (hne _ _ (h3 j e).2.2)⟩
    · obtain rfl : j = gs.length := by omega
      rw [el_last, h1, el_last]
      exact ⟨by omega, hn, (hrow.alloc _).grown g4 (hne _ _ hrow)⟩
  · have old : ∀ j, j < gs.length → el gs j < w0.heap.size := fun j hj => (h.2.2.1 j hj).2.2.lt
    rw [List.length_append] at hi hj
    simp at hi hj
    by_cases ei : i < gs.length
    · by_cases ej : j < gs.length
      · rw [el_left ei, el_left ej]; exact h4 i j ei ej hij
      · obtain rfl : j = gs.length := by omega
        rw [el_left ei, el_last]; have := old i ei; omega
    · obtain rfl : i = gs.length := by omega
      have ej : j < gs.length := by omega
      rw [el_last, el_left ej]; have := old j ej; omega
end Go.Proofs.Ytjpfpdbhdcopbaa.Wt
