/- Bytes that came in, copies of them, bytes compared. -/
import Derived.Test.YtbbjpdadickilaaDoorBo
import Derived.Test.YtbbjpdadickilaaDoorRw
import Derived.Laws.BytesArg
namespace Go.Proofs.YtbbjpdadickilaaDoor.Wt
open Go.ChangeShapes Go.WideShapes Go.ChangeAt Go.RowKit
open Go.Proofs.YtbbjpdadickilaaDoor.Pl
set_option linter.unusedVariables false
set_option linter.unusedSimpArgs false
theorem Bys.ofInts {w : World} {v : Value} {zs : List Int} (h : Ints .u8 w v zs) : Bys w v zs := by
  rcases h with h | ⟨x, cap, hv, hc⟩
  · exact .inl h
  · refine .inr ⟨x, cap, hv, fun j hj i u hu => ?_⟩
    cases i with
    | zero =>
      simp [encU1] at hu
      subst hu
      rw [Nat.mul_one, Nat.add_zero]
      exact hc j hj
    | succ i => simp [encU1] at hu
theorem row_bytes {w : World} {a : Option Addr} {len cap : Nat} {zs : List Int} (h : IsRow .u8 w a len cap zs) : bytesB (zs.take len) := fun n hn => by
  have := h.wf n (List.mem_of_mem_take hn)
  simp [Lit.wf, IntKind.min, IntKind.max, IntKind.bits, IntKind.signed] at this
  omega
theorem conv_bys {w : World} {v : Value} {l : List Int} (h : Bys w v l) : (convert 25 9 v).run Tryd.prog w = .ok (.string (strOfNums l)) w := by
  by_cases hz : 0 < l.length
  · obtain ⟨b, off, cap, hv, hb, hc⟩ := Row.plain h (fun x => by simp [encU1]) hz
    subst hv
    refine run_convert_bytes_arg w 25 5 Tryd.underlying25 Tryd.underlying5 b off l.length cap l rfl (fun i hi => ?_) 9 Tryd.underlying9
    have := hc i hi 0 _ rfl
    rw [Nat.mul_one, Nat.add_zero] at this
    rw [this]
    simp [el, List.getD]
  · obtain rfl : l = [] := List.eq_nil_of_length_eq_zero (by omega)
    obtain ⟨a, cap, hv⟩ := Row.sl h
    subst hv
    show (convert 25 9 (.slice a 0 cap)).run Tryd.prog w = _
    rw [run_convert_bytes_string w 25 9 5 a 0 cap Tryd.underlying25 Tryd.underlying5 Tryd.underlying9]
    cases a with
    | none => simp [Conv.bytesToString]; rfl
    | some x =>
      rw [run_bytesToString w x 0 cap [] (run_loadCells_list w x [] (fun j u hu => by simp at hu))]
      rfl
/-- append([]byte(nil), b...), however long. -/
theorem copy_bys {w : World} {v : Value} {l : List Int} (h : Bys w v l) (hl : l.length ≤ 140737488351232) :
    ∃ a c w', (Builtin.append_ #[25, 25] 25 #[.slice none 0 0, v]).run Tryd.prog w = .ok (.slice a l.length c) w' ∧ OwnBys w' w.heap.size (.slice a l.length c) l ∧ Below w.heap.size w w' := by
  obtain ⟨i1, hi1, hy0, hy1, hy2⟩ := info_parts infoU8
  obtain ⟨v', w', hr, h2, h3, _⟩ := run_append_spot (P := Tryd.prog) encU1_len (by decide) encU1_one 25 25 w.heap.size 5 i1 _ 1 Tryd.underlying25 hi1 hy0 hy1 hy2 rfl (.slice none 0 0) 0 [] (World.ownsRow_nil _ _ _ _) v l h (by unfold maxLen; omega) (by omega) (Nat.le_refl _)
  rw [Nat.zero_add, List.nil_append] at h2
  obtain ⟨a, c, hv⟩ := own_sl h2
  subst hv
  exact ⟨a, c, w', hr, h2, (Below.refl _ _).grown h3 (Nat.le_refl _) (fun k hk => by cases hk)⟩
theorem OwnBys.cap {w : World} {base : Nat} {a : Option Addr} {n c : Nat} {l : List Int} (h : OwnBys w base (.slice a n c) l) : n = l.length ∧ n ≤ c := by
  obtain ⟨a', c', hv⟩ := own_sl h
  injection hv with h1 h2 h3
  refine ⟨h2, ?_⟩
  rcases h.2 with ⟨hv, hn⟩ | ⟨g, cap, cur, hv, _, _, hnc, _⟩
  · injection hv with _ h4 h5
    omega
  · injection hv with _ h4 h5
    omega
end Go.Proofs.YtbbjpdadickilaaDoor.Wt
