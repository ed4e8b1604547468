/- Words of a line; numbers that may be none. -/
import Derived.Test.YthaefajpdncoeaaDoorCu
import Derived.Test.YthaefajpdncoeaaDoorPw
import Derived.Lib.AtoiAll
import Derived.Lib.SmallJoins
namespace Go.Proofs.YthaefajpdncoeaaDoor.Wt
open Go.ChangeShapes Go.WideShapes Go.ChangeAt Go.RowKit
open Go.Proofs.YthaefajpdncoeaaDoor.Pl
set_option linter.unusedVariables false
def ErrV (name : String) (w : World) : Prop := ∃ tp p, w.var? Tryd.prog name = some #[.iface tp p]
theorem ErrV.later {name : String} {w w' : World} (h : ErrV name w) (hb : Below w.heap.size w w') : ErrV name w' := by
  obtain ⟨tp, p, h⟩ := h
  refine ⟨tp, p, ?_⟩
  unfold World.var? at h ⊢
  cases hg : Tryd.prog.globalNamed name with
  | none => rw [hg] at h; simp at h
  | some g =>
    simp only [hg, Option.bind_some] at h ⊢
    have hlt : g < w.heap.size := by
      rcases Nat.lt_or_ge g w.heap.size with h' | h'
      · exact h'
      · rw [Array.getElem?_eq_none h'] at h; simp at h
    rw [hb.block g hlt]
    exact h
def Errs (w : World) : Prop := ErrV "strconv.ErrSyntax" w ∧ ErrV "strconv.ErrRange" w
theorem Errs.later {w w' : World} (h : Errs w) (hb : Below w.heap.size w w') : Errs w' := ⟨h.1.later hb, h.2.later hb⟩
theorem below_bytes (w : World) (t : TypeId) (s : ByteArray) : Below w.heap.size w (Lib.bytesWorld w t s) := by
  exact Go.Joins.below_bytesWorld _ w t s (Nat.le_refl _)
theorem atoi_ok (s : ByteArray) (w : World) (hs : s.size ≤ 1000000) (v : Int) (h : atO s.data.toList = some v) :
    Calls Tryd.prog 57 #[.string s] w fun e w' => e = .returned (.tuple #[.int .i64 v, .nilIface]) ∧ Below w.heap.size w w' := by
  refine (Tryd.strconv_Atoi_ok s (by omega) v (atO_some h) w).mono ?_
  rintro e w' ⟨rfl, rfl | ⟨t, rfl⟩⟩
  · exact ⟨rfl, Below.refl _ _⟩
  · exact ⟨rfl, below_bytes _ _ _⟩
theorem atoi_no (s : ByteArray) (w : World) (hs : s.size ≤ 1000000) (he : Errs w) (h : atO s.data.toList = none) :
    Calls Tryd.prog 57 #[.string s] w fun e w' => ∃ v t x, e = .returned (.tuple #[.int .i64 v, .iface t x]) ∧ Below w.heap.size w w' := by
  obtain ⟨⟨tp, p, h1⟩, ⟨tp2, p2, h2⟩⟩ := he
  rcases hk : Lib.atoiAll s.data.toList with v | _ | _
  · exact absurd hk (atO_none h v)
  · refine (Go.Proofs.Any.strconv_Atoi_syntax_var Tryd.laysC172 s (by omega) hk tp p w h1).mono ?_
    rintro e w' ⟨N, rfl, _, _, hb⟩
    exact ⟨_, _, _, rfl, hb⟩
  · refine (Tryd.strconv_Atoi_range_var s (by omega) hk tp2 p2 w h2).mono ?_
    rintro e w' ⟨N, rfl, _, _, hb⟩
    exact ⟨_, _, _, rfl, hb⟩
theorem genSplit_one (s : ByteArray) (w : World) (hs : s.size ≤ 1000000) (N : Nat) (hN : Lib.countB s ⟨#[32]⟩ = N) :
    Calls Tryd.prog 56 #[.string s, .string ⟨#[32]⟩, .int .i64 0, .int .i64 (-1)] w fun e w' =>
      e = .returned (.slice (some ⟨w.heap.size, 0, none⟩) (N + 1) (N + 1)) ∧ w' = w.alloc (.cells ((Lib.splitB ⟨#[32]⟩ 0 N s).map Value.string).toArray 9) := by
  have hle := Lib.countB_le ⟨#[32]⟩ (Nat.le_refl 1) s.size s (Nat.le_refl _)
  have hlen := Lib.splitB_all ⟨#[32]⟩ (Nat.le_refl 1) 0 _ s hN
  have c := Any.strings_genSplit_core Tryd.lays221 (by kernel_rfl) s ⟨#[32]⟩ 0 (-1) (N + 1) w (by omega) (Nat.le_refl 1) (Nat.zero_le _)
    (fun x c hx => by
      have h := Any.strings_Index_one Tryd.lays143 x 32 (w.alloc (.cells c 9))
      have e : Lib.indexB x ⟨#[32]⟩ = Lib.indexByte x.data.toList 32 := Lib.index_one x.data.toList 32
      rw [e]
      exact h)
    (by
      have h := Any.strings_Count_one Tryd.lays138 s 32 w
      have e : (Lib.countB s ⟨#[32]⟩ : Nat) = Lib.countByte s.data.toList 32 := Lib.count_one 32 s.data.toList
      rw [e]
      exact h)
    (by decide) (by decide) (by rw [if_pos (by decide)]; omega)
  rw [Nat.add_sub_cancel, hlen, show Lib.cellsOf (Lib.splitB ⟨#[32]⟩ 0 N s) (N + 1) = ((Lib.splitB ⟨#[32]⟩ 0 N s).map Value.string).toArray from by rw [← hlen]; exact Lib.cellsOf_full _] at c
  exact c
theorem split_any (s : ByteArray) (w : World) (hs : s.size ≤ 1000000) (xs : List ByteArray) (hx : Lib.splitB ⟨#[32]⟩ 0 (Lib.countB s ⟨#[32]⟩) s = xs) :
    Calls Tryd.prog 41 #[.string s, .string ⟨#[32]⟩] w fun e w' =>
      e = .returned (.slice (some ⟨w.heap.size, 0, none⟩) xs.length xs.length) ∧ w' = w.alloc (.cells (xs.map Value.string).toArray 9) := by
  have hl : xs.length = Lib.countB s ⟨#[32]⟩ + 1 := by rw [← hx]; exact Lib.splitB_all ⟨#[32]⟩ (Nat.le_refl 1) 0 _ s rfl
  have HG : Hid (Calls Tryd.prog 56 #[.string s, .string ⟨#[32]⟩, .int .i64 0, .int .i64 (-1)] w fun e w' =>
      e = .returned (.slice (some ⟨w.heap.size, 0, none⟩) xs.length xs.length) ∧ w' = w.alloc (.cells (xs.map Value.string).toArray 9)) := by
    have := genSplit_one s w hs _ rfl
    rw [hx, ← hl] at this
    exact this
  clear hx hl
  go_enter Tryd.func41, Tryd.ntmps41
  go_wp2_with (first | (go_at_call 56; (with_reducible refine HG.out.mono ?_); rintro e w' ⟨rfl, rfl⟩))
  go_ret
  exact ⟨rfl, rfl⟩
end Go.Proofs.YthaefajpdncoeaaDoor.Wt
