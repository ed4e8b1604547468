/- What the program's Show answers, at every number (where the table of powers of ten that the standard library reads is as its text lays it). -/
import Derived.Test.YtanibikfhnglkabDoorWa
import Derived.Test.YtanibikfhnglkabDoorShelf
import Derived.Lib.LaidTab
import Derived.WalkSpells
import Derived.WalkLawsBesides
namespace Go.Proofs.YtanibikfhnglkabDoor.Wt
open Go.ChangeShapes Go.WideShapes Go.ChangeAt Go.RowKit
open Go.Proofs.YtanibikfhnglkabDoor.Pl
set_option linter.unusedVariables false

def Tab (w : World) : Prop := Lib.TabIs Tryd.prog w "internal/strconv.uint64pow10" .u64 Lib.pow10Tab
theorem Tab.later {w w' : World} (h : Tab w) (hb : Below w.heap.size w w') : Tab w' := by
  unfold Tab Lib.TabIs at *
  unfold World.var? at h ⊢
  cases hg : Tryd.prog.globalNamed "internal/strconv.uint64pow10" with
  | none => rw [hg] at h; simp at h
  | some g =>
    simp only [hg, Option.bind_some] at h ⊢
    have hlt : g < w.heap.size := by
      rcases Nat.lt_or_ge g w.heap.size with h' | h'
      · exact h'
      · rw [Array.getElem?_eq_none h'] at h; simp at h
    rw [hb.block g hlt]
    exact h
theorem below_grow (w : World) (k : Nat) (os : Array Obj) : Below w.heap.size w (Sort.grow (w.drewN k) os) :=
  ⟨rfl, rfl, rfl, by show w.heap.size ≤ (w.heap ++ os).size; simp, fun i hi => by show (w.heap ++ os)[i]? = _; rw [Array.getElem?_append, if_pos hi]⟩

def showR (n : Int) : ByteArray × Int := if wtB n = true then ((if n = 1000000001 then ⟨#[105, 110, 102]⟩ else ⟨(Lib.itoa n).toArray⟩), 0) else (⟨#[]⟩, 2)
theorem showR_bad {n : Int} (h : wtB n = false) : showR n = (⟨#[]⟩, 2) := by unfold showR; rw [if_neg (by rw [h]; simp)]
theorem showR_inf : showR 1000000001 = (⟨#[105, 110, 102]⟩, 0) := by unfold showR; rw [if_pos (by decide), if_pos rfl]
theorem showR_num {n : Int} (h : wtB n = true) (g : ¬ n = 1000000001) : showR n = (⟨(Lib.itoa n).toArray⟩, 0) := by unfold showR; rw [if_pos h, if_neg g]
theorem ret_sp {k : IntKind} {s : ByteArray} {a : Int} {p : ByteArray × Int} (h : p = (s, a)) : Ending.returned (.tuple #[.string s, .int k a]) = .returned (.tuple #[.string p.1, .int k p.2]) := by rw [h]

theorem show_any (n : Int) (w : World) (ht : Tab w) :
    Calls Tryd.prog 6 #[.int .i64 n] w fun e w' => e = .returned (.tuple #[.string (showR n).1, .int .i64 (showR n).2]) ∧ Below w.heap.size w w' := by
  have HT : Hid (Tab w) := ht
  clear ht
  rcases bool_cases (wtB n) with h | h
  · by_cases g : n = 1000000001
    · subst g
      have HQ := showR_inf
      have HQ' : Hid (showR 1000000001 = (⟨#[105, 110, 102]⟩, 0)) := HQ
      have HH : Hid (wtB 1000000001 = true) := h
      clear HQ h
      go_enter Tryd.func6, Tryd.ntmps6
      go_wp2_with (first | (go_at_call 8; refine (are_one _ true _ _ _ (by simp) HH.out).mono ?_; rintro e w' ⟨rfl, rfl⟩))
      go_ret2
      exact ⟨ret_sp HQ'.out, (Below.refl _ _).alloc (Nat.le_refl _) _⟩
    · have HQ : Hid (showR n = (⟨(Lib.itoa n).toArray⟩, 0)) := showR_num h g
      have HH : Hid (wtB n = true) := h
      have hb := wtB_true.1 h
      have hg : (n == 1000000001) = false := by simpa using g
      have hb2 : 0 ≤ n ∧ n ≤ 1000000000 := by omega
      clear h g hb
      generalize hs : (⟨(Lib.itoa n).toArray⟩ : ByteArray) = s at HQ
      have HS : Hid ((⟨(Lib.itoa n).toArray⟩ : ByteArray) = s) := hs
      clear hs
      go_enter Tryd.func6, Tryd.ntmps6
      go_wp2_with (first | (go_at_call 8; refine (are_one _ true _ _ _ (by simp) HH.out).mono ?_; rintro e w' ⟨rfl, rfl⟩) | (go_at_call 9; refine (Tryd.strconv_Itoa _ (by omega) (by omega) _ (HT.out.later ((Below.refl _ _).alloc (Nat.le_refl _) _))).mono ?_; rw [HS.out]; rintro e w' ⟨rfl, k, os, rfl⟩))
      go_ret2
      exact ⟨ret_sp HQ.out, ((Below.refl _ _).alloc (Nat.le_refl _) _).trans ((below_grow _ _ _).mono (by simp))⟩
  · have HQ : Hid (showR n = (⟨#[]⟩, 2)) := showR_bad h
    have HH : Hid (wtB n = false) := h
    clear h
    go_enter Tryd.func6, Tryd.ntmps6
    go_wp2_with (first | (go_at_call 8; refine (are_one _ false _ _ _ (by simp) HH.out).mono ?_; rintro e w' ⟨rfl, rfl⟩))
    go_ret2
    exact ⟨ret_sp HQ.out, (Below.refl _ _).alloc (Nat.le_refl _) _⟩
end Go.Proofs.YtanibikfhnglkabDoor.Wt
