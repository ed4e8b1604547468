/- Memory that is as it was from a block on; a row of states made in one block. -/
import Derived.Test.YtkeeiihaijhdoaaMcC
import Derived.Test.YtkeeiihaijhdoaaBlk
import Derived.Laws.MakeOwn
namespace Go.Proofs.Ytkeeiihaijhdoaa.Wt
open Go.ChangeShapes Go.WideShapes Go.ChangeAt Go.RowKit
open Go.Proofs.Ytkeeiihaijhdoaa.Pl
set_option linter.unusedVariables false
set_option linter.unusedSimpArgs false
theorem grown_of_below {w w' : World} (hb : Below w.heap.size w w') : w.grownBy w' none := ⟨hb.os, hb.tape, hb.output, hb.size, fun k hk _ => hb.block k hk⟩
theorem own_below {w w' : World} {base : Nat} {e : TypeId} {s : Nat} {v : Value} {n : Nat} {xs : List Value} (h : w.ownsRow base e s v n xs) (hb : Below w.heap.size w w') : w'.ownsRow base e s v n xs :=
  h.kept (grown_of_below hb) (by rcases v.ownBlock with _ | _ <;> simp)
theorem own_mono {w : World} {base base' : Nat} {e : TypeId} {s : Nat} {v : Value} {n : Nat} {xs : List Value} (h : w.ownsRow base e s v n xs) (hb : base' ≤ base) : w.ownsRow base' e s v n xs := by
  refine ⟨h.1, ?_⟩
  rcases h.2 with h2 | ⟨g, cap, cur, hv, hg, h3⟩
  · exact .inl h2
  · exact .inr ⟨g, cap, cur, hv, Nat.le_trans hb hg, h3⟩
/-- From block B on the later world is as the earlier one was. -/
def Agree (B : Nat) (w w' : World) : Prop := ∀ k, B ≤ k → k < w.heap.size → w'.heap[k]? = w.heap[k]?
theorem Agree.refl (B : Nat) (w : World) : Agree B w w := fun _ _ _ => rfl
theorem agree_set {B : Nat} {w : World} {a : Addr} (ha : a.block < B) (u : Value) : Agree B w (w.setCell a u) := fun k hk _ => Below.heap_setCell w a u k (by omega)
theorem Agree.trans {B : Nat} {w w' w'' : World} (h : Agree B w w') (hs : w.heap.size ≤ w'.heap.size) (k : Agree B w' w'') : Agree B w w'' := fun i hi hl => (k i hi (Nat.lt_of_lt_of_le hl hs)).trans (h i hi hl)
theorem Agree.mono {B B' : Nat} {w w' : World} (h : Agree B w w') (hB : B ≤ B') : Agree B' w w' := fun k hk hl => h k (Nat.le_trans hB hk) hl
theorem agree_below {B : Nat} {w w' : World} (hb : Below w.heap.size w w') : Agree B w w' := fun k _ hl => hb.block k hl
theorem own_agree {w w' : World} {base : Nat} {e : TypeId} {s : Nat} {v : Value} {n : Nat} {xs : List Value} (h : w.ownsRow base e s v n xs) (hg : Agree base w w') : w'.ownsRow base e s v n xs := by
  refine ⟨h.1, ?_⟩
  rcases h.2 with h2 | ⟨g, cap, cur, hv, hb, hh, h3⟩
  · exact .inl h2
  · exact .inr ⟨g, cap, cur, hv, hb, (hg g hb (lt_of_block hh)).trans hh, h3⟩
theorem blk_agree {w w' : World} {base b : Nat} {cs : Array Value} {t : TypeId} (h : Blk w b cs t) (hb : base ≤ b) (hg : Agree base w w') : Blk w' b cs t := (hg b hb h.lt).trans h
/-- The value v is the machine m, in memory from block B on alone. -/
def MachFrom (B : Nat) (w : World) (v : Value) (m : Mc) : Prop := ∀ w', Agree B w w' → Mach w' v m
theorem MachFrom.mach {B : Nat} {w : World} {v : Value} {m : Mc} (h : MachFrom B w v m) : Mach w v m := h w (Agree.refl _ _)
theorem MachFrom.set {B : Nat} {w : World} {v : Value} {m : Mc} (h : MachFrom B w v m) {a : Addr} (ha : a.block < B) (u : Value) : MachFrom B (w.setCell a u) v m := fun w' hg => h w' ((agree_set ha u).trans (by simp [World.setCell]) hg)
theorem MachFrom.mono {B B' : Nat} {w : World} {v : Value} {m : Mc} (h : MachFrom B' w v m) (hB : B ≤ B') : MachFrom B w v m := fun w' hg => h w' (hg.mono hB)
theorem MachFrom.later {B : Nat} {w w1 : World} {v : Value} {m : Mc} (h : MachFrom B w v m) (hb : Below w.heap.size w w1) : MachFrom B w1 v m := fun w' hg => h w' ((agree_below hb).trans hb.size hg)
theorem MachFrom.drew {B : Nat} {w : World} {v : Value} {m : Mc} (h : MachFrom B w v m) : MachFrom B w.drew v m := h
theorem MachFrom.sl {B : Nat} {w : World} {v : Value} {m : Mc} (h : MachFrom B w v m) : ∃ a c, v = .agg #[.int .i64 m.1, .slice a m.2.length c] := by
  obtain ⟨vs, rfl, hS⟩ := h.mach
  obtain ⟨a, c, rfl⟩ := hS.sl
  exact ⟨a, c, rfl⟩
/-- What is answered where it is right, and where it is not. -/
def resM (r : Int) (m : Mc) : Mc := if r = 0 then m else (0, [])
/-- A row of states that are made empty. -/
theorem made_states (n : Nat) : madeCells (Value.cells (.agg #[.int .i64 0, .slice none 0 0])) (n * 2) = ((List.replicate n ((0 : Int), Value.slice none 0 0)).flatMap encS).toArray := by
  apply Array.ext_getElem?
  intro t
  have hz : Value.cells (.agg #[.int .i64 0, .slice none 0 0]) = #[.int .i64 0, .slice none 0 0] := rfl
  by_cases ht : t < n * 2
  · have h2 := flat_at encS_len (List.replicate n ((0 : Int), Value.slice none 0 0)) (t / 2) (by simp; omega) (t % 2) (by omega)
    have he : t / 2 * 2 + t % 2 = t := by omega
    rw [he] at h2
    simp only [List.getElem?_toArray]
    rw [h2, el_get (by simp; omega), List.getElem_replicate]
    simp only [madeCells, hz, Array.getElem?_map]
    rw [Array.getElem?_eq_getElem (by simpa using ht)]
    have h01 : t % 2 = 0 ∨ t % 2 = 1 := by omega
    rcases h01 with h | h <;> simp [h, encS]
  · rw [Array.getElem?_eq_none (by simp [size_madeCells]; omega), List.getElem?_toArray, List.getElem?_eq_none (by rw [flat_length encS_len]; simp; omega)]
/-- One state stored. -/
theorem set_state {vs : List (Int × Value)} {k : Nat} (hk : k < vs.length) (p : Int × Value) : ((vs.flatMap encS).toArray.setIfInBounds (k * 2) (.int .i64 p.1)).setIfInBounds (k * 2 + 1) p.2 = ((vs.set k p).flatMap encS).toArray := by
  apply Array.ext_getElem?
  intro t
  have hl : (vs.flatMap encS).length = vs.length * 2 := flat_length encS_len vs
  by_cases ht : t < vs.length * 2
  · have he : t / 2 * 2 + t % 2 = t := by omega
    have h1 := flat_at encS_len vs (t / 2) (by omega) (t % 2) (by omega)
    have h2 := flat_at encS_len (vs.set k p) (t / 2) (by simp; omega) (t % 2) (by omega)
    rw [he] at h1 h2
    rw [Array.getElem?_setIfInBounds, Array.getElem?_setIfInBounds]
    simp only [List.getElem?_toArray]
    rw [h1, h2]
    simp only [Array.size_setIfInBounds, List.size_toArray, hl]
    by_cases hq : t / 2 = k
    · have hel : el (vs.set k p) (t / 2) = p := by rw [hq, el_get (by simpa using hk)]; simp
      rw [hel]
      have h01 : t = k * 2 ∨ t = k * 2 + 1 := by omega
      rcases h01 with h | h
      · have e0 : t % 2 = 0 := by omega
        rw [if_neg (by omega), if_pos h.symm, if_pos (by omega), e0]; rfl
      · have e0 : t % 2 = 1 := by omega
        rw [if_pos h.symm, if_pos (by omega), e0]; rfl
    · have hel : el (vs.set k p) (t / 2) = el vs (t / 2) := by simp [el, List.getElem?_set_ne (Ne.symm hq)]
      rw [hel, if_neg (by omega), if_neg (by omega)]
  · rw [Array.getElem?_eq_none (by simp only [Array.size_setIfInBounds, List.size_toArray, hl]; omega), List.getElem?_toArray, List.getElem?_eq_none (by rw [flat_length encS_len]; simp; omega)]
theorem el_setS {α : Type} [Inhabited α] {l : List α} {k j : Nat} (hk : k < l.length) (x : α) : el (l.set k x) j = if j = k then x else el l j := by
  by_cases h : j = k
  · subst h; rw [if_pos rfl, el_get (by simpa using hk)]; simp
  · rw [if_neg h]; simp [el, List.getElem?_set_ne (Ne.symm h)]
/-- States in a block of the call's own. -/
theorem sts_block {w : World} {bs B : Nat} {vs : List (Int × Value)} {l : List St} (hb : Blk w bs (vs.flatMap encS).toArray 58) (hl : vs.length = l.length) (h : ∀ j, j < l.length → (el vs j).1 = (el l j).1 ∧ w.ownsRow B 75 4 (el vs j).2 (el l j).2.length ((el l j).2.flatMap encA)) :
    Sts w (.slice (some ⟨bs, 0, none⟩) l.length l.length) l := by
  refine ⟨vs, .inr ⟨⟨bs, 0, none⟩, l.length, by rw [hl], fun j hj i u hu => ?_⟩, hl, fun j hj => ⟨(h j hj).1, Row.ofOwn encA_len (h j hj).2 rfl⟩⟩
  have hi : i < 2 := by
    rcases Nat.lt_or_ge i 2 with h | h
    · exact h
    · rw [List.getElem?_eq_none (by rw [encS_len]; exact h)] at hu; simp at hu
  rw [Addr.add_lit, Nat.zero_add]
  refine hb.cell _ ?_
  rw [List.getElem?_toArray, flat_at encS_len vs j hj i hi]
  exact hu
end Go.Proofs.Ytkeeiihaijhdoaa.Wt
