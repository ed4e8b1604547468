/- What a machine is like when one state of it has an arc more (no program in sight). -/
import Derived.Test.YtfpibdaedfilaaaGab
import Derived.Test.YtfpibdaedfilaaaGac
import Derived.Test.YtfpibdaedfilaaaGaa
namespace Go.Proofs.Ytfpibdaedfilaaa.Pl
section
variable {α : Type} [Inhabited α]
theorem el_set {l : List α} {q j : Nat} {s : α} (hj : j < l.length) : el (l.set q s) j = if q = j then s else el l j := by
 rw [el_get (by simpa using hj), el_get hj, List.getElem_set]
end
end Go.Proofs.Ytfpibdaedfilaaa.Pl
namespace Go.Proofs.Ytfpibdaedfilaaa.Wt
open Go.ChangeShapes Go.WideShapes Go.ChangeAt Go.RowKit
open Go.Proofs.Ytfpibdaedfilaaa.Pl
set_option linter.unusedVariables false
theorem flat_set {vs : List (Int × Value)} {q : Nat} (hq : q < vs.length) (va : Value) : (vs.flatMap encS).set (q * 2 + 1) va = (vs.set q ((el vs q).1, va)).flatMap encS := by
 have hl : (vs.flatMap encS).length = vs.length * 2 := flat_length encS_len vs
 apply List.ext_getElem?
 intro t
 by_cases ht : t < vs.length * 2
 ·have he : t / 2 * 2 + t % 2 = t := by omega
  have h1 := flat_at encS_len vs (t / 2) (by omega) (t % 2) (by omega)
  have h2 := flat_at encS_len (vs.set q ((el vs q).1, va)) (t / 2) (by simp; omega) (t % 2) (by omega)
  rw [he] at h1 h2
  rw [h2, List.getElem?_set, Pl.el_set (by omega)]
  by_cases hq2 : q = t / 2
  ·rw [if_pos hq2]
   have h01 : t = q * 2 ∨ t = q * 2 + 1 := by omega
   rcases h01 with h | h
   ·have e0 : t % 2 = 0 := by omega
    rw [if_neg (by omega), h1, ← hq2, e0]; rfl
   ·have e0 : t % 2 = 1 := by omega
    rw [if_pos h.symm, if_pos (by omega), e0]; rfl
  ·rw [if_neg hq2, if_neg (by omega), h1]
 ·rw [List.getElem?_eq_none (by rw [List.length_set, hl]; omega), List.getElem?_eq_none (by rw [flat_length encS_len, List.length_set]; omega)]
theorem other_block {w : World} {base : Nat} {va v : Value} {n k g : Nat} {xs ys : List Value} (h1 : w.ownsRow base 58 4 va n xs) (h2 : w.ownsRow base 56 2 v k ys) (hv : v.ownBlock = some g) : va.ownBlock ≠ some g := by
 rcases own_apart h1 h2 (by decide) with h | h
 ·rw [h]; simp
 ·rw [← hv]; exact h
theorem OwnSts.put {w : World} {base g cap q : Nat} {va : Value} {l : List St} {s : List Ar} (h : OwnSts w base (.slice (some ⟨g, 0, none⟩) l.length cap) l) (hq : q < l.length) (hva : w.ownsRow base 58 4 va s.length (s.flatMap encA)) :
  OwnSts (w.setCell ⟨g, q * 2 + 1, none⟩ va) base (.slice (some ⟨g, 0, none⟩) l.length cap) (l.set q ((el l q).1, s)) := by
 obtain ⟨vs, h1, h2, h3⟩ := h
 have h1' := h1
 rw [h2] at h1
 have hs := (h1.stored (q * 2 + 1) va).1
 rw [flat_set (by omega)] at hs
 refine ⟨vs.set q ((el vs q).1, va), by rw [List.length_set, h2]; exact hs, by simp [h2], fun j hj => ?_⟩
 have hj' : j < l.length := by simpa using hj
 rw [Pl.el_set (by omega), Pl.el_set hj']
 by_cases e : q = j
 ·subst e
  rw [if_pos rfl, if_pos rfl]
  exact ⟨(h3 q hq).1, ownsRow_setCell_other (a := ⟨g, q * 2 + 1, none⟩) hva (other_block (g := g) hva h1' rfl) va⟩
 ·rw [if_neg e, if_neg e]
  exact ⟨(h3 j hj').1, ownsRow_setCell_other (a := ⟨g, q * 2 + 1, none⟩) (h3 j hj').2 (other_block (g := g) (h3 j hj').2 h1' rfl) va⟩
theorem ownMono {w : World} {base base' : Nat} {e : TypeId} {s : Nat} {v : Value} {n : Nat} {xs : List Value} (h : w.ownsRow base e s v n xs) (hb : base' ≤ base) : w.ownsRow base' e s v n xs := by
 refine ⟨h.1, ?_⟩
 rcases h.2 with h2 | ⟨g, cap, cur, hv, hg, h3⟩
 ·exact .inl h2
 ·exact .inr ⟨g, cap, cur, hv, Nat.le_trans hb hg, h3⟩
theorem grownBelow {w w' : World} (hb : Below w.heap.size w w') : w.grownBy w' none := ⟨hb.os, hb.tape, hb.output, hb.size, fun k hk _ => hb.block k hk⟩
theorem ownBelow {w w' : World} {base : Nat} {e : TypeId} {s : Nat} {v : Value} {n : Nat} {xs : List Value} (h : w.ownsRow base e s v n xs) (hb : Below w.heap.size w w') : w'.ownsRow base e s v n xs :=
 h.kept (grownBelow hb) (by rcases v.ownBlock with _ | _ <;> simp)
theorem oneRow {α : Type} [Inhabited α] {k : Nat} {enc : α → List Value} (w : World) (p : α) (hk : (enc p).length = k) (t : TypeId) : Row k enc (w.alloc (.cells (enc p).toArray t)) (.slice (some ⟨w.heap.size, 0, none⟩) 1 1) [p] := by
 refine .inr ⟨⟨w.heap.size, 0, none⟩, 1, rfl, fun j hj i u hu => ?_⟩
 have hj0 : j = 0 := by simp at hj; exact hj
 subst hj0
 rw [Addr.add_lit]
 refine (Blk.made w _ _).cell _ ?_
 rw [Nat.zero_mul, Nat.zero_add, Nat.zero_add]
 rw [el_zero] at hu
 simpa using hu
theorem snocFacts {α : Type} {k : Nat} {enc : α → List Value} {w w' : World} {base : Nat} {e : TypeId} {vo v : Value} {l : List α} {p : α} {ob : Obj} (ho : w.ownsRow base e k vo l.length (l.flatMap enc)) (hs : base ≤ w.heap.size) (h : w'.ownsRow base e k v (l.length + [p].length) (l.flatMap enc ++ [p].flatMap enc)) (hg : (w.alloc ob).grownBy w' vo.ownBlock) :
  Hid (w'.ownsRow base e k v (l ++ [p]).length ((l ++ [p]).flatMap enc)) ∧ Hid (Below base w w') ∧ Hid (base ≤ w'.heap.size) := by
 have hb : Below base w w' := ((Below.refl _ _).alloc hs ob).grown hg (by simp; omega) (own_geK ho)
 exact ⟨by show World.ownsRow _ _ _ _ _ _ _; rw [List.length_append, List.flatMap_append]; exact h, hb, Nat.le_trans hs hb.size⟩
theorem wpListAppendRun {P : Program} {ops : Array Oper} {Q : Exit → Act → World → Prop} {rest : List Oper} {o : Oper} {a : Act} {w w' : World} {v1 v2 v3 : Value} (hgd : o.guard = none) (x y : Operand) (t : TypeId) (ho : o.op = .call { callee := .builtin .append, args := #[x, y], argTypes := #[t, t] }) (hx : a.eval x = v1) (hy : a.eval y = v2)
  (hr : (Builtin.append_ #[t, t] o.type #[v1, v2]).run P w = .ok v3 w') (h : wpList P ops Q rest (a.put o.dst v3) w') : wpList P ops Q (o :: rest) a w :=
 wpList_plain hgd fun _ hK => wp_append_run x y t ho hx hy hr (hK _ _ h)
theorem boxedTwo {w w1 : World} {c0 c1 : Array Value} {t0 t1 : TypeId} {n : Nat} (hb : Below n ((w.alloc (.cells c0 t0)).alloc (.cells c1 t1)) w1) (hn : n = w.heap.size + 2) : w.heap.size + 2 ≤ w1.heap.size ∧ Blk w1 w.heap.size c0 t0 ∧ Blk w1 (w.heap.size + 1) c1 t1 ∧ Below w.heap.size w w1 := by
 subst hn
 have h := hb.size
 simp only [World.size_alloc] at h
 have k1 := Blk.made (w.alloc (.cells c0 t0)) c1 t1
 simp only [World.size_alloc] at k1
 exact ⟨h, ((Blk.made w c0 t0).alloc _).below hb (by omega), k1.below hb (by omega), (((Below.refl _ _).alloc (Nat.le_refl _) _).alloc (by simp) _).trans (hb.mono (by omega))⟩
theorem OwnSts.monoB {w : World} {base base' : Nat} {v : Value} {l : List St} (h : OwnSts w base v l) (hb : base' ≤ base) : OwnSts w base' v l := by
 obtain ⟨vs, h1, h2, h3⟩ := h
 exact ⟨vs, ownMono h1 hb, h2, fun j hj => ⟨(h3 j hj).1, ownMono (h3 j hj).2 hb⟩⟩
end Go.Proofs.Ytfpibdaedfilaaa.Wt
namespace Go.Proofs.Ytfpibdaedfilaaa.Pl
def fwdA (n q : Nat) (a : Ar) : Ar := (a.1, a.2.1, a.2.2.1, (q : Int) + 1 + a.2.2.2 % ((n : Int) - 1 - (q : Int)))
def fwdR (n q : Nat) (ar : List Ar) : List Ar := if q + 1 < n then ar.map (fwdA n q) else []
def fwdL (l : List St) (k : Nat) : List St := (List.range l.length).map fun j => if j < k then ((el l j).1, fwdR l.length j (el l j).2) else el l j
theorem fwdL_length (l : List St) (k : Nat) : (fwdL l k).length = l.length := by simp [fwdL]
theorem fwdL_el (l : List St) (k : Nat) {j : Nat} (h : j < l.length) : el (fwdL l k) j = if j < k then ((el l j).1, fwdR l.length j (el l j).2) else el l j := by
 unfold fwdL
 rw [el_range_map _ h]
theorem fwdL_zero (l : List St) : fwdL l 0 = l := by
 apply el_ext (fwdL_length l 0)
 intro j hj
 rw [fwdL_el l 0 (by rw [fwdL_length] at hj; exact hj), if_neg (Nat.not_lt_zero _)]
theorem fwdL_succ (l : List St) {k : Nat} (h : k < l.length) : fwdL l (k + 1) = (fwdL l k).set k ((el (fwdL l k) k).1, fwdR l.length k (el l k).2) := by
 apply el_ext (by simp [fwdL_length])
 intro j hj
 rw [fwdL_length] at hj
 rw [el_set (by rw [fwdL_length]; exact hj), fwdL_el l _ hj, fwdL_el l _ hj, fwdL_el l _ h]
 by_cases e : k = j
 ·subst e
  rw [if_pos rfl, if_pos (by omega), if_neg (by omega)]
 ·rw [if_neg e]
  by_cases e2 : j < k
  ·rw [if_pos e2, if_pos (by omega)]
  ·rw [if_neg e2, if_neg (by omega)]
def fwdM (m : Mc) : Mc := (0, fwdL m.2 m.2.length)
theorem fwdM_length (m : Mc) : (fwdM m).2.length = m.2.length := fwdL_length _ _
theorem fwdM_el (m : Mc) {j : Nat} (h : j < m.2.length) : el (fwdM m).2 j = ((el m.2 j).1, fwdR m.2.length j (el m.2 j).2) := by
 unfold fwdM
 rw [fwdL_el _ _ h, if_pos h]
theorem fwdR_le (n q : Nat) (ar : List Ar) : (fwdR n q ar).length ≤ ar.length := by unfold fwdR; split <;> simp
theorem fwdR_mem {n q : Nat} {ar : List Ar} {c : Ar} (h : c ∈ fwdR n q ar) : ∃ a ∈ ar, c = fwdA n q a ∧ q + 1 < n := by
 unfold fwdR at h
 split at h
 ·rename_i h1
  obtain ⟨a, ha, rfl⟩ := List.mem_map.1 h
  exact ⟨a, ha, rfl, h1⟩
 ·simp at h
theorem fwdA_to {n q : Nat} (h : q + 1 < n) (a : Ar) : ∃ t : Nat, (fwdA n q a).2.2.2 = (t : Int) ∧ q < t ∧ t < n := by
 have h1 := Int.emod_nonneg a.2.2.2 (b := (n : Int) - 1 - (q : Int)) (by omega)
 have h2 := Int.emod_lt_of_pos a.2.2.2 (b := (n : Int) - 1 - (q : Int)) (by omega)
 refine ⟨((q : Int) + 1 + a.2.2.2 % ((n : Int) - 1 - (q : Int))).toNat, ?_, ?_, ?_⟩
 ·simp only [fwdA]; omega
 ·omega
 ·omega
theorem arcN_len {a b : List St} (hl : a.length = b.length) (h : ∀ j, j < a.length → (el a j).2.length ≤ (el b j).2.length) : arcN a ≤ arcN b := by
  induction a generalizing b with
  | nil => simp [arcN]
  | cons s a ih =>
    cases b with
    | nil => simp at hl
    | cons t b =>
      have h0 := h 0 (by simp)
      rw [el_zero, el_zero] at h0
      have := ih (b := b) (by simpa using hl) (fun j hj => by have := h (j + 1) (by simpa using hj); rwa [el_succ, el_succ] at this)
      simp only [arcN]
      omega
theorem fwdM_fault {m : Mc} (hf : faultM m = 0) (h0 : 0 < m.2.length) : faultM (fwdM m) = 0 := by
 obtain ⟨z, l⟩ := m
 have hs := right_size hf
 have har : arcN (fwdM (z, l)).2 ≤ arcN l := arcN_len (fwdM_length _) (fun j hj => by
  rw [fwdM_length] at hj
  rw [fwdM_el _ hj]
  exact fwdR_le _ _ _)
 have hlen := fwdM_length (z, l)
 refine faultM_ok ?_ ?_
 ·simp only [sizeB, Bool.and_eq_true]
  exact ⟨decide_eq_true (by rw [hlen]; exact hs.1), decide_eq_true (Nat.le_trans har hs.2)⟩
 ·simp only [rangeB, Bool.and_eq_true, List.all_eq_true]
  refine ⟨by simp only [inB, Bool.and_eq_true]; exact ⟨decide_eq_true (by simp [fwdM]), decide_eq_true (by rw [hlen]; show (0 : Int) ≤ _; simp only at h0 ⊢; omega)⟩, fun s hs' => ?_⟩
  obtain ⟨j, hj, rfl⟩ := mem_el hs'
  rw [hlen] at hj
  rw [hlen, fwdM_el _ hj]
  have h1 := right_st hf hj
  simp only [stB, Bool.and_eq_true, List.all_eq_true]
  refine ⟨h1.1, fun c hc => ?_⟩
  obtain ⟨a, ha, rfl, hq⟩ := fwdR_mem hc
  have h2 := List.all_eq_true.1 h1.2 a ha
  obtain ⟨t, h3, h4, h5⟩ := fwdA_to hq a
  simp only [arcB, inB, Bool.and_eq_true, decide_eq_true_eq] at h2
  simp only [arcB, inB, Bool.and_eq_true]
  rw [h3]
  exact ⟨⟨⟨⟨decide_eq_true h2.1.1.1.1, decide_eq_true h2.1.1.1.2⟩, ⟨decide_eq_true h2.1.1.2.1, decide_eq_true h2.1.1.2.2⟩⟩, ⟨decide_eq_true h2.1.2.1, decide_eq_true h2.1.2.2⟩⟩, ⟨decide_eq_true (by omega), decide_eq_true (by omega)⟩⟩
theorem fwdR_take {n q : Nat} {ar : List Ar} {j : Nat} (hj : j < ar.length) : (ar.take (j + 1)).map (fwdA n q) = (ar.take j).map (fwdA n q) ++ [fwdA n q (el ar j)] := by rw [take_el hj]; simp
end Go.Proofs.Ytfpibdaedfilaaa.Pl
namespace Go.Proofs.Ytfpibdaedfilaaa.Wt
open Go.ChangeShapes Go.WideShapes Go.ChangeAt Go.RowKit
open Go.Proofs.Ytfpibdaedfilaaa.Pl
set_option linter.unusedVariables false
set_option linter.unusedSimpArgs false
theorem wrapF {n : Int} (h0 : -9223372036854775808 ≤ n) (h1 : n ≤ 9223372036854775807) : IntKind.i64.wrap n = n := by
 have h64 : IntKind.i64.wrap n = if n % 18446744073709551616 ≥ 9223372036854775808 then n % 18446744073709551616 - 18446744073709551616 else n % 18446744073709551616 := by
  simp [IntKind.wrap, IntKind.bits, IntKind.signed]
 rw [h64]
 split <;> omega
theorem OwnSts.at {w : World} {base cap : Nat} {a : Option Addr} {l : List St} (h : OwnSts w base (.slice a l.length cap) l) (h0 : 0 < l.length) : ∃ g, a = some ⟨g, 0, none⟩ ∧ base ≤ g ∧ g < w.heap.size := by
 obtain ⟨vs, h1, h2, _⟩ := h
 rcases h1.2 with ⟨hv, hn⟩ | ⟨g, cap', cur, hv, hb, hg, _⟩
 ·omega
 ·simp only [Value.slice.injEq] at hv
  exact ⟨g, hv.1, hb, lt_of_block hg⟩
theorem OwnSts.cells {w : World} {base g cap : Nat} {l : List St} (h : OwnSts w base (.slice (some ⟨g, 0, none⟩) l.length cap) l) {q : Nat} (hq : q < l.length) : ∃ va, w.cell? ⟨g, q * 2, none⟩ = some (.int .i64 (el l q).1) ∧ w.cell? ⟨g, q * 2 + 1, none⟩ = some va ∧ Arcs w va (el l q).2 := by
 obtain ⟨a, cap', hv, hc⟩ := h.sts.get
 simp only [Value.slice.injEq, true_and] at hv
 obtain ⟨b, off, va, h1, h2, h3, h4, h5⟩ := hc q hq
 rw [← hv.1] at h1
 simp only [Option.some.injEq, Addr.mk.injEq, and_true] at h1
 obtain ⟨rfl, rfl⟩ := h1
 rw [Nat.zero_add] at h3 h4
 exact ⟨va, h3, h4, h5⟩
theorem OwnSts.fz {w : World} {base g cap : Nat} {l : List St} (h : OwnSts w base (.slice (some ⟨g, 0, none⟩) l.length cap) l) (o : Nat) : w.frozen? ⟨g, o, none⟩ = false := by
 obtain ⟨vs, h1, h2, _⟩ := h
 rcases h1.2 with ⟨hv, hn⟩ | ⟨g', cap', cur, hv, hb, hg, _⟩
 ·simp at hv
 ·simp only [Value.slice.injEq, Option.some.injEq, Addr.mk.injEq, and_true] at hv
  obtain ⟨rfl, _⟩ := hv
  simp [World.frozen?, hg]
set_option maxRecDepth 100000 in
set_option maxHeartbeats 6400000 in
theorem forward_own (v : Value) (r : Rw) (states : Nat) (w : World) (h : RawV w v r) (hok : okR r) (hwf : wfR r) (hs0 : 0 < states) (hs8 : states ≤ 8) :
  Calls Try.prog 8 #[v, .int .i64 (states : Int)] w fun e w' => ∃ vs, e = .returned (.agg #[.int .i64 0, vs]) ∧ OwnSts w' w.heap.size vs (fwdM (madeM r states false)).2 ∧ Below w.heap.size w w' := by
 obtain ⟨i0, hi0, hz0, hz1, hz2⟩ := info_parts infoArc
 have HI : Hid (RawV w v r) := h
 have HOK : Hid (okR r) := hok
 have HWF : Hid (wfR r) := hwf
 have hf := madeM_right r states hs0 hs8 false
 have hlen : (madeM r states false).2.length = sizeM r states := statesM_length _ _ _
 have hn8 : 0 < sizeM r states ∧ sizeM r states ≤ 8 := by unfold sizeM; omega
 rw [← hlen] at hn8
 generalize hM : madeM r states false = M at hf hn8
 have HMM : Hid (madeM r states false = M) := hM
 clear hM hok hwf hlen
 obtain ⟨z, l⟩ := M
 simp only at hn8
 have HF : Hid (faultM (z, l) = 0) := hf
 have HFM : Hid ((fwdM (z, l)).2 = fwdL l l.length) := rfl
 have HTO : Hid (∀ j, j < l.length → ∀ c ∈ (el l j).2, ∃ t : Nat, c.2.2.2 = (t : Int) ∧ t < l.length) := fun j hj c hc => by
  have h9 := List.all_eq_true.1 (right_st hf hj).2 c hc
  simp only [arcB, inB, Bool.and_eq_true, decide_eq_true_eq] at h9
  exact ⟨c.2.2.2.toNat, by omega, by omega⟩
 have HLL : Hid (∀ j, j < l.length → (el l j).2.length ≤ 400) := fun j hj => by
  have h1 := arcN_take hj
  have h2 : arcN (l.take (j + 1)) ≤ arcN l := by
   conv => rhs; rw [← List.take_append_drop (j + 1) l, arcN_append]
   omega
  have h3 := (right_size hf).2
  omega
 clear hf
 obtain ⟨vs, rfl, hN⟩ := h
 obtain ⟨ra, rcap, rfl, _⟩ := hN.get
 clear hN
 have HB0 : Hid (Below w.heap.size w ((w.alloc (.cells #[.int .i64 r.1, .slice ra r.2.length rcap] 24)).alloc (.cells #[.int .i64 0, .slice none 0 0] 27))) := ((Below.refl _ _).alloc (Nat.le_refl _) _).alloc (by simp) _
 go_enter Try.func8, Try.ntmps8
 go_wp2_with (first
  | (go_at_call 13; (with_reducible refine (made_own _ r states false _ (HI.out.later HB0.out (Nat.le_refl _)) HOK.out HWF.out hs0 hs8).mono ?_); rintro e w1 ⟨vs1, rfl, hi, hb⟩; rw [HMM.out] at hi; obtain ⟨s1, k0, k1, hb1⟩ := boxedTwo hb (by simp); have HO1 : Hid (OwnSts w1 (w.heap.size + 1 + 1) vs1 l) := (by have h9 := hi; simp only [World.size_alloc] at h9; exact h9); obtain ⟨a1, cap1, rfl⟩ := hi.sts.sl; have K1 : Hid (Blk w1 (w.heap.size + 1) #[.int .i64 0, .slice none 0 0] 27) := k1; have HB1 : Hid (Below w.heap.size w w1) := hb1; clear k0 k1 hb1 hb hi))
 obtain ⟨g1, hg1, hg1b, hg1l⟩ := HO1.out.at hn8.1
 subst hg1
 have HLE : Hid (∀ k, (fwdL l k).length = l.length) := fun k => fwdL_length l k
 have HEL : Hid (∀ k, k < l.length → el (fwdL l k) k = el l k) := fun k hk => by rw [fwdL_el l k hk, if_neg (Nat.lt_irrefl _)]
 have HSU : Hid (∀ k, k < l.length → fwdL l (k + 1) = (fwdL l k).set k ((el (fwdL l k) k).1, fwdR l.length k (el l k).2)) := fun k hk => fwdL_succ l hk
 have HZE : Hid (fwdL l 0 = l) := fwdL_zero l
 generalize hn : l.length = n at *
 have HN : Hid (l.length = n) := hn
 clear hn
 go_loopw [7] (fun i wr => ∃ k : Nat, k ≤ n ∧ i = .int .i64 k ∧ Hid (OwnSts wr (w.heap.size + 1 + 1) (.slice (some ⟨g1, 0, none⟩) n cap1) (fwdL l k)) ∧ Hid (Blk wr w1.heap.size #[.int .i64 0, .slice (some ⟨g1, 0, none⟩) n cap1] 27) ∧ Hid (Blk wr (w.heap.size + 1) #[.int .i64 0, .slice none 0 0] 27) ∧ Hid (Below w.heap.size w wr)) (fun i _ => n - (intOf i).toNat)
 case atStart => exact ⟨0, Nat.zero_le _, rfl, by rw [HZE.out]; exact HO1.out.kept (grownBelow ((Below.refl _ _).alloc (Nat.le_refl _) _)), Blk.made _ _ _, K1.out.alloc _, HB1.out.alloc HB1.out.size _⟩
 case round =>
  obtain ⟨k, hk, rfl, hos, hbm, hbr, hb⟩ := hrel
  by_cases hkn : k < n
  ·have hos' : OwnSts wr (w.heap.size + 1 + 1) (.slice (some ⟨g1, 0, none⟩) (fwdL l k).length cap1) (fwdL l k) := by rw [HLE.out]; exact hos.out
   obtain ⟨va, g0, g1', gA⟩ := hos'.cells (q := k) (by rw [HLE.out]; exact hkn)
   have hgw : g1 < wr.heap.size := World.block_lt_of_cell? _ _ g0
   have hmw : w1.heap.size < wr.heap.size := hbm.out.lt
   rw [HEL.out k hkn] at gA
   obtain ⟨a2, cap2, hva, hga⟩ := gA.get
   subst hva
   have HGA : Hid (∀ j, j < (el l k).2.length → ∃ b off, a2 = some ⟨b, off, none⟩ ∧ b < wr.heap.size ∧ wr.cell? ⟨b, off + j * 4, none⟩ = some (.int .i64 (el (el l k).2 j).1) ∧ wr.cell? ⟨b, off + j * 4 + 1, none⟩ = some (.int .i64 (el (el l k).2 j).2.1) ∧ wr.cell? ⟨b, off + j * 4 + 2, none⟩ = some (.int .i64 (el (el l k).2 j).2.2.1) ∧ wr.cell? ⟨b, off + j * 4 + 3, none⟩ = some (.int .i64 (el (el l k).2 j).2.2.2)) := hga
   have HTK : Hid (∀ c ∈ (el l k).2, ∃ t : Nat, c.2.2.2 = (t : Int) ∧ t < n) := HTO.out k hkn
   have hL4 := HLL.out k hkn
   have HSK : Hid (fwdL l (k + 1) = (fwdL l k).set k ((el (fwdL l k) k).1, fwdR n k (el l k).2)) := HSU.out k hkn
   clear gA hga g0
   generalize (el l k).2 = ar at *
   generalize hL : ar.length = L at *
   have HL : Hid (ar.length = L) := hL
   clear hL
   obtain ⟨wo, hwo⟩ : ∃ wo, wo = wr := ⟨wr, rfl⟩
   subst hwo
   have hk0 : (0 : Int) ≤ (k : Int) := by omega
   have hk1 : (k : Int) < (n : Int) := by omega
   have k5 : IntKind.i64.wrap ((n : Int) - 1) = (n : Int) - 1 := wrapF (by omega) (by omega)
   have k6 : IntKind.i64.wrap ((n : Int) - 1 - (k : Int)) = (n : Int) - 1 - (k : Int) := wrapF (by omega) (by omega)
   have k7 : IntKind.i64.wrap ((k : Int) + 1) = (k : Int) + 1 := wrapF (by omega) (by omega)
   go_wp2
   go_loopw [8, 9] (fun s8 i wr => ∃ (j : Nat) (vr : Value), j ≤ L ∧ vr = s8 ∧ i = .int .i64 j ∧ (¬ k + 1 < n → j = 0) ∧ Hid (wr.ownsRow wo.heap.size 58 4 vr ((ar.take j).map (fwdA n k)).length (((ar.take j).map (fwdA n k)).flatMap encA)) ∧ Hid (Below wo.heap.size wo wr)) (fun _ i _ => L - (intOf i).toNat)
   case atStart => exact ⟨0, _, Nat.zero_le _, rfl, rfl, fun _ => rfl, World.ownsRow_nil _ _ _ _, Below.refl _ _⟩
   case round =>
    obtain ⟨j, vr, hj, rfl, rfl, hj9, hrw, hbi⟩ := hrel
    have c1 := (hbi.out.cell (p := ⟨w1.heap.size, 1, none⟩) hmw).trans (hbm.out.cell 1 (v := .slice (some ⟨g1, 0, none⟩) n cap1) rfl)
    have g1' := (hbi.out.cell (p := ⟨g1, k * 2 + 1, none⟩) hgw).trans g1'
    by_cases hst : j < L ∧ k + 1 < n
    ·obtain ⟨hjL, hkl⟩ := hst
     obtain ⟨b3, off3, rfl, hb3l, e0, e1, e2, e3⟩ := HGA.out j hjL
     have e0 := (hbi.out.cell (p := ⟨b3, off3 + j * 4, none⟩) hb3l).trans e0
     have e1 := (hbi.out.cell (p := ⟨b3, off3 + j * 4 + 1, none⟩) hb3l).trans e1
     have e2 := (hbi.out.cell (p := ⟨b3, off3 + j * 4 + 2, none⟩) hb3l).trans e2
     have e3 := (hbi.out.cell (p := ⟨b3, off3 + j * 4 + 3, none⟩) hb3l).trans e3
     obtain ⟨t, ht, htn⟩ := HTK.out _ (el_mem (l := ar) (j := j) (by rw [HL.out]; exact hjL))
     have HT := fwdR_take (n := n) (q := k) (ar := ar) (j := j) (by rw [HL.out]; exact hjL)
     have htl : Hid (((ar.take j).map (fwdA n k)).length ≤ L) := by show _ ≤ _; rw [List.length_map, List.length_take]; omega
     generalize el ar j = c at *
     have HT : (ar.take (j + 1)).map (fwdA n k) = (ar.take j).map (fwdA n k) ++ [(c.1, c.2.1, c.2.2.1, (k : Int) + 1 + c.2.2.2 % ((n : Int) - 1 - (k : Int)))] := HT
     rw [ht] at e3 HT
     generalize hx0 : c.1 = x0 at *
     generalize hx1 : c.2.1 = x1 at *
     generalize hx2 : c.2.2.1 = x2 at *
     clear hx0 hx1 hx2 ht
     have hm1 := Int.emod_nonneg (t : Int) (b := (n : Int) - 1 - (k : Int)) (by omega)
     have hm2 := Int.emod_lt_of_pos (t : Int) (b := (n : Int) - 1 - (k : Int)) (by omega)
     have hm3 : Int.tmod (t : Int) ((n : Int) - 1 - (k : Int)) = (t : Int) % ((n : Int) - 1 - (k : Int)) := Int.tmod_eq_emod_of_nonneg (by omega)
     have hd0 : ¬ ((n : Int) - 1 - (k : Int) = 0) := by omega
     have k8 : IntKind.i64.wrap ((k : Int) + 1 + (t : Int) % ((n : Int) - 1 - (k : Int))) = (k : Int) + 1 + (t : Int) % ((n : Int) - 1 - (k : Int)) := wrapF (by omega) (by omega)
     have k9 : IntKind.i64.wrap ((t : Int) % ((n : Int) - 1 - (k : Int))) = (t : Int) % ((n : Int) - 1 - (k : Int)) := wrapF (by omega) (by omega)
     have hj0 : (0 : Int) ≤ (j : Int) := by omega
     have hj1 : (j : Int) < (L : Int) := by omega
     have hkl' : (k : Int) < (n : Int) - 1 := by omega
     generalize (ar.take j).map (fwdA n k) = tl at *
     have HE : Hid ((ar.take (j + 1)).map (fwdA n k) = tl ++ [(x0, x1, x2, (k : Int) + 1 + (t : Int) % ((n : Int) - 1 - (k : Int)))]) := by show _ = _; exact HT
     clear HT
     have HD : Hid ((wr.alloc (.cells #[.int .i64 x0, .int .i64 x1, .int .i64 x2, .int .i64 ((k : Int) + 1 + (t : Int) % ((n : Int) - 1 - (k : Int)))] 58)).ownsRow wo.heap.size 58 4 vr tl.length (tl.flatMap encA)) := hrw.out.alloc _
     have HDB : Hid (Below wo.heap.size wo (wr.alloc (.cells #[.int .i64 x0, .int .i64 x1, .int .i64 x2, .int .i64 ((k : Int) + 1 + (t : Int) % ((n : Int) - 1 - (k : Int)))] 58))) := hbi.out.alloc hbi.out.size _
     have HONE : Hid (Row 4 encA ((wr.alloc (.cells #[.int .i64 x0, .int .i64 x1, .int .i64 x2, .int .i64 ((k : Int) + 1 + (t : Int) % ((n : Int) - 1 - (k : Int)))] 58)).alloc (.cells #[.int .i64 x0, .int .i64 x1, .int .i64 x2, .int .i64 ((k : Int) + 1 + (t : Int) % ((n : Int) - 1 - (k : Int)))] 58)) (.slice (some ⟨wr.heap.size + 1, 0, none⟩) 1 1) [(x0, x1, x2, (k : Int) + 1 + (t : Int) % ((n : Int) - 1 - (k : Int)))]) := by
      have h9 := oneRow (enc := encA) (wr.alloc (.cells #[.int .i64 x0, .int .i64 x1, .int .i64 x2, .int .i64 ((k : Int) + 1 + (t : Int) % ((n : Int) - 1 - (k : Int)))] 58)) (x0, x1, x2, (k : Int) + 1 + (t : Int) % ((n : Int) - 1 - (k : Int))) rfl 58
      simp only [World.size_alloc] at h9
      exact h9
     go_wp2_with (first
      | (at_builtin; refine wpList_append_rows encA_len (by decide) encA_one rfl _ _ 54 rfl wo.heap.size 58 i0 _ 32 Try.underlying54 hi0 hz0 hz1 hz2 rfl _ tl.length (tl.flatMap encA) rfl (HD.out.alloc _) _ [(x0, x1, x2, (k : Int) + 1 + (t : Int) % ((n : Int) - 1 - (k : Int)))] rfl HONE.out (by have := htl.out; simp; unfold maxLen; omega) (by have := htl.out; simp; omega) (by have := HDB.out.size; simp at this ⊢; omega) ?_; intro v4 w4 ho4 hg4; obtain ⟨HO4, HB4, HZ4⟩ := snocFacts HD.out HDB.out.size ho4 hg4; clear ho4 hg4))
     go_roundw
     case rel => exact ⟨j + 1, _, by omega, rfl, by go_num, fun h9 => absurd hkl h9, by rw [HE.out]; exact HO4, HDB.out.trans HB4.out⟩
     case measure => simp [intOf]; omega
    ·have HFR : Hid ((ar.take j).map (fwdA n k) = fwdR n k ar) := by
      show _ = _
      unfold fwdR
      by_cases hkl : k + 1 < n
      ·rw [if_pos hkl, show j = ar.length by rw [HL.out]; omega, List.take_length]
      ·rw [if_neg hkl, hj9 hkl]; rfl
     have hrw' : wr.ownsRow wo.heap.size 58 4 vr (fwdR n k ar).length ((fwdR n k ar).flatMap encA) := by have h9 := hrw.out; rw [HFR.out] at h9; exact h9
     obtain ⟨a3, c3, hv3⟩ := own_sl hrw'
     have hos2 : OwnSts wr (w.heap.size + 1 + 1) (.slice (some ⟨g1, 0, none⟩) (fwdL l k).length cap1) (fwdL l k) := hos'.kept (grownBelow hbi.out)
     have HPUT : Hid (OwnSts (wr.setCell ⟨g1, k * 2 + 1, none⟩ vr) (w.heap.size + 1 + 1) (.slice (some ⟨g1, 0, none⟩) n cap1) (fwdL l (k + 1))) := by
      have h9 := hos2.put (q := k) (va := vr) (s := fwdR n k ar) (by rw [HLE.out]; exact hkn) (ownMono hrw' (by have := hb.out.size; omega))
      rw [HLE.out, ← HSK.out] at h9
      exact h9
     have f1 := hos2.fz (k * 2 + 1)
     have hne1 : w1.heap.size ≠ g1 := by omega
     have hne2 : w.heap.size + 1 ≠ g1 := by omega
     have HBM : Hid (Blk (wr.setCell ⟨g1, k * 2 + 1, none⟩ vr) w1.heap.size #[.int .i64 0, .slice (some ⟨g1, 0, none⟩) n cap1] 27) := (hbm.out.below hbi.out hmw).setO _ _ hne1
     have HBR : Hid (Blk (wr.setCell ⟨g1, k * 2 + 1, none⟩ vr) (w.heap.size + 1) #[.int .i64 0, .slice none 0 0] 27) := (hbr.out.below hbi.out hbr.out.lt).setO _ _ hne2
     have HBF : Hid (Below w.heap.size w (wr.setCell ⟨g1, k * 2 + 1, none⟩ vr)) := (hb.out.trans (hbi.out.mono hb.out.size)).setCell (by show w.heap.size ≤ g1; omega) _
     subst hv3
     clear hrw hrw' hos2 hos hbm hbr hb
     by_cases hjL : j < L
     ·have hkl' : ¬ (k : Int) < (n : Int) - 1 := by omega
      have hj1 : (j : Int) < (L : Int) := by omega
      go_wp2
      go_roundw
      case rel => exact ⟨k + 1, by omega, by go_num, HPUT, HBM, HBR, HBF⟩
      case measure => simp [intOf]; omega
     ·have hj1 : ¬ (j : Int) < (L : Int) := by omega
      go_wp2
      go_roundw
      case rel => exact ⟨k + 1, by omega, by go_num, HPUT, HBM, HBR, HBF⟩
      case measure => simp [intOf]; omega
  ·have hnl : ¬ (k : Int) < (n : Int) := by omega
   have HX : Hid (OwnSts wr (w.heap.size + 1 + 1) (.slice (some ⟨g1, 0, none⟩) n cap1) (fwdM (z, l)).2) := by
    have h9 := hos.out
    rw [show k = n by omega] at h9
    rw [HFM.out]
    exact h9
   have d0 := hbm.out.cell 0 (v := .int .i64 0) rfl
   have d1 := hbm.out.cell 1 (v := .slice (some ⟨g1, 0, none⟩) n cap1) rfl
   have f0 := hbr.out.cell 0 (v := .int .i64 0) rfl
   have f1 := hbr.out.cell 1 (v := .slice none 0 0) rfl
   have f2 := hbr.out.fz 0
   have f3 := hbr.out.fz 1
   clear hos hbm hbr
   go_wp2
   exact bodyPost_ret (v := .agg #[.int .i64 0, .slice (some ⟨g1, 0, none⟩) n cap1]) (by simp [results, Try.results8, go_sem, *]) rfl ⟨_, rfl, by refine OwnSts.monoB (base := w.heap.size + 1 + 1) ?_ (by omega); exact (HX.out.setCell (by show w.heap.size + 1 < _; omega) _).setCell (by show w.heap.size + 1 < _; omega) _, by (have h := hb.out); go_grown⟩
theorem forward_any (v : Value) (r : Rw) (states : Nat) (w : World) (h : RawV w v r) (hok : okR r) (hwf : wfR r) (hs0 : 0 < states) (hs8 : states ≤ 8) :
  Calls Try.prog 8 #[v, .int .i64 (states : Int)] w fun e w' => ∃ v', e = .returned v' ∧ Mach w' v' (fwdM (madeM r states false)) ∧ Below w.heap.size w w' :=
 (forward_own v r states w h hok hwf hs0 hs8).mono fun _ _ ⟨vs, he, ho, hb⟩ => ⟨_, he, ⟨vs, rfl, ho.sts⟩, hb⟩
end Go.Proofs.Ytfpibdaedfilaaa.Wt
namespace Go.Proofs.Ytfpibdaedfilaaa.Pl
set_option linter.unusedVariables false
set_option linter.unusedSimpArgs false
theorem arcN_takeR (l : List St) (k : Nat) : arcN (l.take k) ≤ arcN l := by
 conv => rhs; rw [← List.take_append_drop k l, arcN_append]
 omega
theorem small_ok {m : Mc} (h1 : m.2.length ≤ 100000) (h2 : arcN m.2 ≤ 100000) : okM m := ⟨by omega, fun j hj => by
 have h3 := arcN_take hj
 have h4 := arcN_takeR m.2 (j + 1)
 omega⟩
theorem right_parts {m : Mc} (h : faultM m = 0) : (-1 ≤ m.1 ∧ m.1 ≤ (m.2.length : Int) - 1) ∧ ∀ s ∈ m.2, stB m.2.length s = true := by
 have h1 := (faultM_zero h).2
 simp only [rangeB, Bool.and_eq_true, inB, decide_eq_true_eq, List.all_eq_true] at h1
 exact h1
theorem stB_fin {n : Nat} {s : St} (h : stB n s = true) : finB s.1 = true := by
 simp only [stB, Bool.and_eq_true] at h
 exact h.1
end Go.Proofs.Ytfpibdaedfilaaa.Pl
