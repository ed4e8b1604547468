/- Twins as one number each, and the steps of a machine (no program in sight). -/
import Derived.Test.YtfpibdaedfilaaaHao
import Derived.Test.YtfpibdaedfilaaaRows
import Derived.Test.YtfpibdaedfilaaaHah
import Derived.WalkKit
import Derived.ProofKit
import Derived.OpenShut
import Derived.Below
import Derived.Handy
import Derived.RegionTactic
namespace Go.Proofs.Ytfpibdaedfilaaa.Pl
set_option linter.unusedVariables false
set_option linter.unusedSimpArgs false
def kA (k : Int) : Int := k / 2147483648
def kB (k : Int) : Int := k % 2147483648
def noK : Int := 2147483651147483649
def capK : Int := 2147483650147483648
def KeyOk (x : Int) : Prop := x = noK ∨ (0 ≤ kA x ∧ kA x ≤ 1000000000 ∧ 0 ≤ kB x ∧ kB x ≤ 1000000000)
def bothK (x y : Int) : Int := if kA x + kA y ≤ 1000000000 ∧ kB x + kB y ≤ 1000000000 then x + y else noK
theorem key_mk {a b : Int} (h0 : 0 ≤ b) (h1 : b < 2147483648) : kA (a * 2147483648 + b) = a ∧ kB (a * 2147483648 + b) = b := by unfold kA kB; omega
theorem key_less (x y : Int) : x < y ↔ kA x < kA y ∨ (kA x = kA y ∧ kB x < kB y) := by unfold kA kB; omega
theorem key_eq (x y : Int) : x = y ↔ kA x = kA y ∧ kB x = kB y := by unfold kA kB; omega
theorem noK_parts : kA noK = 1000000001 ∧ kB noK = 1000000001 := by decide
theorem bothK_le {x s c : Int} (hx : KeyOk x) (hb : x = noK ∨ kB x ≤ 1000000) (hs : 0 ≤ kA s ∧ kA s ≤ 1000000000 ∧ 0 ≤ kB s ∧ kB s ≤ 1) (hc : c < capK) : bothK x s ≤ c ↔ x + s ≤ c := by
 unfold bothK KeyOk noK capK kA kB at *
 split <;> omega
theorem bothK_ge {x s : Int} (hx : KeyOk x) (hs : 0 ≤ kA s ∧ kA s ≤ 1000000000 ∧ 0 ≤ kB s ∧ kB s ≤ 1) : x ≤ bothK x s := by
 unfold bothK KeyOk noK kA kB at *
 split <;> omega
theorem bothK_ok {x s : Int} (hx : KeyOk x) (hs : KeyOk s) : KeyOk (bothK x s) ∧ (bothK x s = noK ∨ kB (bothK x s) = kB x + kB s) := by
 unfold bothK KeyOk noK kA kB at *
 split
 ·refine ⟨.inr ?_, .inr ?_⟩ <;> omega
 ·exact ⟨.inl rfl, .inl rfl⟩
def arS (a : Ar) : Ar := (a.2.2.2, 0, 0, a.2.2.1 * 2147483648 + 1)
def onS (l : List St) (q : Nat) : List Ar := (el l q).2.map arS ++ if (el l q).1 = 1000000001 then [] else [((l.length : Int), 0, 0, (el l q).1 * 2147483648)]
def onL (l : List St) : List (List Ar) := (List.range l.length).map (onS l) ++ [[]]
theorem onL_len (l : List St) : (onL l).length = l.length + 1 := by simp [onL]
theorem onL_el {l : List St} {q : Nat} (h : q < l.length) : el (onL l) q = onS l q := by
 unfold onL
 rw [el_left (by simpa using h), el_range_map _ h]
theorem onL_end (l : List St) : el (onL l) l.length = [] := by
 unfold onL
 simp [el]
structure RgtL (l : List St) : Prop where
 fin : ∀ q, q < l.length → 0 ≤ (el l q).1 ∧ (el l q).1 ≤ 1000000001
 arc : ∀ q, q < l.length → ∀ a ∈ (el l q).2, 0 ≤ a.2.2.1 ∧ a.2.2.1 ≤ 1000000000 ∧ ∃ t : Nat, a.2.2.2 = (t : Int) ∧ t < l.length
theorem RgtL.of {m : Mc} (hr : faultM m = 0) : RgtL m.2 :=
 ⟨fun q hq => ⟨(right_nums hr hq).1, (right_nums hr hq).2.1⟩, fun q hq a ha => by
  obtain ⟨i, hi, rfl⟩ := mem_el ha
  exact (right_nums hr hq).2.2 i hi⟩
def StpOk (N : Nat) (s : Ar) : Prop := (0 ≤ kA s.2.2.2 ∧ kA s.2.2.2 ≤ 1000000000 ∧ 0 ≤ kB s.2.2.2 ∧ kB s.2.2.2 ≤ 1) ∧ ∃ t : Nat, s.1 = (t : Int) ∧ t < N
theorem StpOk.pos {N : Nat} {s : Ar} (h : StpOk N s) : 0 ≤ s.2.2.2 := by
 have h1 := h.1
 unfold kA kB at h1
 omega
theorem StpOk.key {N : Nat} {s : Ar} (h : StpOk N s) : KeyOk s.2.2.2 := .inr (by have := h.1; omega)
def StsOk (S : List (List Ar)) : Prop := ∀ q, q < S.length → ∀ s ∈ el S q, StpOk S.length s
theorem StsOk.hw {S : List (List Ar)} (h : StsOk S) : ∀ j, j < S.length → ∀ s ∈ el S j, 0 ≤ s.2.2.2 ∧ ∃ t : Nat, s.1 = (t : Int) ∧ t < S.length := fun j hj s hs => ⟨(h j hj s hs).pos, (h j hj s hs).2⟩
theorem onS_mem {l : List St} {q : Nat} {s : Ar} (h : s ∈ onS l q) : (∃ a ∈ (el l q).2, s = arS a) ∨ ((el l q).1 ≠ 1000000001 ∧ s = ((l.length : Int), 0, 0, (el l q).1 * 2147483648)) := by
 rcases List.mem_append.1 h with h | h
 ·obtain ⟨a, ha, rfl⟩ := List.mem_map.1 h
  exact .inl ⟨a, ha, rfl⟩
 ·split at h
  ·cases h
  ·rename_i g
   exact .inr ⟨g, List.mem_singleton.1 h⟩
theorem onL_ok {l : List St} (h : RgtL l) : StsOk (onL l) := fun q hq s hs => by
 rw [onL_len] at hq ⊢
 by_cases hl : q < l.length
 ·rw [onL_el hl] at hs
  rcases onS_mem hs with ⟨a, ha, rfl⟩ | ⟨g, rfl⟩
  ·obtain ⟨h0, h1, t, e, ht⟩ := h.arc q hl a ha
   refine ⟨?_, t, e, by omega⟩
   unfold arS kA kB
   simp only
   omega
  ·obtain ⟨h0, h1⟩ := h.fin q hl
   refine ⟨?_, l.length, rfl, by omega⟩
   unfold kA kB
   simp only
   omega
 ·rw [show q = l.length by omega, onL_end] at hs
  cases hs
structure XP (l : List St) (X : Nat → Nat → Int → Nat) : Prop where
 zero : ∀ p c, X 0 p c = 0
 fin : ∀ k c, X (k + 1) l.length c = if 0 ≤ c then 1 else 0
 step : ∀ k p c, p < l.length → X (k + 1) p c = ((onS l p).map fun s => X k s.1.toNat (c - s.2.2.2)).sum
theorem XP.fro {l : List St} (h : RgtL l) : XP l fun k p c => wC (onL l) p k l.length c := by
 have hs : ∀ j, j < (onL l).length → ∀ s ∈ el (onL l) j, ∃ t : Nat, s.1 = (t : Int) ∧ t < (onL l).length := fun j hj s hs => (onL_ok h j hj s hs).2
 refine ⟨fun _ _ => rfl, fun k c => ?_, fun k p c hp => ?_⟩
 ·show wC (onL l) l.length (k + 1) l.length c = _
  rw [wC_front hs (by rw [onL_len]; omega), onL_end]
  simp [atS]
 ·show wC (onL l) p (k + 1) l.length c = _
  rw [wC_front hs (by rw [onL_len]; omega), onL_el hp]
  have : atS p l.length c = 0 := by unfold atS; rw [if_neg (by omega)]
  rw [this, Nat.zero_add]
section
variable {l : List St} {X : Nat → Nat → Int → Nat}
theorem XP.row (hX : XP l X) {k p : Nat} {c : Int} (hp : p < l.length) : X (k + 2) p c = ((el l p).2.map fun a => X (k + 1) a.2.2.2.toNat (c - (a.2.2.1 * 2147483648 + 1))).sum + if (el l p).1 ≠ 1000000001 ∧ (el l p).1 * 2147483648 ≤ c then 1 else 0 := by
 rw [hX.step (k + 1) p c hp]
 unfold onS
 rw [List.map_append, List.sum_append, List.map_map]
 congr 1
 by_cases h : (el l p).1 = 1000000001
 ·rw [if_pos h, if_neg (fun g => g.1 h)]; rfl
 ·rw [if_neg h]
  simp only [List.map_cons, List.map_nil, List.sum_cons, List.sum_nil, Nat.add_zero, Int.toNat_natCast]
  rw [hX.fin]
  by_cases g : (el l p).1 * 2147483648 ≤ c
  ·rw [if_pos (by omega), if_pos ⟨h, g⟩]
  ·rw [if_neg (by omega), if_neg (fun x => g x.2)]
theorem XP.one (hX : XP l X) (hR : RgtL l) {p : Nat} {c : Int} (hp : p < l.length) : X 1 p c = 0 := by
 rw [hX.step 0 p c hp]
 exact sum_none fun s _ => hX.zero _ _
theorem XP.neg (hX : XP l X) (hR : RgtL l) : ∀ k p c, p < l.length → c < 0 → X k p c = 0
  | 0, p, c, _, _ => hX.zero p c
  | 1, p, c, hp, _ => hX.one hR hp
  | k + 2, p, c, hp, hc => by
    rw [hX.row hp, if_neg (by have := hR.fin p hp; omega), Nat.add_zero]
    refine sum_none fun a ha => ?_
    obtain ⟨h0, h1, t, e, ht⟩ := hR.arc p hp a ha
    rw [e, Int.toNat_natCast]
    exact XP.neg hX hR (k + 1) t _ ht (by omega)
theorem XP.cnt (hX : XP l X) (hR : RgtL l) : ∀ (k p c : Nat) (r : Int), p < l.length → (k : Int) ≤ r → r < 2147483648 → X (k + 1) p ((c : Int) * 2147483648 + r) = sN l k p c
  | 0, p, c, r, hp, _, _ => by rw [hX.one hR hp, sN_zero]
  | k + 1, p, c, r, hp, h0, h1 => by
    rw [hX.row hp, sN_front, Nat.add_comm]
    have hf := hR.fin p hp
    congr 1
    · unfold fE
      by_cases g : (el l p).1 ≠ 1000000001 ∧ (el l p).1.toNat ≤ c
      · rw [if_pos g, if_pos ⟨g.1, by omega⟩]
      · rw [if_neg g, if_neg (fun x => g ⟨x.1, by have := x.2; omega⟩)]
    · congr 1
      refine List.map_congr_left fun a ha => ?_
      obtain ⟨w0, w1, t, e, ht⟩ := hR.arc p hp a ha
      rw [e, Int.toNat_natCast]
      split
      · rename_i g
        rw [show (c : Int) * 2147483648 + r - (a.2.2.1 * 2147483648 + 1) = ((c - a.2.2.1.toNat : Nat) : Int) * 2147483648 + (r - 1) by omega]
        exact XP.cnt hX hR k t _ _ ht (by omega) (by omega)
      · rename_i g
        exact hX.neg hR _ t _ ht (by omega)
end
end Go.Proofs.Ytfpibdaedfilaaa.Pl
namespace Go.Proofs.Ytfpibdaedfilaaa.Pl
set_option linter.unusedVariables false
def infW (a b : Int) : Bool := a == 1000000001 && b == 1000000001
def fnW (a : Int) : Bool := decide (0 ≤ a) && decide (a ≤ 1000000000)
def mayW (a b : Int) : Bool := infW a b || fnW a && fnW b
def lsW (a b c d : Int) : Bool := decide (a < c) || a == c && decide (b < d)
theorem mayW_iff {a b : Int} : mayW a b = true ↔ (a = 1000000001 ∧ b = 1000000001) ∨ ((0 ≤ a ∧ a ≤ 1000000000) ∧ (0 ≤ b ∧ b ≤ 1000000000)) := by
 simp [mayW, infW, fnW]
def thnW (a b c d : Int) : Int × Int × Int := if (infW a b || infW c d) = true then (1000000001, 1000000001, 0) else if 1000000000 < a + c ∨ 1000000000 < b + d then (0, 0, 4) else (a + c, b + d, 0)
theorem lsW_key (x y : Int) : lsW (kA x) (kB x) (kA y) (kB y) = decide (x < y) := by
 have h := key_less x y
 unfold lsW
 by_cases g : x < y
 ·rw [decide_eq_true g]
  rcases h.1 g with k | ⟨k1, k2⟩
  ·simp [k]
  ·simp [k1, k2]
 ·rw [decide_eq_false g]
  have h1 : ¬ kA x < kA y := fun k => g (h.2 (.inl k))
  have h2 : kA x = kA y → ¬ kB x < kB y := fun k1 k2 => g (h.2 (.inr ⟨k1, k2⟩))
  by_cases e : kA x = kA y
  ·simp [e, h2 e]
  ·simp [e, h1]
theorem keyOk_may {x : Int} (h : KeyOk x) : mayW (kA x) (kB x) = true := mayW_iff.2 (by
 rcases h with rfl | h
 ·exact .inl noK_parts
 ·exact .inr ⟨⟨h.1, h.2.1⟩, h.2.2⟩)
def timW (a b c d : Int) : Int × Int × Int := if (mayW a b && mayW c d) = true then thnW a b c d else (0, 0, 2)
theorem infW_key {x : Int} : infW (kA x) (kB x) = true ↔ x = noK := by
 unfold infW
 rw [Bool.and_eq_true, beq_iff_eq, beq_iff_eq, key_eq x noK, noK_parts.1, noK_parts.2]
theorem timW_key {x y : Int} (hx : KeyOk x) (hy : KeyOk y) : ((timW (kA x) (kB x) (kA y) (kB y)).2.2 = 0 ∧ (timW (kA x) (kB x) (kA y) (kB y)).1 = kA (bothK x y) ∧ (timW (kA x) (kB x) (kA y) (kB y)).2.1 = kB (bothK x y)) ∨ ((timW (kA x) (kB x) (kA y) (kB y)).2.2 = 4 ∧ bothK x y = noK) := by
 unfold timW
 rw [keyOk_may hx, keyOk_may hy, if_pos (by rfl)]
 unfold thnW
 by_cases h : (infW (kA x) (kB x) || infW (kA y) (kB y)) = true
 ·rw [if_pos h]
  left
  have e : bothK x y = noK := by
   rw [Bool.or_eq_true, infW_key, infW_key] at h
   unfold bothK
   refine if_neg ?_
   unfold KeyOk at hx hy
   rcases h with rfl | rfl
   ·rw [noK_parts.1]
    rcases hy with rfl | hy
    ·rw [noK_parts.1]; omega
    ·omega
   ·rw [noK_parts.1]
    rcases hx with rfl | hx
    ·rw [noK_parts.1]; omega
    ·omega
  rw [e]
  exact ⟨rfl, noK_parts.1.symm, noK_parts.2.symm⟩
 ·rw [if_neg h]
  rw [Bool.or_eq_true, infW_key, infW_key] at h
  have hx2 := hx.resolve_left fun g => h (.inl g)
  have hy2 := hy.resolve_left fun g => h (.inr g)
  unfold bothK
  by_cases g : kA x + kA y ≤ 1000000000 ∧ kB x + kB y ≤ 1000000000
  ·left
   rw [if_neg (by omega), if_pos g]
   unfold kA kB at *
   refine ⟨rfl, ?_, ?_⟩ <;> simp only <;> omega
  ·right
   rw [if_pos (by omega), if_neg g]
   exact ⟨rfl, rfl⟩
end Go.Proofs.Ytfpibdaedfilaaa.Pl
namespace Go.Proofs.Ytfpibdaedfilaaa.Bw
open Go.ChangeShapes Go.WideShapes Go.ChangeAt Go.RowKit
open Go.Proofs.Ytfpibdaedfilaaa.Pl
set_option linter.unusedVariables false
theorem tup {x y z : Int} {p : Int × Int × Int} (h : (x, y, z) = p) : Ending.returned (.tuple #[.agg #[.int .i64 x, .int .i64 y], .int .i64 z]) = .returned (.tuple #[.agg #[.int .i64 p.1, .int .i64 p.2.1], .int .i64 p.2.2]) := by rw [← h]
theorem below_at {B : Nat} {w w' : World} {p : Addr} {v : Value} (h : Below B w w') (hp : p.block < B) (hv : w.cell? p = some v) : w'.cell? p = some v := (h.cell hp).trans hv
theorem below_fz {B : Nat} {w w' : World} {p : Addr} {v : Bool} (h : Below B w w') (hp : p.block < B) (hv : w.frozen? p = v) : w'.frozen? p = v := (h.frozen hp).trans hv
theorem below_lt {B n : Nat} {w w' : World} (h : Below B w w') (hn : n < w.heap.size) : n < w'.heap.size := Nat.lt_of_lt_of_le hn h.size
theorem isInf_any (a b : Int) (w : World) :
  Calls Try.prog 94 #[.agg #[.int .i64 a, .int .i64 b]] w fun e w' => e = .returned (.bool (infW a b)) ∧ w' = w.alloc (.cells #[.int .i64 a, .int .i64 b] 69) := by
 go_enter Try.func94, Try.ntmps94
 go_wp2
 all_goals
  go_ret
  exact ⟨ret_boolK (by simp_all [infW] <;> intros <;> omega), by simp_all⟩
theorem isFinite_any (a : Int) (w : World) :
  Calls Try.prog 95 #[.int .i64 a] w fun e w' => e = .returned (.bool (fnW a)) ∧ w' = w := by
 go_enter Try.func95, Try.ntmps95
 go_wp2
 all_goals
  go_ret
  exact ⟨ret_boolK (by simp_all [fnW] <;> intros <;> omega), by simp_all⟩
theorem mayWe_any (a b : Int) (w : World) :
  Calls Try.prog 90 #[.agg #[.int .i64 a, .int .i64 b]] w fun e w' => e = .returned (.bool (mayW a b)) ∧ w' = (w.alloc (.cells #[.int .i64 a, .int .i64 b] 69)).alloc (.cells #[.int .i64 a, .int .i64 b] 69) := by
 go_enter Try.func90, Try.ntmps90
 go_wp2_with (first | (go_at_call 94; refine (isInf_any _ _ _).mono ?_; rintro e w' ⟨rfl, rfl⟩) | (go_at_call 95; refine (isFinite_any _ _).mono ?_; rintro e w' ⟨rfl, rfl⟩))
 all_goals
  go_ret
  exact ⟨ret_boolK (by simp_all [mayW] <;> intros <;> omega), by simp_all⟩
theorem less_any (a b c d : Int) (w : World) :
  Calls Try.prog 127 #[.agg #[.int .i64 a, .int .i64 b], .agg #[.int .i64 c, .int .i64 d]] w fun e w' => e = .returned (.bool (lsW a b c d)) ∧ w' = (w.alloc (.cells #[.int .i64 a, .int .i64 b] 69)).alloc (.cells #[.int .i64 c, .int .i64 d] 69) := by
 go_enter Try.func127, Try.ntmps127
 go_wp2
 all_goals
  go_ret
  exact ⟨ret_boolK (by simp_all [lsW] <;> intros <;> omega), by simp_all⟩
theorem may_wee {a b : Int} (h : mayW a b = true) : (0 ≤ a ∧ a ≤ 1000000001) ∧ (0 ≤ b ∧ b ≤ 1000000001) := by
 rw [mayW_iff] at h; omega
theorem then_any (a b c d : Int) (w : World) (a0 : 0 ≤ a) (a1 : a ≤ 1000000001) (b0 : 0 ≤ b) (b1 : b ≤ 1000000001) (c0 : 0 ≤ c) (c1 : c ≤ 1000000001) (d0 : 0 ≤ d) (d1 : d ≤ 1000000001) :
  Calls Try.prog 91 #[.agg #[.int .i64 a, .int .i64 b], .agg #[.int .i64 c, .int .i64 d]] w fun e w' => e = .returned (.tuple #[.agg #[.int .i64 (thnW a b c d).1, .int .i64 (thnW a b c d).2.1], .int .i64 (thnW a b c d).2.2]) ∧ Below w.heap.size w w' := by
 go_enter Try.func91, Try.ntmps91
 go_wp2_with (first | (go_at_call 94; refine (isInf_any _ _ _).mono ?_; rintro e w' ⟨rfl, rfl⟩))
 all_goals
  go_returns
  exact ⟨tup (by simp_all [thnW] <;> omega), by go_grown⟩
theorem timW_any (a b c d : Int) (w : World) :
  Calls Try.prog 81 #[.agg #[.int .i64 a, .int .i64 b], .agg #[.int .i64 c, .int .i64 d]] w fun e w' => e = .returned (.tuple #[.agg #[.int .i64 (timW a b c d).1, .int .i64 (timW a b c d).2.1], .int .i64 (timW a b c d).2.2]) ∧ Below w.heap.size w w' := by
 rcases bool_cases' (mayW a b) with h | h <;> rcases bool_cases' (mayW c d) with g | g
 ·obtain ⟨⟨a0, a1⟩, b0, b1⟩ := may_wee h
  obtain ⟨⟨c0, c1⟩, d0, d1⟩ := may_wee g
  have ht : timW a b c d = thnW a b c d := by simp [timW, h, g]
  rw [ht]
  clear ht
  have HT := then_any a b c d
  generalize thnW a b c d = t at HT ⊢
  obtain ⟨p, q, r⟩ := t
  have HU : Hid (∀ w : World, Calls Try.prog 91 #[.agg #[.int .i64 a, .int .i64 b], .agg #[.int .i64 c, .int .i64 d]] w fun e w' => e = .returned (.tuple #[.agg #[.int .i64 p, .int .i64 q], .int .i64 r]) ∧ Below w.heap.size w w') := fun w => HT w a0 a1 b0 b1 c0 c1 d0 d1
  clear HT a0 a1 b0 b1 c0 c1 d0 d1
  go_enter Try.func81, Try.ntmps81
  go_wp2_with (first | (go_at_call 90; refine (mayWe_any _ _ _).mono ?_; rintro e w' ⟨rfl, rfl⟩) | (go_at_call 91; refine (HU.out _).mono ?_; rintro e w1 ⟨rfl, hb⟩; (have sw1_0 : w.heap.size + 1 + 1 < w1.heap.size := below_lt hb (by go_size); have cw1_0 : w1.cell? ⟨w.heap.size + 1 + 1, 0, none⟩ = some (.int .i64 0) := below_at hb (show w.heap.size + 1 + 1 < _ by go_size) (by first | go_cell | simp [*]); have cw1_1 : w1.cell? ⟨w.heap.size + 1 + 1, 1, none⟩ = some (.int .i64 0) := below_at hb (show w.heap.size + 1 + 1 < _ by go_size) (by first | go_cell | simp [*]); have fw1_2 : w1.frozen? ⟨w.heap.size + 1 + 1, 0, none⟩ = false := below_fz hb (show w.heap.size + 1 + 1 < _ by go_size) (by first | go_cell | simp [*, go_sem]); have fw1_3 : w1.frozen? ⟨w.heap.size + 1 + 1, 1, none⟩ = false := below_fz hb (show w.heap.size + 1 + 1 < _ by go_size) (by first | go_cell | simp [*, go_sem]); have Hw1 : Hid (Below w.heap.size w w1) := Below.trans (by go_grown) (hb.mono (by go_size)); clear hb)))
  all_goals
   have hw1 := Hw1.out
   exact bodyPost_ret (v := .tuple #[.agg #[.int .i64 p, .int .i64 q], .int .i64 r]) (by simp [results, Try.results81, go_sem, *]) rfl ⟨rfl, by go_grown⟩
 all_goals
  have ht : timW a b c d = (0, 0, 2) := by simp [timW, h, g]
  rw [ht]
  clear ht
  go_enter Try.func81, Try.ntmps81
  go_wp2_with (first | (go_at_call 90; refine (mayWe_any _ _ _).mono ?_; rintro e w' ⟨rfl, rfl⟩))
  all_goals
   go_returns
   exact ⟨rfl, by go_grown⟩
def kV (k : Int) : Value := .agg #[.int .i64 (kA k), .int .i64 (kB k)]
theorem lessK_any (x y : Int) (w : World) :
  Calls Try.prog 127 #[kV x, kV y] w fun e w' => e = .returned (.bool (decide (x < y))) ∧ Below w.heap.size w w' := by
 refine (less_any (kA x) (kB x) (kA y) (kB y) w).mono ?_
 rintro e w' ⟨rfl, rfl⟩
 exact ⟨by rw [lsW_key], ((Below.refl _ _).alloc (Nat.le_refl _) _).alloc (by rw [World.size_alloc]; exact Nat.le_succ _) _⟩
theorem timesK_any (x y : Int) (hx : KeyOk x) (hy : KeyOk y) :
  (∀ w, Calls Try.prog 81 #[kV x, kV y] w fun e w' => e = .returned (.tuple #[kV (bothK x y), .int .i64 0]) ∧ Below w.heap.size w w') ∨ (bothK x y = noK ∧ ∃ p q : Int, ∀ w, Calls Try.prog 81 #[kV x, kV y] w fun e w' => e = .returned (.tuple #[.agg #[.int .i64 p, .int .i64 q], .int .i64 4]) ∧ Below w.heap.size w w') := by
 rcases timW_key hx hy with ⟨h0, h1, h2⟩ | ⟨h0, h1⟩
 ·refine .inl fun w => (timW_any (kA x) (kB x) (kA y) (kB y) w).mono ?_
  rintro e w' ⟨rfl, hb⟩
  exact ⟨by rw [h0, h1, h2]; rfl, hb⟩
 ·refine .inr ⟨h1, (timW (kA x) (kB x) (kA y) (kB y)).1, (timW (kA x) (kB x) (kA y) (kB y)).2.1, fun w => (timW_any (kA x) (kB x) (kA y) (kB y) w).mono ?_⟩
  rintro e w' ⟨rfl, hb⟩
  exact ⟨by rw [h0], hb⟩
end Go.Proofs.Ytfpibdaedfilaaa.Bw
namespace Go.Proofs.Ytfpibdaedfilaaa.Bw
open Go.ChangeShapes Go.WideShapes Go.ChangeAt Go.RowKit
open Go.Proofs.Ytfpibdaedfilaaa.Pl Go.Proofs.Ytfpibdaedfilaaa.Wt
set_option linter.unusedVariables false
set_option linter.unusedSimpArgs false
theorem noK_agg : (Value.agg #[.int .i64 1000000001, .int .i64 1000000001]) = kV noK := by unfold kV; rw [noK_parts.1, noK_parts.2]
theorem noWay_any (w : World) : Calls Try.prog 58 #[] w fun e w' => e = .returned (kV noK) ∧ Below w.heap.size w w' := by
 rw [← noK_agg]
 go_enter Try.func58, Try.ntmps58
 go_wp2
 go_returns
 exact ⟨rfl, by go_grown⟩
theorem both_any (x y : Int) (w : World) (hx : KeyOk x) (hy : KeyOk y) :
  Calls Try.prog 55 #[kV x, kV y] w fun e w' => e = .returned (kV (bothK x y)) ∧ Below w.heap.size w w' := by
 rcases timesK_any x y hx hy with HT0 | ⟨hz, p, q, HT0⟩
 ·have HT := hidP HT0
  unfold kV
  unfold kV at HT
  clear HT0 hx hy
  generalize kA x = xa at *
  generalize kB x = xb at *
  generalize kA y = ya at *
  generalize kB y = yb at *
  generalize kA (bothK x y) = za at *
  generalize kB (bothK x y) = zb at *
  go_enter Try.func55, Try.ntmps55
  go_wp2_with (first
   | (go_at_call 81; refine (HT.out _).mono ?_; rintro e w1 ⟨rfl, hb⟩; (have sw1_0 : w.heap.size + 1 + 1 < w1.heap.size := below_lt hb (by go_size); have cw1_0 : w1.cell? ⟨w.heap.size + 1 + 1, 0, none⟩ = some (.int .i64 0) := below_at hb (show w.heap.size + 1 + 1 < _ by go_size) (by first | go_cell | simp [*]); have cw1_1 : w1.cell? ⟨w.heap.size + 1 + 1, 1, none⟩ = some (.int .i64 0) := below_at hb (show w.heap.size + 1 + 1 < _ by go_size) (by first | go_cell | simp [*]); have fw1_2 : w1.frozen? ⟨w.heap.size + 1 + 1, 0, none⟩ = false := below_fz hb (show w.heap.size + 1 + 1 < _ by go_size) (by first | go_cell | simp [*, go_sem]); have fw1_3 : w1.frozen? ⟨w.heap.size + 1 + 1, 1, none⟩ = false := below_fz hb (show w.heap.size + 1 + 1 < _ by go_size) (by first | go_cell | simp [*, go_sem]); have Hw1 : Hid (Below w.heap.size w w1) := Below.trans (by go_grown) (hb.mono (by go_size)); clear hb)))
  all_goals
   have hw1 := Hw1.out
   exact bodyPost_ret (v := .agg #[.int .i64 za, .int .i64 zb]) (by simp [results, Try.results55, go_sem, *]) rfl ⟨rfl, by go_grown⟩
 ·have HT := hidP HT0
  have HNO := hidP (fun W => noWay_any W)
  rw [hz]
  rw [← noK_agg] at HNO ⊢
  unfold kV
  unfold kV at HT
  clear HT0 hx hy hz
  generalize kA x = xa at *
  generalize kB x = xb at *
  generalize kA y = ya at *
  generalize kB y = yb at *
  go_enter Try.func55, Try.ntmps55
  go_wp2_with (first
   | (go_at_call 81; refine (HT.out _).mono ?_; rintro e w1 ⟨rfl, hb⟩; (have sw1_0 : w.heap.size + 1 + 1 < w1.heap.size := below_lt hb (by go_size); have cw1_0 : w1.cell? ⟨w.heap.size + 1 + 1, 0, none⟩ = some (.int .i64 0) := below_at hb (show w.heap.size + 1 + 1 < _ by go_size) (by first | go_cell | simp [*]); have cw1_1 : w1.cell? ⟨w.heap.size + 1 + 1, 1, none⟩ = some (.int .i64 0) := below_at hb (show w.heap.size + 1 + 1 < _ by go_size) (by first | go_cell | simp [*]); have fw1_2 : w1.frozen? ⟨w.heap.size + 1 + 1, 0, none⟩ = false := below_fz hb (show w.heap.size + 1 + 1 < _ by go_size) (by first | go_cell | simp [*, go_sem]); have fw1_3 : w1.frozen? ⟨w.heap.size + 1 + 1, 1, none⟩ = false := below_fz hb (show w.heap.size + 1 + 1 < _ by go_size) (by first | go_cell | simp [*, go_sem]); have Hw1 : Hid (Below w.heap.size w w1) := Below.trans (by go_grown) (hb.mono (by go_size)); clear hb))
   | (go_at_call 58; refine (HNO.out _).mono ?_; rintro e w2 ⟨rfl, hb⟩; (have sw2_0 : w.heap.size + 1 + 1 < w2.heap.size := below_lt hb (by go_size); have cw2_0 : w2.cell? ⟨w.heap.size + 1 + 1, 0, none⟩ = some (.int .i64 0) := below_at hb (show w.heap.size + 1 + 1 < _ by go_size) (by first | go_cell | simp [*]); have cw2_1 : w2.cell? ⟨w.heap.size + 1 + 1, 1, none⟩ = some (.int .i64 0) := below_at hb (show w.heap.size + 1 + 1 < _ by go_size) (by first | go_cell | simp [*]); have fw2_2 : w2.frozen? ⟨w.heap.size + 1 + 1, 0, none⟩ = false := below_fz hb (show w.heap.size + 1 + 1 < _ by go_size) (by first | go_cell | simp [*, go_sem]); have fw2_3 : w2.frozen? ⟨w.heap.size + 1 + 1, 1, none⟩ = false := below_fz hb (show w.heap.size + 1 + 1 < _ by go_size) (by first | go_cell | simp [*, go_sem]); have Hw2 : Hid (Below w.heap.size w w2) := Below.trans (by (have hp := Hw1.out); go_grown) (hb.mono (by go_size)); clear hb)))
  all_goals
   have hw2 := Hw2.out
   exact bodyPost_ret (v := .agg #[.int .i64 1000000001, .int .i64 1000000001]) (by simp [results, Try.results55, go_sem, *]) rfl ⟨rfl, by go_grown⟩
theorem byArc_any (x y c z : Int) (w : World) : Calls Try.prog 56 #[.agg #[.int .i64 x, .int .i64 y, .int .i64 c, .int .i64 z]] w fun e w' => e = .returned (.agg #[.int .i64 c, .int .i64 1]) ∧ Below w.heap.size w w' := by
 go_enter Try.func56, Try.ntmps56
 go_wp2
 go_returns
 exact ⟨rfl, by go_grown⟩
theorem end_any (z : Int) (a : Option Addr) (n cap : Nat) (w : World) : Calls Try.prog 54 #[.agg #[.int .i64 z, .slice a n cap]] w fun e w' => e = .returned (.int .i64 (n : Int)) ∧ Below w.heap.size w w' := by
 go_enter Try.func54, Try.ntmps54
 go_wp2
 go_returns
 exact ⟨rfl, by go_grown⟩
end Go.Proofs.Ytfpibdaedfilaaa.Bw
