/- What a machine costs for words: ways, the least of them (no program in sight). -/
import Derived.Test.YtkeeiihaijhdoaaDaa
import Derived.Test.YtkeeiihaijhdoaaDab
import Derived.Test.YtkeeiihaijhdoaaDak
namespace Go.Proofs.Ytkeeiihaijhdoaa.Pl
set_option linter.unusedVariables false
set_option linter.unusedSimpArgs false
def lab (a : Int) : List Int := if a = 0 then [] else [a]
inductive Way (l : List St) (q : Nat) : List Int → List Int → Nat → Nat → Prop
 | nil : Way l q [] [] q 0
 | snoc {u v : List Int} {p c : Nat} (h : Way l q u v p c) {a : Ar} (ha : a ∈ (el l p).2) {t : Nat} (ht : a.2.2.2 = (t : Int)) : Way l q (u ++ lab a.1) (v ++ lab a.2.1) t (c + a.2.2.1.toNat)
def Costs (m : Mc) (x y : List Int) (c : Nat) : Prop := 0 ≤ m.1 ∧ ∃ p d, Way m.2 m.1.toNat x y p d ∧ p < m.2.length ∧ (el m.2 p).1 ≠ 1000000001 ∧ c = d + (el m.2 p).1.toNat
section
variable {E : Nat → Nat → Nat → Prop} {s : Nat}
inductive Run (E : Nat → Nat → Nat → Prop) (s : Nat) : Nat → Nat → Nat → Prop
 | nil : Run E s 0 s 0
 | step {n k c w j : Nat} (h : Run E s n k c) (e : E k w j) : Run E s (n + 1) j (c + w)
end
theorem right_okM {m : Mc} (h : faultM m = 0) : okM m := by
 have h1 := right_size (z := m.1) (l := m.2) h
 exact small_ok (by omega) (by omega)
def S (f : Nat → Nat) : Nat → Nat
 | 0 => 0
 | n + 1 => S f n + f n
inductive Stc (a : Mc) : List Int → List Int → Nat → Prop
 | nil : Stc a [] [] 0
 | snoc {x y x' y' : List Int} {c d : Nat} (h : Stc a x y c) (k : Costs a x' y' d) : Stc a (x ++ x') (y ++ y') (c + d)
def fitN (l : List Int) (i : Nat) (b : Int) : Option Nat := if b = 0 then some i else if i < l.length ∧ el l i = b then some (i + 1) else none
def idx (X Y q i j : Nat) : Nat := (q * (X + 1) + i) * (Y + 1) + j
def fitF (free : Bool) (y : List Int) (j : Nat) (b : Int) : Option Nat := if free = true then some j else fitN y j b
def Edge (l : List St) (x y : List Int) (free : Bool) (k w k' : Nat) : Prop :=
 ∃ q i j a t i' j', q < l.length ∧ i ≤ x.length ∧ j ≤ y.length ∧ a ∈ (el l q).2 ∧ a.2.2.2 = ((t : Nat) : Int) ∧ fitN x i a.1 = some i' ∧ fitF free y j a.2.1 = some j' ∧ k = idx x.length y.length q i j ∧ w = a.2.2.1.toNat ∧ k' = idx x.length y.length t i' j'
def noneI : Int := 1152921504606846976
structure CostT (l : List St) (x y : List Int) (free : Bool) (z : Int) (cs : List Int) : Prop where
 len : cs.length = l.length * (x.length + 1) * (y.length + 1)
 rng : ∀ k, k < cs.length → 0 ≤ el cs k ∧ el cs k ≤ noneI
 beg : 0 ≤ z → el cs (idx x.length y.length z.toNat 0 0) = 0
 run : ∀ k, k < cs.length → el cs k < noneI → 0 ≤ z ∧ ∃ n, Run (Edge l x y free) (idx x.length y.length z.toNat 0 0) n k (el cs k).toNat
def wdL (l : List Int) (k : Nat) : List Int := (l.take k).map (fun n => 1 + pkR n 2)
theorem wdL_len (l : List Int) (k : Nat) : (wdL l k).length ≤ k := by simp [wdL]; omega
theorem wdL_mem {l : List Int} {k : Nat} {n : Int} (h : n ∈ wdL l k) : n = 1 ∨ n = 2 := by
 unfold wdL at h
 rw [List.mem_map] at h
 obtain ⟨a, _, rfl⟩ := h
 have := pkR_bd a 2 (by omega)
 omega
end Go.Proofs.Ytkeeiihaijhdoaa.Pl
namespace Go.Proofs.Ytkeeiihaijhdoaa.Wt
open Go.ChangeShapes Go.WideShapes Go.ChangeAt Go.RowKit
open Go.Proofs.Ytkeeiihaijhdoaa.Pl
set_option linter.unusedVariables false
set_option linter.unusedSimpArgs false
theorem word_own (v : Value) (l : List Int) (k : Nat) (w : World) (h : Nums w v l) (hwf : ∀ n ∈ l, (Lit.int .i64 n).wf = true) (hk : k ≤ 12) :
  Calls Try.prog 22 #[v, .int .i64 (k : Int)] w fun e w' => ∃ v', e = .returned v' ∧ (Nums w' v' (wdL l k) ∧ ∃ n, w'.ownsRow w.heap.size 3 1 v' n ((wdL l k).flatMap encI1)) ∧ Below w.heap.size w w' := by
 obtain ⟨i0, hi0, hz0, hz1, hz2⟩ := info_parts infoIntU
 obtain ⟨a, cap, rfl, hc⟩ := h.get
 have HC : Hid (∀ j, j < l.length → ∃ b off, a = some ⟨b, off, none⟩ ∧ b < w.heap.size ∧ w.cell? ⟨b, off + j, none⟩ = some (.int .i64 (el l j))) := hc
 have HWF := hidP hwf
 clear h hc hwf
 generalize hL : l.length = L at *
 have HL := hidP hL
 clear hL
 go_enter Try.func22, Try.ntmps22
 go_wp2
 go_loopw [5, 6] (fun s5 i wr => ∃ (j : Nat) (vr : Value), j ≤ L ∧ j ≤ k ∧ vr = s5 ∧ i = .int .i64 j ∧ Hid (wr.ownsRow w.heap.size 3 1 vr j ((wdL l j).flatMap encI1)) ∧ Hid (Below w.heap.size w wr)) (fun _ i _ => L - (intOf i).toNat)
 case atStart => exact ⟨0, _, Nat.zero_le _, Nat.zero_le _, rfl, rfl, World.ownsRow_nil _ _ _ _, Below.refl _ _⟩
 case round =>
  obtain ⟨j, vr, hj, hjk, rfl, rfl, hrw, hb⟩ := hrel
  by_cases hjL : j < L
  ·have hj1 : (j : Int) < (L : Int) := by omega
   have hj0 : (0 : Int) ≤ (j : Int) := by omega
   by_cases hjk2 : j < k
   ·have hj2 : (j : Int) < (k : Int) := by omega
    obtain ⟨b3, off3, rfl, hb3l, e0⟩ := HC.out j hjL
    have e0 := (hb.out.cell (p := ⟨b3, off3 + j, none⟩) hb3l).trans e0
    have HST : Hid (wdL l (j + 1) = wdL l j ++ [1 + pkR (el l j) 2]) := by
     show _ = _
     unfold wdL
     rw [take_el (by rw [HL.out]; exact hjL), List.map_append]
     rfl
    have hwf := HWF.out _ (el_mem (l := l) (j := j) (by rw [HL.out]; exact hjL))
    have hp := pkR_bd (el l j) 2 (by omega)
    obtain ⟨r, hr⟩ : ∃ r, pkR (el l j) 2 = r := ⟨_, rfl⟩
    have HPK : Hid (∀ W, Calls Try.prog 23 #[.int .i64 (el l j), .int .i64 2] W fun e w' => e = .returned (.int .i64 r) ∧ W = w') := fun W => (picked_R (el l j) 2 W hwf (by omega) (by omega) r hr).mono fun e w' ⟨h1, h2⟩ => ⟨h1, by first | exact h2 | exact h2.symm⟩
    rw [hr] at HST hp
    clear hr hwf
    generalize el l j = x at *
    have hw3 : IntKind.i64.wrap (1 + r) = 1 + r := wrapI (by omega) (by omega)
    generalize wdL l j = tl at *
    have HD := hrw
    clear hrw
    have hbs := hb.out.size
    go_wp2_with (first
     | (go_at_call 23; (with_reducible refine (HPK.out _).mono ?_); rintro e w' ⟨rfl, rfl⟩)
     | (at_builtin; refine wpList_append_rows encI1_len (by decide) encI1_one rfl _ _ 35 rfl w.heap.size 3 i0 _ 8 Try.underlying35 hi0 hz0 hz1 hz2 rfl _ j (tl.flatMap encI1) rfl (HD.out.alloc _) _ [1 + r] rfl (oneRow (enc := encI1) wr (1 + r) rfl 3) (by simp; unfold maxLen; omega) (by simp; omega) (by simp; omega) ?_; intro v4 w4 ho4 hg4; have HO4 := hidP ho4; have HB4 : Hid (Below w.heap.size w w4) := (hb.out.alloc hbs _).grown hg4 (by simp; omega) (fun k hk => (HD.out.lt k hk).1); clear ho4 hg4))
    go_roundw
    case rel => exact ⟨j + 1, _, by omega, by omega, rfl, by go_num, by rw [HST.out, List.flatMap_append]; exact HO4.out, HB4⟩
    case measure => simp [intOf]; omega
   ·have hj2 : ¬ (j : Int) < (k : Int) := by omega
    obtain rfl : j = k := by omega
    go_wp2
    go_ret
    exact ⟨_, rfl, ⟨Row.ofOwn encI1_len hrw.out (by rw [wdL, List.length_map, List.length_take, HL.out]; omega), _, hrw.out⟩, hb.out⟩
  ·have hj1 : ¬ (j : Int) < (L : Int) := by omega
   have HE : Hid (wdL l j = wdL l k) := by
    show _ = _
    unfold wdL
    rw [List.take_of_length_le (by rw [HL.out]; omega), List.take_of_length_le (by rw [HL.out]; omega)]
   go_wp2
   go_ret
   exact ⟨_, rfl, by rw [← HE.out]; exact ⟨Row.ofOwn encI1_len hrw.out (by rw [wdL, List.length_map, List.length_take, HL.out]; omega), _, hrw.out⟩, hb.out⟩
theorem own_cap {w : World} {base : Nat} {e : TypeId} {s : Nat} {a : Option Addr} {n n' cap : Nat} {xs : List Value} (h : w.ownsRow base e s (.slice a n cap) n' xs) : n ≤ cap := by
 rcases h.2 with ⟨hv, _⟩ | ⟨g, cap', cur, hv, _, _, hnc, _⟩
 ·injection hv with _ h2 h3; omega
 ·injection hv with _ h2 h3; omega
theorem run_exec_slice {P : Program} {o : Oper} {a : Act} {w : World} {v : Value} {t : TypeId} {x : Operand} {lo hi mx : Option Operand} (ho : o.op = .slice t x lo hi mx) (hr : (Instr.sliceAt t (a.eval x) (lo.map a.eval) (hi.map a.eval) (mx.map a.eval)).run P w = .ok v w) : (execOp a.eval o).run P w = .ok (.value v) w := by
 unfold execOp
 simp [ho, hr, Result.andThen]
theorem elemInt : Try.prog.underlying 35 = some (.slice (Try.prog.elem 35)) := by kernel_rfl
theorem sizeInt (w : World) : (sizeOf (Try.prog.elem 35)).run Try.prog w = .ok 1 w := by kernel_rfl
theorem cut_head {w : World} {a : Option Addr} {n cap : Nat} {x : List Int} (h : Nums w (.slice a n cap) x) (hc : n ≤ cap) {i : Nat} (hi : i ≤ x.length) :
  ∃ v, (∀ W : World, (Instr.sliceAt 35 (.slice a n cap) none (some (.int .i64 (i : Int))) (some (.int .i64 (i : Int)))).run Try.prog W = .ok v W) ∧ Nums w v (x.take i) := by
 have hn : n = x.length := by
  obtain ⟨a', c', e, _⟩ := h.get
  injection e
 refine ⟨.slice a i i, fun W => ?_, ?_⟩
 ·rw [run_sliceAt_slice _ _ _ _ _ _ elemInt, run_slice_hm _ _ _ _ _ elemInt _ _ _ _ (by omega) (by omega) (by omega), sizeInt]
  simp only [Result.andThen_ok, sliced, Int.toNat_natCast, Nat.sub_zero, Nat.zero_mul]
  congr 2
  split
  ·rfl
  ·cases a <;> rfl
 ·have hl : (x.take i).length = i := by rw [List.length_take]; omega
  rcases h with ⟨e, hx⟩ | ⟨ad, c, e, hcell⟩
  ·injection e with e1 e2 e3
   subst hx
   simp at hi
   subst e1 hi
   exact .inl ⟨rfl, by simp⟩
  ·injection e with e1 e2 e3
   subst e1
   refine .inr ⟨ad, i, by rw [hl], fun j hj u v hu => ?_⟩
   rw [hl] at hj
   rw [el_take hj] at hu
   exact hcell j (by omega) u v hu
theorem cut_tail {w : World} {a : Option Addr} {n cap : Nat} {x : List Int} (h : Nums w (.slice a n cap) x) (hc : n ≤ cap) {i : Nat} (hi : i ≤ x.length) :
  ∃ v, (∀ W : World, (Instr.sliceAt 35 (.slice a n cap) (some (.int .i64 (i : Int))) none none).run Try.prog W = .ok v W) ∧ Nums w v (x.drop i) := by
 have hn : n = x.length := by
  obtain ⟨a', c', e, _⟩ := h.get
  injection e
 refine ⟨.slice (if cap = i then a else a.map (·.add i)) (n - i) (cap - i), fun W => ?_, ?_⟩
 ·rw [run_sliceAt_slice _ _ _ _ _ _ elemInt, run_slice_l _ _ _ _ _ elemInt _ _ (by omega) (by omega), sizeInt]
  simp only [Result.andThen_ok, sliced, Int.toNat_natCast, Nat.mul_one]
 ·have hl : (x.drop i).length = n - i := by rw [List.length_drop, hn]
  rcases h with ⟨e, hx⟩ | ⟨ad, c, e, hcell⟩
  ·injection e with e1 e2 e3
   subst hx
   simp at hi
   subst e1 e2 e3 hi
   exact .inl ⟨rfl, by simp⟩
  ·injection e with e1 e2 e3
   subst e1
   by_cases hci : cap = i
   ·rw [if_pos hci]
    exact .inr ⟨ad, cap - i, by rw [hl], fun j hj u v hu => by rw [hl] at hj; omega⟩
   ·rw [if_neg hci]
    refine .inr ⟨ad.add i, cap - i, by rw [hl]; rfl, fun j hj u v hu => ?_⟩
    rw [hl] at hj
    have he : el (x.drop i) j = el x (i + j) := by simp [el]
    rw [he] at hu
    have h9 := hcell (i + j) (by omega) u v hu
    rw [Addr.add_add]
    rwa [show i + (j * 1 + u) = (i + j) * 1 + u by omega]
end Go.Proofs.Ytkeeiihaijhdoaa.Wt
namespace Go.Proofs.Ytkeeiihaijhdoaa.Pl
set_option linter.unusedVariables false
set_option linter.unusedSimpArgs false
def NineL (l : List St) : Prop := ∀ s ∈ l, (s.1 ≠ 1000000001 → s.1 ≤ 9) ∧ ∀ a ∈ s.2, a.2.2.1 ≤ 9
theorem made_nine (r : Int × List (Int × Bool × List Ar)) (states : Nat) (full : Bool) : NineL (madeM r states full).2 := fun s hs => by
 simp only [madeM, statesM, List.mem_map] at hs
 obtain ⟨q, _, rfl⟩ := hs
 split
 ·exact ⟨fun _ => by simp, fun a ha => absurd ha (by simp)⟩
 ·refine ⟨fun h => ?_, fun a ha => ?_⟩
  ·unfold stM at h ⊢
   simp only at h ⊢
   split
   ·have := pkR_bd (el r.2 q).1 10 (by omega); omega
   ·rename_i g; rw [if_neg g] at h; exact absurd rfl h
  ·simp only [stM, List.mem_map] at ha
   obtain ⟨e, _, rfl⟩ := ha
   unfold arM
   have := pkR_bd e.2.2.1 10 (by omega)
   simp only
   omega
end Go.Proofs.Ytkeeiihaijhdoaa.Pl
namespace Go.Proofs.Ytkeeiihaijhdoaa.Wt
open Go.ChangeShapes Go.WideShapes Go.ChangeAt Go.RowKit
open Go.Proofs.Ytkeeiihaijhdoaa.Pl
set_option linter.unusedVariables false
set_option linter.unusedSimpArgs false
theorem row_wf {w : World} {a : Option Addr} {len cap : Nat} {zs : List Int} (h : IsRow .i64 w a len cap zs) : ∀ n ∈ zs.take len, (Lit.int .i64 n).wf = true := by
 rcases h with ⟨rfl, rfl, rfl, rfl⟩ | ⟨x, rfl, h1, h2, h3, h4, h5⟩
 ·intro n hn; simp at hn
 ·intro n hn
  exact h5 n (List.mem_of_mem_take hn)
end Go.Proofs.Ytkeeiihaijhdoaa.Wt
