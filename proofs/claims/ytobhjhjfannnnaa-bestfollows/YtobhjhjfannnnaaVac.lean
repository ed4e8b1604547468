/- append at a row of the call's own: where the row lies behind it; worlds that differ in one row. -/
import Derived.Test.YtobhjhjfannnnaaVab
import Derived.Test.YtobhjhjfannnnaaVaa
import Derived.Test.YtobhjhjfannnnaaRows
import Derived.WalkKit
import Derived.ProofKit
import Derived.OpenShut
import Derived.Below
import Derived.Handy
import Derived.RegionTactic
import Derived.Deep.QuietTactic
import Derived.BigQuiet
import Derived.BigRegion
import Derived.Deep.MidRow
import Derived.Laws.MakeOwn
import Derived.Shelf.Abstract
namespace Go.Proofs.Ytobhjhjfannnnaa.Wt
open Go.ChangeShapes Go.WideShapes Go.ChangeAt Go.RowKit
open Go.Proofs.Ytobhjhjfannnnaa.Pl
set_option linter.unusedVariables false
def Near (w : World) (r : Option Nat) (v : Value) : Prop := v.ownBlock = r ∨ ∃ b, v.ownBlock = some b ∧ w.heap.size ≤ b
theorem gTrans {a b c : World} {r : Option Nat} (h : a.grownBy b r) (k : b.grownBy c r) : a.grownBy c r := ⟨k.os.trans h.os, k.tape.trans h.tape, k.output.trans h.output, Nat.le_trans h.size k.size, fun i hi hne => (k.block i (Nat.lt_of_lt_of_le hi h.size) hne).trans (h.block i hi hne)⟩
theorem gNew {a b : World} {r : Option Nat} (hb : Below a.heap.size a b) : a.grownBy b r := ⟨hb.os, hb.tape, hb.output, hb.size, fun k hk _ => hb.block k hk⟩
theorem gSet (w : World) (b o : Nat) (v : Value) : w.grownBy (w.setCell ⟨b, o, none⟩ v) (some b) := ⟨rfl, rfl, rfl, by simp [World.setCell], fun k _ hne => Below.heap_setCell w _ _ k (by intro e; exact hne (by rw [e]))⟩
theorem gBelow {a b : World} {r : Option Nat} {base : Nat} (h : a.grownBy b r) (hr : ∀ k, r = some k → base ≤ k) (hs : base ≤ a.heap.size) : Below base a b := (Below.refl _ _).grown h hs hr
theorem run_append_spot {α : Type} [Inhabited α] {k : Nat} {enc : α → List Value} {P : Program} {w : World} (hk : ∀ x, (enc x).length = k) (hk0 : 0 < k) (h1c : ∀ x, ∀ u ∈ enc x, u.oneCell' = true) (t ty : TypeId)
  (base : Nat) (e : TypeId) (i : TypeInfo) (z : Value) (bytes : Nat) (ht : P.underlying t = some (.slice e)) (hi : P.info? e = some i) (hz : i.zero = some z)
  (hsize : i.size = k) (hby : i.bytes = bytes) (hzs : z.cells.size = k)
  (v : Value) (n : Nat) (ms : List Value) (hown : w.ownsRow base e k v n ms) (vx : Value) (ns : List α) (hX : Row k enc w vx ns)
  (h63 : n + ns.length ≤ maxLen) (hbytes : (n + ns.length) * bytes ≤ 140737488355328) (hbase : base ≤ w.heap.size) :
  ∃ v' w', (Builtin.append_ #[t, t] ty #[v, vx]).run P w = .ok v' w' ∧ w'.ownsRow base e k v' (n + ns.length) (ms ++ ns.flatMap enc) ∧ w.grownBy w' v.ownBlock ∧ Near w v.ownBlock v' := by
 obtain ⟨v', w', hr, h2, h3⟩ := run_append_rows hk hk0 h1c t ty base e i z bytes ht hi hz hsize hby hzs v n ms hown vx ns hX h63 hbytes hbase
 refine ⟨v', w', hr, h2, h3, ?_⟩
 have hX0 := hX
 rcases hX with ⟨hv, hzs0⟩ | ⟨ad, cap, hv, hc⟩
 ·subst hv
  have h := run_append_owned_none (P := P) (w := w) base t ty e i k ht hi v n ms hown
  rw [hr] at h
  simp only [Result.ok.injEq] at h
  rw [h.1]
  exact .inl rfl
 ·have hown0 := hown
  rcases hown.2 with ⟨rfl, rfl⟩ | ⟨g, cap', cur, rfl, hbg, hg, hnc, hcm, hcs, htake⟩
  ·have hms : ms = [] := List.eq_nil_of_length_eq_zero (by simpa using hown.1)
   subst hms
   obtain ⟨v2, w2, hr2, h22, _⟩ := run_append_rows (w := w) hk hk0 h1c t ty w.heap.size e i z bytes ht hi hz hsize hby hzs (.slice none 0 0) 0 [] (World.ownsRow_nil _ _ _ _) vx ns hX0 h63 hbytes (Nat.le_refl _)
   rw [hr] at hr2
   simp only [Result.ok.injEq] at hr2
   rw [hr2.1]
   rcases h22.2 with ⟨rfl, _⟩ | ⟨g, c, cu, rfl, hb, _⟩
   ·exact .inl rfl
   ·exact .inr ⟨g, rfl, hb⟩
  ·subst hv
   subst hsize
   by_cases hroom : n + ns.length ≤ cap'
   ·have hl : (ns.flatMap enc).length = ns.length * i.size := flat_length hk ns
    have h := run_append_room (P := P) w t ty e i ht hi g n cap' cur hg ad ns.length cap (ns.flatMap enc) hl (row_news hk hk0 hc) (by
     intro u hu
     simp only [List.mem_flatMap] at hu
     obtain ⟨y, _, hy⟩ := hu
     exact h1c y u hy) hroom (by rw [hl, hcs, ← Nat.add_mul]; exact Nat.mul_le_mul_right _ hroom)
    rw [hr] at h
    simp only [Result.ok.injEq] at h
    rw [h.1]
    exact .inl rfl
   ·have h := run_append_grow (P := P) w t ty e i z ht hi hz ⟨g, 0, none⟩ n cap' ms hown.1 (hown.cells (g := g) rfl) ad ns.length cap (ns.flatMap enc) (flat_length hk ns) (row_news hk hk0 hc) (by omega) (by unfold maxLen at h63; omega) (by rw [hby]; exact growslice_fits (by omega) hbytes)
    rw [hr] at h
    simp only [Result.ok.injEq] at h
    rw [h.1]
    exact .inr ⟨_, rfl, Nat.le_refl _⟩
theorem own_ne {w : World} {base : Nat} {e t : TypeId} {s : Nat} {v : Value} {n : Nat} {xs : List Value} (h : w.ownsRow base e s v n xs) {b : Nat} {cs : Array Value} (hb : Blk w b cs t) (hne : e ≠ t) : some b ≠ v.ownBlock := by
 rcases h.2 with ⟨rfl, _⟩ | ⟨g, cap', cur, rfl, hbg, hg, _⟩
 ·simp [Value.ownBlock]
 ·simp only [Value.ownBlock]
  intro e2
  simp at e2
  subst e2
  unfold Blk at hb
  rw [hg] at hb
  simp at hb
  exact hne hb.2
end Go.Proofs.Ytobhjhjfannnnaa.Wt
namespace Go.Proofs.Ytobhjhjfannnnaa.Pl
set_option linter.unusedVariables false
set_option linter.unusedSimpArgs false
def lab (a : Int) : List Int := if a = 0 then [] else [a]
inductive Way (l : List St) (q : Nat) : List Int → List Int → Nat → Nat → Prop
 | nil : Way l q [] [] q 0
 | snoc {u v : List Int} {p c : Nat} (h : Way l q u v p c) {a : Ar} (ha : a ∈ (el l p).2) {t : Nat} (ht : a.2.2.2 = (t : Int)) : Way l q (u ++ lab a.1) (v ++ lab a.2.1) t (c + a.2.2.1.toNat)
def LeastP (P : Nat → Prop) (c : Nat) : Prop := P c ∧ ∀ d, P d → c ≤ d
section
variable {E : Nat → Nat → Nat → Prop} {s : Nat}
inductive Run (E : Nat → Nat → Nat → Prop) (s : Nat) : Nat → Nat → Nat → Prop
 | nil : Run E s 0 s 0
 | step {n k c w j : Nat} (h : Run E s n k c) (e : E k w j) : Run E s (n + 1) j (c + w)
end
def fitN (l : List Int) (i : Nat) (b : Int) : Option Nat := if b = 0 then some i else if i < l.length ∧ el l i = b then some (i + 1) else none
def idx (X Y q i j : Nat) : Nat := (q * (X + 1) + i) * (Y + 1) + j
def fitF (free : Bool) (y : List Int) (j : Nat) (b : Int) : Option Nat := if free = true then some j else fitN y j b
def Edge (l : List St) (x y : List Int) (free : Bool) (k w k' : Nat) : Prop :=
 ∃ q i j a t i' j', q < l.length ∧ i ≤ x.length ∧ j ≤ y.length ∧ a ∈ (el l q).2 ∧ a.2.2.2 = ((t : Nat) : Int) ∧ fitN x i a.1 = some i' ∧ fitF free y j a.2.1 = some j' ∧ k = idx x.length y.length q i j ∧ w = a.2.2.1.toNat ∧ k' = idx x.length y.length t i' j'
theorem right_parts {m : Mc} (h : faultM m = 0) : (-1 ≤ m.1 ∧ m.1 ≤ (m.2.length : Int) - 1) ∧ ∀ s ∈ m.2, stB m.2.length s = true := by
 have h1 := (faultM_zero h).2
 simp only [rangeB, Bool.and_eq_true, inB, decide_eq_true_eq, List.all_eq_true] at h1
 exact h1
def noneI : Int := 1152921504606846976
structure CostT (l : List St) (x y : List Int) (free : Bool) (z : Int) (cs : List Int) : Prop where
 len : cs.length = l.length * (x.length + 1) * (y.length + 1)
 rng : ∀ k, k < cs.length → 0 ≤ el cs k ∧ el cs k ≤ noneI
 beg : 0 ≤ z → el cs (idx x.length y.length z.toNat 0 0) = 0
 run : ∀ k, k < cs.length → el cs k < noneI → 0 ≤ z ∧ ∃ n, Run (Edge l x y free) (idx x.length y.length z.toNat 0 0) n k (el cs k).toNat
section
variable {E : Nat → Nat → Nat → Prop} {s : Nat}
end
def ArcE (l : List St) (k w j : Nat) : Prop := ∃ a ∈ (el l k).2, a.2.2.2 = (j : Int) ∧ w = a.2.2.1.toNat
def FarC (z : Int) (l : List St) (q c : Nat) : Prop := 0 ≤ z ∧ ∃ n, Run (ArcE l) z.toNat n q c
def EndC (l : List St) (q c : Nat) : Prop := ∃ n p d, Run (ArcE l) q n p d ∧ p < l.length ∧ (el l p).1 ≠ 1000000001 ∧ c = d + (el l p).1.toNat
structure FarT (z : Int) (l : List St) (cs : List Int) : Prop where
 len : cs.length = l.length
 rng : ∀ q, q < l.length → 0 ≤ el cs q ∧ el cs q ≤ noneI
 run : ∀ q, q < l.length → el cs q < noneI → FarC z l q (el cs q).toNat
structure EndT (l : List St) (cs : List Int) : Prop where
 len : cs.length = l.length
 rng : ∀ q, q < l.length → 0 ≤ el cs q ∧ el cs q ≤ noneI
 run : ∀ q, q < l.length → el cs q < noneI → EndC l q (el cs q).toNat
def fE (l : List St) (q c : Nat) : Nat := if (el l q).1 ≠ 1000000001 ∧ (el l q).1.toNat ≤ c then 1 else 0
def eN (l : List St) : Nat → Nat → Nat → Nat
 | 0 => fE l
 | k + 1 => fun q c => ((el l q).2.map fun a => if a.2.2.1.toNat ≤ c then eN l k a.2.2.2.toNat (c - a.2.2.1.toNat) else 0).sum
def sN (l : List St) (k q c : Nat) : Nat := ((List.range k).map fun j => eN l j q c).sum
def cLe (l : List Int) (c : Int) : Nat := l.countP fun x => decide (x ≤ c)
def RisL (l : List Int) : Prop := l.Pairwise (· ≤ ·)
structure CheapN (l : List St) (q n : Nat) (L : List Int) : Prop where
 ris : RisL L
 pos : ∀ x ∈ L, 0 ≤ x
 cnt : ∀ c : Nat, cLe L c = min n (sN l (l.length * (n + 1) + 1) q c)
structure RndN (l : List St) (k q n : Nat) (L : List Int) : Prop where
 ris : RisL L
 pos : ∀ x ∈ L, 0 ≤ x
 cnt : ∀ c : Nat, cLe L c = min n (sN l k q c)
structure InsN (n : Nat) (P : Nat → Nat) (L : List Int) : Prop where
 ris : RisL L
 pos : ∀ x ∈ L, 0 ≤ x
 cnt : ∀ c : Nat, cLe L c = min n (P c)
def hC (H : List Ar) (p : Nat) (c : Int) : Nat := H.countP fun x => decide (x.1 = (p : Int)) && decide (x.2.2.2 ≤ c)
def sumS (st : List (List Ar)) (p : Nat) (g : Nat → Int → Nat) : Nat := ((List.range st.length).map fun q => ((el st q).map fun s => if s.1 = (p : Int) then g q s.2.2.2 else 0).sum).sum
def atS (start p : Nat) (c : Int) : Nat := if p = start ∧ 0 ≤ c then 1 else 0
def gC (st : List (List Ar)) (start : Nat) (F : List (List Int)) (p : Nat) (c : Int) : Nat := atS start p c + sumS st p fun q w => cLe (el F q) (c - w)
def wC (st : List (List Ar)) (start : Nat) : Nat → Nat → Int → Nat
 | 0 => fun _ _ => 0
 | k + 1 => fun p c => atS start p c + sumS st p fun q w => wC st start k q (c - w)
section
variable {st : List (List Ar)} {start n : Nat}
def totF (F : List (List Int)) : Nat := (F.map List.length).sum
structure CwI (CAP : Int) (st : List (List Ar)) (n start : Nat) (F : List (List Int)) (H : List Ar) : Prop where
 len : F.length = st.length
 few : ∀ p, p < st.length → (el F p).length ≤ n
 hto : ∀ x ∈ H, ∃ t : Nat, x.1 = (t : Int) ∧ t < st.length
 ord : ∀ p, p < st.length → ∀ y ∈ el F p, ∀ x ∈ H, y ≤ x.2.2.2
 ris : ∀ p, p < st.length → RisL (el F p)
 up : ∀ p, p < st.length → ∀ c, c < CAP → cLe (el F p) c + hC H p c ≤ gC st start F p c
 lo : ∀ p, p < st.length → ∀ c, c < CAP → min n (gC st start F p c) ≤ cLe (el F p) c + hC H p c
 wk : ∀ p, p < st.length → ∀ c, c < CAP → cLe (el F p) c + hC H p c ≤ wC st start (totF F + 1) p c
end
structure FrT (l : List St) (fr : List Int) : Prop where
 len : fr.length = l.length
 val : ∀ q, q < l.length → (el fr q = 1000000001 ∧ ∀ c, ¬ EndC l q c) ∨ ∃ c : Nat, LeastP (EndC l q) c ∧ c ≤ 1000000000 ∧ el fr q = (c : Int)
def TgA (fr : List Int) (q : Nat) (a : Ar) : Prop := el fr a.2.2.2.toNat ≠ 1000000001 ∧ a.2.2.1 + el fr a.2.2.2.toNat = el fr q
def TgN (l : List St) (fr : List Int) : Nat → Nat → Prop
 | 0 => fun q => el fr q ≠ 1000000001 ∧ (el l q).1 = el fr q
 | k + 1 => fun q => ∃ a ∈ (el l q).2, TgA fr q a ∧ TgN l fr k a.2.2.2.toNat
section
variable {l : List St} {fr : List Int}
def LenA (l : List St) (fr : List Int) (q k : Nat) : Prop := LeastP (fun k => TgN l fr k q) k
inductive BstW (l : List St) (fr : List Int) : Nat → Nat → List Nat → Prop
 | nil {q : Nat} : BstW l fr 0 q []
 | cons {k q i : Nat} {L : List Nat} (hi : i < (el l q).2.length) (ha : TgA fr q (el (el l q).2 i)) (hk : LenA l fr (el (el l q).2 i).2.2.2.toNat k) (hf : ∀ j, j < i → ¬ (TgA fr q (el (el l q).2 j) ∧ LenA l fr (el (el l q).2 j).2.2.2.toNat k)) (h : BstW l fr k (el (el l q).2 i).2.2.2.toNat L) : BstW l fr (k + 1) q (i :: L)
end
structure LnT (l : List St) (fr : List Int) (N : Int) (ls : List Int) : Prop where
 len : ls.length = l.length
 rng : ∀ q, q < l.length → 0 ≤ el ls q ∧ el ls q ≤ N
 had : ∀ q, q < l.length → el ls q < N → TgN l fr (el ls q).toNat q
section
variable {l : List St} {fr : List Int} {N : Int} {ls : List Int}
end
end Go.Proofs.Ytobhjhjfannnnaa.Pl
namespace Go.Proofs.Ytobhjhjfannnnaa.Pl
set_option linter.unusedVariables false
theorem right_nums {m : Mc} (hr : faultM m = 0) {q : Nat} (hq : q < m.2.length) : 0 ≤ (el m.2 q).1 ∧ (el m.2 q).1 ≤ 1000000001 ∧ ∀ i, i < (el m.2 q).2.length → 0 ≤ (el (el m.2 q).2 i).2.2.1 ∧ (el (el m.2 q).2 i).2.2.1 ≤ 1000000000 ∧ ∃ t : Nat, (el (el m.2 q).2 i).2.2.2 = (t : Int) ∧ t < m.2.length := by
 have h1 := (right_parts hr).2 _ (el_mem hq)
 simp only [stB, Bool.and_eq_true, List.all_eq_true] at h1
 have h0 := h1.1
 simp only [finB, inB, Bool.and_eq_true, Bool.or_eq_true, decide_eq_true_eq] at h0
 refine ⟨by omega, by omega, fun i hi => ?_⟩
 have h2 := h1.2 _ (el_mem hi)
 simp only [arcB, inB, Bool.and_eq_true, decide_eq_true_eq] at h2
 exact ⟨by omega, by omega, (el (el m.2 q).2 i).2.2.2.toNat, by omega, by omega⟩
end Go.Proofs.Ytobhjhjfannnnaa.Pl
namespace Go.Proofs.Ytobhjhjfannnnaa.Pl
set_option linter.unusedVariables false
set_option linter.unusedSimpArgs false
def kA (k : Int) : Int := k / 2147483648
def kB (k : Int) : Int := k % 2147483648
def noK : Int := 2147483651147483649
def capK : Int := 2147483650147483648
def KeyOk (x : Int) : Prop := x = noK ∨ (0 ≤ kA x ∧ kA x ≤ 1000000000 ∧ 0 ≤ kB x ∧ kB x ≤ 1000000000)
def arS (a : Ar) : Ar := (a.2.2.2, 0, 0, a.2.2.1 * 2147483648 + 1)
def onS (l : List St) (q : Nat) : List Ar := (el l q).2.map arS ++ if (el l q).1 = 1000000001 then [] else [((l.length : Int), 0, 0, (el l q).1 * 2147483648)]
structure RgtL (l : List St) : Prop where
 fin : ∀ q, q < l.length → 0 ≤ (el l q).1 ∧ (el l q).1 ≤ 1000000001
 arc : ∀ q, q < l.length → ∀ a ∈ (el l q).2, 0 ≤ a.2.2.1 ∧ a.2.2.1 ≤ 1000000000 ∧ ∃ t : Nat, a.2.2.2 = (t : Int) ∧ t < l.length
theorem RgtL.of {m : Mc} (hr : faultM m = 0) : RgtL m.2 :=
 ⟨fun q hq => ⟨(right_nums hr hq).1, (right_nums hr hq).2.1⟩, fun q hq a ha => by
  obtain ⟨i, hi, rfl⟩ := mem_el ha
  exact (right_nums hr hq).2.2 i hi⟩
structure XP (l : List St) (X : Nat → Nat → Int → Nat) : Prop where
 zero : ∀ p c, X 0 p c = 0
 fin : ∀ k c, X (k + 1) l.length c = if 0 ≤ c then 1 else 0
 step : ∀ k p c, p < l.length → X (k + 1) p c = ((onS l p).map fun s => X k s.1.toNat (c - s.2.2.2)).sum
section
variable {l : List St} {X : Nat → Nat → Int → Nat}
end
end Go.Proofs.Ytobhjhjfannnnaa.Pl
namespace Go.Proofs.Ytobhjhjfannnnaa.Wt
open Go.ChangeShapes Go.WideShapes Go.ChangeAt Go.RowKit
open Go.Proofs.Ytobhjhjfannnnaa.Pl
set_option linter.unusedVariables false
set_option linter.unusedSimpArgs false
theorem hidP {p : Prop} (h : p) : Hid p := h
end Go.Proofs.Ytobhjhjfannnnaa.Wt
namespace Go.Proofs.Ytobhjhjfannnnaa.Bw
open Go.ChangeShapes Go.WideShapes Go.ChangeAt Go.RowKit
open Go.Proofs.Ytobhjhjfannnnaa.Pl Go.Proofs.Ytobhjhjfannnnaa.Wt
set_option linter.unusedVariables false
set_option linter.unusedSimpArgs false
def encW (a : Ar) : List Value := [.int .i64 a.1, .int .i64 (kA a.2.2.2), .int .i64 (kB a.2.2.2)]
theorem own_slW {w : World} {base : Nat} {e : TypeId} {s : Nat} {v : Value} {n : Nat} {ws : List Value} (h : w.ownsRow base e s v n ws) : ∃ a cap, v = .slice a n cap := by
 rcases h.2 with ⟨hv, hn0⟩ | ⟨g, cap, cur, rfl, _⟩
 ·subst hn0; exact ⟨_, _, hv⟩
 ·exact ⟨_, _, rfl⟩
end Go.Proofs.Ytobhjhjfannnnaa.Bw
namespace Go.Proofs.Ytobhjhjfannnnaa.Wt
open Go.ChangeShapes Go.WideShapes Go.ChangeAt Go.RowKit
open Go.Proofs.Ytobhjhjfannnnaa.Pl
set_option linter.unusedVariables false
set_option linter.unusedSimpArgs false
structure Turn2 (w w' : World) (b : Nat) (r : Option Nat) : Prop where
 os : w'.os = w.os
 tape : w'.tape = w.tape
 output : w'.output = w.output
 size : w.heap.size ≤ w'.heap.size
 block : ∀ k, k < w.heap.size → k ≠ b → some k ≠ r → w'.heap[k]? = w.heap[k]?
end Go.Proofs.Ytobhjhjfannnnaa.Wt
namespace Go.Proofs.Ytobhjhjfannnnaa.Pl
set_option linter.unusedVariables false
set_option linter.unusedSimpArgs false
def zR (r : List Ar) : List Ar := r.map fun s => (s.1, 0, 0, 0)
def zS (S : List (List Ar)) : List (List Ar) := S.map zR
def zF (F : List (List Int)) : List (List Int) := F.map fun r => r.map fun _ => 0
structure CkI (S : List (List Ar)) (n start : Nat) (F : List (List Int)) (H : List Ar) : Prop where
 key : CwI capK S n start F H
 all : CwI 1 (zS S) n start (zF F) (zR H)
 okH : ∀ x ∈ H, KeyOk x.2.2.2 ∧ (x.2.2.2 = noK ∨ kB x.2.2.2 ≤ totF F)
 okF : ∀ p, p < S.length → ∀ y ∈ el F p, KeyOk y
section
variable {S : List (List Ar)} {n start : Nat} {F : List (List Int)} {H : List Ar}
end
end Go.Proofs.Ytobhjhjfannnnaa.Pl
namespace Go.Proofs.Ytobhjhjfannnnaa.Bw
open Go.ChangeShapes Go.WideShapes Go.ChangeAt Go.RowKit
open Go.Proofs.Ytobhjhjfannnnaa.Pl Go.Proofs.Ytobhjhjfannnnaa.Wt
set_option linter.unusedVariables false
set_option linter.unusedSimpArgs false
def encT (k : Int) : List Value := [.int .i64 (kA k), .int .i64 (kB k)]
structure RowT {α : Type} (k : Nat) (enc : α → List Value) (et rt : TypeId) (w : World) (base g n : Nat) (vs : List Value) (f : Nat → List α) : Prop where
 len : vs.length = n
 blk : Blk w g vs.toArray rt
 row : ∀ j, j < n → w.ownsRow base et k (el vs j) (f j).length ((f j).flatMap enc)
 apart : ∀ i j, i < n → j < n → i ≠ j → (el vs i).ownBlock = none ∨ (el vs i).ownBlock ≠ (el vs j).ownBlock
section
variable {α : Type} {k : Nat} {enc : α → List Value} {et rt : TypeId} {w w' : World} {base g n : Nat} {vs : List Value} {f : Nat → List α}
end
structure ChpAt (w0 w : World) (T B N : Nat) (rows : List Value) (F : List (List Int)) (v : Value) (hs : List Ar) : Prop where
 tab : RowT 2 encT 68 60 w w0.heap.size T N rows (fun j => el F j)
 var : Blk w B #[v] 118
 heap : w.ownsRow w0.heap.size 116 3 v hs.length (hs.flatMap encW)
 bel : Below w0.heap.size w0 w
 sT : w0.heap.size ≤ T
 sB : w0.heap.size ≤ B
 fl : F.length = N
theorem own_one {w : World} {base : Nat} (x : Ar) (hb : base ≤ w.heap.size) : (w.alloc (.cells (encW x).toArray 116)).ownsRow base 116 3 (.slice (some ⟨w.heap.size, 0, none⟩) 1 1) 1 ([x].flatMap encW) := by
 refine ⟨by simp [encW], .inr ⟨w.heap.size, 1, (encW x).toArray, rfl, hb, ?_, Nat.le_refl _, by unfold maxLen; omega, by simp [encW], by simp [encW]⟩⟩
 have h9 := Blk.made w (encW x).toArray 116
 exact h9
theorem arcs_of {l : List St} {j : Nat} (h : j < l.length) : (el l j).2.length ≤ arcN l := by
 have h1 := arcN_take h
 have h2 : arcN (l.take (j + 1)) ≤ arcN l := by
  conv => rhs; rw [← List.take_append_drop (j + 1) l, arcN_append]
  omega
 omega
structure RgtM (z : Int) (l : List St) : Prop where
 rgt : RgtL l
 lo : -1 ≤ z
 hi : z < (l.length : Int)
 few : l.length ≤ 60
 arcs : ∀ q, q < l.length → (el l q).2.length ≤ 400
 all : arcN l ≤ 400
theorem RgtM.of {m : Mc} (hr : faultM m = 0) : RgtM m.1 m.2 :=
 ⟨RgtL.of hr, (right_parts hr).1.1, by have := (right_parts hr).1.2; omega, (right_size hr).1, fun q hq => by
  have h1 := arcs_of hq
  have h2 := (right_size hr).2
  omega, (right_size hr).2⟩
end Go.Proofs.Ytobhjhjfannnnaa.Bw
namespace Go.Proofs.Ytobhjhjfannnnaa.Wt
open Go.ChangeShapes Go.WideShapes Go.ChangeAt Go.RowKit
open Go.Proofs.Ytobhjhjfannnnaa.Pl
set_option linter.unusedVariables false
set_option linter.unusedSimpArgs false
def encI1 (x : Int) : List Value := [.int .i64 x]
theorem encI1_len (x : Int) : (encI1 x).length = 1 := rfl
theorem encI1_one (x : Int) : ∀ u ∈ encI1 x, u.oneCell' = true := by
 intro u hu
 simp [encI1] at hu
 subst hu; rfl
def Nums (w : World) (v : Value) (ks : List Int) : Prop := Row 1 encI1 w v ks
theorem Nums.later {w w' : World} {v : Value} {ks : List Int} (h : Nums w v ks) {B : Nat} (hb : Below B w w') (hB : w.heap.size ≤ B) : Nums w' v ks := Row.later h hb hB
theorem Nums.get {w : World} {v : Value} {bs : List Int} (h : Nums w v bs) : ∃ a cap, v = .slice a bs.length cap ∧ ∀ j, j < bs.length → ∃ b off, a = some ⟨b, off, none⟩ ∧ b < w.heap.size ∧ w.cell? ⟨b, off + j, none⟩ = some (.int .i64 (el bs j)) := by
 by_cases hz : 0 < bs.length
 ·obtain ⟨b, off, cap, hv, hb, hc⟩ := Row.plain h (fun x => by simp [encI1]) hz
  refine ⟨_, cap, hv, fun j hj => ⟨b, off, rfl, hb, ?_⟩⟩
  have := hc j hj 0 _ rfl
  rwa [Nat.mul_one, Nat.add_zero] at this
 ·obtain ⟨a, cap, hv⟩ := Row.sl h
  exact ⟨a, cap, hv, fun j hj => by omega⟩
theorem infoIntU : (Try.prog.info? 3).map (fun i => (i.zero, i.size, i.bytes)) = some (some (.int .i64 0), 1, 8) := by kernel_rfl
end Go.Proofs.Ytobhjhjfannnnaa.Wt
namespace Go.Proofs.Ytobhjhjfannnnaa.Pl
def leL (a b : List Bool) : Prop := a.length = b.length ∧ ∀ j, j < a.length → el a j = true → el b j = true
structure Pass (C : (Nat → Prop) → Prop) (n : Nat) (b0 bs : List Bool) (chk : Prop) : Prop where
 len : bs.length = n
 le : leL b0 bs
 sound : ∀ T, C T → ∀ q, q < n → el bs q = true → T q
 chk : bs = b0 → chk
structure Rounds (C : (Nat → Prop) → Prop) (n k : Nat) (bs : List Bool) : Prop where
 len : bs.length = n
 sound : ∀ T, C T → ∀ q, q < n → el bs q = true → T q
 more : C (fun q => el bs q = true) ∨ k ≤ bs.count true
end Go.Proofs.Ytobhjhjfannnnaa.Pl
namespace Go.Proofs.Ytobhjhjfannnnaa.Wt
open Go.ChangeShapes Go.WideShapes Go.ChangeAt Go.RowKit
open Go.Proofs.Ytobhjhjfannnnaa.Pl
set_option linter.unusedVariables false
set_option linter.unusedSimpArgs false
theorem infoIntX : (Try.prog.info? 3).map (fun i => (i.zero, i.size, i.bytes)) = some (some (.int .i64 0), 1, 8) := by kernel_rfl
def OwnI (w : World) (base : Nat) (v : Value) (l : List Int) : Prop := w.ownsRow base 3 1 v l.length (l.flatMap encI1)
theorem OwnI.nil (w : World) (base : Nat) : OwnI w base (.slice none 0 0) [] := World.ownsRow_nil _ _ _ _
theorem OwnI.later {w w' : World} {base : Nat} {v : Value} {l : List Int} (h : OwnI w base v l) (hb : Below w.heap.size w w') : OwnI w' base v l := ownBelow h hb
end Go.Proofs.Ytobhjhjfannnnaa.Wt
namespace Go.Proofs.Ytobhjhjfannnnaa.Pl
def putL (x : List Int) (b : Int) : List Int := if 0 < b then x ++ [b] else x
def flwL (l : List St) : List Int → Int → Option (List Int × List Int × Int)
  | [], q => if q < 0 ∨ (el l q.toNat).1 = 1000000001 then none else some ([], [], (el l q.toNat).1)
  | k :: ks, q => if q < 0 ∨ k < 0 ∨ ((el l q.toNat).2.length : Int) ≤ k then none else
      (flwL l ks (el (el l q.toNat).2 k.toNat).2.2.2).map fun r => (putL [] (el (el l q.toNat).2 k.toNat).1 ++ r.1, putL [] (el (el l q.toNat).2 k.toNat).2.1 ++ r.2.1, (el (el l q.toNat).2 k.toNat).2.2.1 + r.2.2)
theorem putL_app (x : List Int) (b : Int) (y : List Int) : putL x b ++ y = x ++ (putL [] b ++ y) := by
 unfold putL
 by_cases h : 0 < b <;> simp [h]
structure FlwI (l : List St) (ks : List Int) (z : Int) (i : Nat) (x y : List Int) (c q : Int) : Prop where
 eq : flwL l ks z = (flwL l (ks.drop i) q).map fun r => (x ++ r.1, y ++ r.2.1, c + r.2.2)
theorem FlwI.start (l : List St) (ks : List Int) (z : Int) : FlwI l ks z 0 [] [] 0 z := ⟨by simp⟩
theorem flw_drop {ks : List Int} {i : Nat} (hi : i < ks.length) : ks.drop i = el ks i :: ks.drop (i + 1) := by
 rw [List.drop_eq_getElem_cons hi]
 congr 1
 simp [el, hi]
theorem FlwI.stop {l : List St} {ks : List Int} {z : Int} {i : Nat} {x y : List Int} {c q : Int} (h : FlwI l ks z i x y c q) (hi : i < ks.length) (hs : q < 0 ∨ el ks i < 0 ∨ ((el l q.toNat).2.length : Int) ≤ el ks i) : flwL l ks z = none := by
 rw [h.eq, flw_drop hi]
 simp [flwL, hs]
theorem FlwI.step {l : List St} {ks : List Int} {z : Int} {i : Nat} {x y : List Int} {c q : Int} (h : FlwI l ks z i x y c q) (hi : i < ks.length) (hq : 0 ≤ q) (hk : 0 ≤ el ks i) (hl : el ks i < ((el l q.toNat).2.length : Int)) :
  FlwI l ks z (i + 1) (putL x (el (el l q.toNat).2 (el ks i).toNat).1) (putL y (el (el l q.toNat).2 (el ks i).toNat).2.1) (c + (el (el l q.toNat).2 (el ks i).toNat).2.2.1) (el (el l q.toNat).2 (el ks i).toNat).2.2.2 := by
 refine ⟨?_⟩
 rw [h.eq, flw_drop hi]
 have hn : ¬ (q < 0 ∨ el ks i < 0 ∨ ((el l q.toNat).2.length : Int) ≤ el ks i) := by omega
 simp only [flwL, if_neg hn, Option.map_map]
 congr 1
 funext r
 show (x ++ (putL [] _ ++ r.1), y ++ (putL [] _ ++ r.2.1), c + (_ + r.2.2)) = _
 rw [putL_app x, putL_app y, Int.add_assoc]
theorem FlwI.fin {l : List St} {ks : List Int} {z : Int} {x y : List Int} {c q : Int} (h : FlwI l ks z ks.length x y c q) : flwL l ks z = if q < 0 ∨ (el l q.toNat).1 = 1000000001 then none else some (x, y, c + (el l q.toNat).1) := by
 rw [h.eq, List.drop_length]
 unfold flwL
 by_cases hq : q < 0 ∨ (el l q.toNat).1 = 1000000001
 ·simp [hq]
 ·simp [hq]
def flwA (m : Mc) (ks : List Int) : (List Int × List Int × Int) × Int :=
 if faultM m ≠ 0 then (([], [], 0), faultM m) else if 400 < ks.length then (([], [], 0), 1) else
  match flwL m.2 ks m.1 with
  | none => (([], [], 0), 12)
  | some r => if 1000000000 < r.2.2 then (([], [], 0), 4) else (r, 0)
theorem flwA_bad {m : Mc} {ks : List Int} (h : faultM m ≠ 0) : flwA m ks = (([], [], 0), faultM m) := by unfold flwA; rw [if_pos h]
theorem flwA_long {m : Mc} {ks : List Int} (h : faultM m = 0) (hl : 400 < ks.length) : flwA m ks = (([], [], 0), 1) := by
 unfold flwA; rw [if_neg (by omega), if_pos hl]
theorem flwA_none {m : Mc} {ks : List Int} (h : faultM m = 0) (hl : ks.length ≤ 400) (hn : flwL m.2 ks m.1 = none) : flwA m ks = (([], [], 0), 12) := by
 unfold flwA; rw [if_neg (by omega), if_neg (by omega), hn]
theorem flwA_over {m : Mc} {ks : List Int} {r : List Int × List Int × Int} (h : faultM m = 0) (hl : ks.length ≤ 400) (hn : flwL m.2 ks m.1 = some r) (hr : 1000000000 < r.2.2) : flwA m ks = (([], [], 0), 4) := by
 unfold flwA; rw [if_neg (by omega), if_neg (by omega), hn]; simp only [if_pos hr]
theorem flwA_ok {m : Mc} {ks : List Int} {r : List Int × List Int × Int} (h : faultM m = 0) (hl : ks.length ≤ 400) (hn : flwL m.2 ks m.1 = some r) (hr : ¬ 1000000000 < r.2.2) : flwA m ks = (r, 0) := by
 unfold flwA; rw [if_neg (by omega), if_neg (by omega), hn]; simp only [if_neg hr]
theorem putL_len (x : List Int) (b : Int) : (putL x b).length ≤ x.length + 1 := by
 unfold putL
 by_cases h : 0 < b <;> simp [h]
end Go.Proofs.Ytobhjhjfannnnaa.Pl
namespace Go.Proofs.Ytobhjhjfannnnaa.Wt
open Go.ChangeShapes Go.WideShapes Go.ChangeAt Go.RowKit
open Go.Proofs.Ytobhjhjfannnnaa.Pl
set_option linter.unusedVariables false
theorem arcsOf_any (v : Value) (m : Mc) (w : World) (h : Mach w v m) (hok : okM m) (h60 : m.2.length ≤ 60) (q : Nat) (hq : arcN m.2 = q) :
  Calls Try.prog 60 #[v] w fun e w' => e = .returned (.int .i64 q) ∧ Below w.heap.size w w' := by
 subst hq
 obtain ⟨z, l⟩ := m
 obtain ⟨vs, rfl, hS⟩ := h
 obtain ⟨a, cap, rfl, hc⟩ := hS.get
 have hA := okM_arcs hok h60
 clear hS hok
 have HX : Hid (∀ k, arcN (l.take k) ≤ 60 * 4398046511104) := hA
 have HC : Hid (∀ j, j < l.length → ∃ b off va, a = some ⟨b, off, none⟩ ∧ b < w.heap.size ∧ w.cell? ⟨b, off + j * 2, none⟩ = some (.int .i64 (el l j).1) ∧ w.cell? ⟨b, off + j * 2 + 1, none⟩ = some va ∧ Arcs w va (el l j).2) := hc
 clear hA hc
 simp only at h60 ⊢
 generalize hn : l.length = n at *
 go_enter Try.func60, Try.ntmps60
 go_wp2
 go_loopw [3, 9] (fun s i wr => ∃ k : Nat, k ≤ n ∧ i = .int .i64 k ∧ s = .int .i64 (arcN (l.take k)) ∧ Below w.heap.size w wr) (fun _ i _ => n - (intOf i).toNat)
 case atStart => exact ⟨0, Nat.zero_le _, rfl, rfl, by go_grown⟩
 case round =>
  obtain ⟨k, hk, rfl, rfl, hb⟩ := hrel
  by_cases hlt : k < n
  ·obtain ⟨b, off, va, rfl, hbl, g0, g1, gA⟩ := HC.out k hlt
   obtain ⟨a2, cap2, rfl⟩ := gA.sl
   have g0 := (hb.cell (p := ⟨b, off + k * 2, none⟩) hbl).trans g0
   have g1 := (hb.cell (p := ⟨b, off + k * 2 + 1, none⟩) hbl).trans g1
   have h1 := HX.out k
   have h2 := HX.out (k + 1)
   have HE : Hid (arcN (l.take (k + 1)) = arcN (l.take k) + (el l k).2.length) := arcN_take (by omega)
   rw [HE.out] at h2
   clear gA
   generalize arcN (l.take k) = s at *
   generalize (el l k).2.length = q at *
   generalize (el l k).1 = f at *
   go_wp2
   go_roundw
   case rel => exact ⟨k + 1, by omega, by go_num, by rw [HE.out]; go_num, hb.alloc hb.size _⟩
   case measure => simp [intOf]; omega
  ·go_wp2
   go_ret
   have hke : k = n := by omega
   refine ⟨ret_intK ?_, hb⟩
   rw [hke, ← hn, List.take_length]
def AskS (g : Nat) (lb : Array Value) (p : St → Bool) (l : List St) (w : World) : Prop :=
 (∀ ar W, (callFunc g ar).run Try.prog W = .ok (.enter g ar) W) ∧
 ∀ j, j < l.length → ∀ (W : World) (va : Value), Below w.heap.size w W → Arcs W va (el l j).2 → Calls Try.prog g (#[.agg #[.int .i64 (el l j).1, va]] ++ lb) W fun e w' => e = .returned (.bool (p (el l j))) ∧ Below W.heap.size W w'
set_option maxRecDepth 100000 in
theorem everyState_any (v : Value) (m : Mc) (w : World) (h : Mach w v m) (g : Nat) (lb : Array Value) (p : St → Bool) (hg : AskS g lb p m.2 w) (hl : m.2.length ≤ 60) (r : Bool) (hr : m.2.all p = r) :
  Calls Try.prog 83 #[v, .func (.func g) #[] lb] w fun e w' => e = .returned (.bool r) ∧ Below w.heap.size w w' := by
 obtain ⟨z, l⟩ := m
 obtain ⟨vs, rfl, hS⟩ := h
 obtain ⟨a, cap, rfl, hc⟩ := hS.get
 obtain ⟨eg, hg⟩ := hg
 simp only at hg hl hr ⊢
 have HC : Hid (∀ j, j < l.length → ∃ b off va, a = some ⟨b, off, none⟩ ∧ b < w.heap.size ∧ w.cell? ⟨b, off + j * 2, none⟩ = some (.int .i64 (el l j).1) ∧ w.cell? ⟨b, off + j * 2 + 1, none⟩ = some va ∧ Arcs w va (el l j).2) := hc
 have HG : Hid (∀ j, j < l.length → ∀ (W : World) (va : Value), Below w.heap.size w W → Arcs W va (el l j).2 → Calls Try.prog g (#[.agg #[.int .i64 (el l j).1, va]] ++ lb) W fun e w' => e = .returned (.bool (p (el l j))) ∧ Below W.heap.size W w') := hg
 have HR : Hid (l.all p = r) := hr
 clear hS hc hg hr
 generalize hn : l.length = n at *
 have HN : Hid (l.length = n) := hn
 clear hn
 have hnot : ∀ (x : Bool) (w : World), (Op.unary .not (.bool x)).run Try.prog w = .ok (.bool (!x)) w := fun _ _ => rfl
 go_enter Try.func83, Try.ntmps83
 go_wp2
 go_loopw [10] (fun i wr => ∃ k : Nat, k ≤ n ∧ i = .int .i64 k ∧ Hid ((l.take k).all p = true) ∧ Below w.heap.size w wr) (fun i _ => n - (intOf i).toNat)
 case atStart => exact ⟨0, Nat.zero_le _, rfl, rfl, by go_grown⟩
 case round =>
  obtain ⟨k, hk, rfl, hok, hb⟩ := hrel
  by_cases hlt : k < n
  ·obtain ⟨b, off, va, rfl, hbl, g0, g1, gA⟩ := HC.out k hlt
   have g0 := (hb.cell (p := ⟨b, off + k * 2, none⟩) hbl).trans g0
   have g1 := (hb.cell (p := ⟨b, off + k * 2 + 1, none⟩) hbl).trans g1
   have GA := gA.later hb (Nat.le_refl _)
   have GA2 : Hid (Arcs (wr.alloc (.cells #[.int .i64 (el l k).1, va] 58)) va (el l k).2) := GA.later ((Below.refl _ _).alloc (Nat.le_refl _) _) (Nat.le_refl _)
   have HC1 := HG.out k hlt (wr.alloc (.cells #[.int .i64 (el l k).1, va] 58)) va (hb.alloc hb.size _) GA2.out
   have HB2 : Hid (Below w.heap.size w (wr.alloc (.cells #[.int .i64 (el l k).1, va] 58))) := hb.alloc hb.size _
   obtain ⟨a2, cap2, hva⟩ := GA.sl
   subst hva
   rcases bool_cases' (p (el l k)) with hp | hp
   ·have HO : Hid ((l.take (k + 1)).all p = true) := by show _ = _; rw [all_take_succ (by rw [HN.out]; exact hlt), hok.out, hp]; rfl
    rw [hp] at HC1
    have HCC : Hid (Calls Try.prog g (#[.agg #[.int .i64 (el l k).1, .slice a2 (el l k).2.length cap2]] ++ lb) (wr.alloc (.cells #[.int .i64 (el l k).1, .slice a2 (el l k).2.length cap2] 58)) fun e w' => e = .returned (.bool true) ∧ Below (wr.alloc (.cells #[.int .i64 (el l k).1, .slice a2 (el l k).2.length cap2] 58)).heap.size (wr.alloc (.cells #[.int .i64 (el l k).1, .slice a2 (el l k).2.length cap2] 58)) w') := HC1
    clear HC1 GA GA2 gA hp hok
    generalize (el l k).2.length = q at *
    generalize (el l k).1 = f at *
    go_wp2_with (go_at_fn g; refine HCC.out.mono ?_; rintro e w' ⟨rfl, hb'⟩; have HB3 : Hid (Below w.heap.size w w') := HB2.out.trans (hb'.mono HB2.out.size); clear hb')
    go_roundw
    case rel => exact ⟨k + 1, by omega, by go_num, HO, HB3.out⟩
    case measure => simp [intOf]; omega
   ·have HO : Hid (false = r) := by show _ = _; rw [← HR.out]; exact (all_false_el (by rw [HN.out]; exact hlt) hp).symm
    rw [hp] at HC1
    have HCC : Hid (Calls Try.prog g (#[.agg #[.int .i64 (el l k).1, .slice a2 (el l k).2.length cap2]] ++ lb) (wr.alloc (.cells #[.int .i64 (el l k).1, .slice a2 (el l k).2.length cap2] 58)) fun e w' => e = .returned (.bool false) ∧ Below (wr.alloc (.cells #[.int .i64 (el l k).1, .slice a2 (el l k).2.length cap2] 58)).heap.size (wr.alloc (.cells #[.int .i64 (el l k).1, .slice a2 (el l k).2.length cap2] 58)) w') := HC1
    clear HC1 GA GA2 gA hp hok
    generalize (el l k).2.length = q at *
    generalize (el l k).1 = f at *
    go_wp2_with (go_at_fn g; refine HCC.out.mono ?_; rintro e w' ⟨rfl, hb'⟩; have HB3 : Hid (Below w.heap.size w w') := HB2.out.trans (hb'.mono HB2.out.size); clear hb')
    go_ret
    exact ⟨ret_boolK HO.out, HB3.out⟩
  ·have hke : k = n := by omega
   have HO : Hid (true = r) := by show _ = _; rw [← HR.out]; have h := hok.out; rw [hke, ← HN.out, List.take_length] at h; exact h.symm
   have hnl : ¬ (k : Int) < (n : Int) := by omega
   clear hke hok hlt
   go_wp2
   go_ret
   exact ⟨ret_boolK HO.out, hb⟩
end Go.Proofs.Ytobhjhjfannnnaa.Wt
