/- What a machine costs for words: states and places of both words, numbered (no program in sight). -/
import Derived.Test.YtfpibdaedfilaaaEab
import Derived.Test.YtfpibdaedfilaaaEaa
namespace Go.Proofs.Ytfpibdaedfilaaa.Pl
set_option linter.unusedVariables false
set_option linter.unusedSimpArgs false
def fitN (l : List Int) (i : Nat) (b : Int) : Option Nat := if b = 0 then some i else if i < l.length ∧ el l i = b then some (i + 1) else none
theorem fitN_le {l : List Int} {i j : Nat} {b : Int} (h : fitN l i b = some j) (hi : i ≤ l.length) : j ≤ l.length := by
 unfold fitN at h
 split at h
 ·simp at h; omega
 ·split at h
  ·simp at h; omega
  ·simp at h
theorem take_snocW {l : List Int} {i : Nat} (h : i < l.length) : l.take (i + 1) = l.take i ++ [el l i] := by
 rw [List.take_add_one, List.getElem?_eq_getElem h, el_get h]
 rfl
theorem fitN_take {l : List Int} {i j : Nat} {b : Int} (h : fitN l i b = some j) : l.take j = l.take i ++ lab b := by
 unfold fitN at h
 unfold lab
 split at h
 ·rename_i hb
  simp at h
  rw [if_pos hb, h, List.append_nil]
 ·rename_i hb
  rw [if_neg hb]
  split at h
  ·rename_i hi
   simp at h
   rw [← h, take_snocW hi.1, hi.2]
  ·simp at h
theorem take_fitN {l u : List Int} {j : Nat} {b : Int} (hj : j ≤ l.length) (h : u ++ lab b = l.take j) : ∃ i, i ≤ l.length ∧ u = l.take i ∧ fitN l i b = some j := by
 unfold lab at h
 unfold fitN
 by_cases hb : b = 0
 ·rw [if_pos hb, List.append_nil] at h
  exact ⟨j, hj, h, by rw [if_pos hb]⟩
 ·rw [if_neg hb] at h
  rcases j with _ | j
  ·simp at h
  ·rw [take_snocW (by omega)] at h
   have h1 := List.append_inj' h rfl
   have h2 : b = el l j := by simpa using h1.2
   exact ⟨j, by omega, h1.1, by rw [if_neg hb, if_pos ⟨by omega, h2.symm⟩]⟩
def idx (X Y q i j : Nat) : Nat := (q * (X + 1) + i) * (Y + 1) + j
theorem idx_j {X Y q i j : Nat} (hj : j ≤ Y) : idx X Y q i j % (Y + 1) = j := by
 unfold idx
 rw [Nat.mul_comm, Nat.mul_add_mod]
 exact Nat.mod_eq_of_lt (by omega)
theorem idx_d {X Y q i j : Nat} (hj : j ≤ Y) : idx X Y q i j / (Y + 1) = q * (X + 1) + i := by
 unfold idx
 rw [Nat.mul_comm, Nat.mul_add_div (by omega), Nat.div_eq_of_lt (by omega), Nat.add_zero]
theorem idx_i {X Y q i j : Nat} (hi : i ≤ X) (hj : j ≤ Y) : idx X Y q i j / (Y + 1) % (X + 1) = i := by
 rw [idx_d hj, Nat.mul_comm, Nat.mul_add_mod]
 exact Nat.mod_eq_of_lt (by omega)
theorem idx_q {X Y q i j : Nat} (hi : i ≤ X) (hj : j ≤ Y) : idx X Y q i j / (Y + 1) / (X + 1) = q := by
 rw [idx_d hj, Nat.mul_comm, Nat.mul_add_div (by omega), Nat.div_eq_of_lt (by omega), Nat.add_zero]
theorem idx_one {X Y q i j q' i' j' : Nat} (hi : i ≤ X) (hj : j ≤ Y) (hi' : i' ≤ X) (hj' : j' ≤ Y) (h : idx X Y q i j = idx X Y q' i' j') : q = q' ∧ i = i' ∧ j = j' := by
 refine ⟨?_, ?_, ?_⟩
 ·have := idx_q (q := q) hi hj; rw [h, idx_q hi' hj'] at this; exact this.symm
 ·have := idx_i (q := q) hi hj; rw [h, idx_i hi' hj'] at this; exact this.symm
 ·have := idx_j (X := X) (q := q) (i := i) hj; rw [h, idx_j hj'] at this; exact this.symm
theorem idx_lt {X Y q i j n : Nat} (hq : q < n) (hi : i ≤ X) (hj : j ≤ Y) : idx X Y q i j < n * (X + 1) * (Y + 1) := by
 unfold idx
 have h1 : q * (X + 1) + i + 1 ≤ n * (X + 1) := by
  have : (q + 1) * (X + 1) ≤ n * (X + 1) := Nat.mul_le_mul_right _ (by omega)
  rw [Nat.add_mul] at this
  omega
 have h2 : (q * (X + 1) + i + 1) * (Y + 1) ≤ n * (X + 1) * (Y + 1) := Nat.mul_le_mul_right _ h1
 rw [Nat.add_mul] at h2
 omega
def fitF (free : Bool) (y : List Int) (j : Nat) (b : Int) : Option Nat := if free = true then some j else fitN y j b
theorem fitF_le {free : Bool} {l : List Int} {i j : Nat} {b : Int} (h : fitF free l i b = some j) (hi : i ≤ l.length) : j ≤ l.length := by
 unfold fitF at h
 split at h
 ·simp at h; omega
 ·exact fitN_le h hi
def Edge (l : List St) (x y : List Int) (free : Bool) (k w k' : Nat) : Prop :=
 ∃ q i j a t i' j', q < l.length ∧ i ≤ x.length ∧ j ≤ y.length ∧ a ∈ (el l q).2 ∧ a.2.2.2 = ((t : Nat) : Int) ∧ fitN x i a.1 = some i' ∧ fitF free y j a.2.1 = some j' ∧ k = idx x.length y.length q i j ∧ w = a.2.2.1.toNat ∧ k' = idx x.length y.length t i' j'
theorem run_way {l : List St} {x y : List Int} {z n k c : Nat} (hz : z < l.length) (hto : ∀ q, q < l.length → ∀ a ∈ (el l q).2, ∃ t : Nat, a.2.2.2 = (t : Int) ∧ t < l.length) (h : Run (Edge l x y false) (idx x.length y.length z 0 0) n k c) :
    ∃ q i j, q < l.length ∧ i ≤ x.length ∧ j ≤ y.length ∧ k = idx x.length y.length q i j ∧ Way l z (x.take i) (y.take j) q c := by
  induction h with
  | nil => exact ⟨z, 0, 0, hz, by omega, by omega, rfl, by simpa using Way.nil⟩
  | step h e ih =>
    obtain ⟨q, i, j, hq, hi, hj, rfl, hw⟩ := ih
    obtain ⟨q', i', j', a, t, i2, j2, hq', hi', hj', ha, ht, f1, f2, ek, rfl, rfl⟩ := e
    obtain ⟨rfl, rfl, rfl⟩ := idx_one hi hj hi' hj' ek
    obtain ⟨t', e1, e2⟩ := hto _ hq a ha
    have : t = t' := by omega
    subst this
    have f2' : fitN y j a.2.1 = some j2 := by simpa [fitF] using f2
    refine ⟨t, i2, j2, e2, fitN_le f1 hi, fitN_le f2' hj, rfl, ?_⟩
    rw [fitN_take f1, fitN_take f2']
    exact hw.snoc ha ht
theorem way_run {l : List St} {x y : List Int} {z q c : Nat} {u v : List Int} (hz : z < l.length) (hto : ∀ q, q < l.length → ∀ a ∈ (el l q).2, ∃ t : Nat, a.2.2.2 = (t : Int) ∧ t < l.length) (h : Way l z u v q c) :
    ∀ i j, i ≤ x.length → j ≤ y.length → u = x.take i → v = y.take j → ∃ n, Run (Edge l x y false) (idx x.length y.length z 0 0) n (idx x.length y.length q i j) c := by
  induction h with
  | nil =>
    intro i j hi hj hu hv
    have h1 : i = 0 := by
      have := congrArg List.length hu
      simp at this; omega
    have h2 : j = 0 := by
      have := congrArg List.length hv
      simp at this; omega
    subst h1; subst h2
    exact ⟨0, .nil⟩
  | snoc h ha ht ih =>
    intro i j hi hj hu hv
    obtain ⟨i0, hi0, hu0, f1⟩ := take_fitN hi hu
    obtain ⟨j0, hj0, hv0, f2⟩ := take_fitN hj hv
    obtain ⟨n, hn⟩ := ih i0 j0 hi0 hj0 hu0 hv0
    exact ⟨n + 1, hn.step ⟨_, i0, j0, _, _, i, j, h.inside hz hto, hi0, hj0, ha, ht, f1, by simpa [fitF] using f2, rfl, rfl, rfl⟩⟩
theorem ends_way {l : List St} {x y : List Int} {z q c : Nat} (hz : z < l.length) (hto : ∀ q, q < l.length → ∀ a ∈ (el l q).2, ∃ t : Nat, a.2.2.2 = (t : Int) ∧ t < l.length) :
  (∃ n, Run (Edge l x y false) (idx x.length y.length z 0 0) n (idx x.length y.length q x.length y.length) c) ↔ Way l z x y q c := by
 constructor
 ·rintro ⟨n, h⟩
  obtain ⟨q', i, j, hq, hi, hj, e, hw⟩ := run_way hz hto h
  obtain ⟨rfl, rfl, rfl⟩ := idx_one (Nat.le_refl _) (Nat.le_refl _) hi hj e
  simpa using hw
 ·intro h
  exact way_run hz hto h x.length y.length (Nat.le_refl _) (Nat.le_refl _) (by simp) (by simp)
def noneI : Int := 1152921504606846976
def sumT : List Int → Nat
 | [] => 0
 | c :: l => c.toNat + sumT l
theorem el_setT {l : List Int} {q j : Nat} (hq : q < l.length) (x : Int) : el (l.set q x) j = if j = q then x else el l j := by
 by_cases h : j = q
 ·subst h; rw [if_pos rfl]; simp [el, hq]
 ·rw [if_neg h]; simp [el, List.getElem?_set, Ne.symm h]
structure CostT (l : List St) (x y : List Int) (free : Bool) (z : Int) (cs : List Int) : Prop where
 len : cs.length = l.length * (x.length + 1) * (y.length + 1)
 rng : ∀ k, k < cs.length → 0 ≤ el cs k ∧ el cs k ≤ noneI
 beg : 0 ≤ z → el cs (idx x.length y.length z.toNat 0 0) = 0
 run : ∀ k, k < cs.length → el cs k < noneI → 0 ≤ z ∧ ∃ n, Run (Edge l x y free) (idx x.length y.length z.toNat 0 0) n k (el cs k).toNat
theorem el_in {l : List St} {p : Nat} {a : Ar} (h : a ∈ (el l p).2) : p < l.length := by
 rcases Nat.lt_or_ge p l.length with g | g
 ·exact g
 ·have : el l p = default := by simp [el, g]
  rw [this] at h
  exact absurd h (by simp [default])
def ToIn (l : List St) : Prop := ∀ q, q < l.length → ∀ a ∈ (el l q).2, ∃ t : Nat, a.2.2.2 = (t : Int) ∧ t < l.length
section
variable {E : Nat → Nat → Nat → Prop} {s : Nat}
theorem Run.parts {n k c : Nat} (h : Run E s n k c) : ∃ f g : Nat → Nat, f 0 = s ∧ f n = k ∧ g n = c ∧ (∀ i, i ≤ n → Run E s i (f i) (g i) ∧ ∃ d, Run E (f i) (n - i) k d ∧ g i + d = c) ∧ ∀ i j, i ≤ j → j ≤ n → g i ≤ g j := by
  induction h with
  | nil => exact ⟨fun _ => s, fun _ => 0, rfl, rfl, rfl, fun i hi => ⟨by rw [show i = 0 by omega]; exact .nil, 0, by rw [show i = 0 by omega]; exact .nil, rfl⟩, fun _ _ _ _ => Nat.le_refl _⟩
  | step h e ih =>
    rename_i n k c w j
    obtain ⟨f, g, f0, fn, gn, hf, hg⟩ := ih
    refine ⟨fun i => if i ≤ n then f i else j, fun i => if i ≤ n then g i else c + w, by simp [f0], if_neg (by omega), if_neg (by omega), fun i hi => ?_, fun a b hab hb => ?_⟩
    · by_cases q : i ≤ n
      · simp only [q, if_true]
        obtain ⟨h1, d, h2, h3⟩ := hf i q
        refine ⟨h1, d + w, ?_, by omega⟩
        have := h2.step e
        rwa [show n - i + 1 = n + 1 - i by omega] at this
      · obtain rfl : i = n + 1 := by omega
        simp only [q, if_false]
        exact ⟨h.step e, 0, by rw [Nat.sub_self]; exact .nil, by omega⟩
    · simp only
      by_cases qb : b ≤ n
      · rw [if_pos qb, if_pos (by omega)]; exact hg a b hab qb
      · rw [if_neg qb]
        by_cases qa : a ≤ n
        · rw [if_pos qa]
          have := hg a n qa (Nat.le_refl _)
          omega
        · rw [if_neg qa]; omega
theorem Run.cheap {N : Nat} (hs : s < N) (hE : ∀ k w j, E k w j → j < N) : ∀ {n k c : Nat}, Run E s n k c → ∃ m d, m < N ∧ d ≤ c ∧ Run E s m k d := by
  have key : ∀ b n k c, n < b → Run E s n k c → ∃ m d, m < N ∧ d ≤ c ∧ Run E s m k d := by
    intro b
    induction b with
    | zero => intro n k c hn; omega
    | succ b ih =>
      intro n k c hn h
      by_cases g : n < N
      · exact ⟨n, c, g, Nat.le_refl _, h⟩
      · obtain ⟨f, gg, f0, fn, gn, hf, hg⟩ := h.parts
        have hin : ∀ i, i ≤ n → f i < N := fun i hi => by
          have h1 := (hf i hi).1
          generalize gg i = y2 at h1
          generalize f i = y at h1
          cases h1 with
          | nil => exact hs
          | step _ e => exact hE _ _ _ e
        obtain ⟨i, j, hij, hj, e⟩ := twice hin (by omega)
        have h1 := (hf i (by omega)).1
        obtain ⟨_, d', h2, h3⟩ := hf j hj
        rw [← e] at h2
        have h4 := hg i j (by omega) hj
        obtain ⟨m, d, hm, hd, hr⟩ := ih _ _ _ (by omega) (h1.trans h2)
        exact ⟨m, d, hm, by omega, hr⟩
  exact fun {n k c} h => key (n + 1) n k c (by omega) h
theorem Run.head {n k c : Nat} (h : Run E s (n + 1) k c) : ∃ j w c', E s w j ∧ Run E j n k c' ∧ c = w + c' := by
  have key : ∀ {m k c}, Run E s m k c → ∀ n, m = n + 1 → ∃ j w c', E s w j ∧ Run E j n k c' ∧ c = w + c' := by
    intro m k c h
    induction h with
    | nil => intro n hn; omega
    | step h e ih =>
      rename_i m k c w j
      intro n hn
      obtain rfl : m = n := by omega
      cases m with
      | zero =>
        cases h with
        | nil => exact ⟨j, w, 0, e, .nil, by omega⟩
      | succ m =>
        obtain ⟨j', w', c', e', h', rfl⟩ := ih m rfl
        exact ⟨j', w', c' + w, e', h'.step e, by omega⟩
  exact key h n rfl
theorem Run.first {j w n k c : Nat} (e : E s w j) (h : Run E j n k c) : Run E s (n + 1) k (w + c) := by
 have h1 : Run E s 1 j (0 + w) := Run.nil.step e
 have := h1.trans h
 rwa [show 1 + n = n + 1 by omega, Nat.zero_add] at this
end
def ArcE (l : List St) (k w j : Nat) : Prop := ∃ a ∈ (el l k).2, a.2.2.2 = (j : Int) ∧ w = a.2.2.1.toNat
def FarC (z : Int) (l : List St) (q c : Nat) : Prop := 0 ≤ z ∧ ∃ n, Run (ArcE l) z.toNat n q c
def EndC (l : List St) (q c : Nat) : Prop := ∃ n p d, Run (ArcE l) q n p d ∧ p < l.length ∧ (el l p).1 ≠ 1000000001 ∧ c = d + (el l p).1.toNat
structure FarT (z : Int) (l : List St) (cs : List Int) : Prop where
 len : cs.length = l.length
 rng : ∀ q, q < l.length → 0 ≤ el cs q ∧ el cs q ≤ noneI
 run : ∀ q, q < l.length → el cs q < noneI → FarC z l q (el cs q).toNat
structure EndT (l : List St) (cs : List Int) : Prop where
 len : cs.length = l.length
 rng : ∀ q, q < l.length → 0 ≤ el cs q ∧ el cs q ≤ noneI
 run : ∀ q, q < l.length → el cs q < noneI → EndC l q (el cs q).toNat
theorem arcE_in {l : List St} {k w j : Nat} (h : ArcE l k w j) : k < l.length := by
 obtain ⟨a, ha, _⟩ := h
 exact el_in ha
def fE (l : List St) (q c : Nat) : Nat := if (el l q).1 ≠ 1000000001 ∧ (el l q).1.toNat ≤ c then 1 else 0
def eN (l : List St) : Nat → Nat → Nat → Nat
 | 0 => fE l
 | k + 1 => fun q c => ((el l q).2.map fun a => if a.2.2.1.toNat ≤ c then eN l k a.2.2.2.toNat (c - a.2.2.1.toNat) else 0).sum
def sN (l : List St) (k q c : Nat) : Nat := ((List.range k).map fun j => eN l j q c).sum
theorem sum_add {α : Type} (L : List α) (f g : α → Nat) : (L.map fun a => f a + g a).sum = (L.map f).sum + (L.map g).sum := by
 induction L with
 | nil => rfl
 | cons a L ih => simp only [List.map_cons, List.sum_cons, ih]; omega
theorem sum_none {α : Type} {L : List α} {f : α → Nat} (h : ∀ a ∈ L, f a = 0) : (L.map f).sum = 0 := by
 induction L with
 | nil => rfl
 | cons a L ih => rw [List.map_cons, List.sum_cons, h a (List.mem_cons_self ..), ih fun b hb => h b (List.mem_cons_of_mem _ hb)]
theorem sum_pos {L : List Nat} (h : 0 < L.sum) : ∃ x ∈ L, 0 < x := by
  induction L with
  | nil => cases h
  | cons a L ih =>
    rw [List.sum_cons] at h
    by_cases ha : 0 < a
    · exact ⟨a, List.mem_cons_self .., ha⟩
    · obtain ⟨x, hx, h0⟩ := ih (by omega)
      exact ⟨x, List.mem_cons_of_mem _ hx, h0⟩
theorem sum_ge {L : List Nat} {x : Nat} (h : x ∈ L) : x ≤ L.sum := by
  induction L with
  | nil => cases h
  | cons a L ih =>
    rw [List.sum_cons]
    rcases List.mem_cons.1 h with rfl | h
    · omega
    · have := ih h; omega
def cLe (l : List Int) (c : Int) : Nat := l.countP fun x => decide (x ≤ c)
def RisL (l : List Int) : Prop := l.Pairwise (· ≤ ·)
theorem cLe_len (l : List Int) (c : Int) : cLe l c ≤ l.length := List.countP_le_length
structure CheapN (l : List St) (q n : Nat) (L : List Int) : Prop where
 ris : RisL L
 pos : ∀ x ∈ L, 0 ≤ x
 cnt : ∀ c : Nat, cLe L c = min n (sN l (l.length * (n + 1) + 1) q c)
structure RndN (l : List St) (k q n : Nat) (L : List Int) : Prop where
 ris : RisL L
 pos : ∀ x ∈ L, 0 ≤ x
 cnt : ∀ c : Nat, cLe L c = min n (sN l k q c)
structure InsN (n : Nat) (P : Nat → Nat) (L : List Int) : Prop where
 ris : RisL L
 pos : ∀ x ∈ L, 0 ≤ x
 cnt : ∀ c : Nat, cLe L c = min n (P c)
def sA (l : List St) (k : Nat) (ar : List Ar) (c : Nat) : Nat := (ar.map fun a => if a.2.2.1.toNat ≤ c then sN l k a.2.2.2.toNat (c - a.2.2.1.toNat) else 0).sum
end Go.Proofs.Ytfpibdaedfilaaa.Pl
namespace Go.Proofs.Ytfpibdaedfilaaa.Wt
open Go.ChangeShapes Go.WideShapes Go.ChangeAt Go.RowKit
open Go.Proofs.Ytfpibdaedfilaaa.Pl
set_option linter.unusedVariables false
set_option linter.unusedSimpArgs false
theorem infoIntX : (Try.prog.info? 3).map (fun i => (i.zero, i.size, i.bytes)) = some (some (.int .i64 0), 1, 8) := by kernel_rfl
def OwnI (w : World) (base : Nat) (v : Value) (l : List Int) : Prop := w.ownsRow base 3 1 v l.length (l.flatMap encI1)
theorem OwnI.nil (w : World) (base : Nat) : OwnI w base (.slice none 0 0) [] := World.ownsRow_nil _ _ _ _
theorem OwnI.nums {w : World} {base : Nat} {v : Value} {l : List Int} (h : OwnI w base v l) : Nums w v l := Row.ofOwn encI1_len h rfl
theorem OwnI.later {w w' : World} {base : Nat} {v : Value} {l : List Int} (h : OwnI w base v l) (hb : Below w.heap.size w w') : OwnI w' base v l := ownBelow h hb
theorem OwnI.push {W : World} {base : Nat} {v : Value} {l : List Int} (h : OwnI W base v l) (x : Int) (hl : l.length ≤ 100000) (hbase : base ≤ W.heap.size) :
  ∃ a k w', (Builtin.append_ #[34, 34] 34 #[v, .slice (some ⟨W.heap.size, 0, none⟩) 1 1]).run Try.prog (W.alloc (.cells #[.int .i64 x] 3)) = .ok (.slice a (l.length + 1) k) w' ∧ OwnI w' base (.slice a (l.length + 1) k) (l ++ [x]) ∧ Below base W w' := by
 obtain ⟨i1, hi1, hy0, hy1, hy2⟩ := info_parts infoIntX
 have hB : Below W.heap.size W (W.alloc (.cells #[.int .i64 x] 3)) := (Below.refl _ _).alloc (Nat.le_refl _) _
 have hrow : Row 1 encI1 (W.alloc (.cells #[.int .i64 x] 3)) (.slice (some ⟨W.heap.size, 0, none⟩) 1 1) [x] := oneRow (enc := encI1) W x rfl 3
 obtain ⟨v4, w4, r4, h4, g4, _⟩ := run_append_spot (P := Try.prog) encI1_len (by decide) encI1_one 34 34 base 3 i1 _ 8 Try.underlying34 hi1 hy0 hy1 hy2 rfl _ l.length (l.flatMap encI1) (ownBelow h hB) _ [x] hrow (by simp; unfold maxLen; omega) (by simp; omega) (by simp; omega)
 obtain ⟨a, k, hv⟩ := own_sl h4
 subst hv
 refine ⟨a, k, w4, r4, by unfold OwnI; rw [List.length_append, List.flatMap_append]; exact h4, (hB.mono hbase).trans ((Below.refl _ _).grown g4 (by simp; omega) (fun k hk => (h.lt k hk).1))⟩
end Go.Proofs.Ytfpibdaedfilaaa.Wt
namespace Go.Proofs.Ytfpibdaedfilaaa.Pl
set_option linter.unusedVariables false
set_option linter.unusedSimpArgs false
theorem arcE_small {m : Mc} (h : faultM m = 0) {k w j : Nat} (e : ArcE m.2 k w j) : j < m.2.length ∧ w ≤ 1000000000 := by
 obtain ⟨a, ha, e1, rfl⟩ := e
 have h1 := (right_parts h).2 _ (el_mem (el_in ha))
 simp only [stB, Bool.and_eq_true, List.all_eq_true] at h1
 have h2 := h1.2 _ ha
 simp only [arcB, inB, Bool.and_eq_true, decide_eq_true_eq] at h2
 omega
def LstAns (P : Nat → Nat → Prop) (N : Nat) (vs : List Int) (e : Int) : Prop := (e = 0 ∧ vs.length = N ∧ ∀ q, q < N → WghAns (P q) (el vs q) 0) ∨ (e = 4 ∧ vs = [] ∧ ∃ q, q < N ∧ WghAns (P q) 0 4)
theorem fin_small {m : Mc} (hf : faultM m = 0) {p : Nat} (hp : p < m.2.length) (hn : (el m.2 p).1 ≠ 1000000001) : 0 ≤ (el m.2 p).1 ∧ (el m.2 p).1 ≤ 1000000000 := by
 have h1 := stB_fin ((right_parts hf).2 _ (el_mem hp))
 simp [finB, inB] at h1
 omega
def DstAns (m : Mc) (P : Nat → Nat → Prop) (vs : List Int) (ec : Int) : Prop := (faultM m ≠ 0 ∧ vs = [] ∧ ec = faultM m) ∨ (faultM m = 0 ∧ LstAns P m.2.length vs ec)
def LpaAns (m : Mc) (x e : Int) : Prop := ∃ vs f, DstAns m (EndC m.2) vs f ∧ ((f ≠ 0 ∧ x = 0 ∧ e = f) ∨ (f = 0 ∧ e = 0 ∧ x = if m.1 < 0 then 1000000001 else el vs m.1.toNat))
theorem DstAns.len {m : Mc} {P : Nat → Nat → Prop} {vs : List Int} (h : DstAns m P vs 0) : vs.length = m.2.length ∧ -1 ≤ m.1 ∧ m.1 ≤ (m.2.length : Int) - 1 := by
 rcases h with ⟨h0, h1, h2⟩ | ⟨h0, h1⟩
 ·exact absurd h2.symm h0
 ·rcases h1 with ⟨_, h2, _⟩ | ⟨h2, _⟩
  ·exact ⟨h2, (right_parts h0).1⟩
  ·exact absurd h2 (by decide)
structure FrT (l : List St) (fr : List Int) : Prop where
 len : fr.length = l.length
 val : ∀ q, q < l.length → (el fr q = 1000000001 ∧ ∀ c, ¬ EndC l q c) ∨ ∃ c : Nat, LeastP (EndC l q) c ∧ c ≤ 1000000000 ∧ el fr q = (c : Int)
def TgA (fr : List Int) (q : Nat) (a : Ar) : Prop := el fr a.2.2.2.toNat ≠ 1000000001 ∧ a.2.2.1 + el fr a.2.2.2.toNat = el fr q
def TgN (l : List St) (fr : List Int) : Nat → Nat → Prop
 | 0 => fun q => el fr q ≠ 1000000001 ∧ (el l q).1 = el fr q
 | k + 1 => fun q => ∃ a ∈ (el l q).2, TgA fr q a ∧ TgN l fr k a.2.2.2.toNat
section
variable {l : List St} {fr : List Int}
theorem FrT.some (h : FrT l fr) {q : Nat} (hq : q < l.length) (h0 : el fr q ≠ 1000000001) : ∃ c : Nat, LeastP (EndC l q) c ∧ c ≤ 1000000000 ∧ el fr q = (c : Int) := by
 rcases h.val q hq with ⟨g, _⟩ | g
 ·exact absurd g h0
 ·exact g
theorem FrT.le (h : FrT l fr) {q c : Nat} (hq : q < l.length) (hc : EndC l q c) : el fr q ≠ 1000000001 ∧ el fr q ≤ (c : Int) := by
 rcases h.val q hq with ⟨_, g⟩ | ⟨d, g1, g2, g3⟩
 ·exact absurd hc (g c)
 ·have := g1.2 c hc
  exact ⟨by omega, by omega⟩
theorem end_arc {q t c : Nat} {a : Ar} (ha : a ∈ (el l q).2) (ht : a.2.2.2 = (t : Int)) (hc : EndC l t c) : EndC l q (a.2.2.1.toNat + c) := by
 obtain ⟨n, p, d, h1, h2, h3, rfl⟩ := hc
 exact ⟨n + 1, p, a.2.2.1.toNat + d, Run.first ⟨a, ha, ht, rfl⟩ h1, h2, h3, by omega⟩
theorem TgN.path (h : FrT l fr) (hto : ∀ q, q < l.length → ∀ a ∈ (el l q).2, ∃ t : Nat, a.2.2.2 = (t : Int) ∧ t < l.length) (hw : ∀ q, q < l.length → ∀ a ∈ (el l q).2, 0 ≤ a.2.2.1) : ∀ {k q : Nat}, q < l.length → TgN l fr k q → ∃ p d, Run (ArcE l) q k p d ∧ p < l.length ∧ (el l p).1 ≠ 1000000001 ∧ (d : Int) + (el l p).1 = el fr q
  | 0, q, hq, hk => ⟨q, 0, .nil, hq, by rw [hk.2]; exact hk.1, by rw [hk.2]; omega⟩
  | k + 1, q, hq, ⟨a, ha, hg, hk⟩ => by
    obtain ⟨t, e1, e2⟩ := hto q hq a ha
    have h0 := hw q hq a ha
    unfold TgA at hg
    rw [e1, Int.toNat_natCast] at hg hk
    obtain ⟨p, d, h1, h2, h3, h4⟩ := TgN.path h hto hw e2 hk
    exact ⟨p, a.2.2.1.toNat + d, Run.first ⟨a, ha, e1, rfl⟩ h1, h2, h3, by omega⟩
theorem path_tg (h : FrT l fr) (hto : ∀ q, q < l.length → ∀ a ∈ (el l q).2, ∃ t : Nat, a.2.2.2 = (t : Int) ∧ t < l.length) (hw : ∀ q, q < l.length → ∀ a ∈ (el l q).2, 0 ≤ a.2.2.1) (hfin : ∀ q, q < l.length → 0 ≤ (el l q).1) : ∀ {k q p d : Nat}, q < l.length → Run (ArcE l) q k p d → p < l.length → (el l p).1 ≠ 1000000001 → (d : Int) + (el l p).1 = el fr q → TgN l fr k q
  | 0, q, p, d, hq, hr, hp, hf, he => by
    cases hr
    have h1 : EndC l q (el l q).1.toNat := ⟨0, q, 0, .nil, hp, hf, by omega⟩
    exact ⟨(h.le hq h1).1, by omega⟩
  | k + 1, q, p, d, hq, hr, hp, hf, he => by
    obtain ⟨t, w, c', ⟨a, ha, e1, rfl⟩, h4, rfl⟩ := hr.head
    obtain ⟨t', e2, e3⟩ := hto q hq a ha
    have et : t = t' := by omega
    subst et
    have h0 := hw q hq a ha
    have h5 := hfin p hp
    have h1 : EndC l t (c' + (el l p).1.toNat) := ⟨k, p, c', h4, hp, hf, rfl⟩
    obtain ⟨g1, g2⟩ := h.le e3 h1
    obtain ⟨c, k1, k2, k3⟩ := h.some e3 g1
    have h2 := (h.le hq (end_arc ha e1 k1.1)).2
    refine ⟨a, ha, ?_, ?_⟩
    · unfold TgA
      rw [e1, Int.toNat_natCast]
      exact ⟨g1, by omega⟩
    · rw [e1, Int.toNat_natCast]
      exact path_tg h hto hw hfin e3 h4 hp hf (by omega)
theorem tg_exists (h : FrT l fr) (hto : ∀ q, q < l.length → ∀ a ∈ (el l q).2, ∃ t : Nat, a.2.2.2 = (t : Int) ∧ t < l.length) (hw : ∀ q, q < l.length → ∀ a ∈ (el l q).2, 0 ≤ a.2.2.1) (hfin : ∀ q, q < l.length → 0 ≤ (el l q).1) {q : Nat} (hq : q < l.length) (h0 : el fr q ≠ 1000000001) : ∃ k, k < l.length ∧ TgN l fr k q := by
 obtain ⟨c, ⟨⟨n, p, d, h1, h2, h3, rfl⟩, hl⟩, _, e⟩ := h.some hq h0
 have hE : ∀ k w j, ArcE l k w j → j < l.length := fun k w j ⟨a, ha, e1, _⟩ => by
  by_cases hk : k < l.length
  ·obtain ⟨t, e2, e3⟩ := hto k hk a ha
   omega
  ·rw [show el l k = default by simp [el, List.getElem?_eq_none (Nat.le_of_not_lt hk)]] at ha
   cases ha
 obtain ⟨m, d', g1, g2, g3⟩ := Run.cheap hq hE h1
 have h5 := hfin p h2
 have h6 := hl (d' + (el l p).1.toNat) ⟨m, p, d', g3, h2, h3, rfl⟩
 exact ⟨m, g1, path_tg h hto hw hfin hq g3 h2 h3 (by omega)⟩
def LenA (l : List St) (fr : List Int) (q k : Nat) : Prop := LeastP (fun k => TgN l fr k q) k
theorem len_exists (h : FrT l fr) (hto : ∀ q, q < l.length → ∀ a ∈ (el l q).2, ∃ t : Nat, a.2.2.2 = (t : Int) ∧ t < l.length) (hw : ∀ q, q < l.length → ∀ a ∈ (el l q).2, 0 ≤ a.2.2.1) (hfin : ∀ q, q < l.length → 0 ≤ (el l q).1) {q : Nat} (hq : q < l.length) (h0 : el fr q ≠ 1000000001) : ∃ k, k < l.length ∧ LenA l fr q k := by
  obtain ⟨k, hk, hg⟩ := tg_exists h hto hw hfin hq h0
  have key : ∀ n, ∀ k, k ≤ n → TgN l fr k q → ∃ j, j ≤ k ∧ LenA l fr q j := by
    intro n
    induction n with
    | zero => intro k hk hg; exact ⟨k, Nat.le_refl _, hg, fun d hd => by omega⟩
    | succ n ih =>
      intro k hk hg
      by_cases hs : ∃ j, j < k ∧ TgN l fr j q
      · obtain ⟨j, hj, hj2⟩ := hs
        obtain ⟨i, hi, hi2⟩ := ih j (by omega) hj2
        exact ⟨i, by omega, hi2⟩
      · exact ⟨k, Nat.le_refl _, hg, fun d hd => by
          rcases Nat.lt_or_ge d k with x | x
          · exact absurd ⟨d, x, hd⟩ hs
          · exact x⟩
  obtain ⟨j, hj, hj2⟩ := key k k (Nat.le_refl _) hg
  exact ⟨j, by omega, hj2⟩
inductive BstW (l : List St) (fr : List Int) : Nat → Nat → List Nat → Prop
 | nil {q : Nat} : BstW l fr 0 q []
 | cons {k q i : Nat} {L : List Nat} (hi : i < (el l q).2.length) (ha : TgA fr q (el (el l q).2 i)) (hk : LenA l fr (el (el l q).2 i).2.2.2.toNat k) (hf : ∀ j, j < i → ¬ (TgA fr q (el (el l q).2 j) ∧ LenA l fr (el (el l q).2 j).2.2.2.toNat k)) (h : BstW l fr k (el (el l q).2 i).2.2.2.toNat L) : BstW l fr (k + 1) q (i :: L)
theorem BstW.len {k q : Nat} {L : List Nat} (h : BstW l fr k q L) : L.length = k := by
 induction h with
 | nil => rfl
 | cons _ _ _ _ _ ih => rw [List.length_cons, ih]
theorem LenA.arc {q k : Nat} (h : LenA l fr q (k + 1)) : ∃ i, i < (el l q).2.length ∧ TgA fr q (el (el l q).2 i) ∧ LenA l fr (el (el l q).2 i).2.2.2.toNat k := by
 obtain ⟨⟨a, ha, hg, hk⟩, hl⟩ := h
 obtain ⟨i, hi, rfl⟩ := mem_el ha
 exact ⟨i, hi, hg, hk, fun d hd => by have := hl (d + 1) ⟨_, ha, hg, hd⟩; omega⟩
end
structure LnT (l : List St) (fr : List Int) (N : Int) (ls : List Int) : Prop where
 len : ls.length = l.length
 rng : ∀ q, q < l.length → 0 ≤ el ls q ∧ el ls q ≤ N
 had : ∀ q, q < l.length → el ls q < N → TgN l fr (el ls q).toNat q
section
variable {l : List St} {fr : List Int} {N : Int} {ls : List Int}
end
def BestAns (m : Mc) (wt : Int) (L : List Nat) (e : Int) : Prop := ∃ vs ec, DstAns m (EndC m.2) vs ec ∧
 ((ec ≠ 0 ∧ wt = 0 ∧ L = [] ∧ e = ec) ∨ (ec = 0 ∧ (m.1 < 0 ∨ el vs m.1.toNat = 1000000001) ∧ wt = 0 ∧ L = [] ∧ e = 12) ∨
  (ec = 0 ∧ 0 ≤ m.1 ∧ el vs m.1.toNat ≠ 1000000001 ∧ wt = el vs m.1.toNat ∧ e = 0 ∧ ∃ k, LenA m.2 vs m.1.toNat k ∧ BstW m.2 vs k m.1.toNat L))
end Go.Proofs.Ytfpibdaedfilaaa.Pl
namespace Go.Proofs.Ytfpibdaedfilaaa.Pl
set_option linter.unusedVariables false
theorem right_nums {m : Mc} (hr : faultM m = 0) {q : Nat} (hq : q < m.2.length) : 0 ≤ (el m.2 q).1 ∧ (el m.2 q).1 ≤ 1000000001 ∧ ∀ i, i < (el m.2 q).2.length → 0 ≤ (el (el m.2 q).2 i).2.2.1 ∧ (el (el m.2 q).2 i).2.2.1 ≤ 1000000000 ∧ ∃ t : Nat, (el (el m.2 q).2 i).2.2.2 = (t : Int) ∧ t < m.2.length := by
 have h1 := (right_parts hr).2 _ (el_mem hq)
 simp only [stB, Bool.and_eq_true, List.all_eq_true] at h1
 have h0 := h1.1
 simp only [finB, inB, Bool.and_eq_true, Bool.or_eq_true, decide_eq_true_eq] at h0
 refine ⟨by omega, by omega, fun i hi => ?_⟩
 have h2 := h1.2 _ (el_mem hi)
 simp only [arcB, inB, Bool.and_eq_true, decide_eq_true_eq] at h2
 exact ⟨by omega, by omega, (el (el m.2 q).2 i).2.2.2.toNat, by omega, by omega⟩
end Go.Proofs.Ytfpibdaedfilaaa.Pl
namespace Go.Proofs.Ytfpibdaedfilaaa.Pl
def putL (x : List Int) (b : Int) : List Int := if 0 < b then x ++ [b] else x
def flwL (l : List St) : List Int → Int → Option (List Int × List Int × Int)
  | [], q => if q < 0 ∨ (el l q.toNat).1 = 1000000001 then none else some ([], [], (el l q.toNat).1)
  | k :: ks, q => if q < 0 ∨ k < 0 ∨ ((el l q.toNat).2.length : Int) ≤ k then none else
      (flwL l ks (el (el l q.toNat).2 k.toNat).2.2.2).map fun r => (putL [] (el (el l q.toNat).2 k.toNat).1 ++ r.1, putL [] (el (el l q.toNat).2 k.toNat).2.1 ++ r.2.1, (el (el l q.toNat).2 k.toNat).2.2.1 + r.2.2)
theorem putL_app (x : List Int) (b : Int) (y : List Int) : putL x b ++ y = x ++ (putL [] b ++ y) := by
 unfold putL
 by_cases h : 0 < b <;> simp [h]
structure FlwI (l : List St) (ks : List Int) (z : Int) (i : Nat) (x y : List Int) (c q : Int) : Prop where
 eq : flwL l ks z = (flwL l (ks.drop i) q).map fun r => (x ++ r.1, y ++ r.2.1, c + r.2.2)
theorem FlwI.start (l : List St) (ks : List Int) (z : Int) : FlwI l ks z 0 [] [] 0 z := ⟨by simp⟩
theorem flw_drop {ks : List Int} {i : Nat} (hi : i < ks.length) : ks.drop i = el ks i :: ks.drop (i + 1) := by
 rw [List.drop_eq_getElem_cons hi]
 congr 1
 simp [el, hi]
theorem FlwI.stop {l : List St} {ks : List Int} {z : Int} {i : Nat} {x y : List Int} {c q : Int} (h : FlwI l ks z i x y c q) (hi : i < ks.length) (hs : q < 0 ∨ el ks i < 0 ∨ ((el l q.toNat).2.length : Int) ≤ el ks i) : flwL l ks z = none := by
 rw [h.eq, flw_drop hi]
 simp [flwL, hs]
theorem FlwI.step {l : List St} {ks : List Int} {z : Int} {i : Nat} {x y : List Int} {c q : Int} (h : FlwI l ks z i x y c q) (hi : i < ks.length) (hq : 0 ≤ q) (hk : 0 ≤ el ks i) (hl : el ks i < ((el l q.toNat).2.length : Int)) :
  FlwI l ks z (i + 1) (putL x (el (el l q.toNat).2 (el ks i).toNat).1) (putL y (el (el l q.toNat).2 (el ks i).toNat).2.1) (c + (el (el l q.toNat).2 (el ks i).toNat).2.2.1) (el (el l q.toNat).2 (el ks i).toNat).2.2.2 := by
 refine ⟨?_⟩
 rw [h.eq, flw_drop hi]
 have hn : ¬ (q < 0 ∨ el ks i < 0 ∨ ((el l q.toNat).2.length : Int) ≤ el ks i) := by omega
 simp only [flwL, if_neg hn, Option.map_map]
 congr 1
 funext r
 show (x ++ (putL [] _ ++ r.1), y ++ (putL [] _ ++ r.2.1), c + (_ + r.2.2)) = _
 rw [putL_app x, putL_app y, Int.add_assoc]
theorem FlwI.fin {l : List St} {ks : List Int} {z : Int} {x y : List Int} {c q : Int} (h : FlwI l ks z ks.length x y c q) : flwL l ks z = if q < 0 ∨ (el l q.toNat).1 = 1000000001 then none else some (x, y, c + (el l q.toNat).1) := by
 rw [h.eq, List.drop_length]
 unfold flwL
 by_cases hq : q < 0 ∨ (el l q.toNat).1 = 1000000001
 ·simp [hq]
 ·simp [hq]
def flwA (m : Mc) (ks : List Int) : (List Int × List Int × Int) × Int :=
 if faultM m ≠ 0 then (([], [], 0), faultM m) else if 400 < ks.length then (([], [], 0), 1) else
  match flwL m.2 ks m.1 with
  | none => (([], [], 0), 12)
  | some r => if 1000000000 < r.2.2 then (([], [], 0), 4) else (r, 0)
theorem flwA_bad {m : Mc} {ks : List Int} (h : faultM m ≠ 0) : flwA m ks = (([], [], 0), faultM m) := by unfold flwA; rw [if_pos h]
theorem flwA_long {m : Mc} {ks : List Int} (h : faultM m = 0) (hl : 400 < ks.length) : flwA m ks = (([], [], 0), 1) := by
 unfold flwA; rw [if_neg (by omega), if_pos hl]
theorem flwA_none {m : Mc} {ks : List Int} (h : faultM m = 0) (hl : ks.length ≤ 400) (hn : flwL m.2 ks m.1 = none) : flwA m ks = (([], [], 0), 12) := by
 unfold flwA; rw [if_neg (by omega), if_neg (by omega), hn]
theorem flwA_over {m : Mc} {ks : List Int} {r : List Int × List Int × Int} (h : faultM m = 0) (hl : ks.length ≤ 400) (hn : flwL m.2 ks m.1 = some r) (hr : 1000000000 < r.2.2) : flwA m ks = (([], [], 0), 4) := by
 unfold flwA; rw [if_neg (by omega), if_neg (by omega), hn]; simp only [if_pos hr]
theorem flwA_ok {m : Mc} {ks : List Int} {r : List Int × List Int × Int} (h : faultM m = 0) (hl : ks.length ≤ 400) (hn : flwL m.2 ks m.1 = some r) (hr : ¬ 1000000000 < r.2.2) : flwA m ks = (r, 0) := by
 unfold flwA; rw [if_neg (by omega), if_neg (by omega), hn]; simp only [if_neg hr]
theorem putL_len (x : List Int) (b : Int) : (putL x b).length ≤ x.length + 1 := by
 unfold putL
 by_cases h : 0 < b <;> simp [h]
end Go.Proofs.Ytfpibdaedfilaaa.Pl
