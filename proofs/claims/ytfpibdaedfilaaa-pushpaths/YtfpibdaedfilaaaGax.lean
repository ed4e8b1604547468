/- Paths counted from the start on, and the longest way to each state: the ends' sum is what is counted from behind (no program in sight). -/
import Derived.Test.YtfpibdaedfilaaaGae
import Derived.Test.YtfpibdaedfilaaaGaw
import Derived.Shelf.Abstract
namespace Go.Proofs.Ytfpibdaedfilaaa.Pl
def updN (x : Nat → Nat) (t k : Nat) : Nat → Nat := fun j => if j = t then k else x j
def addA (q : Nat) : List Ar → (Nat → Nat) → Nat → Nat
 | [], x => x
 | a :: l, x => addA q l (updN x a.2.2.2.toNat (x a.2.2.2.toNat + x q))
theorem addA_append (q : Nat) (a b : List Ar) (x : Nat → Nat) : addA q (a ++ b) x = addA q b (addA q a x) := by
 induction a generalizing x with
 | nil => rfl
 | cons c a ih => exact ih _
theorem addA_take (q : Nat) {ar : List Ar} {c t : Nat} (h : c < ar.length) (ht : (el ar c).2.2.2 = (t : Int)) (x : Nat → Nat) : addA q (ar.take (c + 1)) x = updN (addA q (ar.take c) x) t (addA q (ar.take c) x t + addA q (ar.take c) x q) := by
 rw [take_el h, addA_append]
 show updN _ (el ar c).2.2.2.toNat _ = _
 rw [ht, Int.toNat_natCast]
def addL (l : List St) : List Int → (Nat → Nat) → Nat → Nat
 | [], x => x
 | q :: out, x => addL l out (addA q.toNat (el l q.toNat).2 x)
theorem addL_append (l : List St) (a b : List Int) (x : Nat → Nat) : addL l (a ++ b) x = addL l b (addL l a x) := by
 induction a generalizing x with
 | nil => rfl
 | cons c a ih => exact ih _
theorem addL_take (l : List St) {out : List Int} {i q : Nat} (h : i < out.length) (hq : el out i = (q : Int)) (x : Nat → Nat) : addL l (out.take (i + 1)) x = addA q (el l q).2 (addL l (out.take i) x) := by
 rw [take_el h, addL_append, hq]
 show addA ((q : Int)).toNat _ _ = _
 rw [Int.toNat_natCast]
def dotN (f x : Nat → Nat) : Nat → Nat
 | 0 => 0
 | n + 1 => dotN f x n + f n * x n
theorem dotN_upd (f x : Nat → Nat) (t y : Nat) : ∀ n, dotN f (updN x t (x t + y)) n = dotN f x n + (if t < n then f t * y else 0) := by
  intro n
  induction n with
  | zero => simp [dotN]
  | succ n ih =>
    simp only [dotN, ih, updN]
    by_cases e : n = t
    · subst e
      rw [if_pos rfl, if_neg (by omega), if_pos (by omega), Nat.mul_add]
      omega
    · rw [if_neg e]
      by_cases c : t < n
      · rw [if_pos c, if_pos (by omega)]; omega
      · rw [if_neg c, if_neg (by omega)]; omega
theorem dotN_addA (f : Nat → Nat) {q n : Nat} {ar : List Ar} (h : ∀ a ∈ ar, a.2.2.2.toNat ≠ q ∧ a.2.2.2.toNat < n) (x : Nat → Nat) : dotN f (addA q ar x) n = dotN f x n + sumF f ar * x q := by
  induction ar generalizing x with
  | nil => simp [addA, sumF]
  | cons a l ih =>
    show dotN f (addA q l _) n = _
    rw [ih (fun b hb => h b (by simp [hb])), dotN_upd, if_pos (h a (by simp)).2]
    have h1 : updN x a.2.2.2.toNat (x a.2.2.2.toNat + x q) q = x q := by simp [updN, Ne.symm (h a (by simp)).1]
    rw [h1, sumF, Nat.add_mul]
    omega
theorem dotN_but {f g x : Nat → Nat} {q : Nat} (h : ∀ p, p ≠ q → g p = f p) : ∀ n, q < n → ∃ R, dotN f x n = R + f q * x q ∧ dotN g x n = R + g q * x q := by
  have hlow : ∀ n, n ≤ q → dotN g x n = dotN f x n := by
    intro n
    induction n with
    | zero => intro _; rfl
    | succ n ih => intro hn; simp only [dotN]; rw [ih (by omega), h n (by omega)]
  intro n
  induction n with
  | zero => intro hq; omega
  | succ n ih =>
    intro hq
    by_cases e : n = q
    · subst e
      exact ⟨dotN f x n, rfl, by simp only [dotN]; rw [hlow n (Nat.le_refl _)]⟩
    · obtain ⟨R, h1, h2⟩ := ih (by omega)
      refine ⟨R + f n * x n, ?_, ?_⟩
      · simp only [dotN]; omega
      · simp only [dotN]; rw [h n e]; omega
theorem dotN_congr {f g x : Nat → Nat} : ∀ n, (∀ p, p < n → f p = g p) → dotN f x n = dotN g x n := by
 intro n
 induction n with
 | zero => intro _; rfl
 | succ n ih => intro h; simp only [dotN]; rw [ih (fun p hp => h p (by omega)), h n (by omega)]
def leftN (l : List St) (N : Nat → Nat) (out : List Int) : Nat → Nat := fun p => if (p : Int) ∈ out then baseN (el l p).1 else N p
theorem OrderL.out_later {l : List St} {out : List Int} (h : OrderL l out) {i q : Nat} (hi : i < out.length) (hq : el out i = (q : Int)) {a : Ar} (ha : a ∈ (el l q).2) {t : Nat} (ht : a.2.2.2 = (t : Int)) (htn : t < l.length) : (t : Int) ∉ out.take (i + 1) := by
 have h1 := h.later hi hq ha ht htn
 have h2 := h.ahead h1
 intro hm
 have := h2 _ hm
 simp at this
theorem OrderL.at {l : List St} {out : List Int} (h : OrderL l out) {i : Nat} (hi : i < out.length) : ∃ q : Nat, el out i = (q : Int) ∧ q < l.length ∧ (q : Int) ∉ out.take i := by
 obtain ⟨q, e, hq, hf, _⟩ := h.1 i hi
 exact ⟨q, e, hq, hf.1⟩
theorem along_step {l : List St} {out : List Int} (h : OrderL l out) (hto : ∀ q, q < l.length → ∀ a ∈ (el l q).2, ∃ t : Nat, a.2.2.2 = (t : Int) ∧ t < l.length) {N : Nat → Nat} (hN : CntEq l N) {i q : Nat} (hi : i < out.length) (hq : el out i = (q : Int)) (x : Nat → Nat) :
  dotN (leftN l N (out.take (i + 1))) (addA q (el l q).2 x) l.length = dotN (leftN l N (out.take i)) x l.length := by
 obtain ⟨q', e, hql, hno⟩ := h.at hi
 obtain rfl : q = q' := by rw [hq] at e; omega
 have htk : out.take (i + 1) = out.take i ++ [(q : Int)] := by rw [take_el hi, hq]
 have harc : ∀ a ∈ (el l q).2, a.2.2.2.toNat ≠ q ∧ a.2.2.2.toNat < l.length := by
  intro a ha
  obtain ⟨t, ht, htn⟩ := hto q hql a ha
  have h1 := h.out_later hi hq ha ht htn
  rw [ht, Int.toNat_natCast]
  refine ⟨fun e2 => h1 ?_, htn⟩
  rw [htk, e2]; simp
 rw [dotN_addA _ harc]
 have hsum : sumF (leftN l N (out.take (i + 1))) (el l q).2 = sumF N (el l q).2 := by
  refine sumF_congr fun a ha => ?_
  obtain ⟨t, ht, htn⟩ := hto q hql a ha
  have h1 := h.out_later hi hq ha ht htn
  rw [ht, Int.toNat_natCast]
  simp [leftN, h1]
 rw [hsum]
 have hother : ∀ p, p ≠ q → leftN l N (out.take (i + 1)) p = leftN l N (out.take i) p := by
  intro p hp
  have : ((p : Int) ∈ out.take (i + 1)) ↔ (p : Int) ∈ out.take i := by
   rw [htk, List.mem_append, List.mem_singleton]
   constructor
   ·rintro (h9 | h9)
    ·exact h9
    ·exact absurd (by omega) hp
   ·exact .inl
  simp only [leftN, this]
 obtain ⟨R, h1, h2⟩ := dotN_but (x := x) hother l.length hql
 have e1 : leftN l N (out.take i) q = N q := by simp only [leftN]; rw [if_neg hno]
 have e2 : leftN l N (out.take (i + 1)) q = baseN (el l q).1 := by simp only [leftN]; rw [if_pos (by rw [htk]; simp)]
 rw [h1, h2, e1, e2, hN q hql, Nat.add_mul]
 omega
theorem along_all {l : List St} {out : List Int} (h : OrderL l out) (hto : ∀ q, q < l.length → ∀ a ∈ (el l q).2, ∃ t : Nat, a.2.2.2 = (t : Int) ∧ t < l.length) {N : Nat → Nat} (hN : CntEq l N) (x : Nat → Nat) :
    dotN (fun p => baseN (el l p).1) (addL l out x) l.length = dotN N x l.length := by
  have key : ∀ i, i ≤ out.length → dotN (leftN l N (out.take i)) (addL l (out.take i) x) l.length = dotN N x l.length := by
    intro i
    induction i with
    | zero => intro _; exact dotN_congr _ (fun p _ => by simp [leftN])
    | succ i ih =>
      intro hi
      obtain ⟨q, hq, _⟩ := h.at (i := i) (by omega)
      rw [addL_take l (by omega) hq, along_step h hto hN (by omega) hq]
      exact ih (by omega)
  have := key out.length (Nat.le_refl _)
  rw [List.take_length] at this
  rw [← this]
  exact dotN_congr _ (fun p hp => by simp [leftN, h.all hp])
def begN (z : Int) : Nat → Nat := fun j => if (j : Int) = z then 1 else 0
theorem dotN_beg (N : Nat → Nat) (z : Int) : ∀ n, dotN N (begN z) n = if 0 ≤ z ∧ z < (n : Int) then N z.toNat else 0 := by
  intro n
  induction n with
  | zero => simp [dotN]; omega
  | succ n ih =>
    simp only [dotN, ih, begN]
    by_cases e : (n : Int) = z
    · subst e
      rw [if_pos rfl, if_neg (by omega), if_pos (by omega)]
      simp
    · rw [if_neg e]
      by_cases c : 0 ≤ z ∧ z < (n : Int)
      · rw [if_pos c, if_pos (by omega)]; omega
      · rw [if_neg c, if_neg (by omega)]; omega
theorem along_count {l : List St} {out : List Int} {z : Int} (h : OrderL l out) (hto : ∀ q, q < l.length → ∀ a ∈ (el l q).2, ∃ t : Nat, a.2.2.2 = (t : Int) ∧ t < l.length) (hz : -1 ≤ z ∧ z < (l.length : Int)) :
  dotN (fun p => baseN (el l p).1) (addL l out (begN z)) l.length = if z < 0 then 0 else cntF l out z.toNat := by
 rw [along_all h hto (h.cnt hto), dotN_beg]
 by_cases c : z < 0
 ·rw [if_pos c, if_neg (by omega)]
 ·rw [if_neg c, if_pos (by omega)]
end Go.Proofs.Ytfpibdaedfilaaa.Pl
namespace Go.Proofs.Ytfpibdaedfilaaa.Wt
open Go.ChangeShapes Go.WideShapes Go.ChangeAt Go.RowKit
open Go.Proofs.Ytfpibdaedfilaaa.Pl
set_option linter.unusedVariables false
set_option linter.unusedSimpArgs false
set_option maxRecDepth 100000 in
theorem bothWays_any (x y : Int) (hx : 0 ≤ x ∧ x ≤ 1000000001) (hy : 0 ≤ y ∧ y ≤ 1000000001) (w : World) :
  Calls Try.prog 29 #[.int .i64 x, .int .i64 y] w fun e w' => e = .returned (.int .i64 (min (x + y) 1000000001)) ∧ w' = w := by
 obtain ⟨hx0, hx1⟩ := hx
 obtain ⟨hy0, hy1⟩ := hy
 go_enter Try.func29, Try.ntmps29
 go_wp2
 all_goals go_ret
 all_goals exact ⟨congrArg (fun t => Ending.returned (Value.int .i64 t)) (by omega), rfl⟩
def AskJ (g : Nat) (J : Int → Int → Int) (lo : Int) : Prop :=
 (∀ ar W, (callFunc g ar).run Try.prog W = .ok (.enter g ar) W) ∧
 ∀ x y : Int, lo ≤ x ∧ x ≤ 1000000001 → lo ≤ y ∧ y ≤ 1000000001 → (lo ≤ J x y ∧ J x y ≤ 1000000001) ∧ ∀ W : World, Calls Try.prog g #[.int .i64 x, .int .i64 y] W fun e w' => e = .returned (.int .i64 (J x y)) ∧ w' = W
def endsF (J : Int → Int → Int) (l : List St) (ns : List Int) (first : Int) : Nat → Int
 | 0 => first
 | k + 1 => if (el l k).1 = 1000000001 then endsF J l ns first k else J (endsF J l ns first k) (el ns k)
theorem endsF_in {g : Nat} {J : Int → Int → Int} {lo : Int} (h : AskJ g J lo) (l : List St) (ns : List Int) {first : Int} (hf : lo ≤ first ∧ first ≤ 1000000001) {n : Nat} (hns : ∀ j, j < n → lo ≤ el ns j ∧ el ns j ≤ 1000000001) : ∀ k, k ≤ n → lo ≤ endsF J l ns first k ∧ endsF J l ns first k ≤ 1000000001 := by
  intro k
  induction k with
  | zero => intro _; exact hf
  | succ k ih =>
    intro hk
    simp only [endsF]
    split
    · exact ih (by omega)
    · exact (h.2 _ _ (ih (by omega)) (hns k (by omega))).1
set_option maxRecDepth 100000 in
set_option maxHeartbeats 1600000 in
theorem atEnds_any (z : Int) (vs : Value) (l : List St) (vn : Value) (ns : List Int) (first : Int) (g : Nat) (J : Int → Int → Int) (lo : Int) (w : World) (h : Mach w (.agg #[.int .i64 z, vs]) (z, l)) (h60 : l.length ≤ 60) (hn : Nums w vn ns) (hnl : ns.length = l.length) (hf : lo ≤ first ∧ first ≤ 1000000001) (hns : ∀ j, j < l.length → lo ≤ el ns j ∧ el ns j ≤ 1000000001) (hg : AskJ g J lo) :
  Calls Try.prog 27 #[.agg #[.int .i64 z, vs], vn, .int .i64 first, .func (.func g) #[] #[]] w fun e w' => e = .returned (.int .i64 (endsF J l ns first l.length)) ∧ Below w.heap.size w w' := by
 have HIN : Hid (∀ k, k ≤ l.length → lo ≤ endsF J l ns first k ∧ endsF J l ns first k ≤ 1000000001) := endsF_in hg l ns hf hns
 obtain ⟨eg, hg⟩ := hg
 have HG : Hid (∀ x y : Int, lo ≤ x ∧ x ≤ 1000000001 → lo ≤ y ∧ y ≤ 1000000001 → (lo ≤ J x y ∧ J x y ≤ 1000000001) ∧ ∀ W : World, Calls Try.prog g #[.int .i64 x, .int .i64 y] W fun e w' => e = .returned (.int .i64 (J x y)) ∧ w' = W) := hg
 have HNS : Hid (∀ j, j < l.length → lo ≤ el ns j ∧ el ns j ≤ 1000000001) := hns
 obtain ⟨vs', hvs, hS⟩ := h
 simp only [Value.agg.injEq, Array.mk.injEq, List.cons.injEq, and_true, true_and] at hvs
 subst hvs
 obtain ⟨a, cap, rfl, hc⟩ := hS.get
 have HC : Hid (∀ j, j < l.length → ∃ b off va, a = some ⟨b, off, none⟩ ∧ b < w.heap.size ∧ w.cell? ⟨b, off + j * 2, none⟩ = some (.int .i64 (el l j).1) ∧ w.cell? ⟨b, off + j * 2 + 1, none⟩ = some va ∧ Arcs w va (el l j).2) := hc
 obtain ⟨xa, ca, hva, hca⟩ := hn.get
 rw [hnl] at hva hca
 subst hva
 have HCA : Hid (∀ j, j < l.length → ∃ b off, xa = some ⟨b, off, none⟩ ∧ b < w.heap.size ∧ w.cell? ⟨b, off + j, none⟩ = some (.int .i64 (el ns j))) := hca
 clear hS hc hn hnl hns hg hca hf
 generalize hnn : l.length = n at *
 have HN : Hid (l.length = n) := hnn
 clear hnn
 go_enter Try.func27, Try.ntmps27
 go_wp2
 go_loopw [9, 16] (fun s9 i wr => ∃ (q : Nat), q ≤ n ∧ s9 = .int .i64 (endsF J l ns first q) ∧ i = .int .i64 q ∧ Hid (Below w.heap.size w wr)) (fun _ i _ => n - (intOf i).toNat)
 case atStart => exact ⟨0, Nat.zero_le _, rfl, rfl, (Below.refl _ _).alloc (Nat.le_refl _) _⟩
 case round =>
  obtain ⟨q, hq, rfl, rfl, hb⟩ := hrel
  by_cases hqn : q < n
  ·obtain ⟨b, off, va, rfl, hbl, g0, g1, gA⟩ := HC.out q hqn
   obtain ⟨bn, on, rfl, hbnl, gn⟩ := HCA.out q hqn
   obtain ⟨a2, cap2, hva⟩ := Row.sl gA
   subst hva
   have g0 := (hb.out.cell (p := ⟨b, off + q * 2, none⟩) hbl).trans g0
   have g1 := (hb.out.cell (p := ⟨b, off + q * 2 + 1, none⟩) hbl).trans g1
   have gn := (hb.out.cell (p := ⟨bn, on + q, none⟩) hbnl).trans gn
   have hq0 : (0 : Int) ≤ (q : Int) := by omega
   have hq1 : (q : Int) < (n : Int) := by omega
   have hbw : bn < wr.heap.size := Nat.lt_of_lt_of_le hbnl hb.out.size
   clear gA
   by_cases he : (el l q).1 = 1000000001
   ·have HE : Hid (endsF J l ns first (q + 1) = endsF J l ns first q) := by show _ = _; simp only [endsF]; rw [if_pos he]
    rw [he] at g0
    clear he
    go_wp2
    go_roundw
    case rel => exact ⟨q + 1, by omega, by rw [HE.out], by go_num, hb.out.alloc hb.out.size _⟩
    case measure => simp [intOf]; omega
   ·have HE : Hid (endsF J l ns first (q + 1) = J (endsF J l ns first q) (el ns q)) := by show _ = _; simp only [endsF]; rw [if_neg he]
    have HJ : Hid (∀ W : World, Calls Try.prog g #[.int .i64 (endsF J l ns first q), .int .i64 (el ns q)] W fun e w' => e = .returned (.int .i64 (J (endsF J l ns first q) (el ns q))) ∧ w' = W) := (HG.out _ _ (HIN.out q (by omega)) (HNS.out q hqn)).2
    generalize (el l q).1 = fin at *
    have hne : (fin != 1000000001) = true := by simp [he]
    generalize endsF J l ns first q = E0 at *
    generalize el ns q = E1 at *
    go_wp2_with (first
     | (go_at_fn g; refine (HJ.out _).mono ?_; rintro e w2 ⟨rfl, rfl⟩))
    go_roundw
    case rel => exact ⟨q + 1, by omega, by rw [HE.out], by go_num, hb.out.alloc hb.out.size _⟩
    case measure => simp [intOf]; omega
  ·have hnl : ¬ (q : Int) < (n : Int) := by omega
   obtain rfl : q = n := by omega
   go_wp2
   go_ret
   exact ⟨rfl, hb.out⟩
end Go.Proofs.Ytfpibdaedfilaaa.Wt
