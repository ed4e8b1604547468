/- Made machines, pushed and pulled (no program in sight). -/
import Derived.Test.YtfpibdaedfilaaaGaH
import Derived.Test.YtfpibdaedfilaaaGah
import Derived.Test.YtfpibdaedfilaaaGar
import Derived.Test.YtfpibdaedfilaaaGae
import Derived.Test.YtfpibdaedfilaaaGam
import Derived.Test.YtfpibdaedfilaaaGaf
import Derived.Test.YtfpibdaedfilaaaGaB
namespace Go.Proofs.Ytfpibdaedfilaaa.Pl
set_option linter.unusedVariables false
set_option linter.unusedSimpArgs false
theorem trim_nine {m : Mc} {aa bs : List Bool} (h : NineL m.2) : NineL (trmM m aa bs).2 := fun s hs => by
 simp only [trmM, trimM] at hs
 obtain ⟨x, hx, rfl⟩ := List.mem_map.1 hs
 simp only [trimS]
 have hq : (∃ q : Nat, x = (q : Int) ∧ q < m.2.length) := by
  simp only [keptL] at hx
  obtain ⟨q, hq, rfl⟩ := List.mem_map.1 hx
  exact ⟨q, rfl, List.mem_range.1 (List.mem_filter.1 hq).1⟩
 obtain ⟨q, rfl, hq⟩ := hq
 rw [Int.toNat_natCast]
 have h1 := h (el m.2 q) (el_mem hq)
 refine ⟨h1.1, fun a ha => ?_⟩
 obtain ⟨d, hd, rfl, _⟩ := trimA_mem ha
 exact h1.2 d hd
theorem nine_end {m : Mc} (hf : faultM m = 0) (h9 : NineL m.2) (h8 : m.2.length ≤ 8) {q c : Nat} (hq : q < m.2.length) (h : EndC m.2 q c) : ∃ d, d ≤ c ∧ d ≤ 90 ∧ EndC m.2 q d := by
 obtain ⟨n, p, d, hr, hp, hn, rfl⟩ := h
 obtain ⟨n', d', hn', hd, hr'⟩ := hr.cheap (N := m.2.length) hq (fun k w j e => (arcE_small hf e).1)
 have h1 := hr'.cost (W := 9) (fun k w j e => by
  obtain ⟨a, ha, _, rfl⟩ := e
  have := (h9 _ (el_mem (el_in ha))).2 a ha
  omega)
 have h2 := (h9 _ (el_mem hp)).1 hn
 have h3 : n' * 9 ≤ 8 * 9 := Nat.mul_le_mul_right _ (by omega)
 exact ⟨d' + (el m.2 p).1.toNat, by omega, by omega, n', p, d', hr', hp, hn, rfl⟩
structure PshM (m x : Mc) (tot : Int) (T : Mc) (vs : List Int) : Prop where
 eqx : x = pshM vs T
 eqt : tot = pshT vs T
 pot : Pot T.2 vs
 least : ∀ q, q < T.2.length → LeastP (EndC T.2 q) (el vs q).toNat
 right : faultM T = 0
 rightx : faultM x = 0
 cheapx : CheapL x.2
 low : ∀ q, q < T.2.length → 0 ≤ el vs q ∧ el vs q ≤ 90
 start : T.1 < 0 ↔ T.2.length = 0
 stays : ∀ a b, Least (AheadC T.1 T.2) T.2.length a → Least (BackC T.2) T.2.length b → trmM T a b = T
 costs : ∀ X Y c, Costs T X Y c ↔ Costs m X Y c
 fin9 : ∀ s ∈ x.2, s.1 ≠ 1000000001 → s.1 ≤ 9
 allA : ∀ a, Least (AheadC T.1 T.2) T.2.length a → a = List.replicate T.2.length true
 allB : ∀ b, Least (BackC T.2) T.2.length b → b = List.replicate T.2.length true
theorem nine_over {T : Mc} {vs : List Int} (hf : faultM T = 0) (h9 : NineL T.2) (hP : Pot T.2 vs) (hlow : ∀ q, q < T.2.length → 0 ≤ el vs q ∧ el vs q ≤ 90) {q : Nat} (hq : q < T.2.length) {a : Ar} (ha : a ∈ (el T.2 q).2) : (pshA vs q a).2.2.1 ≤ 99 := by
 obtain ⟨t, e1, e2, e3, e4⟩ := hP.arc q hq a ha
 have h1 := (h9 _ (el_mem hq)).2 a ha
 have h2 := hlow t e2
 have h3 := hlow q hq
 simp only [pshA]
 rw [e1, Int.toNat_natCast]
 omega
theorem psh_madeT {m x : Mc} {tot ec : Int} (hf : faultM m = 0) (h9 : NineL m.2) (h8 : m.2.length ≤ 8) (h : PshAns m x tot ec) : ec = 0 ∧ ∃ aa bs vs, Least (AheadC m.1 m.2) m.2.length aa ∧ Least (BackC m.2) m.2.length bs ∧ PshM m x tot (trmM m aa bs) vs := by
 obtain ⟨z, l⟩ := m
 rcases h with ⟨h0, _⟩ | ⟨_, aa, bs, vs, e, hA, hB, hD, h⟩
 ·exact absurd hf h0
 ·obtain ⟨tz, tl, hT, hfT, hAT, hBT, hST, hz, hlen⟩ := trimmed_facts hf hA hB
  have hT' : trmM (z, l) aa bs = (tz, tl) := hT
  have h9T : NineL tl := by have := trim_nine (m := (z, l)) (aa := aa) (bs := bs) h9; rw [hT'] at this; exact this
  have hcost : ∀ X Y c, Costs (tz, tl) X Y c ↔ Costs (z, l) X Y c := fun X Y c => by have := costs_trim hf hA hB X Y c; rw [hT] at this; exact this
  rw [hT'] at hD h
  have h8T : tl.length ≤ 8 := Nat.le_trans hlen h8
  obtain ⟨b0, hb0⟩ : ∃ b, Least (BackC tl) tl.length b := by
   have := trim_all_back hf hA hB
   have e9 : tl = (keptL aa bs l.length).map (trimS l (keptL aa bs l.length)) := by have := congrArg Prod.snd hT; exact this.symm
   rw [e9, List.length_map]
   exact ⟨_, this⟩
  have hall : ∀ q, q < tl.length → ∃ c, EndC tl q c := fun q hq => end_all (m := (tz, tl)) hfT hb0 hq (by rw [hBT b0 hb0]; exact el_true.2 hq)
  have he : e = 0 := by
   rcases hD with ⟨k0, _⟩ | ⟨_, ⟨k, _⟩ | ⟨_, _, q, hq, hw⟩⟩
   ·exact absurd hfT k0
   ·exact k
   ·exfalso
    obtain ⟨c, hc⟩ := hall q hq
    obtain ⟨d, _, hd, hd2⟩ := nine_end (m := (tz, tl)) hfT h9T h8T hq hc
    rcases hw with ⟨k, _⟩ | ⟨c', hc', ⟨_, _, k⟩ | ⟨k, _⟩⟩
    ·exact k c hc
    ·cases k
    ·have := hc'.2 d hd2
     omega
  subst he
  obtain ⟨hP, hL⟩ := pot_of (m := (tz, tl)) hfT hall hD
  have hlow : ∀ q, q < tl.length → 0 ≤ el vs q ∧ el vs q ≤ 90 := fun q hq => by
   obtain ⟨c, hc⟩ := hall q hq
   obtain ⟨d, _, hd, hd2⟩ := nine_end (m := (tz, tl)) hfT h9T h8T hq hc
   have h1 := (hL q hq).2 d hd2
   have h2 := (hP.nn q hq).1
   omega
  have hO : pshO vs tl = false := by
   unfold pshO
   rw [List.any_eq_false]
   intro q hq
   rw [List.mem_range] at hq
   rw [Bool.not_eq_true, List.any_eq_false]
   intro a ha
   have := nine_over (T := (tz, tl)) hfT h9T hP hlow hq ha
   simp; omega
  rcases h with ⟨k, _⟩ | ⟨_, k, _⟩ | ⟨_, _, hx, ht, hec⟩
  ·exact absurd rfl k
  ·simp only at k; rw [hO] at k; cases k
  ·refine ⟨hec, aa, bs, vs, hA, hB, ?_⟩
   rw [hT']
   refine ⟨hx, ht, hP, hL, hfT, by rw [hx]; exact psh_right (m := (tz, tl)) hfT hP hO, ?_, hlow, hz, fun a b ha hb => hST a b ha hb, hcost, ?_, hAT, hBT⟩
   rotate_left
   ·rw [hx]
    intro s hs hn
    simp only [pshM, pshL] at hs
    obtain ⟨q, hq, rfl⟩ := List.mem_map.1 hs
    rw [List.mem_range] at hq
    simp only [pshS, pshF] at hn ⊢
    by_cases g : (el tl q).1 = 1000000001
    ·rw [if_pos g] at hn; exact absurd rfl hn
    ·rw [if_neg g]
     have h1 := (h9T _ (el_mem hq)).1 g
     have h2 := hlow q hq
     omega
   rw [hx]
   intro s hs
   simp only [pshM, pshL] at hs
   obtain ⟨q, hq, rfl⟩ := List.mem_map.1 hs
   rw [List.mem_range] at hq
   refine ⟨fun hn => ?_, fun a ha => ?_⟩
   ·simp only [pshS, pshF] at hn ⊢
    by_cases g : (el tl q).1 = 1000000001
    ·rw [if_pos g] at hn; exact absurd rfl hn
    ·rw [if_neg g]
     have h1 := (h9T _ (el_mem hq)).1 g
     have h2 := hlow q hq
     omega
   ·simp only [pshS] at ha
    obtain ⟨b, hb, rfl⟩ := List.mem_map.1 ha
    have := nine_over (T := (tz, tl)) hfT h9T hP hlow hq hb
    omega
theorem psh_made {m x : Mc} {tot ec : Int} (hf : faultM m = 0) (h9 : NineL m.2) (h8 : m.2.length ≤ 8) (h : PshAns m x tot ec) : ec = 0 ∧ ∃ T vs, PshM m x tot T vs := by
 obtain ⟨h1, aa, bs, vs, _, _, h2⟩ := psh_madeT hf h9 h8 h
 exact ⟨h1, _, vs, h2⟩
theorem PshM.tot_rng {m x : Mc} {tot : Int} {T : Mc} {vs : List Int} (h : PshM m x tot T vs) : 0 ≤ tot ∧ tot ≤ 90 := by
 rw [h.eqt]
 unfold pshT
 split
 ·omega
 ·have h1 := (right_parts h.right).1
  exact h.low _ (by omega)
abbrev Tr : Type := Int × Int × Int
abbrev Hp : Type := Int × Int × Int × Tr
def hopM (x y : Ar) : Hp := (x.1, y.2.1, x.2.2.1 + y.2.2.1, x.2.2.2, y.2.2.2, 0)
def hopL (x : Ar) (b : Int) : Hp := (x.1, 0, x.2.2.1, x.2.2.2, b, 1)
def hopR (y : Ar) (a : Int) : Hp := (0, y.2.1, y.2.2.1, a, y.2.2.2, 2)
def metB (x y : Ar) (f : Int) : Bool := x.2.1 == y.1 && (decide (0 < x.2.1) || f == 0)
def expX (r : List Ar) (b f : Int) (x : Ar) : List Hp := (r.filter (metB x · f)).map (hopM x) ++ (if x.2.1 = 0 ∧ f ≠ 2 then [hopL x b] else [])
def expL (l r : List Ar) (t : Tr) : List Hp := l.flatMap (expX r t.2.1 t.2.2) ++ (if t.2.2 ≠ 1 then (r.filter (fun y => y.1 == 0)).map (hopR · t.1) else [])
inductive Hops (la lb : List St) (za zb : Nat) : List Int → List Int → Nat → Nat → Int → Nat → Prop
 | nil : Hops la lb za zb [] [] za zb 0 0
 | snoc {u v : List Int} {p q c : Nat} {f : Int} (h : Hops la lb za zb u v p q f c) {k : Hp} (hk : k ∈ expL (el la p).2 (el lb q).2 ((p : Int), (q : Int), f)) {s t : Nat} (hs : k.2.2.2.1 = (s : Int)) (ht : k.2.2.2.2.1 = (t : Int)) :
  Hops la lb za zb (u ++ lab k.1) (v ++ lab k.2.1) s t k.2.2.2.2.2 (c + k.2.2.1.toNat)
inductive WayO (l : List St) (z : Nat) : List Int → List Int → Nat → Nat → Nat → Nat → Prop
 | nil : WayO l z [] [] z 0 0 0
 | emp {u v : List Int} {p c i n : Nat} (h : WayO l z u v p c i n) {a : Ar} (ha : a ∈ (el l p).2) {t : Nat} (ht : a.2.2.2 = (t : Int)) (h0 : a.2.1 = 0) : WayO l z (u ++ lab a.1) v t (c + a.2.2.1.toNat) (i + 1) (n + 1)
 | lab {u v : List Int} {p c i n : Nat} (h : WayO l z u v p c i n) {a : Ar} (ha : a ∈ (el l p).2) {t : Nat} (ht : a.2.2.2 = (t : Int)) (h0 : a.2.1 ≠ 0) : WayO l z (u ++ lab a.1) (v ++ [a.2.1]) t (c + a.2.2.1.toNat) 0 (n + 1)
inductive WayI (l : List St) (z : Nat) : List Int → List Int → Nat → Nat → Nat → Nat → Prop
 | nil : WayI l z [] [] z 0 0 0
 | emp {u v : List Int} {p c i n : Nat} (h : WayI l z u v p c i n) {a : Ar} (ha : a ∈ (el l p).2) {t : Nat} (ht : a.2.2.2 = (t : Int)) (h0 : a.1 = 0) : WayI l z u (v ++ lab a.2.1) t (c + a.2.2.1.toNat) (i + 1) (n + 1)
 | lab {u v : List Int} {p c i n : Nat} (h : WayI l z u v p c i n) {a : Ar} (ha : a ∈ (el l p).2) {t : Nat} (ht : a.2.2.2 = (t : Int)) (h0 : a.1 ≠ 0) : WayI l z (u ++ [a.1]) (v ++ lab a.2.1) t (c + a.2.2.1.toNat) 0 (n + 1)
def trB (a b : Mc) (t : Tr) : Bool := inB t.1 0 ((a.2.length : Int) - 1) && inB t.2.1 0 ((b.2.length : Int) - 1) && inB t.2.2 0 2
def finTr (a b : Mc) (t : Tr) : Int := bothI (el a.2 t.1.toNat).1 (el b.2 t.2.1.toNat).1
def expT (a b : Mc) (t : Tr) : List Hp := expL (el a.2 t.1.toNat).2 (el b.2 t.2.1.toNat).2 t
def expO (a b : Mc) (t : Tr) : Bool := ((el a.2 t.1.toNat).1 != 1000000001 && (el b.2 t.2.1.toNat).1 != 1000000001 && decide (1000000000 < (el a.2 t.1.toNat).1 + (el b.2 t.2.1.toNat).1)) || (expT a b t).any (fun h => decide (1000000000 < h.2.2.1))
def expE (a b : Mc) (t : Tr) : Int := if faultM a ≠ 0 then faultM a else if faultM b ≠ 0 then faultM b else if trB a b t = false then 13 else if expO a b t = true then 4 else 0
def arcTr (L : List Tr) (h : Hp) : Ar := (h.1, h.2.1, h.2.2.1, (L.idxOf h.2.2.2 : Int))
structure CmpI (a b : Mc) (q : Nat) (L : List Tr) (S : List St) : Prop where
 nodup : L.Nodup
 le : q ≤ L.length
 len : S.length = q
 start : ∃ E, L = (a.1, b.1, 0) :: E
 right : ∀ i, i < q → expE a b (el L i) = 0
 shut : ∀ i, i < q → ∀ h ∈ expT a b (el L i), h.2.2.2 ∈ L
 sts : ∀ i, i < q → el S i = (finTr a b (el L i), (expT a b (el L i)).map (arcTr L))
theorem cnt_none {z : Int} {l : List St} {bs : List Bool} (hf : faultM (z, l) = 0) (hB : Least (BackC l) l.length bs) {f : Nat → Nat} (hc : CntEq l f) (rk : Nat → Nat) (R : Nat) (hR : ∀ q, q < l.length → rk q ≤ R)
    (hr : ∀ p, p < l.length → ∀ a ∈ (el l p).2, rk p < rk a.2.2.2.toNat) : ∀ q, q < l.length → el bs q ≠ true → f q = 0 := by
  have key : ∀ k q, q < l.length → R - rk q < k → el bs q ≠ true → f q = 0 := by
    intro k
    induction k with
    | zero => intro q _ h; omega
    | succ k ih =>
      intro q hq hk hb
      rw [hc q hq]
      have h1 : (el l q).1 = 1000000001 := by
        rcases Classical.em ((el l q).1 = 1000000001) with g | g
        · exact g
        · exact absurd (hB.2.1.1 q hq g) hb
      rw [h1, sumF_zero.2 fun a ha => ?_]
      · rfl
      · obtain ⟨t, e1, e2⟩ := to_right hf hq ha
        have h2 := hr q hq a ha
        have h3 := hR q hq
        rw [e1, Int.toNat_natCast] at h2 ⊢
        have h4 := hR t e2
        refine ih t e2 (by omega) fun hbt => hb (hB.2.1.2 q hq a ha ?_)
        rw [e1, Int.toNat_natCast]
        exact hbt
  exact fun q hq => key (R - rk q + 1) q hq (by omega)
theorem sumF_trim {ks : List Int} (hp : ks.Pairwise (· < ·)) {f : Nat → Nat} : ∀ {ar : List Ar}, (∀ a ∈ ar, ∃ t : Nat, a.2.2.2 = (t : Int) ∧ ((t : Int) ∈ ks ∨ f t = 0)) → sumF (fun i => f (el ks i).toNat) (trimA ks ar) = sumF f ar := by
  intro ar
  induction ar with
  | nil => intro _; rfl
  | cons a l ih =>
    intro h
    obtain ⟨t, e, ht⟩ := h a (List.mem_cons_self ..)
    have h1 := ih fun b hb => h b (List.mem_cons_of_mem _ hb)
    have h2 : trimA ks (a :: l) = (if 0 ≤ placeI ks (t : Int) then [turnA ks a] else []) ++ trimA ks l := by
      unfold trimA
      rw [List.map_cons, List.filter_cons]
      simp only [turnA, e]
      split <;> rename_i g <;> simp at g <;> simp [g]
    rw [h2, sumF_append, h1, sumF, e, Int.toNat_natCast]
    congr 1
    by_cases hk : (t : Int) ∈ ks
    · obtain ⟨i, hi, hei, hpi⟩ := placeI_mem hp hk
      rw [if_pos (by omega)]
      simp only [sumF, turnA, e, hpi, Int.toNat_natCast, hei, Nat.add_zero]
    · rw [placeI_not hk, if_neg (by omega)]
      rcases ht with k | k
      · exact absurd k hk
      · rw [k]; rfl
theorem trim_cnt {z : Int} {l : List St} {aa bs : List Bool} (hf : faultM (z, l) = 0) (hA : Least (AheadC z l) l.length aa) (hB : Least (BackC l) l.length bs) {f : Nat → Nat} (hc : CntEq l f) (rk : Nat → Nat) (R : Nat) (hR : ∀ q, q < l.length → rk q ≤ R)
  (hr : ∀ p, p < l.length → ∀ a ∈ (el l p).2, rk p < rk a.2.2.2.toNat) {ks : List Int} (hks : ks = keptL aa bs l.length) : CntEq (ks.map (trimS l ks)) (fun i => f (el ks i).toNat) := by
 have hp : ks.Pairwise (· < ·) := by rw [hks]; exact keptL_sorted _ _ _
 intro i hi
 rw [List.length_map] at hi
 obtain ⟨q, e1, hq, ha, hb⟩ := kept_nat hks hi
 rw [trim_el hi]
 simp only [trimS]
 rw [e1, Int.toNat_natCast, hc q hq, sumF_trim hp fun a hm => ?_]
 obtain ⟨t, e2, e3⟩ := to_right hf hq hm
 refine ⟨t, e2, ?_⟩
 by_cases hbt : el bs t = true
 ·left
  have hta : el aa t = true := by
   have := hA.2.1.2 q hq ha a hm
   rwa [e2, Int.toNat_natCast] at this
  rw [hks]
  exact keptL_iff.2 ⟨e3, hta, hbt⟩
 ·right
  exact cnt_none hf hB hc rk R hR hr t e3 hbt
theorem eN_none {z : Int} {l : List St} {bs : List Bool} (hf : faultM (z, l) = 0) (hB : Least (BackC l) l.length bs) : ∀ (k : Nat) {q c : Nat}, q < l.length → el bs q ≠ true → eN l k q c = 0
  | 0, q, c, hq, hb => by
    show fE l q c = 0
    unfold fE
    rw [if_neg]
    rintro ⟨h, _⟩
    exact hb (hB.2.1.1 q hq h)
  | k + 1, q, c, hq, hb => by
    show ((el l q).2.map _).sum = 0
    refine sum_none fun a ha => ?_
    obtain ⟨t, e1, e2⟩ := to_right hf hq ha
    split
    · rw [e1, Int.toNat_natCast]
      refine eN_none hf hB k e2 fun hbt => hb (hB.2.1.2 q hq a ha ?_)
      rw [e1, Int.toNat_natCast]
      exact hbt
    · rfl
theorem sum_trim {ks : List Int} (hp : ks.Pairwise (· < ·)) {f g : Ar → Nat} : ∀ {ar : List Ar}, (∀ a ∈ ar, (a.2.2.2 ∈ ks ∧ f (turnA ks a) = g a) ∨ (a.2.2.2 ∉ ks ∧ g a = 0)) → ((trimA ks ar).map f).sum = (ar.map g).sum := by
  intro ar
  induction ar with
  | nil => intro _; rfl
  | cons a l ih =>
    intro h
    have h1 := ih fun b hb => h b (List.mem_cons_of_mem _ hb)
    have h2 : trimA ks (a :: l) = (if 0 ≤ placeI ks a.2.2.2 then [turnA ks a] else []) ++ trimA ks l := by
      unfold trimA
      rw [List.map_cons, List.filter_cons]
      have e : (turnA ks a).2.2.2 = placeI ks a.2.2.2 := rfl
      rw [e]
      by_cases g : 0 ≤ placeI ks a.2.2.2
      · rw [if_pos (by simpa using g), if_pos g]; rfl
      · rw [if_neg (by simpa using g), if_neg g]; rfl
    rw [h2, List.map_append, List.sum_append, h1, List.map_cons, List.sum_cons]
    rcases h a (List.mem_cons_self ..) with ⟨k1, k2⟩ | ⟨k1, k2⟩
    · rw [if_pos ((placeI_nonneg hp).2 k1)]
      simp [k2]
    · rw [if_neg (fun g => k1 ((placeI_nonneg hp).1 g)), k2]
      simp
theorem eN_trim {z : Int} {l : List St} {aa bs : List Bool} (hf : faultM (z, l) = 0) (hA : Least (AheadC z l) l.length aa) (hB : Least (BackC l) l.length bs) {ks : List Int} (hks : ks = keptL aa bs l.length) : ∀ (k : Nat) {i c : Nat}, i < ks.length → eN (ks.map (trimS l ks)) k i c = eN l k (el ks i).toNat c
  | 0, i, c, hi => by
    show fE _ i c = fE l _ c
    unfold fE
    rw [trim_el hi]
  | k + 1, i, c, hi => by
    have hp : ks.Pairwise (· < ·) := by rw [hks]; exact keptL_sorted _ _ _
    obtain ⟨q, e1, hq, ha, hb⟩ := kept_nat hks hi
    show ((el (ks.map (trimS l ks)) i).2.map _).sum = ((el l (el ks i).toNat).2.map _).sum
    rw [trim_el hi, e1, Int.toNat_natCast]
    refine sum_trim hp fun a hm => ?_
    obtain ⟨t, e2, e3⟩ := to_right hf hq hm
    by_cases hk : (t : Int) ∈ ks
    · left
      refine ⟨by rw [e2]; exact hk, ?_⟩
      obtain ⟨j, hj, hej, hpj⟩ := placeI_mem hp hk
      simp only [turnA, e2, hpj, Int.toNat_natCast]
      rw [eN_trim hf hA hB hks k hj, hej, Int.toNat_natCast]
    · right
      refine ⟨by rw [e2]; exact hk, ?_⟩
      have hta : el aa t = true := by
        have := hA.2.1.2 q hq ha a hm
        rwa [e2, Int.toNat_natCast] at this
      have hbt : el bs t ≠ true := fun hbt => hk (by rw [hks]; exact keptL_iff.2 ⟨e3, hta, hbt⟩)
      rw [e2, Int.toNat_natCast]
      split
      · exact eN_none hf hB k e3 hbt
      · rfl
theorem eN_push {l : List St} {vs : List Int} (hR : RgtL l) (hP : Pot l vs) (hL : ∀ q, q < l.length → LeastP (EndC l q) (el vs q).toNat) : ∀ (k : Nat) {q c : Nat}, q < l.length → eN (pshL vs l) k q c = eN l k q (c + (el vs q).toNat)
  | 0, q, c, hq => by
    show fE _ q c = fE l q _
    have e : (el (pshL vs l) q).1 = pshF vs q (el l q).1 := by rw [psh_el hq]; rfl
    unfold fE
    rw [e]
    by_cases hf : (el l q).1 = 1000000001
    · simp [hf, pshF]
    · have h1 := hP.fin q hq hf
      have h2 := hP.nn q hq
      have h3 := hR.fin q hq
      have e2 : pshF vs q (el l q).1 = (el l q).1 - el vs q := by unfold pshF; rw [if_neg hf]
      rw [e2]
      by_cases h : (el l q).1.toNat ≤ c + (el vs q).toNat
      · rw [if_pos ⟨by omega, by omega⟩, if_pos ⟨hf, h⟩]
      · rw [if_neg (by omega), if_neg (by omega)]
  | k + 1, q, c, hq => by
    show ((el (pshL vs l) q).2.map _).sum = ((el l q).2.map _).sum
    rw [psh_el hq]
    simp only [pshS, List.map_map]
    congr 1
    refine List.map_congr_left fun a ha => ?_
    obtain ⟨t, e1, e2, e3, e4⟩ := hP.arc q hq a ha
    have h1 := hP.nn q hq
    have h2 := hP.nn t e2
    simp only [Function.comp_apply, pshA, e1, Int.toNat_natCast]
    by_cases hw : (a.2.2.1 + el vs t - el vs q).toNat ≤ c
    · rw [if_pos hw, if_pos (by omega), eN_push hR hP hL k e2]
      congr 1
      omega
    · rw [if_neg hw]
      by_cases hw2 : a.2.2.1.toNat ≤ c + (el vs q).toNat
      · rw [if_pos hw2]
        rcases Nat.eq_zero_or_pos (eN l k t (c + (el vs q).toNat - a.2.2.1.toNat)) with h0 | h0
        · exact h0.symm
        · exfalso
          obtain ⟨p, d, g1, g2, g3, g4⟩ := (eN_pos hR.to e2).1 h0
          have := (hL t e2).2 _ ⟨k, p, d, g1, g2, g3, rfl⟩
          omega
      · rw [if_neg hw2]
theorem sN_trim {z : Int} {l : List St} {aa bs : List Bool} (hf : faultM (z, l) = 0) (hA : Least (AheadC z l) l.length aa) (hB : Least (BackC l) l.length bs) {ks : List Int} (hks : ks = keptL aa bs l.length) (k : Nat) {i c : Nat} (hi : i < ks.length) : sN (ks.map (trimS l ks)) k i c = sN l k (el ks i).toNat c := by
 unfold sN
 congr 1
 exact List.map_congr_left fun j _ => eN_trim hf hA hB hks j hi
theorem sN_push {l : List St} {vs : List Int} (hR : RgtL l) (hP : Pot l vs) (hL : ∀ q, q < l.length → LeastP (EndC l q) (el vs q).toNat) (k : Nat) {q c : Nat} (hq : q < l.length) : sN (pshL vs l) k q c = sN l k q (c + (el vs q).toNat) := by
 unfold sN
 congr 1
 exact List.map_congr_left fun j _ => eN_push hR hP hL j hq
theorem sN_cnt {l : List St} (hR : RgtL l) (hF : Fwd l) {f : Nat → Nat} (hc : CntEq l f) {W : Nat} (hf : ∀ q, q < l.length → (el l q).1 ≠ 1000000001 → (el l q).1.toNat ≤ W) (ha : ∀ q, q < l.length → ∀ a ∈ (el l q).2, a.2.2.1.toNat ≤ W) : ∀ (k q c : Nat), q < l.length → l.length - q ≤ k → k * W ≤ c → sN l k q c = f q
  | 0, q, c, hq, hk, _ => by omega
  | k + 1, q, c, hq, hk, hcW => by
    rw [sN_front, hc q hq]
    rw [Nat.succ_mul] at hcW
    congr 1
    · unfold fE baseN
      by_cases g : (el l q).1 = 1000000001
      · simp [g]
      · rw [if_pos ⟨g, by have := hf q hq g; omega⟩, if_neg g]
    · have key : ∀ ar : List Ar, (∀ a ∈ ar, a ∈ (el l q).2) → (ar.map fun a => if a.2.2.1.toNat ≤ c then sN l k a.2.2.2.toNat (c - a.2.2.1.toNat) else 0).sum = sumF f ar := by
        intro ar
        induction ar with
        | nil => intro _; rfl
        | cons a ar ih =>
          intro h
          have hm := h a (List.mem_cons_self ..)
          obtain ⟨t, e1, e2, e3⟩ := hF q hq a hm
          have hw := ha q hq a hm
          rw [List.map_cons, List.sum_cons, ih fun b hb => h b (List.mem_cons_of_mem _ hb), sumF, if_pos (by omega), e1, Int.toNat_natCast]
          rw [sN_cnt hR hF hc hf ha k t _ e3 (by omega) (by omega)]
      exact key _ fun a h => h
theorem cheap_cnt {l : List St} (hR : RgtL l) (hF : Fwd l) {f : Nat → Nat} (hc : CntEq l f) (hch : CheapL l) {q n : Nat} (hq : q < l.length) {L : List Int} (h : CheapN l q n L) : L.length = min n (f q) := by
 obtain ⟨a, ha⟩ := cLe_big (l := L)
 have h1 := ha (max a ((l.length * (n + 1) + 1) * 8000) : Nat) (by omega)
 rw [h.cnt, sN_cnt hR hF hc (W := 8000) (fun q hq hf => by have := (hch _ (el_mem hq)).1 hf; omega) (fun q hq a ha => by have := (hch _ (el_mem hq)).2 a ha; omega) _ q _ hq (by
  have := Nat.le_mul_of_pos_right l.length (show 0 < n + 1 by omega)
  omega) (by omega)] at h1
 exact h1.symm
theorem trim_fwd {l : List St} (hF : Fwd l) {ks : List Int} (hp : ks.Pairwise (· < ·)) (hks : ∀ i, i < ks.length → ∃ q : Nat, el ks i = (q : Int) ∧ q < l.length) : Fwd (ks.map (trimS l ks)) := by
 intro i hi a ha
 rw [List.length_map] at hi ⊢
 rw [trim_el hi] at ha
 obtain ⟨d, hd, rfl, h0⟩ := trimA_mem ha
 obtain ⟨q, e1, hq⟩ := hks i hi
 rw [e1, Int.toNat_natCast] at hd
 obtain ⟨t, e2, e3, e4⟩ := hF q hq d hd
 have hk := (placeI_nonneg hp).1 h0
 obtain ⟨j, hj, hej, hpj⟩ := placeI_mem hp hk
 refine ⟨j, hpj, ?_, hj⟩
 rcases Nat.lt_or_ge i j with g | g
 ·exact g
 ·exfalso
  rcases Nat.lt_or_eq_of_le g with g | g
  ·have := List.pairwise_iff_getElem.1 hp j i hj hi g
   rw [← el_get hj, ← el_get hi, hej, e1, e2] at this
   omega
  ·subst g
   rw [hej, e2] at e1
   omega
theorem psh_fwd {l : List St} {vs : List Int} (hF : Fwd l) : Fwd (pshL vs l) := by
 intro q hq a ha
 rw [psh_length] at hq ⊢
 rw [psh_el hq] at ha
 simp only [pshS] at ha
 obtain ⟨b, hb, rfl⟩ := List.mem_map.1 ha
 exact hF q hq b hb
theorem sumF_psh (vs : List Int) (q : Nat) (f : Nat → Nat) : ∀ ar : List Ar, sumF f (ar.map (pshA vs q)) = sumF f ar
  | [] => rfl
  | a :: ar => by
    rw [List.map_cons, sumF, sumF, sumF_psh vs q f ar]
    rfl
theorem psh_cnt {l : List St} {vs : List Int} (hP : Pot l vs) {f : Nat → Nat} (hc : CntEq l f) : CntEq (pshL vs l) f := by
 intro q hq
 rw [psh_length] at hq
 have h1 := psh_fin hP hq
 rw [psh_el hq] at h1 ⊢
 rw [hc q hq]
 simp only [pshS] at h1 ⊢
 rw [sumF_psh]
 congr 1
 unfold baseN
 by_cases g : (el l q).1 = 1000000001
 ·have : pshF vs q (el l q).1 = 1000000001 := Classical.not_not.1 fun k => (h1.1 k) g
  rw [if_pos g, if_pos this]
 ·rw [if_neg g, if_neg (h1.2 g)]
theorem cLe_add (B : List Int) (t c : Int) : cLe (B.map fun x => x + t) c = cLe B (c - t) := by
 unfold cLe
 rw [List.countP_map]
 congr 1
 funext x
 simp only [Function.comp_apply, decide_eq_decide]
 omega
theorem ris_add {B : List Int} (h : RisL B) (t : Int) : RisL (B.map fun x => x + t) := by
 unfold RisL at *
 rw [List.pairwise_map]
 exact h.imp fun h => by omega
theorem push_paths {m x : Mc} {tot ec n g k h i j w : Int} {A B : List Int} (hf : faultM m = 0) (fw : Fwd m.2) (hz : m.1 = 0) (hl : 0 < m.2.length) (h6 : m.2.length ≤ 6) (h9 : NineL m.2) (hcnt : ∃ F, CntEq m.2 F ∧ F 0 ≤ 15625) (hP : PshAns m x tot ec)
  (h1 : PathAns m (faultM m) n g) (h2 : PathAns x (faultM x) k h) (h3 : CostAns m 5 A i) (h4 : CostAns x 5 B j) (hw : CstIs (EndC m.2 m.1.toNat) w) :
  ec = 0 ∧ g = 0 ∧ h = 0 ∧ i = 0 ∧ j = 0 ∧ n = k ∧ A = B.map (fun x => x + tot) ∧ 0 ≤ tot ∧ tot ≤ 90 ∧ 0 ≤ n ∧ n ≤ 15625 ∧ (A.length : Int) = min n 5 ∧ ((w = 1000000001 ∧ n = 0) ∨ (w ≠ 1000000001 ∧ 0 < n)) ∧ ∀ b ∈ B, 0 ≤ b ∧ b ≤ 1000000000 := by
 obtain ⟨F, hF, hF0⟩ := hcnt
 have hch : CheapL m.2 := LowL.cheap h9 (by omega)
 have hR := RgtL.of hf
 rw [hf] at h1
 obtain ⟨rfl, hn⟩ := pathAns_of fw hz hl hF (by omega) h1
 obtain ⟨rfl, hA⟩ := cost_made hf hch (by omega) (by omega) (by omega) (by omega) h3
 have h5 : (5 : Int).toNat = 5 := rfl
 have hz0 : m.1.toNat = 0 := by rw [hz]; rfl
 rw [hz0, h5] at hA
 rw [hz0] at hw
 have hAl := cheap_cnt hR fw hF hch hl hA
 have hAw := cheap_least hR hl (by omega) hA hw
 obtain ⟨rfl, aa, bs, vs, hAA, hBB, hM⟩ := psh_madeT hf h9 (by omega) hP
 have htot := hM.tot_rng
 obtain ⟨z, l⟩ := m
 simp only at hz
 subst hz
 have hA : CheapN l 0 5 A := hA
 have hl : 0 < l.length := hl
 have hR : RgtL l := hR
 have h6 : l.length ≤ 6 := h6
 have hw : CstIs (EndC l 0) w := hw
 obtain ⟨ks, hks⟩ : ∃ ks, ks = keptL aa bs l.length := ⟨_, rfl⟩
 have hT : trmM (0, l) aa bs = (placeI ks 0, ks.map (trimS l ks)) := by rw [hks]; rfl
 rw [hT] at hM
 have hp : ks.Pairwise (· < ·) := by rw [hks]; exact keptL_sorted _ _ _
 have hkn : ∀ i, i < ks.length → ∃ q : Nat, el ks i = (q : Int) ∧ q < l.length := fun i hi => by
  obtain ⟨q, e1, e2, _⟩ := kept_nat hks hi
  exact ⟨q, e1, e2⟩
 have hwn : (w = 1000000001 ∧ n = 0) ∨ (w ≠ 1000000001 ∧ 0 < n) := by
  rcases hAw with ⟨e1, e2⟩ | ⟨e1, e2, _⟩
  ·left
   refine ⟨e2, ?_⟩
   rw [e1] at hAl
   simp only [List.length_nil] at hAl
   omega
  ·right
   exact ⟨e2, by omega⟩
 have hxe : x = (placeI ks 0, pshL vs (ks.map (trimS l ks))) := hM.eqx
 have ht := hM.eqt
 have hfx := hM.rightx
 have hchx := hM.cheapx
 rw [hfx] at h2
 by_cases h0 : (0 : Int) ∈ ks
 ·obtain ⟨i0, hi0, hei0, hpi0⟩ := placeI_mem hp h0
  have hi00 : i0 = 0 := by
   rcases Nat.eq_zero_or_pos i0 with g | g
   ·exact g
   ·exfalso
    have := List.pairwise_iff_getElem.1 hp 0 i0 (by omega) hi0 g
    obtain ⟨q, e1, _⟩ := hkn 0 (by omega)
    rw [← el_get (by omega), ← el_get hi0, hei0, e1] at this
    omega
  subst hi00
  have hfT := trim_fwd fw hp hkn
  have hRT : RgtL (ks.map (trimS l ks)) := RgtL.of (m := (placeI ks 0, ks.map (trimS l ks))) hM.right
  have hcT : CntEq (ks.map (trimS l ks)) (fun i => F (el ks i).toNat) := trim_cnt hf hAA hBB hF (fun q => q) l.length (fun q hq => by omega) (fun p hp a ha => by
   obtain ⟨t, e1, e2, _⟩ := fw p hp a ha
   rw [e1, Int.toNat_natCast]
   exact e2) hks
  have hcx := psh_cnt hM.pot hcT
  have hl0 : 0 < (ks.map (trimS l ks)).length := by rw [List.length_map]; exact hi0
  have hx1 : x.1 = 0 := by rw [hxe]; simp only; rw [hpi0]; rfl
  have hx2 : x.2 = pshL vs (ks.map (trimS l ks)) := by rw [hxe]
  have hxl : x.2.length = (ks.map (trimS l ks)).length := by rw [hx2, psh_length]
  have hF00 : F (el ks 0).toNat = F 0 := by rw [hei0]; rfl
  obtain ⟨rfl, hk⟩ := pathAns_of (m := x) (by rw [hx2]; exact psh_fwd hfT) hx1 (by omega) (F := fun i => F (el ks i).toNat) (by rw [hx2]; exact hcx) (by simp only [hF00]; omega) h2
  simp only [hF00] at hk
  have hks6 : ks.length ≤ 6 := by
   have : ks.length ≤ l.length := by rw [hks]; exact keptL_le _ _ _
   omega
  obtain ⟨rfl, hB⟩ := cost_made hfx hchx (by omega) (by rw [hxl, List.length_map]; omega) (by omega) (by omega) h4
  have hx0 : x.1.toNat = 0 := by rw [hx1]; rfl
  rw [hx0, h5, hx2] at hB
  have hsm := cheap_small (RgtL.of hfx) (W := 8000) (fun q hq hf => by have := (hchx _ (el_mem hq)).1 hf; omega) (fun q hq a ha => by have := (hchx _ (el_mem hq)).2 a ha; omega) (show 0 < x.2.length by omega) (by rw [hx2]; exact hB)
  have htv : tot = el vs 0 := by
   rw [ht]
   unfold pshT
   simp only
   rw [hpi0]
   rfl
  have hAB : A = B.map (fun x => x + tot) := by
   refine hA.one ⟨ris_add hB.ris _, fun y hy => ?_, fun c => ?_⟩
   ·obtain ⟨b, hb, rfl⟩ := List.mem_map.1 hy
    have := hB.pos b hb
    omega
   ·rw [cLe_add]
    have hlk : (ks.map (trimS l ks)).length ≤ l.length := by rw [List.length_map, hks]; exact keptL_le _ _ _
    have k1 : (pshL vs (ks.map (trimS l ks))).length * (5 + 1) ≤ l.length * (5 + 1) := Nat.mul_le_mul_right _ (by rw [psh_length]; exact hlk)
    have hRx : RgtL (pshL vs (ks.map (trimS l ks))) := by rw [← hx2]; exact RgtL.of hfx
    rcases Int.lt_or_le (c : Int) tot with hct | hct
    ·rw [cLe_neg hB.pos (by omega)]
     have h8 : cLe A (c : Int) = 0 := cLe_none fun y hy => by
      rcases hAw with ⟨e1, _⟩ | ⟨e1, e2, e3⟩
      ·rw [e1] at hy; cases hy
      ·rcases hw with ⟨hw, _⟩ | ⟨cw, hcw, _, rfl⟩
       ·exact absurd hw e2
       ·have h7 := sN_posE hR (q := 0) (c := y.toNat) (k := l.length * (5 + 1) + 1) hl (by
         have c1 := hA.cnt y.toNat
         have hy0 := hA.pos y hy
         have c2 : 0 < cLe A ((y.toNat : Nat) : Int) := List.countP_pos_iff.2 ⟨y, hy, by simp; omega⟩
         omega)
        obtain ⟨d, hd, hdy⟩ := h7
        have hT0 := hM.least 0 hl0
        have hsN : 0 < sN (ks.map (trimS l ks)) (l.length * (5 + 1) + 1) 0 y.toNat := by
         rw [sN_trim hf hAA hBB hks _ hi0, hei0]
         have c1 := hA.cnt y.toNat
         have hy0 := hA.pos y hy
         have c2 : 0 < cLe A ((y.toNat : Nat) : Int) := List.countP_pos_iff.2 ⟨y, hy, by simp; omega⟩
         have e0 : (0 : Int).toNat = 0 := rfl
         rw [e0]
         omega
        obtain ⟨d', hd', hdy'⟩ := sN_posE hRT hl0 hsN
        have := hT0.2 d' hd'
        have hy0 := hA.pos y hy
        omega
     rw [← hA.cnt, h8]
    ·have ec : ((c : Int) - tot) = (((c - tot.toNat : Nat)) : Int) := by omega
     rw [ec, hB.cnt, sN_push hRT hM.pot hM.least _ hl0, sN_trim hf hAA hBB hks _ hi0, hei0]
     have e0 : (0 : Int).toNat = 0 := rfl
     have e9 : c - tot.toNat + (el vs 0).toNat = c := by rw [← htv]; omega
     rw [e0, e9]
     have s1 : min 5 (sN (pshL vs (ks.map (trimS l ks))) ((pshL vs (ks.map (trimS l ks))).length * (5 + 1) + 1) 0 (c - tot.toNat)) = min 5 (sN (pshL vs (ks.map (trimS l ks))) (l.length * (5 + 1) + 1) 0 (c - tot.toNat)) := by
      have hlx0 : 0 < (pshL vs (ks.map (trimS l ks))).length := by rw [psh_length]; exact hl0
      have a1 := sN_stable hRx.to hlx0 (c := c - tot.toNat) (n := 5) (Nat.le_refl _) (Nat.le_succ ((pshL vs (ks.map (trimS l ks))).length * (5 + 1)))
      have a2 := sN_stable hRx.to hlx0 (c := c - tot.toNat) (n := 5) (Nat.le_refl _) (show (pshL vs (ks.map (trimS l ks))).length * (5 + 1) ≤ l.length * (5 + 1) + 1 by omega)
      rw [Nat.succ_eq_add_one] at a1
      rw [a1, a2]
     rw [sN_push hRT hM.pot hM.least _ hl0, sN_push hRT hM.pot hM.least _ hl0, sN_trim hf hAA hBB hks _ hi0, sN_trim hf hAA hBB hks _ hi0, hei0, e0, e9] at s1
     exact s1
  refine ⟨rfl, rfl, rfl, rfl, rfl, by omega, hAB, htot.1, htot.2, by omega, by omega, by rw [hAl]; omega, hwn, fun b hb => ⟨hB.pos b hb, ?_⟩⟩
  have h10 := hsm b hb
  have h11 : (x.2.length * (5 + 1) + 1) * 8000 ≤ (6 * 6 + 1) * 8000 := Nat.mul_le_mul_right _ (by rw [hxl, List.length_map]; omega)
  omega
 ·have hpn : placeI ks 0 = -1 := placeI_not h0
  have haa : el aa 0 = true := hAA.2.1.1 0 hl rfl
  have hbb : el bs 0 ≠ true := fun hb => h0 (by rw [hks]; exact keptL_iff.2 ⟨hl, haa, hb⟩)
  have hF0' : F 0 = 0 := cnt_none hf hBB hF (fun q => q) l.length (fun q hq => by omega) (fun p hp a ha => by
   obtain ⟨t, e1, e2, _⟩ := fw p hp a ha
   rw [e1, Int.toNat_natCast]
   exact e2) 0 hl hbb
  have hx1 : x.1 = -1 := by rw [hxe]; exact hpn
  have hl0 : (ks.map (trimS l ks)).length = 0 := hM.start.1 (by show placeI ks 0 < 0; rw [hpn]; omega)
  have hA0 : A = [] := List.eq_nil_of_length_eq_zero (by rw [hAl, hF0']; rfl)
  have hB0 : j = 0 ∧ B = [] := by
   rcases h4 with ⟨k0, _⟩ | ⟨_, k1, _⟩ | ⟨_, _, _, us, fc, k3, ⟨k4, _⟩ | ⟨_, k5, rfl, rfl⟩ | ⟨_, k5, _⟩⟩
   ·exact absurd hfx k0
   ·omega
   ·exact absurd (end_cst hfx hchx k3).1 k4
   ·exact ⟨rfl, rfl⟩
   ·omega
  have hk : h = 0 ∧ k = 0 := by
   unfold PathAns at h2
   rw [if_pos rfl] at h2
   rcases h2 with ⟨out, ho, he⟩ | ⟨⟨out, _, hc, _⟩, _⟩
   ·rw [pathA, if_pos (by omega)] at he
    simp only [Prod.mk.injEq] at he
    exact ⟨he.2.symm, he.1.symm⟩
   ·have : x.2.length = 0 := by rw [hxe]; simp only; rw [psh_length]; exact hl0
    omega
  refine ⟨rfl, rfl, hk.1, rfl, hB0.1, by omega, by rw [hA0, hB0.2]; rfl, htot.1, htot.2, by omega, by omega, by rw [hA0]; simp; omega, hwn, by rw [hB0.2]; simp⟩
end Go.Proofs.Ytfpibdaedfilaaa.Pl
