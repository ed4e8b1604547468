/- Arranged, merged or trimmed a machine costs the same (no program in sight). -/
import Derived.Test.YtfhjncpakgailaaGreatDoorKaO
import Derived.Test.YtfhjncpakgailaaGreatDoorKaj
import Derived.Test.YtfhjncpakgailaaGreatDoorKai
import Derived.Test.YtfhjncpakgailaaGreatDoorKab
import Derived.Test.YtfhjncpakgailaaGreatDoorKad
import Derived.Test.YtfhjncpakgailaaGreatDoorKap
import Derived.Test.YtfhjncpakgailaaGreatDoorKav
namespace Go.Proofs.YtfhjncpakgailaaGreatDoor.Pl
set_option linter.unusedVariables false
set_option linter.unusedSimpArgs false
section
variable {z : Int} {l : List St} {aa bs : List Bool}
theorem kept_nat {ks : List Int} (hks : ks = keptL aa bs l.length) {i : Nat} (hi : i < ks.length) : ∃ q : Nat, el ks i = (q : Int) ∧ q < l.length ∧ el aa q = true ∧ el bs q = true := by
 have := el_mem hi
 rw [hks] at this
 obtain ⟨q, h1, h2, h3, h4⟩ := keptL_mem this
 exact ⟨q, by rw [hks]; exact h1, h2, h3, h4⟩
theorem trim_way {ks : List Int} (hks : ks = keptL aa bs l.length) {i j c : Nat} {u v : List Int} (hi : i < ks.length) (h : Way (ks.map (trimS l ks)) i u v j c) : j < ks.length ∧ Way l (el ks i).toNat u v (el ks j).toNat c := by
  have hp : ks.Pairwise (· < ·) := by rw [hks]; exact keptL_sorted _ _ _
  induction h with
  | nil => exact ⟨hi, .nil⟩
  | snoc h ha ht ih =>
    rename_i u v p c a t
    obtain ⟨hpl, hw⟩ := ih
    rw [trim_el hpl] at ha
    obtain ⟨d, hd, rfl, h0⟩ := trimA_mem ha
    have hm := (placeI_nonneg hp).1 h0
    obtain ⟨k, hk, he, hpk⟩ := placeI_mem hp hm
    have hkt : k = t := by
      have : placeI ks d.2.2.2 = (t : Int) := ht
      omega
    subst hkt
    obtain ⟨q, hq, _⟩ := kept_nat hks hk
    exact ⟨hk, hw.snoc hd (by rw [he] at hq; rw [he, hq]; rfl)⟩
theorem way_trim (hf : faultM (z, l) = 0) (hA : Least (AheadC z l) l.length aa) (hB : Least (BackC l) l.length bs) {ks : List Int} (hks : ks = keptL aa bs l.length) {q p c : Nat} {u v : List Int} (hq : q < l.length) (ha : el aa q = true) (h : Way l q u v p c) :
    (p < l.length ∧ el aa p = true) ∧ (el bs p = true → el bs q = true ∧ ∀ i j : Nat, placeI ks (q : Int) = (i : Int) → placeI ks (p : Int) = (j : Int) → Way (ks.map (trimS l ks)) i u v j c) := by
  have hp : ks.Pairwise (· < ·) := by rw [hks]; exact keptL_sorted _ _ _
  induction h with
  | nil =>
    refine ⟨⟨hq, ha⟩, fun hb => ⟨hb, fun i j hi hj => ?_⟩⟩
    have hij : i = j := by omega
    rw [hij]
    exact .nil
  | snoc h hm ht ih =>
    rename_i u v p c a t
    obtain ⟨⟨hpl, hpa⟩, ih⟩ := ih
    obtain ⟨t', e1, e2⟩ := to_right hf hpl hm
    obtain rfl : t = t' := by omega
    have hta : el aa t = true := by
      have := hA.2.1.2 p hpl hpa a hm
      rwa [ht, Int.toNat_natCast] at this
    refine ⟨⟨e2, hta⟩, fun hb => ?_⟩
    have hpb : el bs p = true := hB.2.1.2 p hpl a hm (by rw [ht, Int.toNat_natCast]; exact hb)
    obtain ⟨hqb, hw⟩ := ih hpb
    refine ⟨hqb, fun i j hi hj => ?_⟩
    have hpm : (p : Int) ∈ ks := by rw [hks]; exact keptL_iff.2 ⟨hpl, hpa, hpb⟩
    obtain ⟨k, hk, hek, hpk⟩ := placeI_mem hp hpm
    have h1 := hw i k hi hpk
    have h2 : turnA ks a ∈ (el (ks.map (trimS l ks)) k).2 := by
      rw [trim_el hk, hek, Int.toNat_natCast]
      exact trimA_in hm (by rw [ht, hj]; omega)
    have h3 := h1.snoc h2 (t := j) (by unfold turnA; simp only; rw [ht, hj])
    exact h3
theorem costs_trim (hf : faultM (z, l) = 0) (hA : Least (AheadC z l) l.length aa) (hB : Least (BackC l) l.length bs) (x y : List Int) (c : Nat) : Costs (trimM z l (keptL aa bs l.length)) x y c ↔ Costs (z, l) x y c := by
 obtain ⟨ks, hks⟩ : ∃ ks, ks = keptL aa bs l.length := ⟨_, rfl⟩
 have hp : ks.Pairwise (· < ·) := by rw [hks]; exact keptL_sorted _ _ _
 rw [← hks]
 have hlen : (trimM z l ks).2.length = ks.length := by simp [trimM]
 constructor
 ·rintro ⟨h0, p, d, hw, hpl, hn, rfl⟩
  have h0' : 0 ≤ placeI ks z := h0
  obtain ⟨k, hk, hek, hpk⟩ := placeI_mem hp ((placeI_nonneg hp).1 h0')
  have hw' : Way (ks.map (trimS l ks)) k x y p d := by
   have e : (trimM z l ks).1.toNat = k := by show (placeI ks z).toNat = k; rw [hpk]; rfl
   rw [e] at hw
   exact hw
  obtain ⟨hpk', hwl⟩ := trim_way hks hk hw'
  obtain ⟨q, hq1, hq2, _⟩ := kept_nat hks hpk'
  obtain ⟨q0, hz1, hz2, _⟩ := kept_nat hks hk
  have hfin : (el (trimM z l ks).2 p).1 = (el l (el ks p).toNat).1 := by
   show (el (ks.map (trimS l ks)) p).1 = _
   rw [trim_el hpk']
  rw [hek] at hwl hz1
  refine ⟨by show 0 ≤ z; omega, (el ks p).toNat, d, hwl, by rw [hq1]; exact hq2, ?_, ?_⟩
  ·rw [← hfin]; exact hn
  ·rw [hfin]
 ·rintro ⟨h0, p, d, hw, hpl, hn, rfl⟩
  simp only at h0 hw hpl hn ⊢
  have hz := (right_parts hf).1
  simp only at hz
  have hzl : z.toNat < l.length := by omega
  have hza : el aa z.toNat = true := hA.2.1.1 z.toNat hzl (by omega)
  obtain ⟨⟨_, hpa⟩, hb⟩ := way_trim hf hA hB hks hzl hza hw
  have hpb : el bs p = true := hB.2.1.1 p hpl hn
  obtain ⟨hzb, hway⟩ := hb hpb
  have hzt : ((z.toNat : Nat) : Int) = z := by omega
  have hzm : (z.toNat : Int) ∈ ks := by rw [hks]; exact keptL_iff.2 ⟨hzl, hza, hzb⟩
  have hpm : (p : Int) ∈ ks := by rw [hks]; exact keptL_iff.2 ⟨hpl, hpa, hpb⟩
  obtain ⟨k, hk, hek, hpk⟩ := placeI_mem hp hzm
  obtain ⟨j, hj, hej, hpj⟩ := placeI_mem hp hpm
  have h1 := hway k j hpk hpj
  rw [hzt] at hpk
  have hfin : (el (trimM z l ks).2 j).1 = (el l p).1 := by
   show (el (ks.map (trimS l ks)) j).1 = _
   rw [trim_el hj, hej, Int.toNat_natCast]
  refine ⟨by show 0 ≤ placeI ks z; omega, j, d, ?_, by rw [hlen]; exact hj, by rw [hfin]; exact hn, by rw [hfin]⟩
  show Way (ks.map (trimS l ks)) (placeI ks z).toNat x y j d
  rw [hpk]
  exact h1
theorem trim_cheap {ks : List Int} (hks : ks = keptL aa bs l.length) (h : CheapL l) : CheapL (trimM z l ks).2 := fun s hs => by
 simp only [trimM, List.mem_map] at hs
 obtain ⟨x, hx, rfl⟩ := hs
 rw [hks] at hx
 obtain ⟨q, rfl, hq, _⟩ := keptL_mem hx
 unfold trimS
 rw [Int.toNat_natCast]
 refine ⟨(h _ (el_mem hq)).1, fun a ha => ?_⟩
 obtain ⟨d, hd, rfl, _⟩ := trimA_mem ha
 exact (h _ (el_mem hq)).2 d hd
end
section
variable {E : Nat → Nat → Nat → Prop}
inductive Via (E : Nat → Nat → Nat → Prop) (k : Nat) : Nat → Nat → Nat → Prop
 | nil (q : Nat) : Via E k q q 0
 | arc {q w p : Nat} (e : E q w p) : Via E k q p w
 | step {q w j p c : Nat} (e : E q w j) (hj : j < k) (h : Via E k j p c) : Via E k q p (w + c)
end
def empA (a : Ar) : Bool := decide (a.1 = 0) && decide (a.2.1 = 0)
def NoEmp (l : List St) : Prop := ∀ q, q < l.length → ∀ a ∈ (el l q).2, empA a = false
theorem made_noEmp (r : Int × List (Int × Bool × List Ar)) (states : Nat) : NoEmp (madeM r states true).2 := fun q hq a ha => by
 have hm := el_mem hq
 simp only [madeM, statesM, List.mem_map] at hm
 obtain ⟨k, _, e⟩ := hm
 have e' : (if r.2.length ≤ k then ((0, []) : St) else stM (sizeM r states) true (el r.2 k)) = el (madeM r states true).2 q := e
 rw [← e'] at ha
 split at ha
 ·exact absurd ha (by simp)
 ·simp only [stM, List.mem_map] at ha
  obtain ⟨x, _, rfl⟩ := ha
  unfold empA arM
  by_cases h1 : pkR x.1 3 = 0
  ·by_cases h2 : pkR x.2.1 3 = 0
   ·simp [h1, h2]
   ·simp [h2]
  ·simp [h1]
structure PshM (m x : Mc) (tot : Int) (T : Mc) (vs : List Int) : Prop where
 eqx : x = pshM vs T
 eqt : tot = pshT vs T
 pot : Pot T.2 vs
 least : ∀ q, q < T.2.length → LeastP (EndC T.2 q) (el vs q).toNat
 right : faultM T = 0
 rightx : faultM x = 0
 cheapx : CheapL x.2
 low : ∀ q, q < T.2.length → 0 ≤ el vs q ∧ el vs q ≤ 90
 start : T.1 < 0 ↔ T.2.length = 0
 stays : ∀ a b, Least (AheadC T.1 T.2) T.2.length a → Least (BackC T.2) T.2.length b → trmM T a b = T
 costs : ∀ X Y c, Costs T X Y c ↔ Costs m X Y c
 fin9 : ∀ s ∈ x.2, s.1 ≠ 1000000001 → s.1 ≤ 9
 allA : ∀ a, Least (AheadC T.1 T.2) T.2.length a → a = List.replicate T.2.length true
 allB : ∀ b, Least (BackC T.2) T.2.length b → b = List.replicate T.2.length true
theorem arcE_cheap {m : Mc} (hc : CheapL m.2) {k w j : Nat} (e : ArcE m.2 k w j) : w ≤ 8000 := by
 have hk := arcE_in e
 obtain ⟨a, ha, _, rfl⟩ := e
 have := (hc _ (el_mem hk)).2 a ha
 omega
theorem run_cheap {m : Mc} (hr : faultM m = 0) (hc : CheapL m.2) {s n q c : Nat} (hs : s < m.2.length) (h : Run (ArcE m.2) s n q c) : ∃ n' d, d ≤ 480000 ∧ d ≤ c ∧ Run (ArcE m.2) s n' q d := by
 have h60 := (right_size (z := m.1) (l := m.2) hr).1
 obtain ⟨n', d, hn, hd, h'⟩ := h.cheap hs (fun k w j e => (arcE_small hr e).1)
 have h1 := h'.cost (W := 8000) (fun k w j e => arcE_cheap hc e)
 have h2 : n' * 8000 ≤ 60 * 8000 := Nat.mul_le_mul_right _ (by omega)
 exact ⟨n', d, by omega, hd, h'⟩
theorem end_bound {m : Mc} (hr : faultM m = 0) (hc : CheapL m.2) {q c : Nat} (hq : q < m.2.length) (h : EndC m.2 q c) : ∃ d, d ≤ 100000000 ∧ EndC m.2 q d := by
 obtain ⟨n, p, d, h, hp, hf, rfl⟩ := h
 obtain ⟨n', d', hd, _, h'⟩ := run_cheap hr hc hq h
 have := (hc _ (el_mem hp)).1 hf
 exact ⟨d' + (el m.2 p).1.toNat, by omega, n', p, d', h', hp, hf, rfl⟩
theorem dst_cst {m : Mc} {P : Nat → Nat → Prop} {vs : List Int} {ec : Int} (hr : faultM m = 0) (hb : ∀ q, q < m.2.length → ∀ c, P q c → ∃ d, d ≤ 100000000 ∧ P q d) (h : DstAns m P vs ec) : ec = 0 ∧ vs.length = m.2.length ∧ ∀ q, q < m.2.length → CstIs (P q) (el vs q) := by
 rcases h with ⟨h, _⟩ | ⟨_, ⟨h1, h2, h3⟩ | ⟨_, _, q, hq, h4⟩⟩
 ·exact absurd hr h
 ·exact ⟨h1, h2, fun q hq => (cst_of (h3 q hq) (hb q hq)).2⟩
 ·exact absurd (cst_of h4 (hb q hq)).1 (by decide)
theorem end_cst {m : Mc} {vs : List Int} {ec : Int} (hr : faultM m = 0) (hc : CheapL m.2) (h : DstAns m (EndC m.2) vs ec) : ec = 0 ∧ vs.length = m.2.length ∧ ∀ q, q < m.2.length → CstIs (EndC m.2 q) (el vs q) := dst_cst hr (fun q hq c => end_bound hr hc hq) h
theorem lpa_cst {m : Mc} {x ec : Int} (hr : faultM m = 0) (hc : CheapL m.2) (hz : 0 ≤ m.1) (h : LpaAns m x ec) : ec = 0 ∧ CstIs (EndC m.2 m.1.toNat) x := by
 obtain ⟨vs, f, h1, h2⟩ := h
 obtain ⟨rfl, h3, h4⟩ := end_cst hr hc h1
 rcases h2 with ⟨h2, _⟩ | ⟨_, h5, h6⟩
 ·exact absurd rfl h2
 ·rw [if_neg (by omega)] at h6
  rw [h6]
  exact ⟨h5, h4 _ (by have := (right_parts hr).1; omega)⟩
theorem wayA_run {l : List St} {q p c : Nat} {u v : List Int} (h : Way l q u v p c) : ∃ n, Run (ArcE l) q n p c := by
  induction h with
  | nil => exact ⟨0, .nil⟩
  | snoc h ha ht ih =>
    obtain ⟨n, hn⟩ := ih
    exact ⟨n + 1, hn.step ⟨_, ha, ht, rfl⟩⟩
theorem runA_way {l : List St} {q n p c : Nat} (h : Run (ArcE l) q n p c) : ∃ u v, Way l q u v p c := by
  induction h with
  | nil => exact ⟨[], [], .nil⟩
  | step h e ih =>
    obtain ⟨u, v, hw⟩ := ih
    obtain ⟨a, ha, ht, rfl⟩ := e
    exact ⟨_, _, hw.snoc ha ht⟩
theorem costs_end {m : Mc} {x y : List Int} {c : Nat} (h : Costs m x y c) : EndC m.2 m.1.toNat c := by
 obtain ⟨_, p, d, hw, hp, hf, e⟩ := h
 obtain ⟨n, hn⟩ := wayA_run hw
 exact ⟨n, p, d, hn, hp, hf, e⟩
theorem end_costs {m : Mc} (hz : 0 ≤ m.1) {c : Nat} : EndC m.2 m.1.toNat c ↔ ∃ X Y, Costs m X Y c := by
 constructor
 ·rintro ⟨n, p, d, hr, hp, hn, rfl⟩
  obtain ⟨u, v, hw⟩ := runA_way hr
  exact ⟨u, v, hz, p, d, hw, hp, hn, rfl⟩
 ·rintro ⟨X, Y, hc⟩
  exact costs_end hc
structure PshU (m x : Mc) (tot : Int) (T : Mc) (vs : List Int) : Prop where
 eqx : x = pshM vs T
 eqt : tot = pshT vs T
 pot : Pot T.2 vs
 least : ∀ q, q < T.2.length → LeastP (EndC T.2 q) (el vs q).toNat
 right : faultM T = 0
 rightx : faultM x = 0
 low : ∀ q, q < T.2.length → 0 ≤ el vs q ∧ el vs q ≤ 100000000
 start : T.1 < 0 ↔ T.2.length = 0
 costs : ∀ X Y c, Costs T X Y c ↔ Costs m X Y c
 allA : ∀ a, Least (AheadC T.1 T.2) T.2.length a → a = List.replicate T.2.length true
 allB : ∀ b, Least (BackC T.2) T.2.length b → b = List.replicate T.2.length true
 short : T.2.length ≤ m.2.length
 certT : ∃ aa bs, Least (AheadC m.1 m.2) m.2.length aa ∧ Least (BackC m.2) m.2.length bs ∧ T = trmM m aa bs
theorem cheap_over {T : Mc} {vs : List Int} (h9 : CheapL T.2) (hP : Pot T.2 vs) (hlow : ∀ q, q < T.2.length → 0 ≤ el vs q ∧ el vs q ≤ 100000000) {q : Nat} (hq : q < T.2.length) {a : Ar} (ha : a ∈ (el T.2 q).2) : (pshA vs q a).2.2.1 ≤ 100008000 := by
 obtain ⟨t, e1, e2, e3, e4⟩ := hP.arc q hq a ha
 have h1 := (h9 _ (el_mem hq)).2 a ha
 have h2 := hlow t e2
 have h3 := hlow q hq
 simp only [pshA]
 rw [e1, Int.toNat_natCast]
 omega
theorem psh_cheap {m x : Mc} {tot ec : Int} (hf : faultM m = 0) (h9 : CheapL m.2) (h : PshAns m x tot ec) : ec = 0 ∧ ∃ T vs, PshU m x tot T vs := by
 obtain ⟨z, l⟩ := m
 rcases h with ⟨h0, _⟩ | ⟨_, aa, bs, vs, e, hA, hB, hD, h⟩
 ·exact absurd hf h0
 ·obtain ⟨tz, tl, hT, hfT, hAT, hBT, hST, hz, hlen⟩ := trimmed_facts hf hA hB
  have hT' : trmM (z, l) aa bs = (tz, tl) := hT
  have h9T : CheapL tl := by have := trim_cheap (z := z) (aa := aa) (bs := bs) rfl h9; rw [hT] at this; exact this
  have hcost : ∀ X Y c, Costs (tz, tl) X Y c ↔ Costs (z, l) X Y c := fun X Y c => by have := costs_trim hf hA hB X Y c; rw [hT] at this; exact this
  rw [hT'] at hD h
  obtain ⟨b0, hb0⟩ : ∃ b, Least (BackC tl) tl.length b := by
   have := trim_all_back hf hA hB
   have e9 : tl = (keptL aa bs l.length).map (trimS l (keptL aa bs l.length)) := by have := congrArg Prod.snd hT; exact this.symm
   rw [e9, List.length_map]
   exact ⟨_, this⟩
  have hall : ∀ q, q < tl.length → ∃ c, EndC tl q c := fun q hq => end_all (m := (tz, tl)) hfT hb0 hq (by rw [hBT b0 hb0]; exact el_true.2 hq)
  obtain ⟨rfl, _, _⟩ := end_cst (m := (tz, tl)) hfT h9T hD
  obtain ⟨hP, hL⟩ := pot_of (m := (tz, tl)) hfT hall hD
  have hlow : ∀ q, q < tl.length → 0 ≤ el vs q ∧ el vs q ≤ 100000000 := fun q hq => by
   obtain ⟨c, hc⟩ := hall q hq
   obtain ⟨d, hd, hd2⟩ := end_bound (m := (tz, tl)) hfT h9T hq hc
   have h1 := (hL q hq).2 d hd2
   have h2 := (hP.nn q hq).1
   omega
  have hO : pshO vs tl = false := by
   unfold pshO
   rw [List.any_eq_false]
   intro q hq
   rw [List.mem_range] at hq
   rw [Bool.not_eq_true, List.any_eq_false]
   intro a ha
   have := cheap_over (T := (tz, tl)) h9T hP hlow hq ha
   simp; omega
  rcases h with ⟨k, _⟩ | ⟨_, k, _⟩ | ⟨_, _, hx, ht, hec⟩
  ·exact absurd rfl k
  ·simp only at k; rw [hO] at k; cases k
  ·exact ⟨hec, (tz, tl), vs, hx, ht, hP, hL, hfT, by rw [hx]; exact psh_right (m := (tz, tl)) hfT hP hO, hlow, hz, hcost, hAT, hBT, hlen, aa, bs, hA, hB, hT.symm⟩
theorem PshU.none {m x : Mc} {tot : Int} {T : Mc} {vs : List Int} (h : PshU m x tot T vs) (hz : T.1 < 0) (X Y : List Int) : (∀ c, ¬ Costs m X Y c) ∧ (∀ c, ¬ Costs x X Y c) ∧ tot = 0 := by
 refine ⟨fun c hc => ?_, fun c hc => ?_, ?_⟩
 ·have := ((h.costs X Y c).2 hc).1
  omega
 ·have h1 := hc.1
  rw [h.eqx] at h1
  simp only [pshM] at h1
  omega
 ·rw [h.eqt]; unfold pshT; rw [if_pos hz]
theorem PshU.len {m x : Mc} {tot : Int} {T : Mc} {vs : List Int} (h : PshU m x tot T vs) : x.2.length = T.2.length := by rw [h.eqx]; exact psh_length _ _
theorem PshU.zero {m x : Mc} {tot : Int} {T : Mc} {vs : List Int} (h : PshU m x tot T vs) {q : Nat} (hq : q < x.2.length) : LeastP (EndC x.2 q) 0 := by
 have hl := h.len
 have h1 := psh_zero h.pot (q := q) (by omega) (h.least q (by omega))
 rw [h.eqx]; exact h1
theorem PshU.cheapest {m x : Mc} {tot : Int} {T : Mc} {vs : List Int} (h : PshU m x tot T vs) (hz : 0 ≤ m.1) {n : Int} (hn : CstIs (EndC m.2 m.1.toNat) n) : (n = 1000000001 ∧ x.1 < 0 ∧ tot = 0) ∨ (n ≠ 1000000001 ∧ tot = n ∧ 0 ≤ x.1) := by
 have hx := h.eqx
 have hl := h.len
 by_cases ht : T.1 < 0
 ·left
  have hno : ∀ c, ¬ EndC m.2 m.1.toNat c := fun c hc => by
   obtain ⟨X, Y, k⟩ := (end_costs hz).1 hc
   exact (h.none ht X Y).1 c k
  refine ⟨?_, by rw [hx]; exact ht, (h.none ht [] []).2.2⟩
  rcases hn with ⟨e, _⟩ | ⟨c, hc, _⟩
  ·exact e
  ·exact absurd hc.1 (hno c)
 ·right
  have ht0 : 0 ≤ T.1 := by omega
  have htl : T.1.toNat < T.2.length := by
   have := (right_parts h.right).1.2
   omega
  have hiff : ∀ c, EndC m.2 m.1.toNat c ↔ EndC T.2 T.1.toNat c := fun c => by
   rw [end_costs hz, end_costs ht0]
   exact ⟨fun ⟨X, Y, k⟩ => ⟨X, Y, (h.costs X Y c).2 k⟩, fun ⟨X, Y, k⟩ => ⟨X, Y, (h.costs X Y c).1 k⟩⟩
  have hL := h.least _ htl
  have hlow := h.low _ htl
  have htot : tot = el vs T.1.toNat := by rw [h.eqt]; unfold pshT; rw [if_neg ht]
  rcases hn with ⟨_, k⟩ | ⟨c, hc, hb, rfl⟩
  ·exact absurd ((hiff _).2 hL.1) (k _)
  ·have h1 := hc.2 _ ((hiff _).2 hL.1)
   have h2 := hL.2 _ ((hiff _).1 hc.1)
   exact ⟨by omega, by rw [htot]; omega, by rw [hx]; exact ht0⟩
def lbs (l : List Ar) : List (Int × Int) := l.map fun a => (a.1, a.2.1)
def CrtL (l : List St) : Prop := ∀ s ∈ l, (lbs s.2).Nodup ∧ ((0, 0) : Int × Int) ∉ lbs s.2
theorem lbs_length (l : List Ar) : (lbs l).length = l.length := by simp [lbs]
theorem once_lbs {l : List Ar} : onceB l = true ↔ (lbs l).Nodup := by
 rw [onceB_iff, List.nodup_iff_pairwise_ne, List.pairwise_iff_getElem]
 constructor
 ·intro h i j hi hj hij e
  rw [lbs_length] at hi hj
  have h1 := h j hj i hij
  rw [← Bool.not_eq_true, pairB_iff, el_get hj, el_get hi] at h1
  simp only [lbs, List.getElem_map, Prod.mk.injEq] at e
  exact h1 ⟨e.1.symm, e.2.symm⟩
 ·intro h k hk j hj
  rw [← Bool.not_eq_true, pairB_iff]
  rintro ⟨e1, e2⟩
  rw [el_get hk, el_get (show j < l.length by omega)] at e1 e2
  refine h j k (by rw [lbs_length]; omega) (by rw [lbs_length]; omega) hj ?_
  simp only [lbs, List.getElem_map, Prod.mk.injEq]
  exact ⟨e1.symm, e2.symm⟩
theorem emp_lbs {l : List St} : empB l = false ↔ ∀ s ∈ l, ((0, 0) : Int × Int) ∉ lbs s.2 := by
 unfold empB
 rw [List.any_eq_false]
 refine forall_congr' fun s => forall_congr' fun hs => ?_
 rw [Bool.not_eq_true, List.any_eq_false]
 constructor
 ·intro h k
  obtain ⟨a, ha, e⟩ := List.mem_map.1 k
  simp only [Prod.mk.injEq] at e
  have := h a ha
  simp [e.1, e.2] at this
 ·intro h a ha k
  simp only [Bool.and_eq_true, decide_eq_true_eq] at k
  exact h (List.mem_map.2 ⟨a, ha, by rw [k.1, k.2]⟩)
theorem crt_iff {l : List St} : CrtL l ↔ empB l = false ∧ l.all (fun s => onceB s.2) = true := by
 rw [emp_lbs, List.all_eq_true]
 constructor
 ·exact fun h => ⟨fun s hs => (h s hs).2, fun s hs => once_lbs.2 (h s hs).1⟩
 ·exact fun h s hs => ⟨once_lbs.1 (h.2 s hs), h.1 s hs⟩
theorem lbs_trim (ks : List Int) (l : List Ar) : (lbs (trimA ks l)).Sublist (lbs l) := by
 have h1 : lbs (l.map (turnA ks)) = lbs l := by simp [lbs, turnA, Function.comp_def]
 rw [← h1]
 exact List.Sublist.map _ List.filter_sublist
theorem crt_trim {m : Mc} {aa bs : List Bool} (h : CrtL m.2) : CrtL (trmM m aa bs).2 := fun s hs => by
 simp only [trmM, trimM] at hs
 obtain ⟨x, hx, rfl⟩ := List.mem_map.1 hs
 obtain ⟨q, rfl, hq, _⟩ := keptL_mem hx
 simp only [trimS, Int.toNat_natCast]
 have h1 := h _ (el_mem hq)
 have h2 := lbs_trim (keptL aa bs m.2.length) (el m.2 q).2
 exact ⟨h1.1.sublist h2, fun k => h1.2 (h2.subset k)⟩
theorem crt_psh {l : List St} {vs : List Int} (h : CrtL l) : CrtL (pshL vs l) := fun s hs => by
 obtain ⟨q, hq, rfl⟩ := List.mem_map.1 hs
 rw [List.mem_range] at hq
 have h1 := h _ (el_mem hq)
 have h2 : lbs (pshS vs l q).2 = lbs (el l q).2 := by simp [lbs, pshS, pshA, Function.comp_def]
 rw [h2]
 exact h1
theorem crt_sort {m : Mc} (h : CrtL m.2) : CrtL (srtM m).2 := fun s hs => by
 simp only [srtM, mapM] at hs
 obtain ⟨x, hx, rfl⟩ := List.mem_map.1 hs
 have h1 := h x hx
 have h2 : (lbs (sortS false x.2)).Perm (lbs x.2) := (sortS_perm false x.2).map _
 exact ⟨h2.nodup_iff.2 h1.1, fun k => h1.2 (h2.mem_iff.1 k)⟩
structure SmlU (m x : Mc) (tot : Int) (p T : Mc) (vs : List Int) : Prop where
 psh : PshU m p tot T vs
 crt : CrtL (srtM p).2
 way : (p.1 < 0 ∧ p.2 = [] ∧ x = (p.1, []) ∧ tot = 0) ∨ (0 ≤ p.1 ∧ p.1.toNat < (srtM p).2.length ∧ ∃ f, FstC (srtM p).2 f ∧ lstA (srtM p).2 f p.1.toNat = (x, 0))
theorem sml_cheap {m x : Mc} {tot ec : Int} (hf : faultM m = 0) (h9 : CheapL m.2) (hc : CrtL m.2) (h : SmlAns m x tot ec) : ec = 0 ∧ ∃ p T vs, SmlU m x tot p T vs := by
 obtain ⟨c1, c2⟩ := crt_iff.1 hc
 rcases h with ⟨h0, _⟩ | ⟨_, h4, _⟩ | ⟨_, _, h5, _⟩ | ⟨_, _, _, p, s, g, hP, h⟩
 ·exact absurd hf h0
 ·rw [c1] at h4; cases h4
 ·rw [c2] at h5; cases h5
 ·obtain ⟨rfl, T, vs, hU⟩ := psh_cheap hf h9 hP
  obtain ⟨aa, bs, _, _, hT⟩ := hU.certT
  have hcp : CrtL (srtM p).2 := crt_sort (by rw [hU.eqx]; exact crt_psh (by rw [hT]; exact crt_trim hc))
  have hp1 : p.1 = T.1 := by rw [hU.eqx]; rfl
  rcases h with ⟨a0, _⟩ | ⟨_, az, a1, a2, a3⟩ | ⟨_, az, hl, a2, a3⟩
  ·exact absurd rfl a0
  ·have hz : T.1 < 0 := by omega
   have hnil : p.2 = [] := List.eq_nil_of_length_eq_zero (by rw [hU.len]; exact hU.start.1 hz)
   have hs0 : s = 0 := (hU.none hz [] []).2.2
   refine ⟨a3, p, T, vs, ?_, hcp, .inl ⟨az, hnil, ?_, a2⟩⟩
   ·rw [a2, ← hs0]; exact hU
   ·rw [a1]; simp [srtM, mapM, hnil]
  ·subst a2
   refine ⟨a3, p, T, vs, hU, hcp, .inr ⟨az, ?_, hl⟩⟩
   have := (right_parts hU.rightx).1.2
   rw [srt_len]
   omega
theorem SmlU.right {m x : Mc} {tot : Int} {p T : Mc} {vs : List Int} (h : SmlU m x tot p T vs) : faultM x = 0 := by
 rcases h.way with ⟨_, h2, h3, _⟩ | ⟨_, h2, f, hf, hl⟩
 ·have := h.psh.rightx
  obtain ⟨a, b⟩ := p
  simp only at h2 h3
  rw [h3, ← h2]; exact this
 ·exact (lst_right (z := p.1) (l := (srtM p).2) (srt_right h.psh.rightx) hf h2 hl).1
theorem SmlU.certain {m x : Mc} {tot : Int} {p T : Mc} {vs : List Int} (h : SmlU m x tot p T vs) : CrtL x.2 := by
 rcases h.way with ⟨_, h2, h3, _⟩ | ⟨_, h2, f, hf, hl⟩
 ·rw [h3]; intro s hs; cases hs
 ·intro s hs
  obtain ⟨i, hi, rfl⟩ := mem_el hs
  obtain ⟨q, hq, _, e⟩ := lst_labs (z := p.1) (l := (srtM p).2) (srt_right h.psh.rightx) hf h2 hl hi
  have e2 : lbs (el x.2 i).2 = lbs (el (srtM p).2 q).2 := by
   have := congrArg (List.map fun b : Int × Int × Int => (b.1, b.2.1)) e
   simpa [lbs, List.map_map, Function.comp_def] using this
  rw [e2]
  exact h.crt _ (el_mem hq)
theorem SmlU.cheapest {m x : Mc} {tot : Int} {p T : Mc} {vs : List Int} (h : SmlU m x tot p T vs) (hz : 0 ≤ m.1) {n : Int} (hn : CstIs (EndC m.2 m.1.toNat) n) : (n = 1000000001 ∧ x.2.length = 0 ∧ tot = 0) ∨ (n ≠ 1000000001 ∧ tot = n) := by
 rcases h.psh.cheapest hz hn with ⟨h1, h2, h3⟩ | ⟨h1, h2, h3⟩
 ·rcases h.way with ⟨_, _, k, _⟩ | ⟨k, _⟩
  ·exact .inl ⟨h1, by rw [k]; rfl, h3⟩
  ·omega
 ·exact .inr ⟨h1, h2⟩
theorem SmlU.cheapest2 {m x : Mc} {tot : Int} {p T : Mc} {vs : List Int} (h : SmlU m x tot p T vs) (hz : 0 ≤ m.1) {n : Int} (hn : CstIs (EndC m.2 m.1.toNat) n) : (n = 1000000001 ∧ x.2.length = 0 ∧ tot = 0) ∨ (n ≠ 1000000001 ∧ tot = n ∧ 0 ≤ x.1) := by
 rcases h.psh.cheapest hz hn with ⟨h1, h2, h3⟩ | ⟨h1, h2, h3⟩
 ·rcases h.way with ⟨_, _, k, _⟩ | ⟨k, _⟩
  ·exact .inl ⟨h1, by rw [k]; rfl, h3⟩
  ·omega
 ·refine .inr ⟨h1, h2, ?_⟩
  rcases h.way with ⟨k, _⟩ | ⟨_, k, f, hf, hl⟩
  ·omega
  ·have := (lst_right (z := p.1) (l := (srtM p).2) (srt_right h.psh.rightx) hf k hl).2.2
   omega
theorem made_ge (r : Int × List (Int × Bool × List Ar)) (k : Nat) (full : Bool) (h0 : 0 < k) : 0 ≤ (madeM r k full).1 := by
 show 0 ≤ pkR r.1 (sizeM r k)
 have hs : 0 < sizeM r k := by
  unfold sizeM
  omega
 exact (pkR_bd r.1 _ (by omega)).1
end Go.Proofs.YtfhjncpakgailaaGreatDoor.Pl
namespace Go.Proofs.YtfhjncpakgailaaGreatDoor.Pl
set_option linter.unusedVariables false
theorem noEmp_empB {l : List St} (h : NoEmp l) : empB l = false := by
 unfold empB
 rw [List.any_eq_false]
 intro s hs
 rw [Bool.not_eq_true, List.any_eq_false]
 intro a ha
 obtain ⟨q, hq, rfl⟩ := mem_el hs
 have h9 := h q hq a ha
 unfold empA at h9
 simpa using h9
end Go.Proofs.YtfhjncpakgailaaGreatDoor.Pl
