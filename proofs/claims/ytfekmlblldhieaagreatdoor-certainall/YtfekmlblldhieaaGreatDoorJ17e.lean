/- Composed: between, and three of them (no program in sight). Where there are no empty arcs nothing happens but that arcs are merged; merged again they stay (no program in sight). Made machines without their empty arcs: what is answered (no program in sight). Two machines of small weights, composed: too large, or right and of small weights (no program in sight). Making certain: what the keeping laws need of the machines that are made (no program in sight). -/
import Derived.Test.YtfekmlblldhieaaGreatDoorJ17d
import Derived.Test.YtfekmlblldhieaaGreatDoorJ17f
import Derived.Test.YtfekmlblldhieaaGreatDoorJ17a
namespace Go.Proofs.YtfekmlblldhieaaGreatDoor.Pl
set_option linter.unusedVariables false
set_option linter.unusedSimpArgs false
/-- No word between costs less. -/
theorem cmp_between {a b x : Mc} (ha : faultM a = 0) (hb : faultM b = 0) (h1 : 0 ≤ a.1) (h2 : 0 ≤ b.1) (h : cpsA a b = (x, 0)) {u y v : List Int} {m n k : Int} (hm : CstIs (Costs x u v) m) (hn : CstIs (Costs a u y) n) (hk : CstIs (Costs b y v) k) : m ≤ bothI n k := by
  have hmost : m ≤ 1000000001 := by
    rcases hm with ⟨rfl, _⟩ | ⟨c, _, hc, rfl⟩ <;> omega
  unfold bothI
  rcases hn with ⟨rfl, _⟩ | ⟨d, hd, hd1, rfl⟩
  · rw [if_pos (.inl rfl)]; exact hmost
  · rcases hk with ⟨rfl, _⟩ | ⟨e, he, he1, rfl⟩
    · rw [if_pos (.inr rfl)]; exact hmost
    · rw [if_neg (by omega)]
      have hc := (cmp_costs ha hb h1 h2 h u v (d + e)).2 ⟨y, d, e, hd.1, he.1, rfl⟩
      rcases hm with ⟨rfl, k⟩ | ⟨c, hc', _, rfl⟩
      · exact absurd hc (k _)
      · have := hc'.2 _ hc
        omega
/-- It does not matter which two of three are composed first. -/
theorem cmp_groups {a b c ab bc l r : Mc} (ha : faultM a = 0) (hb : faultM b = 0) (hc : faultM c = 0) (h1 : 0 ≤ a.1) (h2 : 0 ≤ b.1) (h3 : 0 ≤ c.1) (e1 : cpsA a b = (ab, 0)) (e2 : cpsA b c = (bc, 0)) (e3 : cpsA ab c = (l, 0)) (e4 : cpsA a bc = (r, 0)) (u v : List Int) (k : Nat) : Costs l u v k ↔ Costs r u v k := by
  obtain ⟨f1, _, z1⟩ := cmp_right ha hb h1 h2 e1
  obtain ⟨f2, _, z2⟩ := cmp_right hb hc h2 h3 e2
  rw [cmp_costs f1 hc (by omega) h3 e3 u v k, cmp_costs ha f2 h1 (by omega) e4 u v k]
  constructor
  · rintro ⟨y, d, e, k1, k2, rfl⟩
    obtain ⟨x, d1, d2, k3, k4, rfl⟩ := (cmp_costs ha hb h1 h2 e1 u y d).1 k1
    exact ⟨x, d1, d2 + e, k3, (cmp_costs hb hc h2 h3 e2 x v _).2 ⟨y, d2, e, k4, k2, rfl⟩, by omega⟩
  · rintro ⟨y, d, e, k1, k2, rfl⟩
    obtain ⟨x, d1, d2, k3, k4, rfl⟩ := (cmp_costs hb hc h2 h3 e2 y v e).1 k2
    exact ⟨x, d + d1, d2, (cmp_costs ha hb h1 h2 e1 u x _).2 ⟨y, d, d1, k1, k3, rfl⟩, k4, by omega⟩
end Go.Proofs.YtfekmlblldhieaaGreatDoor.Pl
namespace Go.Proofs.YtfekmlblldhieaaGreatDoor.Pl
set_option linter.unusedVariables false
set_option linter.unusedSimpArgs false
def mrgL (l : List Ar) : List Ar := lightL (sortS false l)
theorem remOf_zero {ar : List Ar} (h : ∀ a ∈ ar, empA a = false) : remOf 0 ar = ar := by
  unfold remOf
  rw [List.filter_eq_self.2 (fun a ha => by simp [h a ha])]
  conv => rhs; rw [← List.map_id ar]
  refine List.map_congr_left fun a _ => ?_
  obtain ⟨p0, p1, p2, p3⟩ := a
  simp [hwA]
theorem noEmp_arc {m : Mc} (h : NoEmp m.2) {H : Nat → Nat → Int} (hH : HopT m H) {q : Nat} (hq : q < m.2.length) : ∀ k, k ≤ m.2.length → remArc H m.2 q k = if q < k then (el m.2 q).2 else []
  | 0, _ => by rw [if_neg (by omega)]; rfl
  | k + 1, hk => by
    have ih := noEmp_arc h hH hq k (by omega)
    simp only [remArc]
    rw [noEmp_hop h hH hq (show k < m.2.length by omega), ih]
    by_cases e : k = q
    · subst e
      rw [if_neg (by omega), if_pos rfl, if_neg (by decide), if_pos (by omega), List.nil_append, remOf_zero (h k hq)]
    · rw [if_neg e, if_pos rfl, List.append_nil]
      by_cases g : q < k
      · rw [if_pos g, if_pos (by omega)]
      · rw [if_neg g, if_neg (by omega)]
theorem noEmp_fin {m : Mc} (hr : faultM m = 0) (h : NoEmp m.2) {H : Nat → Nat → Int} (hH : HopT m H) {q : Nat} (hq : q < m.2.length) : ∀ k, k ≤ m.2.length → remFin H m.2 q k = if q < k ∧ (el m.2 q).1 ≠ 1000000001 then (el m.2 q).1 else noneI
  | 0, _ => by rw [if_neg (by omega)]; rfl
  | k + 1, hk => by
    have ih := noEmp_fin hr h hH hq k (by omega)
    simp only [remFin]
    rw [noEmp_hop h hH hq (show k < m.2.length by omega), ih]
    have hb := stB_fin ((right_parts hr).2 (el m.2 q) (el_mem hq))
    simp only [finB, Bool.or_eq_true, inB, Bool.and_eq_true, decide_eq_true_eq, beq_iff_eq] at hb
    by_cases e : k = q
    · subst e
      rw [if_pos rfl]
      by_cases g : (el m.2 k).1 ≠ 1000000001
      · have g2 : ¬ (k < k ∧ (el m.2 k).1 ≠ 1000000001) := by omega
        rw [if_neg g2, if_pos ⟨by decide, g, by unfold noneI; omega⟩, if_pos ⟨by omega, g⟩]
        omega
      · have g2 : ¬ (k < k ∧ (el m.2 k).1 ≠ 1000000001) := by omega
        rw [if_neg g2, if_neg (fun x => g x.2.1), if_neg (fun x => g x.2)]
    · rw [if_neg e, if_neg (fun x => x.1 rfl)]
      by_cases g : q < k ∧ (el m.2 q).1 ≠ 1000000001
      · rw [if_pos g, if_pos ⟨by omega, g.2⟩]
      · rw [if_neg g, if_neg (fun x => g ⟨by omega, x.2⟩)]
theorem noEmp_rem {m : Mc} (hr : faultM m = 0) (h : NoEmp m.2) {H : Nat → Nat → Int} (hH : HopT m H) : remM H m = mapM mrgL m := by
  unfold remM mapM
  refine congrArg (Prod.mk m.1) (el_ext (by simp) fun q hq => ?_)
  have hq' : q < m.2.length := by simpa using hq
  rw [el_range_map _ hq', el_map hq']
  have hb := stB_fin ((right_parts hr).2 (el m.2 q) (el_mem hq'))
  simp only [finB, Bool.or_eq_true, inB, Bool.and_eq_true, decide_eq_true_eq, beq_iff_eq] at hb
  unfold remS remL mrgL
  rw [noEmp_arc h hH hq' _ (Nat.le_refl _), noEmp_fin hr h hH hq' _ (Nat.le_refl _), if_pos hq']
  congr 1
  by_cases g : (el m.2 q).1 = 1000000001
  · rw [if_neg (fun x => x.2 g), g]; rfl
  · rw [if_pos ⟨hq', g⟩]
    unfold tldN
    rw [if_neg (by unfold noneI; omega), if_neg (by omega)]
theorem sortL_self {l : List Ar} (h : l.Pairwise fun a b => leB a b = true) : sortL l = l := (sortL_one (List.Perm.refl l) h).symm
theorem light_pair : ∀ {l : List Ar} {p : Ar}, (p :: l).Pairwise (fun a b => leB a b = true) → (p :: lightFrom p l).Pairwise fun a b => leB a b = true := fun {l p} h => by
  have h1 := List.pairwise_cons.1 h
  refine List.pairwise_cons.2 ⟨fun y hy => h1.1 y (lightFrom_mem hy), ?_⟩
  induction l generalizing p with
  | nil => simp [lightFrom]
  | cons x l ih =>
    have h2 := List.pairwise_cons.1 h1.2
    unfold lightFrom
    split
    · exact ih (p := x) h1.2 h2
    · exact List.pairwise_cons.2 ⟨fun y hy => h2.1 y (lightFrom_mem hy), ih (p := x) h1.2 h2⟩
theorem light_self : ∀ {l : List Ar} {p : Ar}, (p :: l).Pairwise (fun a b => alikeB b a = false) → lightFrom p l = l
  | [], p, _ => rfl
  | x :: l, p, h => by
    have h1 := List.pairwise_cons.1 h
    unfold lightFrom
    rw [if_neg (by rw [h1.1 x (by simp)]; simp), light_self h1.2]
theorem mrg_mrg (l : List Ar) : mrgL (mrgL l) = mrgL l := by
  unfold mrgL
  have hs : sortS false l = sortL l := rfl
  have hp := sortL_pair l
  rw [hs]
  generalize sortL l = r at hp
  cases r with
  | nil =>
    have h3 : sortS false ([] : List Ar) = [] := List.eq_nil_of_length_eq_zero (by rw [sortS_length]; rfl)
    show lightL (sortS false []) = []
    rw [h3]; rfl
  | cons p r =>
    have h1 : (lightL (p :: r)) = p :: lightFrom p r := rfl
    rw [h1, show sortS false (p :: lightFrom p r) = sortL (p :: lightFrom p r) from rfl, sortL_self (light_pair hp)]
    have h2 := light_apart hp
    show p :: lightFrom p (lightFrom p r) = _
    rw [light_self (List.pairwise_cons.2 ⟨h2.1, h2.2⟩)]
end Go.Proofs.YtfekmlblldhieaaGreatDoor.Pl
namespace Go.Proofs.YtfekmlblldhieaaGreatDoor.Pl
set_option linter.unusedVariables false
set_option linter.unusedSimpArgs false
theorem made_nine (r : Int × List (Int × Bool × List Ar)) (states : Nat) (full : Bool) : NineL (madeM r states full).2 := fun s hs => by
  simp only [madeM, statesM, List.mem_map] at hs
  obtain ⟨q, _, rfl⟩ := hs
  split
  · exact ⟨fun _ => by simp, fun a ha => absurd ha (by simp)⟩
  · refine ⟨fun h => ?_, fun a ha => ?_⟩
    · unfold stM at h ⊢
      simp only at h ⊢
      split
      · have := pkR_bd (el r.2 q).1 10 (by omega); omega
      · rename_i g; rw [if_neg g] at h; exact absurd rfl h
    · simp only [stM, List.mem_map] at ha
      obtain ⟨e, _, rfl⟩ := ha
      unfold arM
      have := pkR_bd e.2.2.1 10 (by omega)
      simp only
      omega
theorem made_noEmp (r : Int × List (Int × Bool × List Ar)) (states : Nat) : NoEmp (madeM r states true).2 := fun q hq a ha => by
  have hm := el_mem hq
  simp only [madeM, statesM, List.mem_map] at hm
  obtain ⟨k, _, e⟩ := hm
  have e' : (if r.2.length ≤ k then ((0, []) : St) else stM (sizeM r states) true (el r.2 k)) = el (madeM r states true).2 q := e
  rw [← e'] at ha
  split at ha
  · exact absurd ha (by simp)
  · simp only [stM, List.mem_map] at ha
    obtain ⟨x, _, rfl⟩ := ha
    unfold empA arM
    by_cases h1 : pkR x.1 3 = 0
    · by_cases h2 : pkR x.2.1 3 = 0
      · simp [h1, h2]
      · simp [h2]
    · simp [h1]
theorem mrg_pair (l : List Ar) : (mrgL l).Pairwise fun a b => leB a b = true := by
  unfold mrgL
  have hp := sortL_pair l
  rw [show sortS false l = sortL l from rfl]
  generalize sortL l = r at hp
  cases r with
  | nil => exact List.Pairwise.nil
  | cons p r => exact light_pair hp
theorem mrg_mem {l : List Ar} {a : Ar} (h : a ∈ mrgL l) : a ∈ l := merge_sub l a h
theorem mrg_le (l : List Ar) : (mrgL l).length ≤ l.length := Nat.le_trans (lightL_le _) (by rw [sortS_length]; exact Nat.le_refl _)
theorem rem_sorted (H : Nat → Nat → Int) (m : Mc) : (remM H m).2.all (fun s => sortB s.2) = true := by
  rw [List.all_eq_true]
  intro s hs
  obtain ⟨q, _, rfl⟩ := List.mem_map.1 hs
  exact pair_sortB (mrg_pair _)
theorem rem_mrg (H : Nat → Nat → Int) (m : Mc) : mapM mrgL (remM H m) = remM H m := by
  unfold mapM remM
  simp only [List.map_map]
  congr 1
  refine List.map_congr_left fun q _ => ?_
  show ((remS H m.2 q).1, mrgL (remS H m.2 q).2) = remS H m.2 q
  have : mrgL (remS H m.2 q).2 = (remS H m.2 q).2 := mrg_mrg _
  rw [this]
theorem right_fit {m : Mc} (h : faultM m = 0) : fitM m = m ∧ fitE m = 0 := by
  have h1 := (faultM_zero h).1
  unfold fitM fitE
  rw [if_pos h1, if_pos h1]
  exact ⟨rfl, rfl⟩
/-- Where there are no empty arcs nothing is too large. -/
theorem noEmp_ov {m : Mc} (hr : faultM m = 0) (h : NoEmp m.2) {H : Nat → Nat → Int} (hH : HopT m H) : ∀ {n : Nat}, n ≤ m.2.length → ovTo H m.2 n = false
  | 0, _ => rfl
  | n + 1, hn => by
    have hq : n < m.2.length := by omega
    have hb := stB_fin ((right_parts hr).2 (el m.2 n) (el_mem hq))
    simp only [finB, Bool.or_eq_true, inB, Bool.and_eq_true, decide_eq_true_eq, beq_iff_eq] at hb
    simp only [ovTo, noEmp_ov hr h hH (by omega : n ≤ m.2.length), Bool.false_or]
    unfold ovB remL
    rw [noEmp_arc h hH hq _ (Nat.le_refl _), noEmp_fin hr h hH hq _ (Nat.le_refl _), if_pos hq]
    rw [Bool.or_eq_false_iff]
    constructor
    · rw [decide_eq_false_iff_not]
      intro e
      apply e
      by_cases g : (el m.2 n).1 = 1000000001
      · rw [if_neg (fun x => x.2 g)]; rfl
      · rw [if_pos ⟨hq, g⟩]
        unfold tldE
        rw [if_neg (by unfold noneI; omega), if_neg (by omega)]
    · rw [List.any_eq_false]
      intro a ha
      have ha' : a ∈ (el m.2 n).2 := mrg_mem (l := (el m.2 n).2) ha
      have h1 := (right_parts hr).2 (el m.2 n) (el_mem hq)
      simp only [stB, Bool.and_eq_true, List.all_eq_true] at h1
      have h2 := h1.2 a ha'
      simp only [arcB, inB, Bool.and_eq_true, decide_eq_true_eq] at h2
      simp [bigA]
      omega
theorem rem_fit {m : Mc} (hr : faultM m = 0) {H : Nat → Nat → Int} (h2 : ovTo H m.2 m.2.length = false) : remR H m = fitM (remM H m) ∧ remE H m = fitE (remM H m) := by
  constructor
  · unfold remR
    rw [if_neg (by rw [hr]; simp), if_neg (by rw [h2]; simp)]
  · unfold remE
    rw [if_neg (by rw [hr]; simp), if_neg (by rw [h2]; simp)]
/-- A made machine, removed. -/
theorem made_rem {r : Int × List (Int × Bool × List Ar)} {k : Nat} {full : Bool} (hr : faultM (madeM r k full) = 0) (h8 : (madeM r k full).2.length ≤ 8) (h32 : arcN (madeM r k full).2 ≤ 32) {H : Nat → Nat → Int} (hH : HopT (madeM r k full) H) :
    remR H (madeM r k full) = remM H (madeM r k full) ∧ remE H (madeM r k full) = 0 ∧ faultM (remM H (madeM r k full)) = 0 ∧ CheapL (remM H (madeM r k full)).2 := by
  have h9 := made_nine r k full
  have h1 := nine_right hr h9 h8 h32 hH
  have h2 := nine_ov hr h9 h8 hH (Nat.le_refl _)
  have h3 := right_fit h1.1
  have e1 := rem_fit hr h2
  exact ⟨e1.1.trans h3.1, e1.2.trans h3.2, h1.1, h1.2⟩
/-- Removed again: only merged. -/
theorem noEmp_again {m : Mc} (hr : faultM m = 0) (h : NoEmp m.2) (hm : faultM (mapM mrgL m) = 0) {H : Nat → Nat → Int} (hH : HopT m H) : remR H m = mapM mrgL m ∧ remE H m = 0 := by
  have h1 := noEmp_rem hr h hH
  have h2 := noEmp_ov hr h hH (Nat.le_refl _)
  have h3 := right_fit hm
  have e1 := rem_fit hr h2
  rw [h1] at e1
  exact ⟨e1.1.trans h3.1, e1.2.trans h3.2⟩
theorem mrg_right {m : Mc} (h : faultM m = 0) : faultM (mapM mrgL m) = 0 := fault_map (fun l => mrg_le l) (fun l a ha => mrg_mem ha) h
end Go.Proofs.YtfekmlblldhieaaGreatDoor.Pl
namespace Go.Proofs.YtfekmlblldhieaaGreatDoor.Pl
set_option linter.unusedVariables false
set_option linter.unusedSimpArgs false
theorem cmp_two {a b : Mc} {W V : Int} (h0 : 0 ≤ W) (h3 : 0 ≤ V) (hs : W + V ≤ 1000) (la : LowL W a.2) (lb : LowL V b.2) (fa : faultM a = 0) (fb : faultM b = 0) (za : 0 ≤ a.1) (zb : 0 ≤ b.1) :
    cpsA a b = ((0, []), 5) ∨ ∃ x, cpsA a b = (x, 0) ∧ faultM x = 0 ∧ 0 < x.2.length ∧ x.1 = 0 ∧ LowL (W + V) x.2 ∧ CheapL x.2 := by
  rcases cmp_full h0 h3 (by omega) la lb fa fb za zb with h | h
  · have e : cpsA a b = ((cpsA a b).1, 0) := by rw [← h]
    obtain ⟨h1, h2, h4⟩ := cmp_right fa fb za zb e
    have h5 := cmp_low h0 h3 la lb fa fb za zb e
    exact .inr ⟨_, e, h1, h2, h4, h5, h5.cheap (by omega)⟩
  · exact .inl h
theorem made_low (r : Int × List (Int × Bool × List Ar)) (k : Nat) : LowL 9 (madeM r k false).2 := made_nine r k false
theorem made_ge (r : Int × List (Int × Bool × List Ar)) (k : Nat) (full : Bool) (h0 : 0 < k) : 0 ≤ (madeM r k full).1 := by
  show 0 ≤ pkR r.1 (sizeM r k)
  have hs : 0 < sizeM r k := by
    unfold sizeM
    omega
  exact (pkR_bd r.1 _ (by omega)).1
end Go.Proofs.YtfekmlblldhieaaGreatDoor.Pl
namespace Go.Proofs.YtfekmlblldhieaaGreatDoor.Pl
set_option linter.unusedVariables false
theorem noEmp_empB {l : List St} (h : NoEmp l) : empB l = false := by
  unfold empB
  rw [List.any_eq_false]
  intro s hs
  rw [Bool.not_eq_true, List.any_eq_false]
  intro a ha
  obtain ⟨q, hq, rfl⟩ := mem_el hs
  have h9 := h q hq a ha
  unfold empA at h9
  simpa using h9
end Go.Proofs.YtfekmlblldhieaaGreatDoor.Pl
