/- Cheap machines, pushed (no program in sight): as PlainPn, PlainPo, for weights up to 8000. -/
import Derived.Test.YtfhjncpakgailaaGreatDoorPaN
import Derived.Test.YtfhjncpakgailaaGreatDoorPaj
import Derived.Test.YtfhjncpakgailaaGreatDoorPap
import Derived.Test.YtfhjncpakgailaaGreatDoorPau
import Derived.Test.YtfhjncpakgailaaGreatDoorPab
namespace Go.Proofs.YtfhjncpakgailaaGreatDoor.Pl
set_option linter.unusedVariables false
set_option linter.unusedSimpArgs false
structure PshU (m x : Mc) (tot : Int) (T : Mc) (vs : List Int) : Prop where
 eqx : x = pshM vs T
 eqt : tot = pshT vs T
 pot : Pot T.2 vs
 least : ∀ q, q < T.2.length → LeastP (EndC T.2 q) (el vs q).toNat
 right : faultM T = 0
 rightx : faultM x = 0
 low : ∀ q, q < T.2.length → 0 ≤ el vs q ∧ el vs q ≤ 100000000
 start : T.1 < 0 ↔ T.2.length = 0
 costs : ∀ X Y c, Costs T X Y c ↔ Costs m X Y c
 allA : ∀ a, Least (AheadC T.1 T.2) T.2.length a → a = List.replicate T.2.length true
 allB : ∀ b, Least (BackC T.2) T.2.length b → b = List.replicate T.2.length true
 short : T.2.length ≤ m.2.length
 certT : ∃ aa bs, Least (AheadC m.1 m.2) m.2.length aa ∧ Least (BackC m.2) m.2.length bs ∧ T = trmM m aa bs
theorem cheap_over {T : Mc} {vs : List Int} (h9 : CheapL T.2) (hP : Pot T.2 vs) (hlow : ∀ q, q < T.2.length → 0 ≤ el vs q ∧ el vs q ≤ 100000000) {q : Nat} (hq : q < T.2.length) {a : Ar} (ha : a ∈ (el T.2 q).2) : (pshA vs q a).2.2.1 ≤ 100008000 := by
 obtain ⟨t, e1, e2, e3, e4⟩ := hP.arc q hq a ha
 have h1 := (h9 _ (el_mem hq)).2 a ha
 have h2 := hlow t e2
 have h3 := hlow q hq
 simp only [pshA]
 rw [e1, Int.toNat_natCast]
 omega
theorem psh_cheap {m x : Mc} {tot ec : Int} (hf : faultM m = 0) (h9 : CheapL m.2) (h : PshAns m x tot ec) : ec = 0 ∧ ∃ T vs, PshU m x tot T vs := by
 obtain ⟨z, l⟩ := m
 rcases h with ⟨h0, _⟩ | ⟨_, aa, bs, vs, e, hA, hB, hD, h⟩
 ·exact absurd hf h0
 ·obtain ⟨tz, tl, hT, hfT, hAT, hBT, hST, hz, hlen⟩ := trimmed_facts hf hA hB
  have hT' : trmM (z, l) aa bs = (tz, tl) := hT
  have h9T : CheapL tl := by have := trim_cheap (z := z) (aa := aa) (bs := bs) rfl h9; rw [hT] at this; exact this
  have hcost : ∀ X Y c, Costs (tz, tl) X Y c ↔ Costs (z, l) X Y c := fun X Y c => by have := costs_trim hf hA hB X Y c; rw [hT] at this; exact this
  rw [hT'] at hD h
  obtain ⟨b0, hb0⟩ : ∃ b, Least (BackC tl) tl.length b := by
   have := trim_all_back hf hA hB
   have e9 : tl = (keptL aa bs l.length).map (trimS l (keptL aa bs l.length)) := by have := congrArg Prod.snd hT; exact this.symm
   rw [e9, List.length_map]
   exact ⟨_, this⟩
  have hall : ∀ q, q < tl.length → ∃ c, EndC tl q c := fun q hq => end_all (m := (tz, tl)) hfT hb0 hq (by rw [hBT b0 hb0]; exact el_true.2 hq)
  obtain ⟨rfl, _, _⟩ := end_cst (m := (tz, tl)) hfT h9T hD
  obtain ⟨hP, hL⟩ := pot_of (m := (tz, tl)) hfT hall hD
  have hlow : ∀ q, q < tl.length → 0 ≤ el vs q ∧ el vs q ≤ 100000000 := fun q hq => by
   obtain ⟨c, hc⟩ := hall q hq
   obtain ⟨d, hd, hd2⟩ := end_bound (m := (tz, tl)) hfT h9T hq hc
   have h1 := (hL q hq).2 d hd2
   have h2 := (hP.nn q hq).1
   omega
  have hO : pshO vs tl = false := by
   unfold pshO
   rw [List.any_eq_false]
   intro q hq
   rw [List.mem_range] at hq
   rw [Bool.not_eq_true, List.any_eq_false]
   intro a ha
   have := cheap_over (T := (tz, tl)) h9T hP hlow hq ha
   simp; omega
  rcases h with ⟨k, _⟩ | ⟨_, k, _⟩ | ⟨_, _, hx, ht, hec⟩
  ·exact absurd rfl k
  ·simp only at k; rw [hO] at k; cases k
  ·exact ⟨hec, (tz, tl), vs, hx, ht, hP, hL, hfT, by rw [hx]; exact psh_right (m := (tz, tl)) hfT hP hO, hlow, hz, hcost, hAT, hBT, hlen, aa, bs, hA, hB, hT.symm⟩
theorem PshU.none {m x : Mc} {tot : Int} {T : Mc} {vs : List Int} (h : PshU m x tot T vs) (hz : T.1 < 0) (X Y : List Int) : (∀ c, ¬ Costs m X Y c) ∧ (∀ c, ¬ Costs x X Y c) ∧ tot = 0 := by
 refine ⟨fun c hc => ?_, fun c hc => ?_, ?_⟩
 ·have := ((h.costs X Y c).2 hc).1
  omega
 ·have h1 := hc.1
  rw [h.eqx] at h1
  simp only [pshM] at h1
  omega
 ·rw [h.eqt]; unfold pshT; rw [if_pos hz]
theorem PshU.len {m x : Mc} {tot : Int} {T : Mc} {vs : List Int} (h : PshU m x tot T vs) : x.2.length = T.2.length := by rw [h.eqx]; exact psh_length _ _
def lbs (l : List Ar) : List (Int × Int) := l.map fun a => (a.1, a.2.1)
def CrtL (l : List St) : Prop := ∀ s ∈ l, (lbs s.2).Nodup ∧ ((0, 0) : Int × Int) ∉ lbs s.2
theorem lbs_length (l : List Ar) : (lbs l).length = l.length := by simp [lbs]
theorem once_lbs {l : List Ar} : onceB l = true ↔ (lbs l).Nodup := by
 rw [onceB_iff, List.nodup_iff_pairwise_ne, List.pairwise_iff_getElem]
 constructor
 ·intro h i j hi hj hij e
  rw [lbs_length] at hi hj
  have h1 := h j hj i hij
  rw [← Bool.not_eq_true, pairB_iff, el_get hj, el_get hi] at h1
  simp only [lbs, List.getElem_map, Prod.mk.injEq] at e
  exact h1 ⟨e.1.symm, e.2.symm⟩
 ·intro h k hk j hj
  rw [← Bool.not_eq_true, pairB_iff]
  rintro ⟨e1, e2⟩
  rw [el_get hk, el_get (show j < l.length by omega)] at e1 e2
  refine h j k (by rw [lbs_length]; omega) (by rw [lbs_length]; omega) hj ?_
  simp only [lbs, List.getElem_map, Prod.mk.injEq]
  exact ⟨e1.symm, e2.symm⟩
theorem emp_lbs {l : List St} : empB l = false ↔ ∀ s ∈ l, ((0, 0) : Int × Int) ∉ lbs s.2 := by
 unfold empB
 rw [List.any_eq_false]
 refine forall_congr' fun s => forall_congr' fun hs => ?_
 rw [Bool.not_eq_true, List.any_eq_false]
 constructor
 ·intro h k
  obtain ⟨a, ha, e⟩ := List.mem_map.1 k
  simp only [Prod.mk.injEq] at e
  have := h a ha
  simp [e.1, e.2] at this
 ·intro h a ha k
  simp only [Bool.and_eq_true, decide_eq_true_eq] at k
  exact h (List.mem_map.2 ⟨a, ha, by rw [k.1, k.2]⟩)
theorem crt_iff {l : List St} : CrtL l ↔ empB l = false ∧ l.all (fun s => onceB s.2) = true := by
 rw [emp_lbs, List.all_eq_true]
 constructor
 ·exact fun h => ⟨fun s hs => (h s hs).2, fun s hs => once_lbs.2 (h s hs).1⟩
 ·exact fun h s hs => ⟨once_lbs.1 (h.2 s hs), h.1 s hs⟩
theorem lbs_trim (ks : List Int) (l : List Ar) : (lbs (trimA ks l)).Sublist (lbs l) := by
 have h1 : lbs (l.map (turnA ks)) = lbs l := by simp [lbs, turnA, Function.comp_def]
 rw [← h1]
 exact List.Sublist.map _ List.filter_sublist
theorem crt_trim {m : Mc} {aa bs : List Bool} (h : CrtL m.2) : CrtL (trmM m aa bs).2 := fun s hs => by
 simp only [trmM, trimM] at hs
 obtain ⟨x, hx, rfl⟩ := List.mem_map.1 hs
 obtain ⟨q, rfl, hq, _⟩ := keptL_mem hx
 simp only [trimS, Int.toNat_natCast]
 have h1 := h _ (el_mem hq)
 have h2 := lbs_trim (keptL aa bs m.2.length) (el m.2 q).2
 exact ⟨h1.1.sublist h2, fun k => h1.2 (h2.subset k)⟩
theorem crt_psh {l : List St} {vs : List Int} (h : CrtL l) : CrtL (pshL vs l) := fun s hs => by
 obtain ⟨q, hq, rfl⟩ := List.mem_map.1 hs
 rw [List.mem_range] at hq
 have h1 := h _ (el_mem hq)
 have h2 : lbs (pshS vs l q).2 = lbs (el l q).2 := by simp [lbs, pshS, pshA, Function.comp_def]
 rw [h2]
 exact h1
theorem crt_sort {m : Mc} (h : CrtL m.2) : CrtL (srtM m).2 := fun s hs => by
 simp only [srtM, mapM] at hs
 obtain ⟨x, hx, rfl⟩ := List.mem_map.1 hs
 have h1 := h x hx
 have h2 : (lbs (sortS false x.2)).Perm (lbs x.2) := (sortS_perm false x.2).map _
 exact ⟨h2.nodup_iff.2 h1.1, fun k => h1.2 (h2.mem_iff.1 k)⟩
structure SmlU (m x : Mc) (tot : Int) (p T : Mc) (vs : List Int) : Prop where
 psh : PshU m p tot T vs
 crt : CrtL (srtM p).2
 way : (p.1 < 0 ∧ p.2 = [] ∧ x = (p.1, []) ∧ tot = 0) ∨ (0 ≤ p.1 ∧ p.1.toNat < (srtM p).2.length ∧ ∃ f, FstC (srtM p).2 f ∧ lstA (srtM p).2 f p.1.toNat = (x, 0))
theorem sml_cheap {m x : Mc} {tot ec : Int} (hf : faultM m = 0) (h9 : CheapL m.2) (hc : CrtL m.2) (h : SmlAns m x tot ec) : ec = 0 ∧ ∃ p T vs, SmlU m x tot p T vs := by
 obtain ⟨c1, c2⟩ := crt_iff.1 hc
 rcases h with ⟨h0, _⟩ | ⟨_, h4, _⟩ | ⟨_, _, h5, _⟩ | ⟨_, _, _, p, s, g, hP, h⟩
 ·exact absurd hf h0
 ·rw [c1] at h4; cases h4
 ·rw [c2] at h5; cases h5
 ·obtain ⟨rfl, T, vs, hU⟩ := psh_cheap hf h9 hP
  obtain ⟨aa, bs, _, _, hT⟩ := hU.certT
  have hcp : CrtL (srtM p).2 := crt_sort (by rw [hU.eqx]; exact crt_psh (by rw [hT]; exact crt_trim hc))
  have hp1 : p.1 = T.1 := by rw [hU.eqx]; rfl
  rcases h with ⟨a0, _⟩ | ⟨_, az, a1, a2, a3⟩ | ⟨_, az, hl, a2, a3⟩
  ·exact absurd rfl a0
  ·have hz : T.1 < 0 := by omega
   have hnil : p.2 = [] := List.eq_nil_of_length_eq_zero (by rw [hU.len]; exact hU.start.1 hz)
   have hs0 : s = 0 := (hU.none hz [] []).2.2
   refine ⟨a3, p, T, vs, ?_, hcp, .inl ⟨az, hnil, ?_, a2⟩⟩
   ·rw [a2, ← hs0]; exact hU
   ·rw [a1]; simp [srtM, mapM, hnil]
  ·subst a2
   refine ⟨a3, p, T, vs, hU, hcp, .inr ⟨az, ?_, hl⟩⟩
   have := (right_parts hU.rightx).1.2
   rw [srt_len]
   omega
theorem SmlU.right {m x : Mc} {tot : Int} {p T : Mc} {vs : List Int} (h : SmlU m x tot p T vs) : faultM x = 0 := by
 rcases h.way with ⟨_, h2, h3, _⟩ | ⟨_, h2, f, hf, hl⟩
 ·have := h.psh.rightx
  obtain ⟨a, b⟩ := p
  simp only at h2 h3
  rw [h3, ← h2]; exact this
 ·exact (lst_right (z := p.1) (l := (srtM p).2) (srt_right h.psh.rightx) hf h2 hl).1
theorem made_ge (r : Int × List (Int × Bool × List Ar)) (k : Nat) (full : Bool) (h0 : 0 < k) : 0 ≤ (madeM r k full).1 := by
 show 0 ≤ pkR r.1 (sizeM r k)
 have hs : 0 < sizeM r k := by
  unfold sizeM
  omega
 exact (pkR_bd r.1 _ (by omega)).1
end Go.Proofs.YtfhjncpakgailaaGreatDoor.Pl
namespace Go.Proofs.YtfhjncpakgailaaGreatDoor.Pl
set_option linter.unusedVariables false
theorem noEmp_empB {l : List St} (h : NoEmp l) : empB l = false := by
 unfold empB
 rw [List.any_eq_false]
 intro s hs
 rw [Bool.not_eq_true, List.any_eq_false]
 intro a ha
 obtain ⟨q, hq, rfl⟩ := mem_el hs
 have h9 := h q hq a ha
 unfold empA at h9
 simpa using h9
end Go.Proofs.YtfhjncpakgailaaGreatDoor.Pl
