/- Made machines, pushed and pulled (no program in sight). -/
import Derived.Test.YteaafghmkkejfaaJ15u
import Derived.Test.YteaafghmkkejfaaJ15t
import Derived.Test.YteaafghmkkejfaaPlainWp
namespace Go.Proofs.Yteaafghmkkejfaa.Pl
set_option linter.unusedVariables false
set_option linter.unusedSimpArgs false
theorem trim_nine {m : Mc} {aa bs : List Bool} (h : NineL m.2) : NineL (trmM m aa bs).2 := fun s hs => by
  simp only [trmM, trimM] at hs
  obtain ⟨x, hx, rfl⟩ := List.mem_map.1 hs
  simp only [trimS]
  have hq : (∃ q : Nat, x = (q : Int) ∧ q < m.2.length) := by
    simp only [keptL] at hx
    obtain ⟨q, hq, rfl⟩ := List.mem_map.1 hx
    exact ⟨q, rfl, List.mem_range.1 (List.mem_filter.1 hq).1⟩
  obtain ⟨q, rfl, hq⟩ := hq
  rw [Int.toNat_natCast]
  have h1 := h (el m.2 q) (el_mem hq)
  refine ⟨h1.1, fun a ha => ?_⟩
  obtain ⟨d, hd, rfl, _⟩ := trimA_mem ha
  exact h1.2 d hd
theorem nine_end {m : Mc} (hf : faultM m = 0) (h9 : NineL m.2) (h8 : m.2.length ≤ 8) {q c : Nat} (hq : q < m.2.length) (h : EndC m.2 q c) : ∃ d, d ≤ c ∧ d ≤ 90 ∧ EndC m.2 q d := by
  obtain ⟨n, p, d, hr, hp, hn, rfl⟩ := h
  obtain ⟨n', d', hn', hd, hr'⟩ := hr.cheap (N := m.2.length) hq (fun k w j e => (arcE_small hf e).1)
  have h1 := hr'.cost (W := 9) (fun k w j e => by
    obtain ⟨a, ha, _, rfl⟩ := e
    have := (h9 _ (el_mem (el_in ha))).2 a ha
    omega)
  have h2 := (h9 _ (el_mem hp)).1 hn
  have h3 : n' * 9 ≤ 8 * 9 := Nat.mul_le_mul_right _ (by omega)
  exact ⟨d' + (el m.2 p).1.toNat, by omega, by omega, n', p, d', hr', hp, hn, rfl⟩
/-- What is known of a made machine, pushed. -/
structure PshM (m x : Mc) (tot : Int) (T : Mc) (vs : List Int) : Prop where
  eqx : x = pshM vs T
  eqt : tot = pshT vs T
  pot : Pot T.2 vs
  least : ∀ q, q < T.2.length → LeastP (EndC T.2 q) (el vs q).toNat
  right : faultM T = 0
  rightx : faultM x = 0
  cheapx : CheapL x.2
  low : ∀ q, q < T.2.length → 0 ≤ el vs q ∧ el vs q ≤ 90
  start : T.1 < 0 ↔ T.2.length = 0
  stays : ∀ a b, Least (AheadC T.1 T.2) T.2.length a → Least (BackC T.2) T.2.length b → trmM T a b = T
  costs : ∀ X Y c, Costs T X Y c ↔ Costs m X Y c
  fin9 : ∀ s ∈ x.2, s.1 ≠ 1000000001 → s.1 ≤ 9
  allA : ∀ a, Least (AheadC T.1 T.2) T.2.length a → a = List.replicate T.2.length true
  allB : ∀ b, Least (BackC T.2) T.2.length b → b = List.replicate T.2.length true
theorem nine_over {T : Mc} {vs : List Int} (hf : faultM T = 0) (h9 : NineL T.2) (hP : Pot T.2 vs) (hlow : ∀ q, q < T.2.length → 0 ≤ el vs q ∧ el vs q ≤ 90) {q : Nat} (hq : q < T.2.length) {a : Ar} (ha : a ∈ (el T.2 q).2) : (pshA vs q a).2.2.1 ≤ 99 := by
  obtain ⟨t, e1, e2, e3, e4⟩ := hP.arc q hq a ha
  have h1 := (h9 _ (el_mem hq)).2 a ha
  have h2 := hlow t e2
  have h3 := hlow q hq
  simp only [pshA]
  rw [e1, Int.toNat_natCast]
  omega
theorem psh_made {m x : Mc} {tot ec : Int} (hf : faultM m = 0) (h9 : NineL m.2) (h8 : m.2.length ≤ 8) (h : PshAns m x tot ec) : ec = 0 ∧ ∃ T vs, PshM m x tot T vs := by
  obtain ⟨z, l⟩ := m
  rcases h with ⟨h0, _⟩ | ⟨_, aa, bs, vs, e, hA, hB, hD, h⟩
  · exact absurd hf h0
  · obtain ⟨tz, tl, hT, hfT, hAT, hBT, hST, hz, hlen⟩ := trimmed_facts hf hA hB
    have hT' : trmM (z, l) aa bs = (tz, tl) := hT
    have h9T : NineL tl := by have := trim_nine (m := (z, l)) (aa := aa) (bs := bs) h9; rw [hT'] at this; exact this
    have hcost : ∀ X Y c, Costs (tz, tl) X Y c ↔ Costs (z, l) X Y c := fun X Y c => by have := costs_trim hf hA hB X Y c; rw [hT] at this; exact this
    rw [hT'] at hD h
    have h8T : tl.length ≤ 8 := Nat.le_trans hlen h8
    obtain ⟨b0, hb0⟩ : ∃ b, Least (BackC tl) tl.length b := by
      have := trim_all_back hf hA hB
      have e9 : tl = (keptL aa bs l.length).map (trimS l (keptL aa bs l.length)) := by have := congrArg Prod.snd hT; exact this.symm
      rw [e9, List.length_map]
      exact ⟨_, this⟩
    have hall : ∀ q, q < tl.length → ∃ c, EndC tl q c := fun q hq => end_all (m := (tz, tl)) hfT hb0 hq (by rw [hBT b0 hb0]; exact el_true.2 hq)
    have he : e = 0 := by
      rcases hD with ⟨k0, _⟩ | ⟨_, ⟨k, _⟩ | ⟨_, _, q, hq, hw⟩⟩
      · exact absurd hfT k0
      · exact k
      · exfalso
        obtain ⟨c, hc⟩ := hall q hq
        obtain ⟨d, _, hd, hd2⟩ := nine_end (m := (tz, tl)) hfT h9T h8T hq hc
        rcases hw with ⟨k, _⟩ | ⟨c', hc', ⟨_, _, k⟩ | ⟨k, _⟩⟩
        · exact k c hc
        · cases k
        · have := hc'.2 d hd2
          omega
    subst he
    obtain ⟨hP, hL⟩ := pot_of (m := (tz, tl)) hfT hall hD
    have hlow : ∀ q, q < tl.length → 0 ≤ el vs q ∧ el vs q ≤ 90 := fun q hq => by
      obtain ⟨c, hc⟩ := hall q hq
      obtain ⟨d, _, hd, hd2⟩ := nine_end (m := (tz, tl)) hfT h9T h8T hq hc
      have h1 := (hL q hq).2 d hd2
      have h2 := (hP.nn q hq).1
      omega
    have hO : pshO vs tl = false := by
      unfold pshO
      rw [List.any_eq_false]
      intro q hq
      rw [List.mem_range] at hq
      rw [Bool.not_eq_true, List.any_eq_false]
      intro a ha
      have := nine_over (T := (tz, tl)) hfT h9T hP hlow hq ha
      simp; omega
    rcases h with ⟨k, _⟩ | ⟨_, k, _⟩ | ⟨_, _, hx, ht, hec⟩
    · exact absurd rfl k
    · simp only at k; rw [hO] at k; cases k
    · refine ⟨hec, (tz, tl), vs, hx, ht, hP, hL, hfT, by rw [hx]; exact psh_right (m := (tz, tl)) hfT hP hO, ?_, hlow, hz, fun a b ha hb => hST a b ha hb, hcost, ?_, hAT, hBT⟩
      rotate_left
      · rw [hx]
        intro s hs hn
        simp only [pshM, pshL] at hs
        obtain ⟨q, hq, rfl⟩ := List.mem_map.1 hs
        rw [List.mem_range] at hq
        simp only [pshS, pshF] at hn ⊢
        by_cases g : (el tl q).1 = 1000000001
        · rw [if_pos g] at hn; exact absurd rfl hn
        · rw [if_neg g]
          have h1 := (h9T _ (el_mem hq)).1 g
          have h2 := hlow q hq
          omega
      rw [hx]
      intro s hs
      simp only [pshM, pshL] at hs
      obtain ⟨q, hq, rfl⟩ := List.mem_map.1 hs
      rw [List.mem_range] at hq
      refine ⟨fun hn => ?_, fun a ha => ?_⟩
      · simp only [pshS, pshF] at hn ⊢
        by_cases g : (el tl q).1 = 1000000001
        · rw [if_pos g] at hn; exact absurd rfl hn
        · rw [if_neg g]
          have h1 := (h9T _ (el_mem hq)).1 g
          have h2 := hlow q hq
          omega
      · simp only [pshS] at ha
        obtain ⟨b, hb, rfl⟩ := List.mem_map.1 ha
        have := nine_over (T := (tz, tl)) hfT h9T hP hlow hq hb
        omega
/-! Costs, ends, once more. -/
theorem CstIs.shift {P Q : Nat → Prop} {a b t : Int} (hP : CstIs P a) (hQ : CstIs Q b) (ht : 0 ≤ t) (hs : t ≤ 1000) (h : ∀ c, Q c ↔ ∃ d, P d ∧ (d : Int) = (c : Int) + t) (hge : ∀ d, P d → t ≤ (d : Int)) : a = bothI t b := by
  have hb : ∀ c, Q c → P (c + t.toNat) := fun c hc => by
    obtain ⟨d, hd, e⟩ := (h c).1 hc
    rwa [show c + t.toNat = d by omega]
  have ha : ∀ d, P d → Q (d - t.toNat) := fun d hd => (h _).2 ⟨d, hd, by have := hge d hd; omega⟩
  unfold bothI
  rcases hQ with ⟨rfl, hQ⟩ | ⟨c, hc, hcb, rfl⟩
  · rw [if_pos (.inr rfl)]
    rcases hP with ⟨rfl, _⟩ | ⟨d, hd, _⟩
    · rfl
    · exact absurd (ha d hd.1) (hQ _)
  · rw [if_neg (by omega)]
    rcases hP with ⟨rfl, hP⟩ | ⟨d, hd, _, rfl⟩
    · exact absurd (hb c hc.1) (hP _)
    · have h1 := hd.2 _ (hb c hc.1)
      have h2 := hc.2 _ (ha d hd.1)
      have h3 := hge d hd.1
      omega
theorem PshM.none {m x : Mc} {tot : Int} {T : Mc} {vs : List Int} (h : PshM m x tot T vs) (hz : T.1 < 0) (X Y : List Int) : (∀ c, ¬ Costs m X Y c) ∧ (∀ c, ¬ Costs x X Y c) ∧ tot = 0 := by
  refine ⟨fun c hc => ?_, fun c hc => ?_, ?_⟩
  · have := ((h.costs X Y c).2 hc).1
    omega
  · have h1 := hc.1
    rw [h.eqx] at h1
    simp only [pshM] at h1
    omega
  · rw [h.eqt]; unfold pshT; rw [if_pos hz]
theorem PshM.tot_rng {m x : Mc} {tot : Int} {T : Mc} {vs : List Int} (h : PshM m x tot T vs) : 0 ≤ tot ∧ tot ≤ 90 := by
  rw [h.eqt]
  unfold pshT
  split
  · omega
  · have h1 := (right_parts h.right).1
    exact h.low _ (by omega)
/-- Pushed, each pair of words costs the total less. -/
theorem PshM.both {m x : Mc} {tot : Int} {T : Mc} {vs : List Int} (h : PshM m x tot T vs) {X Y : List Int} {a b : Int} (ha : CstIs (Costs m X Y) a) (hb : CstIs (Costs x X Y) b) : a = bothI tot b := by
  have hr := h.tot_rng
  by_cases hz : T.1 < 0
  · obtain ⟨h1, h2, h3⟩ := h.none hz X Y
    refine ha.shift hb hr.1 (by omega) (fun c => ⟨fun k => absurd k (h2 c), fun ⟨d, k, _⟩ => absurd k (h1 d)⟩) (fun d k => absurd k (h1 d))
  · obtain ⟨tz, tl⟩ := T
    obtain ⟨z, hz0⟩ : ∃ z : Nat, tz = (z : Int) := ⟨tz.toNat, by simp only at hz; omega⟩
    subst hz0
    have hzl : z < tl.length := by have := (right_parts h.right).1.2; simp only at this; omega
    have htot : tot = el vs z := by rw [h.eqt]; unfold pshT; rw [if_neg hz]; simp
    have hc := fun c => h.pot.costs hzl X Y c
    refine ha.shift hb hr.1 (by omega) (fun c => ?_) (fun d hd => ?_)
    · rw [h.eqx, hc c, htot]
      exact ⟨fun ⟨d, k1, k2⟩ => ⟨d, (h.costs X Y d).1 k1, k2⟩, fun ⟨d, k1, k2⟩ => ⟨d, (h.costs X Y d).2 k1, k2⟩⟩
    · obtain ⟨_, p, d0, hw, hp, hn, e⟩ := (h.costs X Y d).2 hd
      have hw' : Way tl z X Y p d0 := by simpa using hw
      obtain ⟨_, c', _, h2⟩ := h.pot.way hzl hw'
      have h3 := h.pot.fin p hp hn
      have h4 := h.pot.nn p hp
      simp only at e h3 h4
      omega
/-- Pulled, it costs what it cost. -/
theorem pul_costs (total : Int) (h0 : 0 ≤ total) {m : Mc} (hf : faultM m = 0) (hO : pulO total m.2 = false) (X Y : List Int) (c : Nat) : Costs (pulM total m) X Y c ↔ ∃ d, Costs m X Y d ∧ (c : Int) = (d : Int) + total := by
  have hl : (pulM total m).2.length = m.2.length := by simp [pulM]
  have hel : ∀ p, p < m.2.length → el (pulM total m).2 p = (pulF total (el m.2 p).1, (el m.2 p).2) := fun p hp => by simp only [pulM]; rw [el_map hp]
  have hway : ∀ {q p d : Nat} {u v : List Int}, Way (pulM total m).2 q u v p d ↔ Way m.2 q u v p d := fun {q p d u v} => by
    have hmem : ∀ (k : Nat) (a : Ar), a ∈ (el (pulM total m).2 k).2 ↔ a ∈ (el m.2 k).2 := fun k a => by
      rcases Nat.lt_or_ge k m.2.length with g | g
      · rw [hel k g]
      · have e1 : el (pulM total m).2 k = default := by simp [el, hl, g]
        have e2 : el m.2 k = default := by simp [el, g]
        rw [e1, e2]
    constructor
    · intro h
      induction h with
      | nil => exact .nil
      | snoc h ha ht ih => exact ih.snoc ((hmem _ _).1 ha) ht
    · intro h
      induction h with
      | nil => exact .nil
      | snoc h ha ht ih => exact ih.snoc ((hmem _ _).2 ha) ht
  have hno : ∀ p, p < m.2.length → (el m.2 p).1 ≠ 1000000001 → 0 ≤ (el m.2 p).1 ∧ (el m.2 p).1 + total ≤ 1000000000 := fun p hp hn => by
    unfold pulO at hO
    rw [List.any_eq_false] at hO
    have h1 := hO _ (el_mem hp)
    have h2 := (fin_small hf hp hn).1
    simp [hn] at h1
    omega
  constructor
  · rintro ⟨hz, p, d, hw, hp, hn, rfl⟩
    rw [hl] at hp
    rw [hel p hp] at hn ⊢
    simp only [pulF] at hn ⊢
    by_cases g : (el m.2 p).1 = 1000000001
    · rw [if_pos g] at hn; exact absurd rfl hn
    · rw [if_neg g]
      have := hno p hp g
      exact ⟨d + (el m.2 p).1.toNat, ⟨hz, p, d, hway.1 hw, hp, g, rfl⟩, by omega⟩
  · rintro ⟨e, ⟨hz, p, d, hw, hp, hn, rfl⟩, he⟩
    have := hno p hp hn
    refine ⟨hz, p, d, hway.2 hw, by rw [hl]; exact hp, ?_, ?_⟩
    · rw [hel p hp]
      simp only [pulF, if_neg hn]
      omega
    · rw [hel p hp]
      simp only [pulF, if_neg hn]
      omega
/-- A pushed machine stays where it is trimmed. -/
theorem PshM.trim {m x : Mc} {tot : Int} {T : Mc} {vs : List Int} (h : PshM m x tot T vs) {aa bs : List Bool} (hA : Least (AheadC x.1 x.2) x.2.length aa) (hB : Least (BackC x.2) x.2.length bs) : trmM x aa bs = x := by
  have hx := h.eqx
  have h1 : aa = List.replicate T.2.length true := h.allA aa (by rw [hx] at hA; exact psh_ahead.1 hA)
  have h2 : bs = List.replicate T.2.length true := h.allB bs (by rw [hx] at hB; exact (psh_back h.pot).1 hB)
  have hl : x.2.length = T.2.length := by rw [hx]; exact psh_length _ _
  rw [h1, h2, ← hl]
  obtain ⟨z, l⟩ := x
  exact trim_all h.rightx
theorem pul_made {m x : Mc} {tot : Int} {T : Mc} {vs : List Int} (h : PshM m x tot T vs) {y : Mc} {f : Int} (hp : PulAns x tot y f) : f = 0 ∧ y = pulM tot x ∧ pulO tot x.2 = false ∧ faultM y = 0 ∧ CheapL y.2 := by
  have ht := h.tot_rng
  have hO : pulO tot x.2 = false := by
    unfold pulO
    rw [List.any_eq_false]
    intro s hs
    have h1 := (h.cheapx s hs).1
    simp
    intro hn
    have := h1 hn
    omega
  rcases hp with ⟨k, _⟩ | ⟨_, k, _⟩ | ⟨_, _, aa, bs, hA, hB, ⟨k, _⟩ | ⟨_, hy, hf⟩⟩
  · exact absurd h.rightx k
  · simp [inB] at k; omega
  · rw [h.trim hA hB, hO] at k; cases k
  · rw [h.trim hA hB] at hy
    refine ⟨hf, hy, hO, ?_, ?_⟩
    · rw [hy]
      obtain ⟨h1, h2⟩ := faultM_zero h.rightx
      have harc : ∀ l : List St, arcN (l.map fun s => (pulF tot s.1, s.2)) = arcN l := fun l => by
        induction l with
        | nil => rfl
        | cons s l ih => simp [arcN, ih]
      refine faultM_ok ?_ ?_
      · simp only [sizeB, pulM, List.length_map, harc] at h1 ⊢
        exact h1
      · simp only [rangeB, pulM, List.length_map, Bool.and_eq_true, List.all_eq_true, List.mem_map] at h2 ⊢
        refine ⟨h2.1, ?_⟩
        rintro s ⟨s0, hs0, rfl⟩
        have h3 := h2.2 s0 hs0
        simp only [stB, Bool.and_eq_true] at h3 ⊢
        refine ⟨?_, h3.2⟩
        have h4 := (h.cheapx s0 hs0).1
        have h5 := h3.1
        simp only [pulF]
        by_cases g : s0.1 = 1000000001
        · rw [if_pos g]; rfl
        · rw [if_neg g]
          have := h4 g
          simp [finB, inB] at h5 ⊢
          omega
    · rw [hy]
      intro s hs
      simp only [pulM, List.mem_map] at hs
      obtain ⟨s0, hs0, rfl⟩ := hs
      obtain ⟨h4, h5⟩ := h.cheapx s0 hs0
      refine ⟨fun hn => ?_, h5⟩
      simp only [pulF] at hn ⊢
      by_cases g : s0.1 = 1000000001
      · rw [if_pos g] at hn; exact absurd rfl hn
      · rw [if_neg g]
        have := h.fin9 s0 hs0 g
        omega
/-- Pulled, each pair of words costs what it cost. -/
theorem PshM.pulled {m x : Mc} {tot : Int} {T : Mc} {vs : List Int} (h : PshM m x tot T vs) {X Y : List Int} {a b c : Int} (ha : CstIs (Costs m X Y) a) (hb : CstIs (Costs x X Y) b) (hO : pulO tot x.2 = false) (hc : CstIs (Costs (pulM tot x) X Y) c) : c = a := by
  have hr := h.tot_rng
  rw [h.both ha hb]
  refine hc.shift hb hr.1 (by omega) (fun d => ?_) (fun d hd => ?_)
  · constructor
    · intro k
      exact ⟨d + tot.toNat, (pul_costs tot hr.1 h.rightx hO X Y _).2 ⟨d, k, by omega⟩, by omega⟩
    · rintro ⟨e, k, he⟩
      obtain ⟨d', k', e'⟩ := (pul_costs tot hr.1 h.rightx hO X Y e).1 k
      rwa [show d = d' by omega]
  · obtain ⟨d', _, e'⟩ := (pul_costs tot hr.1 h.rightx hO X Y d).1 hd
    omega
theorem made_begin (r : Int × List (Int × Bool × List Ar)) (k : Nat) (full : Bool) (h0 : 0 < k) : 0 ≤ (madeM r k full).1 := by
  show 0 ≤ pkR r.1 (sizeM r k)
  have hs : 0 < sizeM r k := by
    unfold sizeM
    omega
  exact (pkR_bd r.1 _ (by omega)).1
theorem cst_top {P : Nat → Prop} {n : Int} (h : CstIs P n) : 0 ≤ n ∧ n ≤ 1000000001 := by
  rcases h with ⟨rfl, _⟩ | ⟨c, _, hc, rfl⟩
  · simp
  · omega
/-- Where Start may end something is left. -/
theorem PshM.some {m x : Mc} {tot : Int} {T : Mc} {vs : List Int} (h : PshM m x tot T vs) (hz : 0 ≤ m.1) (hm : m.1.toNat < m.2.length) (hn : (el m.2 m.1.toNat).1 ≠ 1000000001) : 0 < x.2.length := by
  have h1 : Costs m [] [] (0 + (el m.2 m.1.toNat).1.toNat) := ⟨hz, m.1.toNat, 0, .nil, hm, hn, rfl⟩
  have h2 := ((h.costs _ _ _).2 h1).1
  have h3 : ¬ T.2.length = 0 := fun e => by have := h.start.2 e; omega
  rw [h.eqx]
  simp only [pshM]
  rw [psh_length]
  omega
end Go.Proofs.Yteaafghmkkejfaa.Pl
