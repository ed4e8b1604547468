/- What changes no cost: arcs in another order, lighter ones alone, labels exchanged (no program in sight). -/
import Derived.Test.YtpfcljhbamnghabJ12t
import Derived.Test.YtpfcljhbamnghabJ12k
namespace Go.Proofs.Ytpfcljhbamnghab.Pl
set_option linter.unusedVariables false
set_option linter.unusedSimpArgs false
/-- One side has less, but never what is dearer alone. -/
theorem CstIs.sub {P Q : Nat → Prop} {a b : Int} (h : CstIs P a) (k : CstIs Q b) (h1 : ∀ c, P c → Q c) (h2 : ∀ c, Q c → ∃ d, d ≤ c ∧ P d) : a = b := by
  rcases h with ⟨rfl, h⟩ | ⟨c, hc, _, rfl⟩ <;> rcases k with ⟨rfl, k⟩ | ⟨d, hd, _, rfl⟩
  · rfl
  · obtain ⟨e, _, he⟩ := h2 d hd.1
    exact absurd he (h e)
  · exact absurd (h1 c hc.1) (k c)
  · obtain ⟨e, hle, he⟩ := h2 d hd.1
    have e1 := hc.2 e he
    have e2 := hd.2 c (h1 c hc.1)
    omega
theorem way_sub {l l' : List St} (h : ∀ q a, a ∈ (el l q).2 → a ∈ (el l' q).2) {q p c : Nat} {u v : List Int} (hw : Way l q u v p c) : Way l' q u v p c := by
  induction hw with
  | nil => exact .nil
  | snoc hw ha ht ih => exact ih.snoc (h _ _ ha) ht
/-- The same arcs, in whatever order. -/
theorem costs_same {m m' : Mc} (hz : m.1 = m'.1) (hl : m.2.length = m'.2.length) (hf : ∀ q, q < m.2.length → (el m.2 q).1 = (el m'.2 q).1) (ha : ∀ q a, a ∈ (el m.2 q).2 ↔ a ∈ (el m'.2 q).2) (x y : List Int) (c : Nat) : Costs m x y c ↔ Costs m' x y c := by
  constructor
  · rintro ⟨h0, p, d, hw, hp, hn, rfl⟩
    rw [hz] at h0 hw
    exact ⟨h0, p, d, way_sub (fun q a => (ha q a).1) hw, by omega, by rw [← hf p hp]; exact hn, by rw [hf p hp]⟩
  · rintro ⟨h0, p, d, hw, hp, hn, rfl⟩
    rw [← hz] at h0 hw
    have hp' : p < m.2.length := by omega
    exact ⟨h0, p, d, way_sub (fun q a => (ha q a).2) hw, hp', by rw [hf p hp']; exact hn, by rw [hf p hp']⟩
/-- Of each arc one that is alike and no heavier. -/
theorem way_light {l l' : List St} (h : ∀ q a, a ∈ (el l q).2 → ∃ b ∈ (el l' q).2, b.1 = a.1 ∧ b.2.1 = a.2.1 ∧ b.2.2.2 = a.2.2.2 ∧ b.2.2.1 ≤ a.2.2.1) {q p c : Nat} {u v : List Int} (hw : Way l q u v p c) : ∃ d, d ≤ c ∧ Way l' q u v p d := by
  induction hw with
  | nil => exact ⟨0, Nat.le_refl _, .nil⟩
  | snoc hw ha ht ih =>
    obtain ⟨d, hd, hw'⟩ := ih
    obtain ⟨b, hb, e1, e2, e3, e4⟩ := h _ _ ha
    have := hw'.snoc hb (by rw [e3]; exact ht)
    rw [e1, e2] at this
    exact ⟨_, by omega, this⟩
theorem costs_light {m m' : Mc} (hz : m.1 = m'.1) (hl : m.2.length = m'.2.length) (hf : ∀ q, q < m.2.length → (el m.2 q).1 = (el m'.2 q).1) (hs : ∀ q a, a ∈ (el m'.2 q).2 → a ∈ (el m.2 q).2) (h : ∀ q a, a ∈ (el m.2 q).2 → ∃ b ∈ (el m'.2 q).2, b.1 = a.1 ∧ b.2.1 = a.2.1 ∧ b.2.2.2 = a.2.2.2 ∧ b.2.2.1 ≤ a.2.2.1) (x y : List Int) :
    (∀ c, Costs m' x y c → Costs m x y c) ∧ ∀ c, Costs m x y c → ∃ d, d ≤ c ∧ Costs m' x y d := by
  constructor
  · rintro c ⟨h0, p, d, hw, hp, hn, rfl⟩
    rw [← hz] at h0 hw
    have hp' : p < m.2.length := by omega
    exact ⟨h0, p, d, way_sub hs hw, hp', by rw [hf p hp']; exact hn, by rw [hf p hp']⟩
  · rintro c ⟨h0, p, d, hw, hp, hn, rfl⟩
    rw [hz] at h0 hw
    obtain ⟨e, he, hw'⟩ := way_light h hw
    exact ⟨e + (el m.2 p).1.toNat, by omega, h0, p, e, hw', by omega, by rw [← hf p hp]; exact hn, by rw [hf p hp]⟩
/-- What is read changed, label by label. -/
theorem way_rel {l l' : List St} {f : Int → Int} (h0 : ∀ a, f a = 0 ↔ a = 0) (h : ∀ q a, a ∈ (el l q).2 → (f a.1, a.2.1, a.2.2.1, a.2.2.2) ∈ (el l' q).2) {q p c : Nat} {u v : List Int} (hw : Way l q u v p c) : Way l' q (u.map f) v p c := by
  induction hw with
  | nil => exact .nil
  | snoc hw ha ht ih =>
    rename_i u v p c a t
    have hl : (lab a.1).map f = lab (f a.1) := by
      unfold lab
      by_cases e : a.1 = 0
      · rw [if_pos e, if_pos ((h0 _).2 e)]; rfl
      · rw [if_neg e, if_neg (fun g => e ((h0 _).1 g))]; rfl
    rw [List.map_append, hl]
    exact ih.snoc (h _ _ ha) ht
/-- Labels exchanged. -/
def swF (a : Int) : Int := if a = 1 then 2 else if a = 2 then 1 else a
theorem swF_zero (a : Int) : swF a = 0 ↔ a = 0 := by
  unfold swF
  by_cases h1 : a = 1
  · simp [h1]
  · by_cases h2 : a = 2
    · simp [h2]
    · simp [h1, h2]
theorem swF_two (a : Int) : swF (swF a) = a := by
  unfold swF
  by_cases h1 : a = 1
  · simp [h1]
  · by_cases h2 : a = 2
    · simp [h2]
    · simp [h1, h2]
def swM (m : Mc) : Mc := (m.1, m.2.map fun s => (s.1, s.2.map fun a => (swF a.1, a.2.1, a.2.2.1, a.2.2.2)))
theorem sw_el {m : Mc} {q : Nat} (hq : q < m.2.length) : el (swM m).2 q = ((el m.2 q).1, (el m.2 q).2.map fun a => (swF a.1, a.2.1, a.2.2.1, a.2.2.2)) := el_map hq _
theorem sw_mem {m : Mc} {q : Nat} {a : Ar} (h : a ∈ (el m.2 q).2) : (swF a.1, a.2.1, a.2.2.1, a.2.2.2) ∈ (el (swM m).2 q).2 := by
  rw [sw_el (el_in h)]
  exact List.mem_map_of_mem (f := fun a : Ar => (swF a.1, a.2.1, a.2.2.1, a.2.2.2)) h
theorem sw_mem' {m : Mc} {q : Nat} {a : Ar} (h : a ∈ (el (swM m).2 q).2) : (swF a.1, a.2.1, a.2.2.1, a.2.2.2) ∈ (el m.2 q).2 := by
  have hq := el_in h
  have hq' : q < m.2.length := by simpa [swM] using hq
  rw [sw_el hq', List.mem_map] at h
  obtain ⟨b, hb, rfl⟩ := h
  obtain ⟨p0, p1, p2, p3⟩ := b
  simp only [swF_two]
  exact hb
theorem map_sw (l : List Int) : (l.map swF).map swF = l := by
  rw [List.map_map]
  exact List.map_id'' (fun a => swF_two a) l
theorem costs_sw (m : Mc) (x y : List Int) (c : Nat) : Costs (swM m) (x.map swF) y c ↔ Costs m x y c := by
  have hlen : (swM m).2.length = m.2.length := by simp [swM]
  constructor
  · rintro ⟨h0, p, d, hw, hp, hn, rfl⟩
    have h1 := way_rel swF_zero (fun q a ha => sw_mem' ha) hw
    rw [map_sw] at h1
    have hp' : p < m.2.length := by omega
    rw [sw_el hp'] at hn ⊢
    exact ⟨h0, p, d, h1, hp', hn, rfl⟩
  · rintro ⟨h0, p, d, hw, hp, hn, rfl⟩
    have h1 := way_rel swF_zero (fun q a ha => sw_mem ha) hw
    refine ⟨h0, p, d, h1, by omega, ?_, ?_⟩
    · rw [sw_el hp]; exact hn
    · rw [sw_el hp]
theorem sw_cheap {m : Mc} (h : CheapL m.2) : CheapL (swM m).2 := fun s hs => by
  simp only [swM, List.mem_map] at hs
  obtain ⟨t, ht, rfl⟩ := hs
  refine ⟨(h t ht).1, fun a ha => ?_⟩
  simp only [List.mem_map] at ha
  obtain ⟨b, hb, rfl⟩ := ha
  exact (h t ht).2 b hb
theorem rel_sw (m : Mc) : relM [(1, 2), (2, 1)] [] m = swM m := by
  unfold relM swM
  refine congrArg (Prod.mk m.1) (List.map_congr_left fun s hs => ?_)
  unfold relS
  refine congrArg (Prod.mk s.1) (List.map_congr_left fun a ha => ?_)
  unfold relA swF
  simp only [chgF, eq_comm]
theorem sw_right {m : Mc} (h : faultM m = 0) : faultM (swM m) = 0 := by
  have hlen : (swM m).2.length = m.2.length := by simp [swM]
  have harc : arcN (swM m).2 = arcN m.2 := by rw [← rel_sw]; exact arcN_rel _ _ _
  obtain ⟨h1, h2⟩ := right_parts h
  have h3 := right_size (z := m.1) (l := m.2) h
  refine faultM_ok (by simp only [sizeB, Bool.and_eq_true, decide_eq_true_eq]; omega) ?_
  unfold rangeB
  rw [hlen]
  simp only [Bool.and_eq_true, inB, decide_eq_true_eq, List.all_eq_true]
  refine ⟨h1, fun s hs => ?_⟩
  simp only [swM, List.mem_map] at hs
  obtain ⟨t, ht, rfl⟩ := hs
  have h4 := h2 t ht
  simp only [stB, Bool.and_eq_true, List.all_eq_true] at h4 ⊢
  refine ⟨h4.1, fun a ha => ?_⟩
  rw [List.mem_map] at ha
  obtain ⟨b, hb, rfl⟩ := ha
  have h5 := h4.2 b hb
  simp only [arcB, inB, Bool.and_eq_true, decide_eq_true_eq] at h5 ⊢
  refine ⟨⟨⟨?_, h5.1.1.2⟩, h5.1.2⟩, h5.2⟩
  unfold swF
  split
  · omega
  · split <;> omega
/-- Words with the labels exchanged: 3 less the label. -/
theorem sw_word {l : List Int} (h : ∀ n ∈ l, n = 1 ∨ n = 2) : l.map swF = l.map (fun n => 3 - n) := List.map_congr_left fun n hn => by
  rcases h n hn with rfl | rfl <;> rfl
theorem sw_flt : fltC [(1, 2), (2, 1)] = 0 ∧ fltC [] = 0 := by decide
end Go.Proofs.Ytpfcljhbamnghab.Pl
