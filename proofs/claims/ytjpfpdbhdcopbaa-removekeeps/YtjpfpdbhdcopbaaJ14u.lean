/- Labels changed for others (no program in sight). What changes no cost: arcs in another order, lighter ones alone, labels exchanged (no program in sight). Without empty arcs it costs the same (no program in sight). What a machine without empty arcs is like; there nothing happens but that arcs are merged (no program in sight). Where there are no empty arcs nothing happens but that arcs are merged; merged again they stay (no program in sight). Made machines without their empty arcs: what is answered (no program in sight). -/
import Derived.Test.YtjpfpdbhdcopbaaJ14d
import Derived.Test.YtjpfpdbhdcopbaaJ14f
import Derived.Test.YtjpfpdbhdcopbaaPlainEc
import Derived.Test.YtjpfpdbhdcopbaaPlainY
namespace Go.Proofs.Ytjpfpdbhdcopbaa.Pl
set_option linter.unusedVariables false
set_option linter.unusedSimpArgs false
/-- A change: from, to. -/
abbrev Ch := Int × Int
def chgF : List Ch → Int → Int
  | [], x => x
  | c :: l, x => if c.1 = x then c.2 else chgF l x
theorem chg_hit {x : Int} : ∀ {l : List Ch} {i : Nat}, i < l.length → (∀ j, j < i → (el l j).1 ≠ x) → (el l i).1 = x → chgF l x = (el l i).2
  | [], i, h, _, _ => absurd h (by simp)
  | c :: l, 0, _, _, h => by
    rw [el_zero] at h ⊢
    simp [chgF, h]
  | c :: l, i + 1, hi, hn, h => by
    have h0 := hn 0 (by omega)
    rw [el_zero] at h0
    rw [el_succ] at h ⊢
    rw [chgF, if_neg h0]
    exact chg_hit (by simpa using hi) (fun j hj => by have := hn (j + 1) (by omega); rwa [el_succ] at this) h
theorem chg_none {x : Int} : ∀ {l : List Ch}, (∀ j, j < l.length → (el l j).1 ≠ x) → chgF l x = x
  | [], _ => rfl
  | c :: l, hn => by
    have h0 := hn 0 (by simp)
    rw [el_zero] at h0
    rw [chgF, if_neg h0]
    exact chg_none (fun j hj => by have := hn (j + 1) (by simpa using hj); rwa [el_succ] at this)
/-- P11.5: what is wrong with a list of changes. -/
def chB (c : Ch) : Bool := inB c.1 1 1000 && inB c.2 0 1000
def twcB (l : List Ch) : Bool := (List.range l.length).any fun i => (List.range i).any fun j => decide ((el l i).1 = (el l j).1)
def fltC (l : List Ch) : Int := if 50 < l.length then 1 else if l.all chB = false then 2 else if twcB l = true then 10 else 0
theorem twc_iff (l : List Ch) : twcB l = true ↔ ∃ i, i < l.length ∧ ∃ j, j < i ∧ (el l i).1 = (el l j).1 := by
  simp only [twcB, List.any_eq_true, List.mem_range, decide_eq_true_eq]
theorem flt_long {l : List Ch} (h : 50 < l.length) : fltC l = 1 := by unfold fltC; rw [if_pos h]
theorem all_no {l : List Ch} {i : Nat} (hi : i < l.length) (hb : chB (el l i) = false) : l.all chB = false := by
  rw [List.all_eq_false]
  exact ⟨el l i, el_mem hi, by simp [hb]⟩
theorem flt_range {l : List Ch} (h : ¬ 50 < l.length) {i : Nat} (hi : i < l.length) (hb : chB (el l i) = false) : fltC l = 2 := by
  unfold fltC
  rw [if_neg h, if_pos (all_no hi hb)]
theorem all_yes {l : List Ch} (ha : ∀ j, j < l.length → chB (el l j) = true) : ¬ l.all chB = false := by
  intro h
  rw [List.all_eq_false] at h
  obtain ⟨c, hc, hn⟩ := h
  obtain ⟨j, hj, rfl⟩ := List.getElem_of_mem hc
  have := ha j hj
  rw [el_get hj] at this
  exact hn this
theorem flt_twice {l : List Ch} (h : ¬ 50 < l.length) (ha : ∀ j, j < l.length → chB (el l j) = true) {i j : Nat} (hi : i < l.length) (hj : j < i) (he : (el l i).1 = (el l j).1) : fltC l = 10 := by
  unfold fltC
  rw [if_neg h, if_neg (all_yes ha), if_pos ((twc_iff l).2 ⟨i, hi, j, hj, he⟩)]
theorem flt_none {l : List Ch} (h : ¬ 50 < l.length) (ha : ∀ j, j < l.length → chB (el l j) = true) (ho : ∀ i, i < l.length → ∀ j, j < i → (el l i).1 ≠ (el l j).1) : fltC l = 0 := by
  unfold fltC
  rw [if_neg h, if_neg (all_yes ha), if_neg]
  intro ht
  obtain ⟨i, hi, j, hj, he⟩ := (twc_iff l).1 ht
  exact ho i hi j hj he
theorem flt_len {l : List Ch} (h : fltC l = 0) : l.length ≤ 50 := by
  unfold fltC at h
  by_cases g : 50 < l.length
  · rw [if_pos g] at h; cases h
  · omega
/-- P11.5: the machine. -/
def relA (ins outs : List Ch) (a : Ar) : Ar := (chgF ins a.1, chgF outs a.2.1, a.2.2.1, a.2.2.2)
def relS (ins outs : List Ch) (s : St) : St := (s.1, s.2.map (relA ins outs))
def relM (ins outs : List Ch) (m : Mc) : Mc := (m.1, m.2.map (relS ins outs))
def relE (ins outs : List Ch) (m : Mc) : Int := if faultM m ≠ 0 then faultM m else if fltC ins ≠ 0 then fltC ins else fltC outs
def relR (ins outs : List Ch) (m : Mc) : Mc := if relE ins outs m = 0 then relM ins outs m else (0, [])
theorem arcN_rel (ins outs : List Ch) (l : List St) : arcN (l.map (relS ins outs)) = arcN l := by
  induction l with
  | nil => rfl
  | cons s l ih => simp only [List.map_cons, arcN, ih, relS, List.length_map]
theorem relE_fault {ins outs : List Ch} {m : Mc} (h : relE ins outs m = 0) : faultM m = 0 ∧ fltC ins = 0 ∧ fltC outs = 0 := by
  unfold relE at h
  by_cases h1 : faultM m = 0
  · rw [if_neg (by simp [h1])] at h
    by_cases h2 : fltC ins = 0
    · rw [if_neg (by simp [h2])] at h
      exact ⟨h1, h2, h⟩
    · rw [if_pos h2] at h; exact absurd h h2
  · rw [if_pos h1] at h; exact absurd h h1
theorem relR_ok (ins outs : List Ch) (m : Mc) : okM (relR ins outs m) := by
  unfold relR
  split
  · rename_i h
    have := right_size (z := m.1) (l := m.2) (relE_fault h).1
    refine small_ok (by show (m.2.map _).length ≤ _; rw [List.length_map]; omega) ?_
    show arcN (m.2.map (relS ins outs)) ≤ _
    rw [arcN_rel]; omega
  · exact ⟨by simp, fun j hj => absurd hj (by simp)⟩
end Go.Proofs.Ytjpfpdbhdcopbaa.Pl
namespace Go.Proofs.Ytjpfpdbhdcopbaa.Pl
set_option linter.unusedVariables false
set_option linter.unusedSimpArgs false
/-- One side has less, but never what is dearer alone. -/
theorem CstIs.sub {P Q : Nat → Prop} {a b : Int} (h : CstIs P a) (k : CstIs Q b) (h1 : ∀ c, P c → Q c) (h2 : ∀ c, Q c → ∃ d, d ≤ c ∧ P d) : a = b := by
  rcases h with ⟨rfl, h⟩ | ⟨c, hc, _, rfl⟩ <;> rcases k with ⟨rfl, k⟩ | ⟨d, hd, _, rfl⟩
  · rfl
  · obtain ⟨e, _, he⟩ := h2 d hd.1
    exact absurd he (h e)
  · exact absurd (h1 c hc.1) (k c)
  · obtain ⟨e, hle, he⟩ := h2 d hd.1
    have e1 := hc.2 e he
    have e2 := hd.2 c (h1 c hc.1)
    omega
theorem way_sub {l l' : List St} (h : ∀ q a, a ∈ (el l q).2 → a ∈ (el l' q).2) {q p c : Nat} {u v : List Int} (hw : Way l q u v p c) : Way l' q u v p c := by
  induction hw with
  | nil => exact .nil
  | snoc hw ha ht ih => exact ih.snoc (h _ _ ha) ht
/-- The same arcs, in whatever order. -/
theorem costs_same {m m' : Mc} (hz : m.1 = m'.1) (hl : m.2.length = m'.2.length) (hf : ∀ q, q < m.2.length → (el m.2 q).1 = (el m'.2 q).1) (ha : ∀ q a, a ∈ (el m.2 q).2 ↔ a ∈ (el m'.2 q).2) (x y : List Int) (c : Nat) : Costs m x y c ↔ Costs m' x y c := by
  constructor
  · rintro ⟨h0, p, d, hw, hp, hn, rfl⟩
    rw [hz] at h0 hw
    exact ⟨h0, p, d, way_sub (fun q a => (ha q a).1) hw, by omega, by rw [← hf p hp]; exact hn, by rw [hf p hp]⟩
  · rintro ⟨h0, p, d, hw, hp, hn, rfl⟩
    rw [← hz] at h0 hw
    have hp' : p < m.2.length := by omega
    exact ⟨h0, p, d, way_sub (fun q a => (ha q a).2) hw, hp', by rw [hf p hp']; exact hn, by rw [hf p hp']⟩
/-- Of each arc one that is alike and no heavier. -/
theorem way_light {l l' : List St} (h : ∀ q a, a ∈ (el l q).2 → ∃ b ∈ (el l' q).2, b.1 = a.1 ∧ b.2.1 = a.2.1 ∧ b.2.2.2 = a.2.2.2 ∧ b.2.2.1 ≤ a.2.2.1) {q p c : Nat} {u v : List Int} (hw : Way l q u v p c) : ∃ d, d ≤ c ∧ Way l' q u v p d := by
  induction hw with
  | nil => exact ⟨0, Nat.le_refl _, .nil⟩
  | snoc hw ha ht ih =>
    obtain ⟨d, hd, hw'⟩ := ih
    obtain ⟨b, hb, e1, e2, e3, e4⟩ := h _ _ ha
    have := hw'.snoc hb (by rw [e3]; exact ht)
    rw [e1, e2] at this
    exact ⟨_, by omega, this⟩
theorem costs_light {m m' : Mc} (hz : m.1 = m'.1) (hl : m.2.length = m'.2.length) (hf : ∀ q, q < m.2.length → (el m.2 q).1 = (el m'.2 q).1) (hs : ∀ q a, a ∈ (el m'.2 q).2 → a ∈ (el m.2 q).2) (h : ∀ q a, a ∈ (el m.2 q).2 → ∃ b ∈ (el m'.2 q).2, b.1 = a.1 ∧ b.2.1 = a.2.1 ∧ b.2.2.2 = a.2.2.2 ∧ b.2.2.1 ≤ a.2.2.1) (x y : List Int) :
    (∀ c, Costs m' x y c → Costs m x y c) ∧ ∀ c, Costs m x y c → ∃ d, d ≤ c ∧ Costs m' x y d := by
  constructor
  · rintro c ⟨h0, p, d, hw, hp, hn, rfl⟩
    rw [← hz] at h0 hw
    have hp' : p < m.2.length := by omega
    exact ⟨h0, p, d, way_sub hs hw, hp', by rw [hf p hp']; exact hn, by rw [hf p hp']⟩
  · rintro c ⟨h0, p, d, hw, hp, hn, rfl⟩
    rw [hz] at h0 hw
    obtain ⟨e, he, hw'⟩ := way_light h hw
    exact ⟨e + (el m.2 p).1.toNat, by omega, h0, p, e, hw', by omega, by rw [← hf p hp]; exact hn, by rw [hf p hp]⟩
/-- What is read changed, label by label. -/
theorem way_rel {l l' : List St} {f : Int → Int} (h0 : ∀ a, f a = 0 ↔ a = 0) (h : ∀ q a, a ∈ (el l q).2 → (f a.1, a.2.1, a.2.2.1, a.2.2.2) ∈ (el l' q).2) {q p c : Nat} {u v : List Int} (hw : Way l q u v p c) : Way l' q (u.map f) v p c := by
  induction hw with
  | nil => exact .nil
  | snoc hw ha ht ih =>
    rename_i u v p c a t
    have hl : (lab a.1).map f = lab (f a.1) := by
      unfold lab
      by_cases e : a.1 = 0
      · rw [if_pos e, if_pos ((h0 _).2 e)]; rfl
      · rw [if_neg e, if_neg (fun g => e ((h0 _).1 g))]; rfl
    rw [List.map_append, hl]
    exact ih.snoc (h _ _ ha) ht
/-- Labels exchanged. -/
def swF (a : Int) : Int := if a = 1 then 2 else if a = 2 then 1 else a
theorem swF_zero (a : Int) : swF a = 0 ↔ a = 0 := by
  unfold swF
  by_cases h1 : a = 1
  · simp [h1]
  · by_cases h2 : a = 2
    · simp [h2]
    · simp [h1, h2]
theorem swF_two (a : Int) : swF (swF a) = a := by
  unfold swF
  by_cases h1 : a = 1
  · simp [h1]
  · by_cases h2 : a = 2
    · simp [h2]
    · simp [h1, h2]
def swM (m : Mc) : Mc := (m.1, m.2.map fun s => (s.1, s.2.map fun a => (swF a.1, a.2.1, a.2.2.1, a.2.2.2)))
theorem sw_el {m : Mc} {q : Nat} (hq : q < m.2.length) : el (swM m).2 q = ((el m.2 q).1, (el m.2 q).2.map fun a => (swF a.1, a.2.1, a.2.2.1, a.2.2.2)) := el_map hq _
theorem sw_mem {m : Mc} {q : Nat} {a : Ar} (h : a ∈ (el m.2 q).2) : (swF a.1, a.2.1, a.2.2.1, a.2.2.2) ∈ (el (swM m).2 q).2 := by
  rw [sw_el (el_in h)]
  exact List.mem_map_of_mem (f := fun a : Ar => (swF a.1, a.2.1, a.2.2.1, a.2.2.2)) h
theorem sw_mem' {m : Mc} {q : Nat} {a : Ar} (h : a ∈ (el (swM m).2 q).2) : (swF a.1, a.2.1, a.2.2.1, a.2.2.2) ∈ (el m.2 q).2 := by
  have hq := el_in h
  have hq' : q < m.2.length := by simpa [swM] using hq
  rw [sw_el hq', List.mem_map] at h
  obtain ⟨b, hb, rfl⟩ := h
  obtain ⟨p0, p1, p2, p3⟩ := b
  simp only [swF_two]
  exact hb
theorem map_sw (l : List Int) : (l.map swF).map swF = l := by
  rw [List.map_map]
  exact List.map_id'' (fun a => swF_two a) l
theorem costs_sw (m : Mc) (x y : List Int) (c : Nat) : Costs (swM m) (x.map swF) y c ↔ Costs m x y c := by
  have hlen : (swM m).2.length = m.2.length := by simp [swM]
  constructor
  · rintro ⟨h0, p, d, hw, hp, hn, rfl⟩
    have h1 := way_rel swF_zero (fun q a ha => sw_mem' ha) hw
    rw [map_sw] at h1
    have hp' : p < m.2.length := by omega
    rw [sw_el hp'] at hn ⊢
    exact ⟨h0, p, d, h1, hp', hn, rfl⟩
  · rintro ⟨h0, p, d, hw, hp, hn, rfl⟩
    have h1 := way_rel swF_zero (fun q a ha => sw_mem ha) hw
    refine ⟨h0, p, d, h1, by omega, ?_, ?_⟩
    · rw [sw_el hp]; exact hn
    · rw [sw_el hp]
theorem sw_cheap {m : Mc} (h : CheapL m.2) : CheapL (swM m).2 := fun s hs => by
  simp only [swM, List.mem_map] at hs
  obtain ⟨t, ht, rfl⟩ := hs
  refine ⟨(h t ht).1, fun a ha => ?_⟩
  simp only [List.mem_map] at ha
  obtain ⟨b, hb, rfl⟩ := ha
  exact (h t ht).2 b hb
theorem rel_sw (m : Mc) : relM [(1, 2), (2, 1)] [] m = swM m := by
  unfold relM swM
  refine congrArg (Prod.mk m.1) (List.map_congr_left fun s hs => ?_)
  unfold relS
  refine congrArg (Prod.mk s.1) (List.map_congr_left fun a ha => ?_)
  unfold relA swF
  simp only [chgF, eq_comm]
theorem sw_right {m : Mc} (h : faultM m = 0) : faultM (swM m) = 0 := by
  have hlen : (swM m).2.length = m.2.length := by simp [swM]
  have harc : arcN (swM m).2 = arcN m.2 := by rw [← rel_sw]; exact arcN_rel _ _ _
  obtain ⟨h1, h2⟩ := right_parts h
  have h3 := right_size (z := m.1) (l := m.2) h
  refine faultM_ok (by simp only [sizeB, Bool.and_eq_true, decide_eq_true_eq]; omega) ?_
  unfold rangeB
  rw [hlen]
  simp only [Bool.and_eq_true, inB, decide_eq_true_eq, List.all_eq_true]
  refine ⟨h1, fun s hs => ?_⟩
  simp only [swM, List.mem_map] at hs
  obtain ⟨t, ht, rfl⟩ := hs
  have h4 := h2 t ht
  simp only [stB, Bool.and_eq_true, List.all_eq_true] at h4 ⊢
  refine ⟨h4.1, fun a ha => ?_⟩
  rw [List.mem_map] at ha
  obtain ⟨b, hb, rfl⟩ := ha
  have h5 := h4.2 b hb
  simp only [arcB, inB, Bool.and_eq_true, decide_eq_true_eq] at h5 ⊢
  refine ⟨⟨⟨?_, h5.1.1.2⟩, h5.1.2⟩, h5.2⟩
  unfold swF
  split
  · omega
  · split <;> omega
/-- Words with the labels exchanged: 3 less the label. -/
theorem sw_word {l : List Int} (h : ∀ n ∈ l, n = 1 ∨ n = 2) : l.map swF = l.map (fun n => 3 - n) := List.map_congr_left fun n hn => by
  rcases h n hn with rfl | rfl <;> rfl
theorem sw_flt : fltC [(1, 2), (2, 1)] = 0 ∧ fltC [] = 0 := by decide
end Go.Proofs.Ytjpfpdbhdcopbaa.Pl
namespace Go.Proofs.Ytjpfpdbhdcopbaa.Pl
set_option linter.unusedVariables false
set_option linter.unusedSimpArgs false
theorem hop_way {l : List St} {q p n c : Nat} (h : Run (EmpE l) q n p c) : Way l q [] [] p c := by
  induction h with
  | nil => exact .nil
  | step h e ih =>
    obtain ⟨a, ha, he, ht, rfl⟩ := e
    obtain ⟨h1, h2⟩ := empA_iff.1 he
    have := Way.snoc ih ha ht
    simpa [lab, h1, h2] using this
theorem mem_remArc {H : Nat → Nat → Int} {l : List St} {q : Nat} {x : Ar} : ∀ {k : Nat}, x ∈ remArc H l q k → ∃ p, p < k ∧ H q p ≠ noneI ∧ ∃ a ∈ (el l p).2, empA a = false ∧ x = hwA (H q p) a
  | 0, h => by simp [remArc] at h
  | k + 1, h => by
    simp only [remArc, List.mem_append] at h
    rcases h with h | h
    · obtain ⟨p, hp, g⟩ := mem_remArc h
      exact ⟨p, by omega, g⟩
    · by_cases hn : H q k = noneI
      · rw [if_pos hn] at h; simp at h
      · rw [if_neg hn] at h
        unfold remOf at h
        simp only [List.mem_map, List.mem_filter] at h
        obtain ⟨a, ⟨ha, he⟩, rfl⟩ := h
        exact ⟨k, by omega, hn, a, ha, by simpa using he, rfl⟩
theorem remArc_mem {H : Nat → Nat → Int} {l : List St} {q p : Nat} {a : Ar} (hn : H q p ≠ noneI) (ha : a ∈ (el l p).2) (he : empA a = false) : ∀ {k : Nat}, p < k → hwA (H q p) a ∈ remArc H l q k
  | 0, h => by omega
  | k + 1, h => by
    simp only [remArc, List.mem_append]
    by_cases e : p = k
    · subst e
      right
      rw [if_neg hn]
      unfold remOf
      simp only [List.mem_map, List.mem_filter]
      exact ⟨a, ⟨ha, by simp [he]⟩, rfl⟩
    · exact .inl (remArc_mem hn ha he (by omega))
theorem light_some {l : List Ar} {x : Ar} (h : x ∈ l) : ∃ y ∈ lightL (sortS false l), lessB y x = true := by
  have h1 := light_count h
  have h2 : 0 < (lightL (sortS false l)).countP (fun y => lessB y x) := by omega
  rw [List.countP_pos_iff] at h2
  exact h2
theorem TldQ.get {P : Nat → Prop} {b : Int} (h : TldQ P b) (hn : b ≠ noneI) : ∃ c : Nat, P c ∧ b = (c : Int) := by
  rcases h with ⟨g, _⟩ | ⟨c, hc, e, _⟩
  · exact absurd g hn
  · exact ⟨c, hc.1, e⟩
theorem TldQ.le {P : Nat → Prop} {b : Int} (h : TldQ P b) {c : Nat} (hc : P c) : b ≠ noneI ∧ b ≤ (c : Int) := by
  rcases h with ⟨_, g⟩ | ⟨d, hd, rfl, hl⟩
  · exact absurd hc (g c)
  · have := hd.2 c hc
    exact ⟨by unfold noneI; omega, by omega⟩
/-- The ends, too. -/
theorem remFin_has {H : Nat → Nat → Int} {l : List St} {q : Nat} : ∀ k, remFin H l q k = noneI ∨ ∃ p, p < k ∧ H q p ≠ noneI ∧ (el l p).1 ≠ 1000000001 ∧ remFin H l q k = H q p + (el l p).1
  | 0 => .inl rfl
  | k + 1 => by
    simp only [remFin]
    split
    · rename_i h
      exact .inr ⟨k, by omega, h.1, h.2.1, rfl⟩
    · rcases remFin_has (H := H) (l := l) (q := q) k with h | ⟨p, hp, h⟩
      · exact .inl h
      · exact .inr ⟨p, by omega, h⟩
theorem remFin_le {H : Nat → Nat → Int} {l : List St} {q p : Nat} (hn : H q p ≠ noneI) (hf : (el l p).1 ≠ 1000000001) : ∀ {k : Nat}, p < k → remFin H l q k ≤ H q p + (el l p).1
  | 0, h => by omega
  | k + 1, h => by
    simp only [remFin]
    by_cases e : p = k
    · subst e
      split
      · exact Int.le_refl _
      · rename_i g
        have : ¬ H q p + (el l p).1 < remFin H l q p := fun x => g ⟨hn, hf, x⟩
        omega
    · have := remFin_le (H := H) (l := l) (q := q) hn hf (k := k) (by omega)
      split
      · rename_i g; omega
      · exact this
theorem rem_way {m : Mc} (hr : faultM m = 0) {H : Nat → Nat → Int} (hH : HopT m H) {q : Nat} (hq : q < m.2.length) {u v : List Int} {p c : Nat} (h : Way (remM H m).2 q u v p c) : Way m.2 q u v p c ∧ p < m.2.length := by
  induction h with
  | nil => exact ⟨.nil, hq⟩
  | @snoc u v p c h a ha t ht ih =>
    obtain ⟨ih, hp⟩ := ih
    rw [rem_el H m hp] at ha
    have ha := merge_sub _ _ ha
    obtain ⟨p', hp', hn, b, hb, he, rfl⟩ := mem_remArc ha
    obtain ⟨d, ⟨n, hd⟩, hde⟩ := (hH p p' hp hp').get hn
    have hw := (right_parts hr).2 (el m.2 p') (el_mem hp')
    simp only [stB, Bool.and_eq_true, List.all_eq_true] at hw
    have hw := hw.2 _ hb
    simp only [arcB, inB, Bool.and_eq_true, decide_eq_true_eq] at hw
    have h1 := Way.snoc (ih.trans (hop_way hd)) hb ht
    have e1 : (hwA (H p p') b).2.2.1.toNat = d + b.2.2.1.toNat := by
      show (H p p' + b.2.2.1).toNat = _
      rw [hde]; omega
    rw [List.append_nil, List.append_nil, Nat.add_assoc, ← e1] at h1
    refine ⟨h1, ?_⟩
    have : b.2.2.2 = (t : Int) := ht
    omega
theorem ov_none {H : Nat → Nat → Int} {l : List St} : ∀ {n : Nat}, ovTo H l n = false → ∀ q, q < n → ovB H l q = false
  | 0, _, q, hq => by omega
  | n + 1, h, q, hq => by
    simp only [ovTo, Bool.or_eq_false_iff] at h
    by_cases e : q = n
    · subst e; exact h.2
    · exact ov_none h.1 q (by omega)
theorem fin_told {H : Nat → Nat → Int} {l : List St} {q : Nat} (h : ovB H l q = false) : (remFin H l q l.length = noneI ∧ tldN (remFin H l q l.length) = 1000000001) ∨ (remFin H l q l.length ≠ noneI ∧ remFin H l q l.length ≤ 1000000000 ∧ tldN (remFin H l q l.length) = remFin H l q l.length) := by
  simp only [ovB, Bool.or_eq_false_iff, decide_eq_false_iff_not, Decidable.not_not] at h
  have h1 := h.1
  unfold tldE at h1
  unfold tldN
  by_cases e : remFin H l q l.length = noneI
  · exact .inl ⟨e, if_pos e⟩
  · rw [if_neg e] at h1
    by_cases g : 1000000000 < remFin H l q l.length
    · rw [if_pos g] at h1; cases h1
    · exact .inr ⟨e, by omega, by rw [if_neg e, if_neg g]⟩
/-- What costs something in it costs so in the machine. -/
theorem rem_costs {m : Mc} (hr : faultM m = 0) {H : Nat → Nat → Int} (hH : HopT m H) (hov : ovTo H m.2 m.2.length = false) {x y : List Int} {c : Nat} (h : Costs (remM H m) x y c) : Costs m x y c := by
  obtain ⟨hz, p, d, hw, hp, hf, rfl⟩ := h
  have hz' : 0 ≤ m.1 := hz
  obtain ⟨⟨hzl, hzu⟩, hst⟩ := right_parts hr
  have hq : m.1.toNat < m.2.length := by omega
  obtain ⟨h1, hp'⟩ := rem_way hr hH hq hw
  rw [rem_el H m hp'] at hf ⊢
  have hf' : tldN (remFin H m.2 p m.2.length) ≠ 1000000001 := hf
  show Costs m x y (d + (tldN (remFin H m.2 p m.2.length)).toNat)
  rcases fin_told (ov_none hov p hp') with ⟨_, e⟩ | ⟨e1, _, e2⟩
  · exact absurd e hf'
  · rw [e2]
    rcases remFin_has (H := H) (l := m.2) (q := p) m.2.length with g | ⟨p2, hp2, hn, hfi, hg⟩
    · exact absurd g e1
    · obtain ⟨e, ⟨n, he⟩, hee⟩ := (hH p p2 hp' hp2).get hn
      have h2 := h1.trans (hop_way he)
      rw [List.append_nil, List.append_nil] at h2
      have hb := stB_fin (hst (el m.2 p2) (el_mem hp2))
      simp only [finB, Bool.or_eq_true, inB, Bool.and_eq_true, decide_eq_true_eq, beq_iff_eq] at hb
      exact ⟨hz', p2, d + e, h2, hp2, hfi, by rw [hg, hee]; omega⟩
/-- What costs something costs no more in it. -/
theorem way_rem {m : Mc} (hr : faultM m = 0) {H : Nat → Nat → Int} (hH : HopT m H) {q : Nat} (hq : q < m.2.length) {u v : List Int} {p c : Nat} (h : Way m.2 q u v p c) : p < m.2.length ∧ ∃ q' d e, Way (remM H m).2 q u v q' d ∧ q' < m.2.length ∧ HopC m.2 q' p e ∧ d + e ≤ c := by
  induction h with
  | nil => exact ⟨hq, q, 0, 0, .nil, hq, ⟨0, .nil⟩, Nat.le_refl _⟩
  | @snoc u v p c h a ha t ht ih =>
    obtain ⟨hp, q', d, e, h1, hq', ⟨n, h2⟩, h3⟩ := ih
    have hw := (right_parts hr).2 (el m.2 p) (el_mem hp)
    simp only [stB, Bool.and_eq_true, List.all_eq_true] at hw
    have hw := hw.2 _ ha
    simp only [arcB, inB, Bool.and_eq_true, decide_eq_true_eq] at hw
    have htl : t < m.2.length := by omega
    refine ⟨htl, ?_⟩
    rcases Bool.eq_false_or_eq_true (empA a) with he | he
    · obtain ⟨e1, e2⟩ := empA_iff.1 he
      refine ⟨q', d, e + a.2.2.1.toNat, by simpa [lab, e1, e2] using h1, hq', ⟨n + 1, h2.step ⟨a, ha, he, ht, rfl⟩⟩, by omega⟩
    · obtain ⟨hn, hle⟩ := (hH q' p hq' hp).le ⟨n, h2⟩
      have hb0 := (hH q' p hq' hp).bd.1
      obtain ⟨b, hb, hl⟩ := light_some (remArc_mem (l := m.2) hn ha he hp)
      obtain ⟨l1, l2, l3, l4⟩ := less_iff.1 hl
      have hb' : b ∈ (el (remM H m).2 q').2 := by rw [rem_el H m hq']; exact hb
      have h4 := Way.snoc h1 hb' (t := t) (by rw [l3]; exact ht)
      rw [l1, l2] at h4
      refine ⟨t, _, 0, h4, htl, ⟨0, .nil⟩, ?_⟩
      have h5 : b.2.2.1 ≤ H q' p + a.2.2.1 := l4
      omega
theorem costs_rem {m : Mc} (hr : faultM m = 0) {H : Nat → Nat → Int} (hH : HopT m H) (hov : ovTo H m.2 m.2.length = false) {x y : List Int} {c : Nat} (h : Costs m x y c) : ∃ d, d ≤ c ∧ Costs (remM H m) x y d := by
  obtain ⟨hz, p, d, hw, hp, hf, rfl⟩ := h
  obtain ⟨⟨hzl, hzu⟩, hst⟩ := right_parts hr
  have hq : m.1.toNat < m.2.length := by omega
  obtain ⟨_, q', d', e, h1, hq', h2, h3⟩ := way_rem hr hH hq hw
  obtain ⟨hn, hle⟩ := (hH q' p hq' hp).le h2
  have hb0 := (hH q' p hq' hp).bd.1
  have h4 := remFin_le (H := H) (l := m.2) (q := q') hn hf hp
  have hb := stB_fin (hst (el m.2 p) (el_mem hp))
  simp only [finB, Bool.or_eq_true, inB, Bool.and_eq_true, decide_eq_true_eq, beq_iff_eq] at hb
  rcases fin_told (ov_none hov q' hq') with ⟨e1, _⟩ | ⟨e1, e2, e3⟩
  · rcases (hH q' p hq' hp).bd.2 with g | g
    · exact absurd g hn
    · rw [e1] at h4; unfold noneI at h4; omega
  · refine ⟨d' + (remFin H m.2 q' m.2.length).toNat, by omega, hz, q', d', h1, by rw [rem_len]; exact hq', ?_, ?_⟩
    · rw [rem_el H m hq']
      show tldN (remFin H m.2 q' m.2.length) ≠ 1000000001
      rw [e3]; omega
    · rw [rem_el H m hq']
      show _ = d' + (tldN (remFin H m.2 q' m.2.length)).toNat
      rw [e3]
/-- RemoveKeeps. -/
theorem rem_cst {m : Mc} (hr : faultM m = 0) {H : Nat → Nat → Int} (hH : HopT m H) (hov : ovTo H m.2 m.2.length = false) {x y : List Int} {a b : Int} (ha : CstIs (Costs m x y) a) (hb : CstIs (Costs (remM H m) x y) b) : b = a := hb.sub ha (fun c h => rem_costs hr hH hov h) (fun c h => costs_rem hr hH hov h)
end Go.Proofs.Ytjpfpdbhdcopbaa.Pl
namespace Go.Proofs.Ytjpfpdbhdcopbaa.Pl
set_option linter.unusedVariables false
set_option linter.unusedSimpArgs false
theorem rem_full {H : Nat → Nat → Int} {l : List St} {q : Nat} {a : Ar} (h : a ∈ remL H l q) : empA a = false := by
  obtain ⟨p, _, _, b, _, he, rfl⟩ := mem_remArc (merge_sub _ _ h)
  exact he
/-- No arc is empty. -/
def NoEmp (l : List St) : Prop := ∀ q, q < l.length → ∀ a ∈ (el l q).2, empA a = false
theorem rem_noEmp (H : Nat → Nat → Int) (m : Mc) : NoEmp (remM H m).2 := fun q hq a ha => by
  rw [rem_len] at hq
  rw [rem_el H m hq] at ha
  exact rem_full ha
theorem noEmp_run {l : List St} (h : NoEmp l) {q n p c : Nat} (hr : Run (EmpE l) q n p c) : p = q ∧ c = 0 := by
  induction hr with
  | nil => exact ⟨rfl, rfl⟩
  | step h1 e ih =>
    obtain ⟨a, ha, he, ht, hw⟩ := e
    obtain ⟨rfl, _⟩ := ih
    rw [h _ (arcE_in (l := l) ⟨a, ha, ht, hw⟩) a ha] at he
    cases he
theorem noEmp_hop {m : Mc} (h : NoEmp m.2) {H : Nat → Nat → Int} (hH : HopT m H) {q p : Nat} (hq : q < m.2.length) (hp : p < m.2.length) : H q p = if p = q then 0 else noneI := by
  refine (hH q p hq hp).one ?_
  by_cases e : p = q
  · subst e
    rw [if_pos rfl]
    exact .inr ⟨0, ⟨⟨0, .nil⟩, fun d _ => Nat.zero_le _⟩, rfl, by omega⟩
  · rw [if_neg e]
    exact .inl ⟨rfl, fun c ⟨n, hn⟩ => e (noEmp_run h hn).1⟩
/-- Weights below ten. -/
def NineL (l : List St) : Prop := ∀ s ∈ l, (s.1 ≠ 1000000001 → s.1 ≤ 9) ∧ ∀ a ∈ s.2, a.2.2.1 ≤ 9
theorem nine_hop {m : Mc} (hr : faultM m = 0) (h9 : NineL m.2) {H : Nat → Nat → Int} (hH : HopT m H) {q p : Nat} (hq : q < m.2.length) (hp : p < m.2.length) (hn : H q p ≠ noneI) : 0 ≤ H q p ∧ H q p ≤ ((m.2.length : Int) + 1) * 9 := by
  have h0 := (hH q p hq hp).bd.1
  refine ⟨h0, ?_⟩
  obtain ⟨c, ⟨n, hc⟩, hce⟩ := (hH q p hq hp).get hn
  obtain ⟨d, _, h2, h3⟩ := (run_via (fun k w j e => (emp_small hr e).1) hc).cheap (W := 9) (fun x w y e => by
    obtain ⟨a, ha, _, _, rfl⟩ := e
    have hx : x < m.2.length := arcE_in (l := m.2) (w := a.2.2.1.toNat) (j := y) ⟨a, ha, by assumption, rfl⟩
    have := (h9 (el m.2 x) (el_mem hx)).2 a ha
    omega)
  have h4 := ((hH q p hq hp).le h3.run).2
  have h5 : (d : Int) ≤ ((m.2.length : Int) + 1) * 9 := by
    have : ((m.2.length + 1) * 9 : Nat) = ((m.2.length : Int) + 1) * 9 := by push_cast; rfl
    omega
  omega
theorem nine_arc {m : Mc} (hr : faultM m = 0) (h9 : NineL m.2) (h8 : m.2.length ≤ 8) {H : Nat → Nat → Int} (hH : HopT m H) {q : Nat} (hq : q < m.2.length) {a : Ar} (ha : a ∈ remL H m.2 q) : arcB m.2.length a = true ∧ a.2.2.1 ≤ 90 := by
  obtain ⟨p, hp, hn, b, hb, _, rfl⟩ := mem_remArc (merge_sub _ _ ha)
  have h1 := nine_hop hr h9 hH hq hp hn
  have h2 := (h9 (el m.2 p) (el_mem hp)).2 b hb
  have hw := (right_parts hr).2 (el m.2 p) (el_mem hp)
  simp only [stB, Bool.and_eq_true, List.all_eq_true] at hw
  have hw := hw.2 _ hb
  simp only [arcB, inB, Bool.and_eq_true, decide_eq_true_eq] at hw
  have h3 : ((m.2.length : Int) + 1) * 9 ≤ 81 := by omega
  obtain ⟨h0, h1'⟩ := h1
  refine ⟨?_, by show H q p + b.2.2.1 ≤ 90; omega⟩
  simp only [arcB, inB, Bool.and_eq_true, decide_eq_true_eq]
  refine ⟨⟨⟨by show 0 ≤ b.1 ∧ b.1 ≤ 1000; omega, by show 0 ≤ b.2.1 ∧ b.2.1 ≤ 1000; omega⟩, by show 0 ≤ H q p + b.2.2.1 ∧ H q p + b.2.2.1 ≤ 1000000000; omega⟩, ?_⟩
  show 0 ≤ b.2.2.2 ∧ b.2.2.2 ≤ (m.2.length : Int) - 1
  omega
theorem nine_fin {m : Mc} (hr : faultM m = 0) (h9 : NineL m.2) (h8 : m.2.length ≤ 8) {H : Nat → Nat → Int} (hH : HopT m H) {q : Nat} (hq : q < m.2.length) : remFin H m.2 q m.2.length = noneI ∨ (0 ≤ remFin H m.2 q m.2.length ∧ remFin H m.2 q m.2.length ≤ 90) := by
  rcases remFin_has (H := H) (l := m.2) (q := q) m.2.length with h | ⟨p, hp, hn, hf, hg⟩
  · exact .inl h
  · right
    have h1 := nine_hop hr h9 hH hq hp hn
    have h2 := (h9 (el m.2 p) (el_mem hp)).1 hf
    have hb := stB_fin ((right_parts hr).2 (el m.2 p) (el_mem hp))
    simp only [finB, Bool.or_eq_true, inB, Bool.and_eq_true, decide_eq_true_eq, beq_iff_eq] at hb
    have h3 : ((m.2.length : Int) + 1) * 9 ≤ 81 := by omega
    rw [hg]
    omega
theorem nine_ov {m : Mc} (hr : faultM m = 0) (h9 : NineL m.2) (h8 : m.2.length ≤ 8) {H : Nat → Nat → Int} (hH : HopT m H) : ∀ {n : Nat}, n ≤ m.2.length → ovTo H m.2 n = false
  | 0, _ => rfl
  | n + 1, hn => by
    simp only [ovTo, Bool.or_eq_false_iff]
    refine ⟨nine_ov hr h9 h8 hH (by omega), ?_⟩
    simp only [ovB, Bool.or_eq_false_iff, decide_eq_false_iff_not, Decidable.not_not, List.any_eq_false]
    refine ⟨?_, fun a ha => ?_⟩
    · unfold tldE
      rcases nine_fin hr h9 h8 hH (show n < m.2.length by omega) with h | ⟨_, h⟩
      · rw [if_pos h]
      · split
        · rfl
        · rw [if_neg (by omega)]
    · have := (nine_arc hr h9 h8 hH (show n < m.2.length by omega) ha).2
      simp only [bigA, decide_eq_true_eq]
      omega
theorem nine_right {m : Mc} (hr : faultM m = 0) (h9 : NineL m.2) (h8 : m.2.length ≤ 8) (h32 : arcN m.2 ≤ 32) {H : Nat → Nat → Int} (hH : HopT m H) : faultM (remM H m) = 0 ∧ CheapL (remM H m).2 := by
  have hov := nine_ov hr h9 h8 hH (Nat.le_refl _)
  have hel : ∀ s ∈ (remM H m).2, ∃ q, q < m.2.length ∧ s = remS H m.2 q := fun s hs => by
    simp only [remM, List.mem_map, List.mem_range] at hs
    obtain ⟨q, hq, rfl⟩ := hs
    exact ⟨q, hq, rfl⟩
  have hfin : ∀ q, q < m.2.length → (remS H m.2 q).1 = 1000000001 ∨ (0 ≤ (remS H m.2 q).1 ∧ (remS H m.2 q).1 ≤ 90) := fun q hq => by
    show tldN _ = _ ∨ (0 ≤ tldN _ ∧ tldN _ ≤ _)
    rcases fin_told (ov_none hov q hq) with ⟨_, e⟩ | ⟨e1, _, e2⟩
    · exact .inl e
    · rcases nine_fin hr h9 h8 hH hq with g | g
      · exact absurd g e1
      · rw [e2]; exact .inr g
  refine ⟨faultM_ok ?_ ?_, fun s hs => ?_⟩
  · have h1 : arcN (remM H m).2 ≤ (remM H m).2.length * 32 := arcN_each fun s hs => by
      obtain ⟨q, hq, rfl⟩ := hel s hs
      exact Nat.le_trans (remL_le H m.2 q) h32
    rw [rem_len] at h1
    simp only [sizeB, Bool.and_eq_true, decide_eq_true_eq]
    rw [rem_len]
    omega
  · unfold rangeB
    rw [rem_len]
    simp only [Bool.and_eq_true, List.all_eq_true]
    refine ⟨?_, fun s hs => ?_⟩
    · have := (right_parts hr).1
      simp only [inB, Bool.and_eq_true, decide_eq_true_eq]
      exact this
    · obtain ⟨q, hq, rfl⟩ := hel s hs
      simp only [stB, Bool.and_eq_true, List.all_eq_true]
      refine ⟨?_, fun a ha => (nine_arc hr h9 h8 hH hq ha).1⟩
      simp only [finB, Bool.or_eq_true, inB, Bool.and_eq_true, decide_eq_true_eq, beq_iff_eq]
      have := hfin q hq
      omega
  · obtain ⟨q, hq, rfl⟩ := hel s hs
    refine ⟨fun h => ?_, fun a ha => ?_⟩
    · have := hfin q hq
      omega
    · have := (nine_arc hr h9 h8 hH hq ha).2
      omega
end Go.Proofs.Ytjpfpdbhdcopbaa.Pl
namespace Go.Proofs.Ytjpfpdbhdcopbaa.Pl
set_option linter.unusedVariables false
set_option linter.unusedSimpArgs false
def mrgL (l : List Ar) : List Ar := lightL (sortS false l)
theorem remOf_zero {ar : List Ar} (h : ∀ a ∈ ar, empA a = false) : remOf 0 ar = ar := by
  unfold remOf
  rw [List.filter_eq_self.2 (fun a ha => by simp [h a ha])]
  conv => rhs; rw [← List.map_id ar]
  refine List.map_congr_left fun a _ => ?_
  obtain ⟨p0, p1, p2, p3⟩ := a
  simp [hwA]
theorem noEmp_arc {m : Mc} (h : NoEmp m.2) {H : Nat → Nat → Int} (hH : HopT m H) {q : Nat} (hq : q < m.2.length) : ∀ k, k ≤ m.2.length → remArc H m.2 q k = if q < k then (el m.2 q).2 else []
  | 0, _ => by rw [if_neg (by omega)]; rfl
  | k + 1, hk => by
    have ih := noEmp_arc h hH hq k (by omega)
    simp only [remArc]
    rw [noEmp_hop h hH hq (show k < m.2.length by omega), ih]
    by_cases e : k = q
    · subst e
      rw [if_neg (by omega), if_pos rfl, if_neg (by decide), if_pos (by omega), List.nil_append, remOf_zero (h k hq)]
    · rw [if_neg e, if_pos rfl, List.append_nil]
      by_cases g : q < k
      · rw [if_pos g, if_pos (by omega)]
      · rw [if_neg g, if_neg (by omega)]
theorem noEmp_fin {m : Mc} (hr : faultM m = 0) (h : NoEmp m.2) {H : Nat → Nat → Int} (hH : HopT m H) {q : Nat} (hq : q < m.2.length) : ∀ k, k ≤ m.2.length → remFin H m.2 q k = if q < k ∧ (el m.2 q).1 ≠ 1000000001 then (el m.2 q).1 else noneI
  | 0, _ => by rw [if_neg (by omega)]; rfl
  | k + 1, hk => by
    have ih := noEmp_fin hr h hH hq k (by omega)
    simp only [remFin]
    rw [noEmp_hop h hH hq (show k < m.2.length by omega), ih]
    have hb := stB_fin ((right_parts hr).2 (el m.2 q) (el_mem hq))
    simp only [finB, Bool.or_eq_true, inB, Bool.and_eq_true, decide_eq_true_eq, beq_iff_eq] at hb
    by_cases e : k = q
    · subst e
      rw [if_pos rfl]
      by_cases g : (el m.2 k).1 ≠ 1000000001
      · have g2 : ¬ (k < k ∧ (el m.2 k).1 ≠ 1000000001) := by omega
        rw [if_neg g2, if_pos ⟨by decide, g, by unfold noneI; omega⟩, if_pos ⟨by omega, g⟩]
        omega
      · have g2 : ¬ (k < k ∧ (el m.2 k).1 ≠ 1000000001) := by omega
        rw [if_neg g2, if_neg (fun x => g x.2.1), if_neg (fun x => g x.2)]
    · rw [if_neg e, if_neg (fun x => x.1 rfl)]
      by_cases g : q < k ∧ (el m.2 q).1 ≠ 1000000001
      · rw [if_pos g, if_pos ⟨by omega, g.2⟩]
      · rw [if_neg g, if_neg (fun x => g ⟨by omega, x.2⟩)]
theorem noEmp_rem {m : Mc} (hr : faultM m = 0) (h : NoEmp m.2) {H : Nat → Nat → Int} (hH : HopT m H) : remM H m = mapM mrgL m := by
  unfold remM mapM
  refine congrArg (Prod.mk m.1) (el_ext (by simp) fun q hq => ?_)
  have hq' : q < m.2.length := by simpa using hq
  rw [el_range_map _ hq', el_map hq']
  have hb := stB_fin ((right_parts hr).2 (el m.2 q) (el_mem hq'))
  simp only [finB, Bool.or_eq_true, inB, Bool.and_eq_true, decide_eq_true_eq, beq_iff_eq] at hb
  unfold remS remL mrgL
  rw [noEmp_arc h hH hq' _ (Nat.le_refl _), noEmp_fin hr h hH hq' _ (Nat.le_refl _), if_pos hq']
  congr 1
  by_cases g : (el m.2 q).1 = 1000000001
  · rw [if_neg (fun x => x.2 g), g]; rfl
  · rw [if_pos ⟨hq', g⟩]
    unfold tldN
    rw [if_neg (by unfold noneI; omega), if_neg (by omega)]
theorem sortL_self {l : List Ar} (h : l.Pairwise fun a b => leB a b = true) : sortL l = l := (sortL_one (List.Perm.refl l) h).symm
theorem light_pair : ∀ {l : List Ar} {p : Ar}, (p :: l).Pairwise (fun a b => leB a b = true) → (p :: lightFrom p l).Pairwise fun a b => leB a b = true := fun {l p} h => by
  have h1 := List.pairwise_cons.1 h
  refine List.pairwise_cons.2 ⟨fun y hy => h1.1 y (lightFrom_mem hy), ?_⟩
  induction l generalizing p with
  | nil => simp [lightFrom]
  | cons x l ih =>
    have h2 := List.pairwise_cons.1 h1.2
    unfold lightFrom
    split
    · exact ih (p := x) h1.2 h2
    · exact List.pairwise_cons.2 ⟨fun y hy => h2.1 y (lightFrom_mem hy), ih (p := x) h1.2 h2⟩
theorem light_self : ∀ {l : List Ar} {p : Ar}, (p :: l).Pairwise (fun a b => alikeB b a = false) → lightFrom p l = l
  | [], p, _ => rfl
  | x :: l, p, h => by
    have h1 := List.pairwise_cons.1 h
    unfold lightFrom
    rw [if_neg (by rw [h1.1 x (by simp)]; simp), light_self h1.2]
theorem mrg_mrg (l : List Ar) : mrgL (mrgL l) = mrgL l := by
  unfold mrgL
  have hs : sortS false l = sortL l := rfl
  have hp := sortL_pair l
  rw [hs]
  generalize sortL l = r at hp
  cases r with
  | nil =>
    have h3 : sortS false ([] : List Ar) = [] := List.eq_nil_of_length_eq_zero (by rw [sortS_length]; rfl)
    show lightL (sortS false []) = []
    rw [h3]; rfl
  | cons p r =>
    have h1 : (lightL (p :: r)) = p :: lightFrom p r := rfl
    rw [h1, show sortS false (p :: lightFrom p r) = sortL (p :: lightFrom p r) from rfl, sortL_self (light_pair hp)]
    have h2 := light_apart hp
    show p :: lightFrom p (lightFrom p r) = _
    rw [light_self (List.pairwise_cons.2 ⟨h2.1, h2.2⟩)]
end Go.Proofs.Ytjpfpdbhdcopbaa.Pl
namespace Go.Proofs.Ytjpfpdbhdcopbaa.Pl
set_option linter.unusedVariables false
set_option linter.unusedSimpArgs false
theorem made_nine (r : Int × List (Int × Bool × List Ar)) (states : Nat) (full : Bool) : NineL (madeM r states full).2 := fun s hs => by
  simp only [madeM, statesM, List.mem_map] at hs
  obtain ⟨q, _, rfl⟩ := hs
  split
  · exact ⟨fun _ => by simp, fun a ha => absurd ha (by simp)⟩
  · refine ⟨fun h => ?_, fun a ha => ?_⟩
    · unfold stM at h ⊢
      simp only at h ⊢
      split
      · have := pkR_bd (el r.2 q).1 10 (by omega); omega
      · rename_i g; rw [if_neg g] at h; exact absurd rfl h
    · simp only [stM, List.mem_map] at ha
      obtain ⟨e, _, rfl⟩ := ha
      unfold arM
      have := pkR_bd e.2.2.1 10 (by omega)
      simp only
      omega
theorem made_noEmp (r : Int × List (Int × Bool × List Ar)) (states : Nat) : NoEmp (madeM r states true).2 := fun q hq a ha => by
  have hm := el_mem hq
  simp only [madeM, statesM, List.mem_map] at hm
  obtain ⟨k, _, e⟩ := hm
  have e' : (if r.2.length ≤ k then ((0, []) : St) else stM (sizeM r states) true (el r.2 k)) = el (madeM r states true).2 q := e
  rw [← e'] at ha
  split at ha
  · exact absurd ha (by simp)
  · simp only [stM, List.mem_map] at ha
    obtain ⟨x, _, rfl⟩ := ha
    unfold empA arM
    by_cases h1 : pkR x.1 3 = 0
    · by_cases h2 : pkR x.2.1 3 = 0
      · simp [h1, h2]
      · simp [h2]
    · simp [h1]
theorem mrg_pair (l : List Ar) : (mrgL l).Pairwise fun a b => leB a b = true := by
  unfold mrgL
  have hp := sortL_pair l
  rw [show sortS false l = sortL l from rfl]
  generalize sortL l = r at hp
  cases r with
  | nil => exact List.Pairwise.nil
  | cons p r => exact light_pair hp
theorem mrg_mem {l : List Ar} {a : Ar} (h : a ∈ mrgL l) : a ∈ l := merge_sub l a h
theorem mrg_le (l : List Ar) : (mrgL l).length ≤ l.length := Nat.le_trans (lightL_le _) (by rw [sortS_length]; exact Nat.le_refl _)
theorem rem_sorted (H : Nat → Nat → Int) (m : Mc) : (remM H m).2.all (fun s => sortB s.2) = true := by
  rw [List.all_eq_true]
  intro s hs
  obtain ⟨q, _, rfl⟩ := List.mem_map.1 hs
  exact pair_sortB (mrg_pair _)
theorem rem_mrg (H : Nat → Nat → Int) (m : Mc) : mapM mrgL (remM H m) = remM H m := by
  unfold mapM remM
  simp only [List.map_map]
  congr 1
  refine List.map_congr_left fun q _ => ?_
  show ((remS H m.2 q).1, mrgL (remS H m.2 q).2) = remS H m.2 q
  have : mrgL (remS H m.2 q).2 = (remS H m.2 q).2 := mrg_mrg _
  rw [this]
theorem right_fit {m : Mc} (h : faultM m = 0) : fitM m = m ∧ fitE m = 0 := by
  have h1 := (faultM_zero h).1
  unfold fitM fitE
  rw [if_pos h1, if_pos h1]
  exact ⟨rfl, rfl⟩
/-- Where there are no empty arcs nothing is too large. -/
theorem noEmp_ov {m : Mc} (hr : faultM m = 0) (h : NoEmp m.2) {H : Nat → Nat → Int} (hH : HopT m H) : ∀ {n : Nat}, n ≤ m.2.length → ovTo H m.2 n = false
  | 0, _ => rfl
  | n + 1, hn => by
    have hq : n < m.2.length := by omega
    have hb := stB_fin ((right_parts hr).2 (el m.2 n) (el_mem hq))
    simp only [finB, Bool.or_eq_true, inB, Bool.and_eq_true, decide_eq_true_eq, beq_iff_eq] at hb
    simp only [ovTo, noEmp_ov hr h hH (by omega : n ≤ m.2.length), Bool.false_or]
    unfold ovB remL
    rw [noEmp_arc h hH hq _ (Nat.le_refl _), noEmp_fin hr h hH hq _ (Nat.le_refl _), if_pos hq]
    rw [Bool.or_eq_false_iff]
    constructor
    · rw [decide_eq_false_iff_not]
      intro e
      apply e
      by_cases g : (el m.2 n).1 = 1000000001
      · rw [if_neg (fun x => x.2 g)]; rfl
      · rw [if_pos ⟨hq, g⟩]
        unfold tldE
        rw [if_neg (by unfold noneI; omega), if_neg (by omega)]
    · rw [List.any_eq_false]
      intro a ha
      have ha' : a ∈ (el m.2 n).2 := mrg_mem (l := (el m.2 n).2) ha
      have h1 := (right_parts hr).2 (el m.2 n) (el_mem hq)
      simp only [stB, Bool.and_eq_true, List.all_eq_true] at h1
      have h2 := h1.2 a ha'
      simp only [arcB, inB, Bool.and_eq_true, decide_eq_true_eq] at h2
      simp [bigA]
      omega
theorem rem_fit {m : Mc} (hr : faultM m = 0) {H : Nat → Nat → Int} (h2 : ovTo H m.2 m.2.length = false) : remR H m = fitM (remM H m) ∧ remE H m = fitE (remM H m) := by
  constructor
  · unfold remR
    rw [if_neg (by rw [hr]; simp), if_neg (by rw [h2]; simp)]
  · unfold remE
    rw [if_neg (by rw [hr]; simp), if_neg (by rw [h2]; simp)]
/-- A made machine, removed. -/
theorem made_rem {r : Int × List (Int × Bool × List Ar)} {k : Nat} {full : Bool} (hr : faultM (madeM r k full) = 0) (h8 : (madeM r k full).2.length ≤ 8) (h32 : arcN (madeM r k full).2 ≤ 32) {H : Nat → Nat → Int} (hH : HopT (madeM r k full) H) :
    remR H (madeM r k full) = remM H (madeM r k full) ∧ remE H (madeM r k full) = 0 ∧ faultM (remM H (madeM r k full)) = 0 ∧ CheapL (remM H (madeM r k full)).2 := by
  have h9 := made_nine r k full
  have h1 := nine_right hr h9 h8 h32 hH
  have h2 := nine_ov hr h9 h8 hH (Nat.le_refl _)
  have h3 := right_fit h1.1
  have e1 := rem_fit hr h2
  exact ⟨e1.1.trans h3.1, e1.2.trans h3.2, h1.1, h1.2⟩
/-- Removed again: only merged. -/
theorem noEmp_again {m : Mc} (hr : faultM m = 0) (h : NoEmp m.2) (hm : faultM (mapM mrgL m) = 0) {H : Nat → Nat → Int} (hH : HopT m H) : remR H m = mapM mrgL m ∧ remE H m = 0 := by
  have h1 := noEmp_rem hr h hH
  have h2 := noEmp_ov hr h hH (Nat.le_refl _)
  have h3 := right_fit hm
  have e1 := rem_fit hr h2
  rw [h1] at e1
  exact ⟨e1.1.trans h3.1, e1.2.trans h3.2⟩
theorem mrg_right {m : Mc} (h : faultM m = 0) : faultM (mapM mrgL m) = 0 := fault_map (fun l => mrg_le l) (fun l a ha => mrg_mem ha) h
end Go.Proofs.Ytjpfpdbhdcopbaa.Pl
