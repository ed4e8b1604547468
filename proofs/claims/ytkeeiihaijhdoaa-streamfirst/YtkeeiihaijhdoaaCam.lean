/- What is held behind labels that were fed: the best of all paths that read them; what ends is the least of them (no program in sight). -/
import Derived.Test.YtkeeiihaijhdoaaCaj
import Derived.Test.YtkeeiihaijhdoaaCal
import Derived.Test.YtkeeiihaijhdoaaCak
import Derived.Test.YtkeeiihaijhdoaaCac
import Derived.Test.YtkeeiihaijhdoaaCab
import Derived.Test.YtkeeiihaijhdoaaCai
namespace Go.Proofs.Ytkeeiihaijhdoaa.Sm
open Go.Proofs.Ytkeeiihaijhdoaa.Pl
set_option linter.unusedVariables false
set_option linter.unusedSimpArgs false
def Wm (m : Mc) (x : List Int) (q : Int) (k : Ky) : Prop := ∃ t c : Nat, q = (t : Int) ∧ k.1 = (c : Int) ∧ Pl.Way m.2 m.1.toNat x k.2 t c
theorem Wm.snoc {m : Mc} {x : List Int} {q : Int} {k : Ky} {a : Ar} (hf : faultM m = 0) (h : Wm m x q k) (ha : a ∈ arcS m q) : Wm m (x ++ lab a.1) a.2.2.2 (goA k a) := by
 obtain ⟨t, c, rfl, h1, h2⟩ := h
 have hr := arcs_rng hf ha
 have hw := h2.snoc (a := a) (by simpa [arcS] using ha) (t := a.2.2.2.toNat) (by omega)
 refine ⟨a.2.2.2.toNat, c + a.2.2.1.toNat, by omega, ?_, ?_⟩
 ·show k.1 + a.2.2.1 = _
  push_cast
  omega
 ·have e : (goA k a).2 = k.2 ++ lab a.2.1 := by
   unfold goA lab
   by_cases h0 : a.2.1 = 0 <;> simp [h0]
  rw [e]
  exact hw
def SndW (m : Mc) (x : List Int) (K : Tbl) : Prop := ∀ q k, K q = some k → Wm m x q k
def CovW (m : Mc) (x : List Int) (K : Tbl) : Prop := ∀ t c v, Pl.Way m.2 m.1.toNat x v t c → LeT K (t : Int) ((c : Int), v)
theorem goA_way (c : Nat) (v : List Int) {a : Ar} (h : 0 ≤ a.2.2.1) : goA ((c : Int), v) a = (((c + a.2.2.1.toNat : Nat) : Int), v ++ lab a.2.1) := by
 unfold goA lab
 refine Prod.ext ?_ ?_
 ·simp only
  push_cast
  omega
 ·by_cases h0 : a.2.1 = 0 <;> simp [h0]
theorem SndW.clo {m : Mc} {x : List Int} {T K : Tbl} (hf : faultM m = 0) (h : SndW m x T) (hc : Clo m T K) : SndW m x K := fun q k hk => by
  have := hc.1 q k hk
  clear hk
  induction this with
  | base h1 => exact h _ _ h1
  | step h1 ha h0 ih =>
    have := ih.snoc hf ha
    rw [h0] at this
    simpa [lab] using this
theorem SndW.step {m : Mc} {x : List Int} {K O : Tbl} {l : Int} (hf : faultM m = 0) (hl : l ≠ 0) (h : SndW m x K) (hm : MinT (StpL m K l) O) : SndW m (x ++ [l]) O := fun q k hk => by
 obtain ⟨p, y, a, h1, h2, h3, rfl, rfl⟩ := hm.1 q k hk
 have := (h p y h1).snoc hf h2
 rw [h3] at this
 simpa [lab, hl] using this
theorem lab_nil {a : Int} (h : lab a = []) : a = 0 := by
 unfold lab at h
 by_cases h0 : a = 0
 ·exact h0
 ·rw [if_neg h0] at h; cases h
theorem LeT.ways {m : Mc} {T K : Tbl} {t : Nat} {c : Nat} {v : List Int} {a : Ar} (hf : faultM m = 0) (hc : Clo m T K) (h : LeT K (t : Int) ((c : Int), v)) (ha : a ∈ (el m.2 t).2) (h0 : a.1 = 0) : LeT K a.2.2.2 (((c + a.2.2.1.toNat : Nat) : Int), v ++ lab a.2.1) := by
 obtain ⟨b, h1, h2⟩ := h
 have ha' : a ∈ arcS m (t : Int) := by simpa [arcS] using ha
 have hr := arcs_rng hf ha'
 rw [← goA_way c v hr.2.2.2.1]
 exact (hc.2 _ _ (.step (hc.1 _ _ h1) ha' h0)).le (h2.goA a)
theorem cov_start {m : Mc} {K : Tbl} (hf : faultM m = 0) (hz : 0 ≤ m.1) (hc : Clo m (startT m) K) : CovW m [] K := by
  intro t c v h
  generalize hu : ([] : List Int) = u at h
  induction h with
  | nil =>
    refine hc.2 _ _ (.base ?_)
    unfold startT
    rw [if_pos ⟨hz, by omega⟩]
    rfl
  | snoc h ha ht ih =>
    have h1 := List.append_eq_nil_iff.1 hu.symm
    have := LeT.ways hf hc (ih h1.1.symm) ha (lab_nil h1.2)
    rwa [ht] at this
theorem snd_start {m : Mc} : SndW m [] (startT m) := fun q k hk => by
 unfold startT at hk
 by_cases e : 0 ≤ m.1 ∧ q = m.1
 ·rw [if_pos e, Option.some.injEq] at hk
  subst hk
  exact ⟨m.1.toNat, 0, by omega, rfl, .nil⟩
 ·rw [if_neg e] at hk; cases hk
theorem CovW.step {m : Mc} {x : List Int} {K O K' : Tbl} {l : Int} (hf : faultM m = 0) (hl : l ≠ 0) (h : CovW m x K) (hm : MinT (StpL m K l) O) (hc : Clo m O K') : CovW m (x ++ [l]) K' := by
  intro t c v hw
  generalize hu : x ++ [l] = u at hw
  induction hw with
  | nil => simp at hu
  | snoc hw ha ht ih =>
    rename_i u1 v1 p1 c1 a t1
    by_cases h0 : a.1 = 0
    · have e : x ++ [l] = u1 := by rw [hu, h0]; simp [lab]
      have := LeT.ways hf hc (ih e) ha h0
      rwa [ht] at this
    · have e : x ++ [l] = u1 ++ [a.1] := by rw [hu]; simp [lab, h0]
      obtain ⟨e1, e2⟩ := List.append_inj' e rfl
      subst e1
      simp only [List.cons.injEq, and_true] at e2
      obtain ⟨b, g1, g2⟩ := h p1 c1 v1 hw
      have ha' : a ∈ arcS m (p1 : Int) := by simpa [arcS] using ha
      have hr := arcs_rng hf ha'
      obtain ⟨o, g3, g4⟩ := hm.2 a.2.2.2 (goA b a) ⟨_, b, a, g1, ha', e2.symm, rfl, rfl⟩
      have g5 := (hc.2 _ _ (.base g3)).le (g4.trans (g2.goA a))
      rw [goA_way c1 v1 hr.2.2.2.1, ht] at g5
      exact g5
theorem fed_ways {m : Mc} (hf : faultM m = 0) : ∀ {l : List Int} {K : Tbl} {res : Option Tbl} {x : List Int}, FedT m K l res → (∀ a ∈ l, a ≠ 0) → SndW m x K → CovW m x K → ∀ R, res = some R → SndW m (x ++ l) R ∧ CovW m (x ++ l) R
  | [], _, _, x, .nil _, _, h1, h2, R, e => by
    cases e
    rw [List.append_nil]
    exact ⟨h1, h2⟩
  | y :: l, _, _, x, .over a1 a2 a3, _, _, _, R, e => by cases e
  | y :: l, _, _, x, .on a1 a2 a3 a4, hl, h1, h2, R, e => by
    have h0 := hl y (by simp)
    have := fed_ways hf a4 (x := x ++ [y]) (fun a ha => hl a (by simp [ha])) ((h1.step hf h0 a1).clo hf a2) (h2.step hf h0 a1 a2) R e
    simpa using this
theorem leK.fin {c d : Int} {v w : List Int} (h : leK (c, v) (d, w)) (f : Int) : leK (c + f, v) (d + f, w) := by
 have := h.goA ((0, 0, f, 0) : Ar)
 simpa [Sm.goA] using this
theorem endL_best {F : Int → Int} : ∀ (l : List Mk), (endL F l = none → ∀ k ∈ l, F k.1 = 1000000001) ∧ ∀ b, endL F l = some b → (∃ k ∈ l, F k.1 ≠ 1000000001 ∧ b = (k.2.1 + F k.1, k.2.2)) ∧ ∀ k ∈ l, F k.1 ≠ 1000000001 → leK b (k.2.1 + F k.1, k.2.2) := by
  suffices h : ∀ (l : List Mk) (s : Option Ky), (l.foldl (endK F) s = none → s = none ∧ ∀ k ∈ l, F k.1 = 1000000001) ∧ ∀ b, l.foldl (endK F) s = some b → (s = some b ∨ ∃ k ∈ l, F k.1 ≠ 1000000001 ∧ b = (k.2.1 + F k.1, k.2.2)) ∧ (∀ a, s = some a → leK b a) ∧ ∀ k ∈ l, F k.1 ≠ 1000000001 → leK b (k.2.1 + F k.1, k.2.2) by
    intro l
    refine ⟨fun h1 => ((h l none).1 h1).2, fun b hb => ?_⟩
    obtain ⟨h1, _, h3⟩ := (h l none).2 b hb
    rcases h1 with h1 | h1
    · cases h1
    · exact ⟨h1, h3⟩
  intro l
  induction l with
  | nil =>
    intro s
    refine ⟨fun h => ⟨h, by simp⟩, fun b hb => ⟨.inl hb, fun a ha => ?_, by simp⟩⟩
    have hb : s = some b := hb
    rw [hb, Option.some.injEq] at ha
    subst ha
    exact leK.refl _
  | cons k l ih =>
    intro s
    have hk : (endK F s k = s ∧ F k.1 = 1000000001) ∨ (F k.1 ≠ 1000000001 ∧ ∃ a, endK F s k = some a ∧ (s = some a ∨ a = (k.2.1 + F k.1, k.2.2)) ∧ leK a (k.2.1 + F k.1, k.2.2) ∧ ∀ d, s = some d → leK a d) := by
      unfold endK
      by_cases hF : F k.1 = 1000000001
      · rw [if_pos hF]; exact .inl ⟨rfl, hF⟩
      · rw [if_neg hF]
        refine .inr ⟨hF, ?_⟩
        rcases s with _ | d
        · exact ⟨_, rfl, .inr rfl, leK.refl _, by simp⟩
        · by_cases hB : betB (k.2.1 + F k.1, k.2.2) d = true
          · refine ⟨_, by simp only [if_pos hB], .inr rfl, leK.refl _, fun e he => ?_⟩
            simp only [Option.some.injEq] at he
            subst he
            exact betB_le hB
          · refine ⟨d, by simp only [if_neg hB], .inl rfl, by unfold leK; simpa using hB, fun e he => ?_⟩
            simp only [Option.some.injEq] at he
            subst he
            exact leK.refl _
    obtain ⟨i1, i2⟩ := ih (endK F s k)
    rw [List.foldl_cons]
    rcases hk with ⟨e, hF⟩ | ⟨hF, a, e, h1, h2, h3⟩
    · rw [e] at i1 i2 ⊢
      refine ⟨fun h => ⟨(i1 h).1, ?_⟩, fun b hb => ?_⟩
      · intro j hj
        rcases List.mem_cons.1 hj with rfl | hj
        · exact hF
        · exact (i1 h).2 j hj
      · obtain ⟨g1, g2, g3⟩ := i2 b hb
        refine ⟨?_, g2, fun j hj hFj => ?_⟩
        · rcases g1 with g1 | ⟨j, hj, g⟩
          · exact .inl g1
          · exact .inr ⟨j, by simp [hj], g⟩
        · rcases List.mem_cons.1 hj with rfl | hj
          · exact absurd hF hFj
          · exact g3 j hj hFj
    · refine ⟨fun h => ?_, fun b hb => ?_⟩
      · have := (i1 h).1
        rw [e] at this; cases this
      · obtain ⟨g1, g2, g3⟩ := i2 b hb
        have hba := g2 a e
        refine ⟨?_, fun d hd => hba.trans (h3 d hd), fun j hj hFj => ?_⟩
        · rcases g1 with g1 | ⟨j, hj, g⟩
          · rw [e, Option.some.injEq] at g1
            subst g1
            rcases h1 with h1 | h1
            · exact .inl h1
            · exact .inr ⟨k, by simp, hF, h1⟩
          · exact .inr ⟨j, by simp [hj], g⟩
        · rcases List.mem_cons.1 hj with rfl | hj
          · exact hba.trans h2
          · exact g3 j hj hFj
theorem fin_rngW {m : Mc} (hf : faultM m = 0) (q : Nat) (hq : q < m.2.length) : 0 ≤ finS m (q : Int) ∧ finS m (q : Int) ≤ 1000000001 := by
 obtain ⟨z, l⟩ := m
 have h1 := (right_st hf hq).1
 have e : finS (z, l) (q : Int) = (el l q).1 := by simp [finS]
 rw [e]
 simp only [finB, inB, Bool.or_eq_true, Bool.and_eq_true, decide_eq_true_eq] at h1
 omega
theorem end_best {m : Mc} (hf : faultM m = 0) (hz : 0 ≤ m.1) {x : List Int} {R : Tbl} (hD : DomT m.2.length R) (h1 : SndW m x R) (h2 : CovW m x R) :
  (endL (finS m) (ordL m.2.length R) = none → ∀ y c, ¬ Costs m x y c) ∧ ∀ b, endL (finS m) (ordL m.2.length R) = some b → (∃ c : Nat, b.1 = (c : Int) ∧ Costs m x b.2 c) ∧ ∀ y (c : Nat), Costs m x y c → leK b ((c : Int), y) := by
 obtain ⟨e1, e2⟩ := endL_best (F := finS m) (ordL m.2.length R)
 have hin : ∀ y c, Costs m x y c → ∃ k ∈ ordL m.2.length R, finS m k.1 ≠ 1000000001 ∧ leK (k.2.1 + finS m k.1, k.2.2) ((c : Int), y) := by
  rintro y c ⟨_, p, d, hw, hp, hF, rfl⟩
  obtain ⟨b, g1, g2⟩ := h2 p d y hw
  have hr := fin_rngW hf p hp
  have e : finS m (p : Int) = (el m.2 p).1 := by simp [finS]
  refine ⟨((p : Int), b), (mem_ordL hD).2 g1, by simp only [e]; exact hF, ?_⟩
  have := leK.fin (c := b.1) (v := b.2) g2 (finS m (p : Int))
  have e3 : ((d + (el m.2 p).1.toNat : Nat) : Int) = (d : Int) + finS m (p : Int) := by
   push_cast
   omega
  rw [e3]
  exact this
 refine ⟨fun h y c hc => ?_, fun b hb => ?_⟩
 ·obtain ⟨k, hk, hF, _⟩ := hin y c hc
  exact hF (e1 h k hk)
 ·obtain ⟨⟨k, hk, hF, rfl⟩, g2⟩ := e2 b hb
  refine ⟨?_, fun y c hc => ?_⟩
  ·obtain ⟨t, c, et, ec, hw⟩ := h1 _ _ (ordL_mem hk)
   have hq := hD _ _ (ordL_mem hk)
   have ht : t < m.2.length := by omega
   have hr := fin_rngW hf t ht
   have e : finS m (t : Int) = (el m.2 t).1 := by simp [finS]
   rw [et] at hF ⊢
   rw [e] at hF hr ⊢
   refine ⟨c + (el m.2 t).1.toNat, ?_, hz, t, c, hw, ht, hF, rfl⟩
   simp only [ec]
   push_cast
   omega
  ·obtain ⟨j, hj, hFj, g3⟩ := hin y c hc
   exact (g2 j hj hFj).trans g3
end Go.Proofs.Ytkeeiihaijhdoaa.Sm
namespace Go.Proofs.Ytkeeiihaijhdoaa.Pl
set_option linter.unusedVariables false
set_option linter.unusedSimpArgs false
theorem cst_exists {P : Nat → Prop} (hb : ∀ c, P c → ∃ d, d ≤ 100000000 ∧ P d) : ∃ n, CstIs P n := by
  by_cases h : ∃ c, P c
  · obtain ⟨c, hc⟩ := h
    have key : ∀ k, (∃ d, d ≤ k ∧ P d) → ∃ c, LeastP P c ∧ c ≤ k := by
      intro k
      induction k with
      | zero =>
        rintro ⟨d, hd, hp⟩
        obtain rfl : d = 0 := by omega
        exact ⟨0, ⟨hp, fun _ _ => Nat.zero_le _⟩, Nat.le_refl _⟩
      | succ k ih =>
        rintro ⟨d, hd, hp⟩
        by_cases g : ∃ d, d ≤ k ∧ P d
        · obtain ⟨c, h1, h2⟩ := ih g
          exact ⟨c, h1, by omega⟩
        · have hdk : d = k + 1 := by
            by_cases e : d ≤ k
            · exact absurd ⟨d, e, hp⟩ g
            · omega
          subst hdk
          refine ⟨k + 1, ⟨hp, fun e he => ?_⟩, Nat.le_refl _⟩
          by_cases g2 : e ≤ k
          · exact absurd ⟨e, g2, he⟩ g
          · omega
    obtain ⟨c, h1, h2⟩ := key 100000000 (hb c hc)
    exact ⟨_, .inr ⟨c, h1, h2, rfl⟩⟩
  · exact ⟨_, .inl ⟨rfl, fun c hc => h ⟨c, hc⟩⟩⟩
end Go.Proofs.Ytkeeiihaijhdoaa.Pl
namespace Go.Proofs.Ytkeeiihaijhdoaa.Sm
open Go.ChangeShapes Go.WideShapes Go.ChangeAt Go.RowKit
open Go.Proofs.Ytkeeiihaijhdoaa.Pl Go.Proofs.Ytkeeiihaijhdoaa.Wt
set_option linter.unusedVariables false
def EndIs (m : Mc) (x : List Int) (t : List Int × Int × Int) : Prop := (t = ([], 0, 12) ∧ ∀ y c, ¬ Costs m x y c) ∨ ∃ (y : List Int) (c : Nat), t = (y, (c : Int), 0) ∧ Costs m x y c ∧ c ≤ 100000000 ∧ labB y = true ∧ y.length ≤ 800 ∧ ∀ z (d : Nat), Costs m x z d → leK ((c : Int), y) ((d : Int), z)
theorem endIs_of {m : Mc} (h : CutM m) (hch : CheapL m.2) {a s : Ru} {x : List Int} {e f : Int} (hl : labB x = true) (hx : x.length ≤ 12) (ha : BegAns m a e) (hs : FedAns m a x s f) :
  e = 0 ∧ f = 0 ∧ 0 < a.2.length ∧ EndIs m x (endA m s) := by
 obtain ⟨K, rfl, rfl, hK, hclo, h0⟩ := cut_beg h ha
 obtain ⟨R, rfl, rfl, hR, hCR⟩ := cut_ans h hK (by omega) (by omega) hl (by omega) (by omega) hs
 refine ⟨rfl, rfl, h0, ?_⟩
 have hz := start_rng h.ok
 have hn0 : ∀ a ∈ x, a ≠ 0 := fun a ha => by
  have := List.all_eq_true.1 (show x.all (fun x => inB x 1 1000) = true from hl) a ha
  simp only [inB, Bool.and_eq_true, decide_eq_true_eq] at this
  omega
 obtain ⟨g1, g2⟩ := fed_ways h.ok hR hn0 (snd_start.clo h.ok hclo) (cov_start h.ok h.beg hclo) R rfl
 rw [List.nil_append] at g1 g2
 obtain ⟨e1, e2⟩ := end_best h.ok h.beg hCR.dom g1 g2
 have hrun : runB m.2.length ((0 : Int) + (x.length : Int), ordL m.2.length R) = true := cut_run (by omega) hCR (by omega) (by omega)
 unfold endA
 rw [if_neg (by simp [h.ok]), if_neg (by rw [hrun]; simp)]
 simp only
 rcases hE : endL (finS m) (ordL m.2.length R) with _ | b
 ·exact .inl ⟨rfl, e1 hE⟩
 ·obtain ⟨⟨c, hc1, hc2⟩, hbest⟩ := e2 b hE
  obtain ⟨⟨k, hk, hF, hb⟩, _⟩ := (endL_best (F := finS m) (ordL m.2.length R)).2 b hE
  obtain ⟨d, hd, y', hy'⟩ := costsR_bound h.ok hch hx c ⟨_, hc2⟩
  have h9 := leK_cost (hbest y' d hy')
  simp only at h9
  have hb2 := hCR.bnd _ _ (ordL_mem hk)
  have hlb := hCR.lab _ _ (ordL_mem hk)
  obtain ⟨b1, b2⟩ := b
  simp only at hc1 hc2 h9 hbest
  simp only [Prod.mk.injEq] at hb
  subst hc1
  show EndIs m x (if 1000000000 < (c : Int) then ([], 0, 4) else (b2, (c : Int), 0))
  rw [if_neg (by omega)]
  refine .inr ⟨b2, c, rfl, hc2, by omega, ?_, ?_, hbest⟩
  ·unfold labB
   rw [hb.2]
   exact List.all_eq_true.2 fun x hx => by have := hlb x hx; simp [inB]; omega
  ·rw [hb.2]
   omega
theorem endIs_least {m : Mc} {x : List Int} {t : List Int × Int × Int} {n : Int} (h : EndIs m x t) (hn : CstIs (CostsR m x) n) :
  (n = 1000000001 ∧ t = ([], 0, 12)) ∨ ∃ y, t = (y, n, 0) ∧ n ≠ 1000000001 ∧ labB y = true ∧ y.length ≤ 800 ∧ ∀ k, CstIs (Costs m x y) k → k = n := by
 rcases h with ⟨rfl, h⟩ | ⟨y, c, rfl, hc, hcb, hl, hy, hb⟩
 ·refine .inl ⟨?_, rfl⟩
  rcases hn with ⟨rfl, _⟩ | ⟨d, hd, _, rfl⟩
  ·rfl
  ·obtain ⟨z, hz⟩ := hd.1
   exact absurd hz (h z d)
 ·have hcn : n = (c : Int) := by
   rcases hn with ⟨rfl, hn⟩ | ⟨d, hd, _, rfl⟩
   ·exact absurd ⟨y, hc⟩ (hn c)
   ·obtain ⟨z, hz⟩ := hd.1
    have h1 := leK_cost (hb z d hz)
    have h2 := hd.2 c ⟨y, hc⟩
    simp only at h1
    omega
  subst hcn
  refine .inr ⟨y, rfl, by omega, hl, hy, fun k hk => ?_⟩
  rcases hk with ⟨rfl, hk⟩ | ⟨d, hd, _, rfl⟩
  ·exact absurd hc (hk c)
  ·have h1 := leK_cost (hb y d hd.1)
   have h2 := hd.2 c hc
   simp only at h1
   omega
theorem endIs_first {m : Mc} {x z : List Int} {t : List Int × Int × Int} {k : Int} (h : EndIs m x t) (hk : CstIs (Costs m x z) k) :
  (k = 1000000001 ∧ t = ([], 0, 12)) ∨ ∃ (y : List Int) (c : Int), t = (y, c, 0) ∧ y.length ≤ 800 ∧ (c < k ∨ (k = c ∧ y.length ≤ z.length ∧ (z.length = y.length → lexB z y = false))) := by
 rcases h with ⟨rfl, h⟩ | ⟨y, c, rfl, hc, hcb, hl, hy, hb⟩
 ·refine .inl ⟨?_, rfl⟩
  rcases hk with ⟨rfl, _⟩ | ⟨d, hd, _, rfl⟩
  ·rfl
  ·exact absurd hd.1 (h z d)
 ·refine .inr ⟨y, c, rfl, hy, ?_⟩
  rcases hk with ⟨rfl, _⟩ | ⟨d, hd, _, rfl⟩
  ·exact .inl (by omega)
  ·have h1 := hb z d hd.1
   have h2 := leK_cost h1
   simp only at h2
   by_cases hcd : c < d
   ·exact .inl (by omega)
   ·refine .inr ⟨by omega, ?_⟩
    unfold leK betB at h1
    simp only at h1
    rw [if_pos (by omega)] at h1
    by_cases hlen : z.length = y.length
    ·rw [if_pos hlen] at h1
     exact ⟨by omega, fun _ => h1⟩
    ·rw [if_neg hlen] at h1
     simp only [decide_eq_false_iff_not] at h1
     exact ⟨by omega, fun g => absurd g hlen⟩
end Go.Proofs.Ytkeeiihaijhdoaa.Sm
namespace Go.Proofs.Ytkeeiihaijhdoaa.Sm
open Go.ChangeShapes Go.WideShapes Go.ChangeAt Go.RowKit Go.Maps
open Go.Proofs.Ytkeeiihaijhdoaa.Pl Go.Proofs.Ytkeeiihaijhdoaa.Wt
set_option linter.unusedVariables false
set_option linter.unusedSimpArgs false
theorem numsNil (w : World) : Nums w (.slice none 0 0) [] := Or.inl ⟨rfl, rfl⟩
def RunRes (r : Ru) (ec : Int) (w : World) (e : Ending) (w' : World) : Prop := ∃ v, e = .returned (.tuple #[v, .int .i64 ec]) ∧ RunV w' v r ∧ Below w.heap.size w w'
set_option maxRecDepth 100000 in
set_option maxHeartbeats 1600000 in
theorem begun_any (v : Value) (mc : Mc) (w : World) (h : Mach w v mc) (hok : okM mc) (hf : faultM mc = 0) :
  Calls Try.prog 28 #[v] w fun e w' => ∃ (mk : Nat) (K : Tbl) (kk : List Int), e = .returned (.map (some mk)) ∧ MpK w' mk K kk ∧ Clo mc (startT mc) K ∧ DomT mc.2.length K ∧ BndT 60000000000 60 K ∧ Below w.heap.size w w' := by
 have HMa := hidP h
 have HK := hidP hok
 have HF := hidP hf
 have hz := start_rng hf
 obtain ⟨z, l⟩ := mc
 obtain ⟨vs, rfl, hS⟩ := h
 obtain ⟨a, cap, rfl⟩ := hS.sl
 have h60 := (right_size hf).1
 clear hS hok hf
 simp only at hz
 have hmk := @run_makeMap Try.prog
 have HU : Hid (Below w.heap.size w ((w.alloc (.cells #[.int .i64 z, .slice a l.length cap] 24)).alloc (.map #[] 0))) := by show Below _ _ _; go_grown
 have HM0 : Hid (MpK ((w.alloc (.cells #[.int .i64 z, .slice a l.length cap] 24)).alloc (.map #[] 0)) (w.heap.size + 1) (fun _ => none) []) := by
  have h := MpK.made (w.alloc (.cells #[.int .i64 z, .slice a l.length cap] 24))
  simp only [World.size_alloc] at h
  exact h
 have HB0 : Hid (Blk ((w.alloc (.cells #[.int .i64 z, .slice a l.length cap] 24)).alloc (.map #[] 0)) w.heap.size #[.int .i64 z, .slice a l.length cap] 24) := (Blk.made w _ _).alloc _
 have HDm : Hid (DomT l.length (startT (z, l))) := startT_dom (m := (z, l)) hz.2
 have HBd : Hid (BndT 0 0 (startT (z, l))) := startT_bnd (z, l)
 by_cases h0 : 0 ≤ z
 ·have HPT : Hid (startT (z, l) = putT (fun _ => none) z (0, [])) := startT_put (m := (z, l)) h0
  have hwf : wfI z := wfI_of (by omega) (by omega)
  go_enter Try.func28, Try.ntmps28
  go_wp2_with (first
   | (go_at_call 51; (with_reducible refine (put_any (w.heap.size + 1) _ (z, 0, []) _ [] _ HM0.out (mkIs_of (numsNil _)) hwf (by simp) (by simp)).mono ?_); rintro e w1 ⟨rfl, hM1, hg1⟩; have HM1 : Hid (MpK w1 (w.heap.size + 1) (startT (z, l)) (addS [] z)) := (by show MpK _ _ _ _; rw [HPT.out]; exact hM1); have HG1 : Hid (w.grownBy w1 none) := gMap (gNew HU.out) hg1 (by omega); have HB1 := hidP (HB0.out.grown hg1 (by simp)); have c0 := HB1.out.cell 0 (v := .int .i64 z) rfl; have c1 := HB1.out.cell 1 (v := .slice a l.length cap) rfl; have HK1 := hidP (HM0.out.keeps hg1); clear hM1 hg1)
   | (go_at_call 52; (with_reducible refine (closed_any _ (z, l) (w.heap.size + 1) (startT (z, l)) _ 0 0 _ (Mach.keeps (HMa.out.later HU.out (Nat.le_refl _)) HK1.out) HK.out HF.out HM1.out HDm.out HBd.out (by omega) (by omega)).mono ?_); rintro e w2 ⟨mk, K, kk, rfl, hM2, hC2, hD2, hB2, hle2, hg2⟩; have HM2 := hidP hM2; have HC2 := hidP hC2; have HD2 := hidP hD2; have HBn2 : Hid (BndT 60000000000 60 K) := (by show BndT _ _ _; simpa using hB2); have HG2 : Hid (w.grownBy w2 none) := gMap HG1.out hg2 (by omega); clear hM2 hC2 hD2 hB2 hg2))
  go_ret
  exact ⟨mk, K, kk, rfl, HM2.out, HC2.out, HD2.out, HBn2.out, gBelow HG2.out (by simp) (Nat.le_refl _)⟩
 ·have HPT : Hid (startT (z, l) = fun _ => none) := startT_none (m := (z, l)) (by simp only; omega)
  go_enter Try.func28, Try.ntmps28
  go_wp2_with (first
   | (go_at_call 52; (with_reducible refine (closed_any _ (z, l) (w.heap.size + 1) (startT (z, l)) [] 0 0 _ (HMa.out.later HU.out (Nat.le_refl _)) HK.out HF.out (by rw [HPT.out]; exact HM0.out) HDm.out HBd.out (by omega) (by omega)).mono ?_); rintro e w2 ⟨mk, K, kk, rfl, hM2, hC2, hD2, hB2, hle2, hg2⟩; have HM2 := hidP hM2; have HC2 := hidP hC2; have HD2 := hidP hD2; have HBn2 : Hid (BndT 60000000000 60 K) := (by show BndT _ _ _; simpa using hB2); have HG2 : Hid (w.grownBy w2 none) := gMap (gNew HU.out) hg2 (by omega); clear hM2 hC2 hD2 hB2 hg2))
  go_ret
  exact ⟨mk, K, kk, rfl, HM2.out, HC2.out, HD2.out, HBn2.out, gBelow HG2.out (by simp) (Nat.le_refl _)⟩
set_option maxRecDepth 100000 in
set_option maxHeartbeats 1600000 in
theorem beginP_any (v : Value) (mc : Mc) (w : World) (h : Mach w v mc) (hok : okM mc) :
  Calls Try.prog 10 #[v] w fun e w' => ∃ r ec, BegAns mc r ec ∧ RunRes r ec w e w' := by
 have HMa := hidP h
 have HK := hidP hok
 obtain ⟨z, l⟩ := mc
 obtain ⟨vs, rfl, hS⟩ := h
 obtain ⟨a, cap, rfl⟩ := hS.sl
 clear hS hok
 have HU : Hid (Below w.heap.size w ((w.alloc (.cells #[.int .i64 z, .slice a l.length cap] 24)).alloc (.cells #[.int .i64 0, .slice none 0 0] 28))) := by show Below _ _ _; go_grown
 by_cases hf : faultM (z, l) = 0
 ·have HF := hidP hf
  have h60 := (right_size hf).1
  clear hf
  go_enter Try.func10, Try.ntmps10
  go_wp2_with (first
   | (go_at_call 27; (with_reducible refine (coreCheck_any _ (z, l) _ (HMa.out.later HU.out (Nat.le_refl _)) HK.out 0 HF.out).mono ?_); rintro e w1 ⟨rfl, hb⟩; obtain ⟨s1, b1, b2, hb1⟩ := boxedTwo hb (by simp); have HB1 := hidP hb1; have BM1 := hidP b1; have BR1 := hidP b2; have c0 := b1.cell 0 (v := .int .i64 z) rfl; have c1 := b1.cell 1 (v := .slice a l.length cap) rfl; clear hb hb1 b1 b2)
   | (go_at_call 28; (with_reducible refine (begun_any _ (z, l) _ (HMa.out.later HB1.out (Nat.le_refl _)) HK.out HF.out).mono ?_); rintro e w2 ⟨mk, K, kk, rfl, hM2, hC2, hD2, hB2, hb2⟩; have HM2 := hidP hM2; have HC2 := hidP hC2; have HBn2 : Hid (∀ q k, K q = some k → k.2.length ≤ 1000000) := (fun q k hk => by have := (hB2 q k hk).2.2; omega); have HB2 : Hid (Below w.heap.size w w2) := HB1.out.trans (hb2.mono HB1.out.size); have BM2 := hidP (BM1.out.below hb2 BM1.out.lt); have BR2 := hidP (BR1.out.below hb2 BR1.out.lt); clear hM2 hC2 hD2 hB2 hb2)
   | (go_at_call 29; (with_reducible refine (haveOver_any mk K kk _ HM2.out).mono ?_); rintro e w3 ⟨ov, rfl, hov, hb3⟩; have HOV : Hid (ov = true ↔ OverT K) := hov; have HB3 : Hid (Below w.heap.size w w3) := HB2.out.trans (hb3.mono HB2.out.size); have HM3 := hidP (HM2.out.below hb3); have BM3 := BM2.out.below hb3 BM2.out.lt; have BR3 := hidP (BR2.out.below hb3 BR2.out.lt); have d0 := BM3.cell 0 (v := .int .i64 z) rfl; have d1 := BM3.cell 1 (v := .slice a l.length cap) rfl; have y0 := BR3.out.cell 0 (v := .int .i64 0) rfl; have y1 := BR3.out.cell 1 (v := .slice none 0 0) rfl; have t0 := BR3.out.fz 0; have t1 := BR3.out.fz 1; have z2 : w.heap.size + 1 < w3.heap.size := BR3.out.lt; clear hov hb3 BM3; rcases ov with _ | _)
   | (go_at_call 30; (with_reducible refine (inOrder_any _ (z, l) mk K kk _ (HMa.out.later HB3.out (Nat.le_refl _)) h60 HM3.out HBn2.out).mono ?_); rintro e w4 ⟨v4, rfl, hm4, hb4⟩; have HM4 := hidP hm4; obtain ⟨a4, c4, rfl⟩ := hm4.sl; have HB4 : Hid (Below w.heap.size w w4) := HB3.out.trans (hb4.mono HB3.out.size); have BR4 := hidP (BR3.out.below hb4 BR3.out.lt); have x0 := BR4.out.cell 0 (v := .int .i64 0) rfl; have x1 := BR4.out.cell 1 (v := .slice none 0 0) rfl; have tt0 := BR4.out.fz 0; have tt1 := BR4.out.fz 1; have z4 : w.heap.size + 1 < w4.heap.size := BR4.out.lt; clear hm4 hb4))
  ·exact bodyPost_ret (v := .tuple #[.agg #[.int .i64 0, .slice a4 (ordL l.length K).length c4], .int .i64 0]) (by simp [results, Try.results10, go_sem, *]) rfl ⟨(0, ordL l.length K), 0, .inr ⟨HF.out, K, HC2.out, .inr ⟨(by simpa using HOV.out), rfl, rfl⟩⟩, _, rfl, ⟨_, rfl, ((HM4.out.set (by show w.heap.size + 1 < _; omega) _).set (by show w.heap.size + 1 < _; omega) _).marks⟩, by have h9 := HB4.out; go_grown⟩
  ·exact bodyPost_ret (v := .tuple #[.agg #[.int .i64 0, .slice none 0 0], .int .i64 4]) (by simp [results, Try.results10, go_sem, *]) rfl ⟨(0, []), 4, .inr ⟨HF.out, K, HC2.out, .inl ⟨by simpa using HOV.out, rfl, rfl⟩⟩, _, rfl, ⟨_, rfl, [], .inl ⟨rfl, rfl⟩, rfl, by simp⟩, by have h9 := HB3.out; go_grown⟩
 ·have HF := hidP hf
  generalize hq : faultM (z, l) = q at *
  have HQ := hidP hq
  clear hq
  go_enter Try.func10, Try.ntmps10
  go_wp2_with (first
   | (go_at_call 27; (with_reducible refine (coreCheck_any _ (z, l) _ (HMa.out.later HU.out (Nat.le_refl _)) HK.out q HQ.out).mono ?_); rintro e w1 ⟨rfl, hb⟩; obtain ⟨s1, b1, b2, hb1⟩ := boxedTwo hb (by simp); have HB1 := hidP hb1; have y0 := b2.cell 0 (v := .int .i64 0) rfl; have y1 := b2.cell 1 (v := .slice none 0 0) rfl; have t0 := b2.fz 0; have t1 := b2.fz 1; have z2 : w.heap.size + 1 < w1.heap.size := b2.lt; clear hb hb1 b1 b2))
  exact bodyPost_ret (v := .tuple #[.agg #[.int .i64 0, .slice none 0 0], .int .i64 q]) (by simp [results, Try.results10, go_sem, *]) rfl ⟨(0, []), q, .inl ⟨by rw [HQ.out]; exact HF.out, rfl, HQ.out.symm⟩, _, rfl, ⟨_, rfl, [], .inl ⟨rfl, rfl⟩, rfl, by simp⟩, by have h9 := HB1.out; go_grown⟩
end Go.Proofs.Ytkeeiihaijhdoaa.Sm
