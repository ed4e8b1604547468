/- What the keeping statements' 'picked' answers: a number brought into bounds. -/
import Derived.Test.YtfhjncpakgailaaGreatDoorRows
import Derived.Test.YtfhjncpakgailaaGreatDoorKah
import Derived.WalkKit
import Derived.ProofKit
import Derived.OpenShut
import Derived.Test.YtfhjncpakgailaaGreatDoorKaR
namespace Go.Proofs.YtfhjncpakgailaaGreatDoor.Wt
open Go.ChangeShapes Go.WideShapes Go.ChangeAt Go.RowKit
open Go.Proofs.YtfhjncpakgailaaGreatDoor.Pl
set_option linter.unusedVariables false
def pk (n many : Int) : Int := (if n < 0 then -(n + 1) else n) % many
theorem pk_bd (n many : Int) (h : 0 < many) : 0 ≤ pk n many ∧ pk n many < many := by
 unfold pk
 exact ⟨Int.emod_nonneg _ (by omega), Int.emod_lt_of_pos _ h⟩
theorem picked_any (n many : Int) (w : World) (hn : (Lit.int .i64 n).wf = true) (hm : 0 < many) (hm2 : many ≤ 9223372036854775807) :
  Calls Tryz.prog 37 #[.int .i64 n, .int .i64 many] w fun e w' => e = .returned (.int .i64 (pk n many)) ∧ w = w' := by
 obtain ⟨b1, b2⟩ := bounds_i64 hn
 clear hn
 by_cases h : n < 0
 ·have HP : Hid (pk n many = (-(n + 1)) % many) := by show _ = _; simp [pk, h]
  go_enter Tryz.func37, Tryz.ntmps37
  go_wp2
  go_ret
  exact ⟨ret_int (by rw [HP.out, ← Int.neg_tmod, Int.tmod_eq_emod_of_nonneg (by omega)]), rfl⟩
 ·have HP : Hid (pk n many = n % many) := by show _ = _; simp [pk, h]
  go_enter Tryz.func37, Tryz.ntmps37
  go_wp2
  go_ret
  exact ⟨ret_int (by rw [HP.out]), rfl⟩
end Go.Proofs.YtfhjncpakgailaaGreatDoor.Wt
namespace Go.Proofs.YtfhjncpakgailaaGreatDoor.Pl
set_option linter.unusedVariables false
set_option linter.unusedSimpArgs false
inductive Al2 (P : Ar → Ar → Prop) : List Ar → List Ar → Prop
 | nil : Al2 P [] []
 | cons {a b : Ar} {l r : List Ar} : P a b → Al2 P l r → Al2 P (a :: l) (b :: r)
theorem Al2.len {P : Ar → Ar → Prop} {l r : List Ar} (h : Al2 P l r) : l.length = r.length := by
 induction h with
 | nil => rfl
 | cons _ _ ih => simp [ih]
theorem Al2.at {P : Ar → Ar → Prop} {l r : List Ar} (h : Al2 P l r) : ∀ i, i < l.length → P (el l i) (el r i) := by
  induction h with
  | nil => intro i hi; simp at hi
  | cons h _ ih =>
    intro i hi
    cases i with
    | zero => simpa [el] using h
    | succ i => simpa [el] using ih i (by simpa using hi)
theorem al2_of {P : Ar → Ar → Prop} : ∀ {l r : List Ar}, l.length = r.length → (∀ i, i < l.length → P (el l i) (el r i)) → Al2 P l r
 | [], [], _, _ => .nil
 | [], _ :: _, h, _ => by simp at h
 | _ :: _, [], h, _ => by simp at h
 | a :: l, b :: r, h, k => .cons (by simpa [el] using k 0 (by simp)) (al2_of (by simpa using h) fun i hi => by simpa [el] using k (i + 1) (by simpa using hi))
theorem Al2.imp {P Q : Ar → Ar → Prop} {l r : List Ar} (h : Al2 P l r) (k : ∀ a b, P a b → Q a b) : Al2 Q l r := by
 induction h with
 | nil => exact .nil
 | cons h _ ih => exact .cons (k _ _ h) ih
theorem Al2.map {P Q : Ar → Ar → Prop} {f g : Ar → Ar} {l r : List Ar} (h : Al2 P l r) (k : ∀ a b, P a b → Q (f a) (g b)) : Al2 Q (l.map f) (r.map g) := by
 induction h with
 | nil => exact .nil
 | cons h _ ih => exact .cons (k _ _ h) ih
theorem Al2.filter {P : Ar → Ar → Prop} {f g : Ar → Bool} {l r : List Ar} (h : Al2 P l r) (k : ∀ a b, P a b → f a = g b) : Al2 (fun a b => P a b ∧ f a = true) (l.filter f) (r.filter g) := by
  induction h with
  | nil => exact .nil
  | @cons a b l r h _ ih =>
    have e := k _ _ h
    rw [List.filter_cons, List.filter_cons, e]
    cases hg : g b
    · simpa using ih
    · simpa using Al2.cons (P := fun a b => P a b ∧ f a = true) ⟨h, by rw [e, hg]⟩ ih
theorem Al2.mem {P : Ar → Ar → Prop} {l r : List Ar} (h : Al2 P l r) {a : Ar} (ha : a ∈ l) : ∃ b ∈ r, P a b := by
 obtain ⟨i, hi, rfl⟩ := mem_el ha
 exact ⟨el r i, el_mem (by rw [← h.len]; exact hi), h.at i hi⟩
theorem Al2.lbs {P : Ar → Ar → Prop} (hP : ∀ a b, P a b → a.1 = b.1 ∧ a.2.1 = b.2.1) {l r : List Ar} (h : Al2 P l r) : lbs l = lbs r := by
  induction h with
  | nil => rfl
  | @cons a b l r h _ ih =>
    obtain ⟨e1, e2⟩ := hP _ _ h
    simp only [Pl.lbs, List.map_cons] at ih ⊢
    rw [e1, e2, ih]
theorem al2_sort {P : Ar → Ar → Prop} (hP : ∀ a b, P a b → a.1 = b.1 ∧ a.2.1 = b.2.1) {l r : List Ar} (h : Al2 P l r) (hn : (lbs l).Nodup) : Al2 P (sortS false l) (sortS false r) := by
 have e := h.lbs hP
 have hn' : (lbs r).Nodup := by rw [← e]; exact hn
 have hpl : (lbs (sortS false l)).Perm (lbs l) := (sortS_perm false l).map _
 have hpr : (lbs (sortS false r)).Perm (lbs r) := (sortS_perm false r).map _
 have es : lbs (sortS false l) = lbs (sortS false r) := by
  refine List.Perm.eq_of_pairwise (le := ltP) ?_ (srt_up hn) (srt_up hn') (hpl.trans (by rw [e]; exact hpr.symm))
  intro a b _ _ h1 h2
  unfold ltP at h1 h2
  omega
 have hlen : (sortS false l).length = (sortS false r).length := by rw [sortS_length, sortS_length]; exact h.len
 refine al2_of hlen fun i hi => ?_
 obtain ⟨b, hb, hab⟩ := h.mem ((sortS_perm false l).mem_iff.1 (el_mem hi))
 obtain ⟨j, hj, e2⟩ := mem_el ((sortS_perm false r).mem_iff.2 hb)
 have hi' : i < (sortS false r).length := by omega
 have h5 : ((el (sortS false l) i).1, (el (sortS false l) i).2.1) = ((el (sortS false r) i).1, (el (sortS false r) i).2.1) := by
  have h6 := congrArg (fun L => el L i) es
  simp only [lbs] at h6
  rw [el_map hi, el_map hi'] at h6
  exact h6
 have h7 : j = i := by
  have hnr : (lbs (sortS false r)).Nodup := hpr.nodup_iff.2 hn'
  have q1 : j < (lbs (sortS false r)).length := by rw [lbs_length]; exact hj
  have q2 : i < (lbs (sortS false r)).length := by rw [lbs_length]; exact hi'
  refine (List.getElem_inj hnr (h₀ := q1) (h₁ := q2)).1 ?_
  simp only [lbs, List.getElem_map]
  rw [← el_get hj, ← el_get hi', ← h5, e2]
  obtain ⟨g1, g2⟩ := hP _ _ hab
  rw [g1, g2]
 subst h7
 rw [e2]
 exact hab
def ArR (R : Nat → Nat → Prop) (a b : Ar) : Prop := a.1 = b.1 ∧ a.2.1 = b.2.1 ∧ a.2.2.1 = b.2.2.1 ∧ ∃ t u : Nat, a.2.2.2 = (t : Int) ∧ b.2.2.2 = (u : Int) ∧ R t u
theorem bis_of {k l : List St} {R : Nat → Nat → Prop} (h : ∀ q p, R q p → q < k.length ∧ p < l.length ∧ (el k q).1 = (el l p).1 ∧ Al2 (ArR R) (el k q).2 (el l p).2) : Bis k l R := by
 refine ⟨fun q p hR => ⟨(h q p hR).1, (h q p hR).2.1⟩, fun q p hR => ?_, fun q p hR i t u hi ht hu => ?_⟩
 ·obtain ⟨_, _, h1, h2⟩ := h q p hR
  refine dif_false.2 ⟨h1, ?_⟩
  refine el_ext (by simp [h2.len]) fun i hi => ?_
  simp only [List.length_map] at hi
  rw [el_map hi, el_map (by rw [← h2.len]; exact hi)]
  obtain ⟨e1, e2, e3, _⟩ := h2.at i hi
  rw [e1, e2, e3]
 ·obtain ⟨_, _, h1, h2⟩ := h q p hR
  obtain ⟨_, _, _, t', u', e1, e2, e3⟩ := h2.at i hi
  rw [e1] at ht
  rw [e2] at hu
  have : t = t' := by omega
  have : u = u' := by omega
  subst t u
  exact e3
theorem Bis.al2 {y z : Int} {k l : List St} {R : Nat → Nat → Prop} (h : Bis k l R) (hk : faultM (y, k) = 0) (hl : faultM (z, l) = 0) {q p : Nat} (hR : R q p) : (el k q).1 = (el l p).1 ∧ Al2 (ArR R) (el k q).2 (el l p).2 := by
 obtain ⟨hq, hp⟩ := h.rng q p hR
 have hd := h.dif q p hR
 refine ⟨(dif_false.1 hd).1, al2_of (dif_len hd) fun i hi => ?_⟩
 have hi2 : i < (el l p).2.length := by rw [← dif_len hd]; exact hi
 obtain ⟨t, ht, _⟩ := to_of hk q hq _ (el_mem hi)
 obtain ⟨u, hu, _⟩ := to_of hl p hp _ (el_mem hi2)
 obtain ⟨e1, e2, e3⟩ := dif_el hd hi
 exact ⟨e1, e2, e3, t, u, ht, hu, h.arc q p hR i t u hi ht hu⟩
inductive Rct (k l : List St) (s r : Nat) : Nat → Nat → Prop
 | nil : Rct k l s r s r
 | step {q p i t u : Nat} : Rct k l s r q p → i < (el k q).2.length → (el (el k q).2 i).2.2.2 = (t : Int) → (el (el l p).2 i).2.2.2 = (u : Int) → Rct k l s r t u
theorem Rct.rel {k l : List St} {R : Nat → Nat → Prop} (h : Bis k l R) {s r : Nat} (h0 : R s r) {q p : Nat} (hr : Rct k l s r q p) : R q p := by
 induction hr with
 | nil => exact h0
 | step _ hi ht hu ih => exact h.arc _ _ ih _ _ _ hi ht hu
theorem rct_bis {k l : List St} {R : Nat → Nat → Prop} (h : Bis k l R) {s r : Nat} (h0 : R s r) : Bis k l (Rct k l s r) :=
 ⟨fun q p hr => h.rng q p (hr.rel h h0), fun q p hr => h.dif q p (hr.rel h h0), fun q p hr i t u hi ht hu => .step hr hi ht hu⟩
theorem Rct.ahead {k l : List St} {R : Nat → Nat → Prop} (h : Bis k l R) {s r : Nat} (h0 : R s r) {y z : Int} (hy : y = (s : Int)) (hz : z = (r : Int)) {A B : Nat → Prop} (hA : AheadC y k A) (hB : AheadC z l B) {q p : Nat} (hr : Rct k l s r q p) : A q ∧ B p := by
  induction hr with
  | nil => exact ⟨hA.1 s (h.rng s r h0).1 hy.symm, hB.1 r (h.rng s r h0).2 hz.symm⟩
  | @step q p i t u hr hi ht hu ih =>
    have hR := hr.rel h h0
    obtain ⟨hq, hp⟩ := h.rng q p hR
    have h1 := hA.2 q hq ih.1 _ (el_mem hi)
    have h2 := hB.2 p hp ih.2 _ (el_mem (show i < (el l p).2.length by rw [← dif_len (h.dif q p hR)]; exact hi))
    rw [ht, Int.toNat_natCast] at h1
    rw [hu, Int.toNat_natCast] at h2
    exact ⟨h1, h2⟩
theorem trim_bis {y z : Int} {k l : List St} {R : Nat → Nat → Prop} (h : Bis k l R) (hk : faultM (y, k) = 0) (hl : faultM (z, l) = 0) {s r : Nat} (h0 : R s r) (hy : y = (s : Int)) (hz : z = (r : Int)) {aa bs aa' bs' : List Bool} (hA : Least (AheadC y k) k.length aa) (hB : Least (BackC k) k.length bs) (hA' : Least (AheadC z l) l.length aa') (hB' : Least (BackC l) l.length bs') :
  ∃ RT, Bis (trmM (y, k) aa bs).2 (trmM (z, l) aa' bs').2 RT ∧ (((trmM (y, k) aa bs).1 = -1 ∧ (trmM (z, l) aa' bs').1 = -1) ∨ ∃ i j : Nat, (trmM (y, k) aa bs).1 = (i : Int) ∧ (trmM (z, l) aa' bs').1 = (j : Int) ∧ RT i j) := by
 have hb := rct_bis h h0
 have hkt := to_of (z := y) hk
 have hlt := to_of (z := z) hl
 have pk := keptL_sorted aa bs k.length
 have pl := keptL_sorted aa' bs' l.length
 have kept : ∀ {q p}, Rct k l s r q p → ((q : Int) ∈ keptL aa bs k.length ↔ (p : Int) ∈ keptL aa' bs' l.length) := fun {q p} hr => by
  obtain ⟨hq, hp⟩ := hb.rng q p hr
  obtain ⟨a1, a2⟩ := hr.ahead h h0 hy hz hA.2.1 hA'.2.1
  rw [keptL_iff, keptL_iff]
  refine ⟨fun ⟨_, _, g⟩ => ⟨hp, a2, ?_⟩, fun ⟨_, _, g⟩ => ⟨hq, a1, ?_⟩⟩
  ·obtain ⟨c, hc⟩ := end_all (m := (y, k)) hk hB hq g
   exact back_of hlt hB' hp ((hb.ends (y := y) (z := z) hk hl hr c).1 hc)
  ·obtain ⟨c, hc⟩ := end_all (m := (z, l)) hl hB' hp g
   exact back_of hkt hB hq ((hb.ends (y := y) (z := z) hk hl hr c).2 hc)
 refine ⟨fun i j => ∃ q p : Nat, Rct k l s r q p ∧ (q : Int) ∈ keptL aa bs k.length ∧ (p : Int) ∈ keptL aa' bs' l.length ∧ placeI (keptL aa bs k.length) q = (i : Int) ∧ placeI (keptL aa' bs' l.length) p = (j : Int), ?_, ?_⟩
 ·refine bis_of fun i j ⟨q, p, hr, m1, m2, e1, e2⟩ => ?_
  obtain ⟨i', hi, g1, g2⟩ := placeI_mem pk m1
  obtain ⟨j', hj, g3, g4⟩ := placeI_mem pl m2
  obtain rfl : i = i' := by omega
  obtain rfl : j = j' := by omega
  simp only [trmM, trimM, List.length_map]
  refine ⟨hi, hj, ?_⟩
  rw [el_map hi, el_map hj, g1, g3]
  simp only [trimS, Int.toNat_natCast]
  obtain ⟨f1, f2⟩ := hb.al2 (y := y) (z := z) hk hl hr
  refine ⟨f1, ?_⟩
  unfold trimA
  refine Al2.imp (Al2.filter (P := fun a b => a.1 = b.1 ∧ a.2.1 = b.2.1 ∧ a.2.2.1 = b.2.2.1 ∧ ∃ t u : Nat, Rct k l s r t u ∧ a.2.2.2 = placeI (keptL aa bs k.length) t ∧ b.2.2.2 = placeI (keptL aa' bs' l.length) u) (Al2.map f2 fun a b ⟨e1, e2, e3, t, u, ht, hu, hR⟩ => ?_) fun a b ⟨e1, e2, e3, t, u, hR, ht, hu⟩ => ?_) fun a b ⟨⟨e1, e2, e3, t, u, hR, ht, hu⟩, hf⟩ => ?_
  ·exact ⟨e1, e2, e3, t, u, hR, by simp only [turnA]; rw [ht], by simp only [turnA]; rw [hu]⟩
  ·rw [ht, hu, decide_eq_decide, placeI_nonneg pk, placeI_nonneg pl]
   exact kept hR
  ·have h1 : (t : Int) ∈ keptL aa bs k.length := by rw [decide_eq_true_eq, ht, placeI_nonneg pk] at hf; exact hf
   have h2 := (kept hR).1 h1
   obtain ⟨i2, _, _, g5⟩ := placeI_mem pk h1
   obtain ⟨j2, _, _, g6⟩ := placeI_mem pl h2
   exact ⟨e1, e2, e3, i2, j2, by rw [ht, g5], by rw [hu, g6], t, u, hR, h1, h2, g5, g6⟩
 ·by_cases g : (s : Int) ∈ keptL aa bs k.length
  ·right
   have g' := (kept .nil).1 g
   obtain ⟨i, _, _, g5⟩ := placeI_mem pk g
   obtain ⟨j, _, _, g6⟩ := placeI_mem pl g'
   exact ⟨i, j, by simp only [trmM, trimM]; rw [hy, g5], by simp only [trmM, trimM]; rw [hz, g6], s, r, .nil, g, g', g5, g6⟩
  ·left
   have g' : (r : Int) ∉ keptL aa' bs' l.length := fun x => g ((kept .nil).2 x)
   exact ⟨by simp only [trmM, trimM]; rw [hy, placeI_not g], by simp only [trmM, trimM]; rw [hz, placeI_not g']⟩
theorem pot_same {y z : Int} {k l : List St} {R : Nat → Nat → Prop} (h : Bis k l R) (hk : faultM (y, k) = 0) (hl : faultM (z, l) = 0) {vs us : List Int} (hv : ∀ q, q < k.length → LeastP (EndC k q) (el vs q).toNat) (hu : ∀ q, q < l.length → LeastP (EndC l q) (el us q).toNat) (nv : ∀ q, q < k.length → 0 ≤ el vs q) (nu : ∀ q, q < l.length → 0 ≤ el us q) {q p : Nat} (hR : R q p) : el vs q = el us p := by
 obtain ⟨hq, hp⟩ := h.rng q p hR
 have h1 := hv q hq
 have h2 := hu p hp
 have h3 := h1.2 _ ((h.ends (y := y) (z := z) hk hl hR _).2 h2.1)
 have h4 := h2.2 _ ((h.ends (y := y) (z := z) hk hl hR _).1 h1.1)
 have := nv q hq
 have := nu p hp
 omega
theorem psh_bis {y z : Int} {k l : List St} {R : Nat → Nat → Prop} (h : Bis k l R) (hk : faultM (y, k) = 0) (hl : faultM (z, l) = 0) {vs us : List Int} (he : ∀ q p, R q p → el vs q = el us p) : Bis (pshL vs k) (pshL us l) R := by
 refine bis_of fun q p hR => ?_
 obtain ⟨hq, hp⟩ := h.rng q p hR
 obtain ⟨f1, f2⟩ := h.al2 (y := y) (z := z) hk hl hR
 refine ⟨by rw [psh_length]; exact hq, by rw [psh_length]; exact hp, ?_⟩
 rw [psh_el hq, psh_el hp]
 simp only [pshS]
 have e := he q p hR
 refine ⟨by unfold pshF; rw [f1, e], Al2.map f2 fun a b ⟨e1, e2, e3, t, u, ht, hu, hR'⟩ => ⟨e1, e2, ?_, t, u, ht, hu, hR'⟩⟩
 simp only [pshA]
 rw [e3, e, ht, hu, Int.toNat_natCast, Int.toNat_natCast, he t u hR']
theorem srt_bis {m n : Mc} {R : Nat → Nat → Prop} (h : Bis m.2 n.2 R) (hm : faultM m = 0) (hn : faultM n = 0) (hc : ∀ q, q < m.2.length → (lbs (el m.2 q).2).Nodup) : Bis (srtM m).2 (srtM n).2 R := by
 refine bis_of fun q p hR => ?_
 obtain ⟨hq, hp⟩ := h.rng q p hR
 obtain ⟨f1, f2⟩ := h.al2 (y := m.1) (z := n.1) hm hn hR
 refine ⟨by rw [srt_len]; exact hq, by rw [srt_len]; exact hp, ?_⟩
 rw [srt_el hq, srt_el hp]
 exact ⟨f1, al2_sort (fun a b g => ⟨g.1, g.2.1⟩) f2 (hc q hq)⟩
theorem SmlU.same {m D x x' : Mc} {tot tot' : Int} {p T p' T' : Mc} {vs vs' : List Int} (h : SmlU m x tot p T vs) (h' : SmlU D x' tot' p' T' vs') (hm : faultM m = 0) (hD : faultM D = 0) {R : Nat → Nat → Prop} (hB : Bis D.2 m.2 R) {s r : Nat} (h0 : R s r) (hs : D.1 = (s : Int)) (hr : m.1 = (r : Int)) : tot' = tot ∧ x' = x := by
 obtain ⟨aa, bs, hA, hBk, eT⟩ := h.psh.certT
 obtain ⟨aa', bs', hA', hBk', eT'⟩ := h'.psh.certT
 obtain ⟨RT, hRT, hst⟩ := trim_bis (y := D.1) (z := m.1) hB hD hm h0 hs hr hA' hBk' hA hBk
 have eD : trmM (D.1, D.2) aa' bs' = T' := eT'.symm
 have em : trmM (m.1, m.2) aa bs = T := eT.symm
 rw [eD, em] at hRT hst
 have he := fun q p hR => pot_same (y := T'.1) (z := T.1) hRT h'.psh.right h.psh.right h'.psh.least h.psh.least (fun q hq => (h'.psh.low q hq).1) (fun q hq => (h.psh.low q hq).1) (q := q) (p := p) hR
 have hps := psh_bis (y := T'.1) (z := T.1) hRT h'.psh.right h.psh.right he
 have ep : p = pshM vs T := h.psh.eqx
 have ep' : p' = pshM vs' T' := h'.psh.eqx
 have hp1 : p.1 = T.1 := by rw [ep]; rfl
 have hp1' : p'.1 = T'.1 := by rw [ep']; rfl
 have hcr : ∀ q, q < p'.2.length → (lbs (el p'.2 q).2).Nodup := fun q hq => by
  have h4 := (h'.crt _ (el_mem (show q < (srtM p').2.length by rw [srt_len]; exact hq))).1
  rw [srt_el hq] at h4
  exact ((sortS_perm false _).map _).nodup_iff.1 h4
 have hsb : Bis (srtM p').2 (srtM p).2 RT := srt_bis (by rw [ep, ep']; exact hps) h'.psh.rightx h.psh.rightx hcr
 rcases hst with ⟨z1, z2⟩ | ⟨i, j, z1, z2, hij⟩
 ·rcases h.way with ⟨w1, w2, w3, w4⟩ | ⟨w0, _⟩
  ·rcases h'.way with ⟨v1, v2, v3, v4⟩ | ⟨v0, _⟩
   ·exact ⟨by rw [w4, v4], by rw [w3, v3, hp1, hp1', z1, z2]⟩
   ·omega
  ·omega
 ·rcases h.way with ⟨w1, _⟩ | ⟨w0, w2, f, hf, hl⟩
  ·omega
  ·rcases h'.way with ⟨v1, _⟩ | ⟨v0, v2, f', hf', hl'⟩
   ·omega
   ·have e1 : p.1.toNat = j := by omega
    have e2 : p'.1.toNat = i := by omega
    rw [e1] at hl
    rw [e2] at hl'
    have h9 := lst_bis (z := p.1) (y := p'.1) (l := (srtM p).2) (k := (srtM p').2) (srt_right h.psh.rightx) (srt_right h'.psh.rightx) hf hf' hsb hij hl
    rw [hl'] at h9
    refine ⟨?_, congrArg Prod.fst h9⟩
    rw [h.psh.eqt, h'.psh.eqt]
    unfold pshT
    rw [if_neg (by omega), if_neg (by omega), z1, z2, Int.toNat_natCast, Int.toNat_natCast]
    exact he i j hij
def DblA (n : Nat) (a b : Ar) : Prop := a.1 = b.1 ∧ a.2.1 = b.2.1 ∧ a.2.2.1 = b.2.2.1 ∧ (a.2.2.2 = b.2.2.2 ∨ a.2.2.2 = b.2.2.2 + n)
structure Hlf (n : Nat) (l A : List St) : Prop where
 len : A.length = l.length
 st : ∀ q, q < l.length → (el A q).1 = (el l q).1 ∧ Al2 (DblA n) (el A q).2 (el l q).2
theorem Hlf.arcs {n : Nat} {l A : List St} (h : Hlf n l A) : arcN A = arcN l := by
 rw [← arcs_sum, ← arcs_sum, h.len]
 congr 1
 refine List.map_congr_left fun q hq => ?_
 rw [List.mem_range] at hq
 exact (h.st q hq).2.len
structure Dbl (x D : Mc) : Prop where
 start : D.1 = x.1
 two : ∃ A B, D.2 = A ++ B ∧ Hlf x.2.length x.2 A ∧ Hlf x.2.length x.2 B
theorem Dbl.len {x D : Mc} (h : Dbl x D) : D.2.length = x.2.length + x.2.length := by
 obtain ⟨A, B, e, hA, hB⟩ := h.two
 rw [e, List.length_append, hA.len, hB.len]
theorem Dbl.st {x D : Mc} (h : Dbl x D) {q : Nat} (hq : q < D.2.length) : q % x.2.length < x.2.length ∧ (el D.2 q).1 = (el x.2 (q % x.2.length)).1 ∧ Al2 (DblA x.2.length) (el D.2 q).2 (el x.2 (q % x.2.length)).2 := by
 have hl := h.len
 obtain ⟨A, B, e, hA, hB⟩ := h.two
 have hAl := hA.len
 have hBl := hB.len
 rcases Nat.lt_or_ge q x.2.length with g | g
 ·have e1 : el D.2 q = el A q := by rw [e]; simp [el, List.getElem?_append_left (show q < A.length by omega)]
  rw [Nat.mod_eq_of_lt g, e1]
  exact ⟨g, hA.st q g⟩
 ·have e1 : el D.2 q = el B (q - x.2.length) := by rw [e]; simp [el, List.getElem?_append_right (show A.length ≤ q by omega), hAl]
  have e2 : q % x.2.length = q - x.2.length := by rw [Nat.mod_eq_sub_mod g, Nat.mod_eq_of_lt (by omega)]
  rw [e2, e1]
  exact ⟨by omega, hB.st _ (by omega)⟩
theorem Dbl.right {x D : Mc} (h : Dbl x D) (hx : faultM x = 0) (h1 : x.2.length + x.2.length ≤ 60) (h2 : arcN x.2 + arcN x.2 ≤ 400) : faultM D = 0 := by
 have hl := h.len
 obtain ⟨xz, xl⟩ := x
 refine faultM_ok ?_ ?_
 ·simp only [sizeB, Bool.and_eq_true, decide_eq_true_eq]
  refine ⟨by simp only at h1 hl; omega, ?_⟩
  obtain ⟨A, B, e, hA, hB⟩ := h.two
  rw [e, arcN_append, hA.arcs, hB.arcs]
  exact h2
 ·simp only [rangeB, Bool.and_eq_true, List.all_eq_true]
  have hz := (right_parts hx).1
  have hst := h.start
  refine ⟨by simp only [inB, Bool.and_eq_true, decide_eq_true_eq]; simp only at hz hst hl; omega, fun s hs => ?_⟩
  obtain ⟨q, hq, rfl⟩ := mem_el hs
  obtain ⟨g1, g2, g3⟩ := h.st hq
  simp only [stB, Bool.and_eq_true, List.all_eq_true]
  refine ⟨?_, fun a ha => ?_⟩
  ·rw [g2]
   have h9 := (right_parts hx).2 _ (el_mem g1)
   simp only [stB, Bool.and_eq_true] at h9
   exact h9.1
  ·obtain ⟨b, hb, e1, e2, e3, e4⟩ := g3.mem ha
   obtain ⟨r1, r2, r4, r5, r6, r7, t, ht, htl⟩ := arc_rightP (m := (xz, xl)) hx g1 hb
   refine arcB_may (by omega) (by omega) (by omega) ?_
   simp only at htl hl e4
   omega
theorem Dbl.bis {x D : Mc} (h : Dbl x D) (hx : faultM x = 0) : Bis D.2 x.2 fun q p => q < D.2.length ∧ p = q % x.2.length := by
 have hl := h.len
 refine bis_of fun q p ⟨hq, hp⟩ => ?_
 obtain ⟨g1, g2, g3⟩ := h.st hq
 subst hp
 refine ⟨hq, g1, g2, ?_⟩
 refine al2_of g3.len fun i hi => ?_
 obtain ⟨e1, e2, e3, e4⟩ := g3.at i hi
 have hi2 : i < (el x.2 (q % x.2.length)).2.length := by rw [← g3.len]; exact hi
 obtain ⟨_, _, _, _, _, _, t, ht, htl⟩ := arc_rightP (m := x) hx g1 (el_mem hi2)
 refine ⟨e1, e2, e3, ?_⟩
 rcases e4 with e4 | e4
 ·exact ⟨t, t, by rw [e4, ht], ht, by omega, (Nat.mod_eq_of_lt htl).symm⟩
 ·exact ⟨t + x.2.length, t, by rw [e4, ht]; omega, ht, by omega, by rw [Nat.add_mod_right, Nat.mod_eq_of_lt htl]⟩
theorem Dbl.cheap {x D : Mc} (h : Dbl x D) (hc : CheapL x.2) : CheapL D.2 := fun s hs => by
 obtain ⟨q, hq, rfl⟩ := mem_el hs
 obtain ⟨g1, g2, g3⟩ := h.st hq
 have h1 := hc _ (el_mem g1)
 refine ⟨fun hn => by rw [g2] at hn ⊢; exact h1.1 hn, fun a ha => ?_⟩
 obtain ⟨b, hb, _, _, e3, _⟩ := g3.mem ha
 have := h1.2 b hb
 omega
theorem Dbl.certain {x D : Mc} (h : Dbl x D) (hc : CrtL x.2) : CrtL D.2 := fun s hs => by
 obtain ⟨q, hq, rfl⟩ := mem_el hs
 obtain ⟨g1, g2, g3⟩ := h.st hq
 rw [g3.lbs fun a b e => ⟨e.1, e.2.1⟩]
 exact hc _ (el_mem g1)
theorem Dbl.one {x D y z : Mc} {tot sum e : Int} {p T : Mc} {vs : List Int} (h : Dbl x D) (hx : faultM x = 0) (hc : CheapL x.2) (hr : CrtL x.2) (hz : 0 ≤ x.1) (h1 : x.2.length + x.2.length ≤ 60) (h2 : arcN x.2 + arcN x.2 ≤ 400) (hy : SmlU x y tot p T vs) (hD : SmlAns D z sum e) : e = 0 ∧ sum = tot ∧ z = y := by
 have hfD := h.right hx h1 h2
 obtain ⟨e0, p', T', vs', hU⟩ := sml_cheap hfD (h.cheap hc) (h.certain hr) hD
 have hz2 := (right_parts hx).1.2
 have hst := h.start
 have hl := h.len
 obtain ⟨k1, k2⟩ := hy.same hU hx hfD (h.bis hx) (s := x.1.toNat) (r := x.1.toNat) ⟨by omega, (Nat.mod_eq_of_lt (by omega)).symm⟩ (by omega) (by omega)
 exact ⟨e0, k1, k2⟩
end Go.Proofs.YtfhjncpakgailaaGreatDoor.Pl
