/- Plain facts: a number's digits are a text of digits whose number it is, and no other text is (no program in sight). -/
import Derived.Test.YtbbjpdadickilaaDoorPlain
import Derived.Test.YtbbjpdadickilaaDoorPlainS
import Derived.Lib.ItoaNum
import Derived.Lib.ItoaLen
namespace Go.Proofs.YtbbjpdadickilaaDoor.Pl
theorem head_app (l m : List UInt8) (h : l ≠ []) : (l ++ m).head? = l.head? := by
  cases l with
  | nil => exact absurd rfl h
  | cons x l => rfl
theorem dig_nat (d : Nat) (h : d < 10) : (UInt8.ofNat (48 + d)).toNat = 48 + d := by
  rw [UInt8.toNat_ofNat']; omega
theorem dec_big (u : Nat) (h : ¬ u < 10) : Lib.decDigits u = Lib.decDigits (u / 10) ++ [UInt8.ofNat (48 + u % 10)] := by rw [Lib.decDigits, dif_neg h]
theorem dec_digits (u : Nat) : (Lib.decDigits u).all digB = true ∧ numV (Lib.decDigits u) = (u : Int) ∧ (1 ≤ u → (Lib.decDigits u).head? ≠ some 48) ∧ 1 ≤ (Lib.decDigits u).length := by
  induction u using Nat.strongRecOn with
  | _ u ih =>
    by_cases h : u < 10
    · rw [Lib.decDigits_one h]
      have hd := dig_nat u h
      refine ⟨?_, ?_, ?_, by simp⟩
      · rw [List.all_cons, List.all_nil, Bool.and_true]
        exact digB_true.2 (by omega)
      · have := numV_snoc [] (UInt8.ofNat (48 + u))
        rw [List.nil_append] at this
        rw [this, hd]; simp [numV]; omega
      · intro h1 e
        have e' : UInt8.ofNat (48 + u) = 48 := by simpa using e
        have := congrArg UInt8.toNat e'
        rw [hd] at this
        have h48 : (48 : UInt8).toNat = 48 := rfl
        omega
    · obtain ⟨i1, i2, i3, i4⟩ := ih (u / 10) (by omega)
      have hd := dig_nat (u % 10) (by omega)
      rw [dec_big u h]
      refine ⟨?_, ?_, ?_, ?_⟩
      · rw [all_snoc, i1, Bool.true_and]
        exact digB_true.2 (by omega)
      · rw [numV_snoc, i2, hd]; omega
      · intro _
        have hne : Lib.decDigits (u / 10) ≠ [] := by intro e; rw [e] at i4; simp at i4
        rw [head_app _ _ hne]
        exact i3 (by omega)
      · rw [List.length_append]; omega

theorem dec_len : ∀ (k u : Nat), u < 10 ^ (k + 1) → (Lib.decDigits u).length ≤ k + 1 := by
  intro k
  induction k with
  | zero => intro u hu; rw [Lib.decDigits_one (by omega)]; simp
  | succ k ih =>
    intro u hu
    by_cases h : u < 10
    · rw [Lib.decDigits_one h]; simp
    · rw [dec_big u h, List.length_append]
      have := ih (u / 10) (by rw [Nat.pow_succ] at hu; omega)
      simp; omega
theorem numB_dec (u : Nat) : numB (Lib.decDigits u) = true := by
  obtain ⟨h1, _, h3, h4⟩ := dec_digits u
  unfold numB nought
  rw [h1, Bool.and_true, Bool.and_eq_true]
  constructor
  · cases e : Lib.decDigits u with
    | nil => rw [e] at h4; simp at h4
    | cons x l => rfl
  · by_cases c : 1 ≤ u
    · have := h3 c
      rw [show ((Lib.decDigits u).head? == some 48) = false from by
        cases e : ((Lib.decDigits u).head? == some 48) with
        | false => rfl
        | true => exact absurd (beq_iff_eq.1 e) this]
      rfl
    · have : u = 0 := by omega
      subst this
      rw [Lib.decDigits_one (by omega)]; rfl

theorem numV_pos : ∀ (k : Nat) (l : List UInt8), l.length = k + 1 → l.all digB = true → l.head? ≠ some 48 → 1 ≤ numV l := by
  intro k
  induction k with
  | zero =>
    intro l hl ha hh
    match l, hl with
    | [c], _ =>
      have hc : digB c = true := by simpa using ha
      have := digB_true.1 hc
      have hne : c.toNat ≠ 48 := by
        intro e
        apply hh
        have : c = 48 := UInt8.toNat_inj.1 (by rw [e]; rfl)
        rw [this]; rfl
      have e := numV_snoc [] c
      rw [List.nil_append] at e
      rw [e]; simp [numV]; omega
  | succ k ih =>
    intro l hl ha hh
    have hne : l ≠ [] := by intro e; rw [e] at hl; simp at hl
    have e := (List.dropLast_concat_getLast hne).symm
    have hdl : l.dropLast.length = k + 1 := by rw [List.length_dropLast, hl]; rfl
    have hdn : l.dropLast ≠ [] := by intro e'; rw [e'] at hdl; simp at hdl
    rw [e, all_snoc, Bool.and_eq_true] at ha
    have hh' : l.dropLast.head? ≠ some 48 := by
      rw [e, head_app _ _ hdn] at hh
      exact hh
    have := ih _ hdl ha.1 hh'
    have hd := digB_true.1 ha.2
    rw [e, numV_snoc]
    omega

theorem dec_numV : ∀ (k : Nat) (l : List UInt8), l.length = k + 1 → l.all digB = true → (1 ≤ k → l.head? ≠ some 48) → Lib.decDigits (numV l).toNat = l := by
  intro k
  induction k with
  | zero =>
    intro l hl ha _
    match l, hl with
    | [c], _ =>
      have hc : digB c = true := by simpa using ha
      have hd := digB_true.1 hc
      have e := numV_snoc [] c
      rw [List.nil_append] at e
      have e' : (numV [c]).toNat = c.toNat - 48 := by rw [e]; simp [numV]; omega
      rw [e', Lib.decDigits_one (by omega), show 48 + (c.toNat - 48) = c.toNat from by omega, UInt8.ofNat_toNat]
  | succ k ih =>
    intro l hl ha hh
    have hne : l ≠ [] := by intro e; rw [e] at hl; simp at hl
    have e := (List.dropLast_concat_getLast hne).symm
    have hdl : l.dropLast.length = k + 1 := by rw [List.length_dropLast, hl]; rfl
    have hdn : l.dropLast ≠ [] := by intro e'; rw [e'] at hdl; simp at hdl
    have hh0 := hh (by omega)
    rw [e, all_snoc, Bool.and_eq_true] at ha
    have hh' : l.dropLast.head? ≠ some 48 := by
      rw [e, head_app _ _ hdn] at hh0
      exact hh0
    have hp := numV_pos k _ hdl ha.1 hh'
    have hd := digB_true.1 ha.2
    have i := ih _ hdl ha.1 (fun _ => hh')
    generalize l.getLast hne = c at e ha hd
    have hv : numV l = 10 * numV l.dropLast + ((c.toNat : Int) - 48) := by rw [e, numV_snoc]; simp
    have hn : (numV l).toNat = 10 * (numV l.dropLast).toNat + (c.toNat - 48) := by omega
    rw [hn, dec_big _ (by omega)]
    rw [show (10 * (numV l.dropLast).toNat + (c.toNat - 48)) / 10 = (numV l.dropLast).toNat from by omega, show (10 * (numV l.dropLast).toNat + (c.toNat - 48)) % 10 = c.toNat - 48 from by omega]
    rw [i, show 48 + (c.toNat - 48) = c.toNat from by omega, UInt8.ofNat_toNat]
    exact e.symm

theorem dec_of_numB (l : List UInt8) (h : numB l = true) : Lib.decDigits (numV l).toNat = l := by
  unfold numB nought at h
  rw [Bool.and_eq_true, Bool.and_eq_true] at h
  obtain ⟨⟨h1, h2⟩, h3⟩ := h
  cases l with
  | nil => simp at h1
  | cons c r =>
    refine dec_numV r.length (c :: r) rfl h3 (fun hk e => ?_)
    rw [e] at h2
    have h0 : r = [] := by simpa using h2
    rw [h0] at hk
    simp at hk

theorem itoa_nat {n : Int} (h : 0 ≤ n) : Lib.itoa n = Lib.decDigits n.toNat := by unfold Lib.itoa; rw [if_neg (by omega)]
theorem bl_mk (l : List UInt8) : bl ⟨l.toArray⟩ = l := rfl

theorem read_num {n : Int} (h0 : 0 ≤ n) (h1 : n ≤ 1000000000) : readR ⟨(Lib.itoa n).toArray⟩ = (n, 0) := by
  rw [itoa_nat h0]
  obtain ⟨d1, d2, d3, d4⟩ := dec_digits n.toNat
  have hb := numB_dec n.toNat
  have hlen : (Lib.decDigits n.toNat).length ≤ 12 := by
    have := dec_len 9 n.toNat (by omega)
    omega
  generalize Lib.decDigits n.toNat = l at *
  unfold readR
  have hi : ((⟨l.toArray⟩ : ByteArray).toList == [105, 110, 102]) ≠ true := by
    rw [ByteArray.toList_eq]
    intro e
    have e' : l = [105, 110, 102] := by simpa using e
    rw [e'] at d1
    exact absurd d1 (by decide)
  rw [if_neg hi, if_neg (by show ¬ 12 < l.length; omega), bl_mk, if_neg (by rw [hb]; simp), if_neg (by rw [d2]; omega), d2]
  rw [show ((n.toNat : Int)) = n from by omega]
theorem read_inf : readR ⟨#[105, 110, 102]⟩ = (1000000001, 0) := by
  unfold readR
  rw [if_pos (by rw [ByteArray.toList_eq]; rfl)]
end Go.Proofs.YtbbjpdadickilaaDoor.Pl
