/- Plain facts on weights and lists of weights (no program in sight): which numbers are weights, and the least of a list. Plain facts on texts of digits (no program in sight): which texts are numbers, and what number one is. Plain facts: a number's digits are a text of digits whose number it is, and no other text is (no program in sight). -/
import Derived.WalkKit
import Derived.Lib.ItoaNum
import Derived.Lib.ItoaLen
namespace Go.Proofs.YtfekmlblldhieaaDoor.Pl

def wtB (n : Int) : Bool := decide (n = 1000000001 ∨ (0 ≤ n ∧ n ≤ 1000000000))
theorem wtB_true {n : Int} : wtB n = true ↔ (n = 1000000001 ∨ (0 ≤ n ∧ n ≤ 1000000000)) := by unfold wtB; simp
theorem wtB_false {n : Int} : wtB n = false ↔ ¬ (n = 1000000001 ∨ (0 ≤ n ∧ n ≤ 1000000000)) := by unfold wtB; simp

def allW (l : List Int) : Bool := l.all wtB
def minL (l : List Int) : Int := l.foldl min 1000000001

theorem take_snoc (l : List Int) (k : Nat) (h : k < l.length) : l.take (k + 1) = l.take k ++ [l[k]?.getD 0] := by
  rw [List.take_succ_eq_append_getElem h]; simp [List.getElem?_eq_getElem h]
theorem allW_snoc (l : List Int) (k : Nat) (h : k < l.length) : allW (l.take (k + 1)) = (allW (l.take k) && wtB (l[k]?.getD 0)) := by
  rw [take_snoc l k h]; simp [allW]
theorem minL_snoc (l : List Int) (k : Nat) (h : k < l.length) : minL (l.take (k + 1)) = min (minL (l.take k)) (l[k]?.getD 0) := by
  rw [take_snoc l k h]; simp [minL]
theorem allW_false_of (l : List Int) (k : Nat) (h : k < l.length) (hf : wtB (l[k]?.getD 0) = false) : allW l = false := by
  unfold allW
  rw [List.all_eq_false]
  refine ⟨l[k], List.getElem_mem h, ?_⟩
  simpa [List.getElem?_eq_getElem h] using hf
theorem ite_min (m x : Int) : (if x < m then x else m) = min m x := by
  split <;> omega
theorem ret_bool {a b : Bool} (h : a = b) : Ending.returned (.bool a) = .returned (.bool b) := by rw [h]
theorem ret_int {k : IntKind} {a b : Int} (h : a = b) : Ending.returned (.int k a) = .returned (.int k b) := by rw [h]
theorem bool_cases (b : Bool) : b = true ∨ b = false := by cases b <;> simp
def plusR (a b : Int) : Int × Int := if (wtB a && wtB b) = true then (min a b, 0) else (0, 2)
def timesR (a b : Int) : Int × Int := if (wtB a && wtB b) = true then (if a = 1000000001 ∨ b = 1000000001 then (1000000001, 0) else if 1000000000 < a + b then (0, 4) else (a + b, 0)) else (0, 2)
def overR (a b : Int) : Int × Int := if (wtB a && wtB b) = true then (if b = 1000000001 ∨ a < b then (0, 12) else if a = 1000000001 then (1000000001, 0) else (a - b, 0)) else (0, 2)
theorem and_wt {a b : Int} (h : (wtB a && wtB b) = true) : (a = 1000000001 ∨ (0 ≤ a ∧ a ≤ 1000000000)) ∧ (b = 1000000001 ∨ (0 ≤ b ∧ b ≤ 1000000000)) := by
  rw [Bool.and_eq_true] at h
  exact ⟨wtB_true.1 h.1, wtB_true.1 h.2⟩
theorem minL_two {a b : Int} (h : (wtB a && wtB b) = true) : minL [a, b] = min a b := by
  obtain ⟨h1, h2⟩ := and_wt h
  unfold minL
  simp only [List.foldl]
  omega
theorem ret_two {k l : IntKind} {a b c d : Int} (h : a = c) (g : b = d) : Ending.returned (.tuple #[.int k a, .int l b]) = .returned (.tuple #[.int k c, .int l d]) := by rw [h, g]
theorem ret_pair {k l : IntKind} {a b : Int} {p : Int × Int} (h : p = (a, b)) : Ending.returned (.tuple #[.int k a, .int l b]) = .returned (.tuple #[.int k p.1, .int l p.2]) := by rw [h]
theorem pr {p q r : Int} (h : p = q) : (p, r) = (q, r) := by rw [h]
def Two (a b : Int) : Prop := (a = 1000000001 ∨ 0 ≤ a ∧ a ≤ 1000000000) ∧ (b = 1000000001 ∨ 0 ≤ b ∧ b ≤ 1000000000)
end Go.Proofs.YtfekmlblldhieaaDoor.Pl
namespace Go.Proofs.YtfekmlblldhieaaDoor.Pl
def bl (s : ByteArray) : List UInt8 := s.data.toList
theorem bl_length (s : ByteArray) : (bl s).length = s.size := rfl
theorem bl_get (s : ByteArray) (k : Nat) (h : k < s.size) : (bl s)[k]? = some s[k] := by
  have h' : k < (bl s).length := h
  rw [List.getElem?_eq_getElem h']; rfl
theorem bl_take (s : ByteArray) (k : Nat) (h : k < s.size) : (bl s).take (k + 1) = (bl s).take k ++ [s[k]] := by
  rw [List.take_succ_eq_append_getElem (by exact h)]; rfl

def digB (c : UInt8) : Bool := decide (48 ≤ (c.toNat : Int) ∧ (c.toNat : Int) ≤ 57)
theorem digB_true {c : UInt8} : digB c = true ↔ (48 ≤ (c.toNat : Int) ∧ (c.toNat : Int) ≤ 57) := by unfold digB; simp
theorem digB_false {c : UInt8} : digB c = false ↔ ¬ (48 ≤ (c.toNat : Int) ∧ (c.toNat : Int) ≤ 57) := by unfold digB; simp
/-- A nought ahead of other letters. -/
def nought (l : List UInt8) : Bool := l.head? == some 48 && decide (1 < l.length)
def numB (l : List UInt8) : Bool := !l.isEmpty && !nought l && l.all digB
def numV (l : List UInt8) : Int := l.foldl (fun n c => 10 * n + ((c.toNat : Int) - 48)) 0
theorem numV_snoc (l : List UInt8) (c : UInt8) : numV (l ++ [c]) = 10 * numV l + ((c.toNat : Int) - 48) := by simp [numV]
theorem all_snoc (l : List UInt8) (c : UInt8) : (l ++ [c]).all digB = (l.all digB && digB c) := by simp
theorem numV_bd (l : List UInt8) (h : l.all digB = true) : 0 ≤ numV l ∧ numV l < 10 ^ l.length := by
  have key : ∀ (k : Nat) (l : List UInt8), l.length = k → l.all digB = true → 0 ≤ numV l ∧ numV l < 10 ^ k := by
    intro k
    induction k with
    | zero =>
      intro l hl _
      obtain rfl := List.eq_nil_of_length_eq_zero hl
      decide
    | succ k ih =>
      intro l hl ha
      have hne : l ≠ [] := by intro e; rw [e] at hl; simp at hl
      have e := (List.dropLast_concat_getLast hne).symm
      rw [e, all_snoc, Bool.and_eq_true] at ha
      have := ih l.dropLast (by rw [List.length_dropLast, hl]; rfl) ha.1
      have hd := digB_true.1 ha.2
      rw [e, numV_snoc, Int.pow_succ]
      omega
  exact key l.length l rfl h
theorem all_false_of (l : List UInt8) (k : Nat) (c : UInt8) (h : l[k]? = some c) (hf : digB c = false) : l.all digB = false := by
  rw [List.all_eq_false]
  exact ⟨c, List.mem_of_getElem? h, by rw [hf]; simp⟩
theorem all_take (l : List UInt8) (k : Nat) (h : l.all digB = true) : (l.take k).all digB = true := by
  rw [List.all_eq_true] at h ⊢
  exact fun x hx => h x (List.mem_of_mem_take hx)
theorem pow12 (k : Nat) (h : k ≤ 12) : (10 : Int) ^ k ≤ 1000000000000 := by
  have : (10 : Nat) ^ k ≤ 10 ^ 12 := Nat.pow_le_pow_right (by omega) h
  have e : ((10 : Nat) ^ k : Int) = (10 : Int) ^ k := by simp
  omega
theorem numB_empty (s : ByteArray) (h : s.size = 0) : numB (bl s) = false := by
  have : bl s = [] := List.eq_nil_of_length_eq_zero h
  rw [this]; rfl
theorem head_bl (s : ByteArray) (h : 0 < s.size) : (bl s).head? = some s[0] := by
  rw [List.head?_eq_getElem?, bl_get s 0 h]
theorem isEmpty_bl (s : ByteArray) (h : 0 < s.size) : (bl s).isEmpty = false := by
  cases e : bl s with
  | nil => have : (bl s).length = 0 := by rw [e]; rfl
           rw [bl_length] at this; omega
  | cons x l => rfl
theorem byte_48 (c : UInt8) : (c == 48) = ((c.toNat : Int) == 48) := by
  rw [Bool.eq_iff_iff, beq_iff_eq, beq_iff_eq]
  constructor
  · rintro rfl; rfl
  · intro h; exact UInt8.toNat_inj.1 (by have : c.toNat = 48 := by omega
                                         rw [this]; rfl)
theorem nought_bl (s : ByteArray) (h : 0 < s.size) : nought (bl s) = (((s[0].toNat : Int) == 48) && decide (1 < s.size)) := by
  unfold nought
  rw [head_bl s h, bl_length, ← byte_48]
  rfl
theorem numB_bl (s : ByteArray) (h : 0 < s.size) (r : Bool) (hr : (((s[0].toNat : Int) == 48) && decide (1 < s.size)) = r) : numB (bl s) = (!r && (bl s).all digB) := by
  unfold numB
  rw [isEmpty_bl s h, nought_bl s h, hr]; simp
def readR (s : ByteArray) : Int × Int :=
  if (s.toList == [105, 110, 102]) = true then (1000000001, 0) else if 12 < s.size then (0, 1) else if numB (bl s) = false then (0, 3) else if 1000000000 < numV (bl s) then (0, 4) else (numV (bl s), 0)
/-- What the reference's Number answers. -/
def numR (s : ByteArray) (most : Int) : Int :=
  if 12 < s.size then -1 else if numB (bl s) = false then -2 else if most < numV (bl s) then most + 1 else numV (bl s)
theorem empty_toList (s : ByteArray) : s.toList.isEmpty = decide (s.size = 0) := by
  rw [ByteArray.toList_eq]
  rw [Bool.eq_iff_iff, List.isEmpty_iff, decide_eq_true_iff]
  constructor
  · intro h
    show (bl s).length = 0
    unfold bl; rw [h]; rfl
  · intro h; exact List.eq_nil_of_length_eq_zero h
end Go.Proofs.YtfekmlblldhieaaDoor.Pl
namespace Go.Proofs.YtfekmlblldhieaaDoor.Pl
theorem head_app (l m : List UInt8) (h : l ≠ []) : (l ++ m).head? = l.head? := by
  cases l with
  | nil => exact absurd rfl h
  | cons x l => rfl
theorem dig_nat (d : Nat) (h : d < 10) : (UInt8.ofNat (48 + d)).toNat = 48 + d := by
  rw [UInt8.toNat_ofNat']; omega
theorem dec_big (u : Nat) (h : ¬ u < 10) : Lib.decDigits u = Lib.decDigits (u / 10) ++ [UInt8.ofNat (48 + u % 10)] := by rw [Lib.decDigits, dif_neg h]
theorem dec_digits (u : Nat) : (Lib.decDigits u).all digB = true ∧ numV (Lib.decDigits u) = (u : Int) ∧ (1 ≤ u → (Lib.decDigits u).head? ≠ some 48) ∧ 1 ≤ (Lib.decDigits u).length := by
  induction u using Nat.strongRecOn with
  | _ u ih =>
    by_cases h : u < 10
    · rw [Lib.decDigits_one h]
      have hd := dig_nat u h
      refine ⟨?_, ?_, ?_, by simp⟩
      · rw [List.all_cons, List.all_nil, Bool.and_true]
        exact digB_true.2 (by omega)
      · have := numV_snoc [] (UInt8.ofNat (48 + u))
        rw [List.nil_append] at this
        rw [this, hd]; simp [numV]; omega
      · intro h1 e
        have e' : UInt8.ofNat (48 + u) = 48 := by simpa using e
        have := congrArg UInt8.toNat e'
        rw [hd] at this
        have h48 : (48 : UInt8).toNat = 48 := rfl
        omega
    · obtain ⟨i1, i2, i3, i4⟩ := ih (u / 10) (by omega)
      have hd := dig_nat (u % 10) (by omega)
      rw [dec_big u h]
      refine ⟨?_, ?_, ?_, ?_⟩
      · rw [all_snoc, i1, Bool.true_and]
        exact digB_true.2 (by omega)
      · rw [numV_snoc, i2, hd]; omega
      · intro _
        have hne : Lib.decDigits (u / 10) ≠ [] := by intro e; rw [e] at i4; simp at i4
        rw [head_app _ _ hne]
        exact i3 (by omega)
      · rw [List.length_append]; omega

theorem dec_len : ∀ (k u : Nat), u < 10 ^ (k + 1) → (Lib.decDigits u).length ≤ k + 1 := by
  intro k
  induction k with
  | zero => intro u hu; rw [Lib.decDigits_one (by omega)]; simp
  | succ k ih =>
    intro u hu
    by_cases h : u < 10
    · rw [Lib.decDigits_one h]; simp
    · rw [dec_big u h, List.length_append]
      have := ih (u / 10) (by rw [Nat.pow_succ] at hu; omega)
      simp; omega
theorem numB_dec (u : Nat) : numB (Lib.decDigits u) = true := by
  obtain ⟨h1, _, h3, h4⟩ := dec_digits u
  unfold numB nought
  rw [h1, Bool.and_true, Bool.and_eq_true]
  constructor
  · cases e : Lib.decDigits u with
    | nil => rw [e] at h4; simp at h4
    | cons x l => rfl
  · by_cases c : 1 ≤ u
    · have := h3 c
      rw [show ((Lib.decDigits u).head? == some 48) = false from by
        cases e : ((Lib.decDigits u).head? == some 48) with
        | false => rfl
        | true => exact absurd (beq_iff_eq.1 e) this]
      rfl
    · have : u = 0 := by omega
      subst this
      rw [Lib.decDigits_one (by omega)]; rfl

theorem numV_pos : ∀ (k : Nat) (l : List UInt8), l.length = k + 1 → l.all digB = true → l.head? ≠ some 48 → 1 ≤ numV l := by
  intro k
  induction k with
  | zero =>
    intro l hl ha hh
    match l, hl with
    | [c], _ =>
      have hc : digB c = true := by simpa using ha
      have := digB_true.1 hc
      have hne : c.toNat ≠ 48 := by
        intro e
        apply hh
        have : c = 48 := UInt8.toNat_inj.1 (by rw [e]; rfl)
        rw [this]; rfl
      have e := numV_snoc [] c
      rw [List.nil_append] at e
      rw [e]; simp [numV]; omega
  | succ k ih =>
    intro l hl ha hh
    have hne : l ≠ [] := by intro e; rw [e] at hl; simp at hl
    have e := (List.dropLast_concat_getLast hne).symm
    have hdl : l.dropLast.length = k + 1 := by rw [List.length_dropLast, hl]; rfl
    have hdn : l.dropLast ≠ [] := by intro e'; rw [e'] at hdl; simp at hdl
    rw [e, all_snoc, Bool.and_eq_true] at ha
    have hh' : l.dropLast.head? ≠ some 48 := by
      rw [e, head_app _ _ hdn] at hh
      exact hh
    have := ih _ hdl ha.1 hh'
    have hd := digB_true.1 ha.2
    rw [e, numV_snoc]
    omega

theorem dec_numV : ∀ (k : Nat) (l : List UInt8), l.length = k + 1 → l.all digB = true → (1 ≤ k → l.head? ≠ some 48) → Lib.decDigits (numV l).toNat = l := by
  intro k
  induction k with
  | zero =>
    intro l hl ha _
    match l, hl with
    | [c], _ =>
      have hc : digB c = true := by simpa using ha
      have hd := digB_true.1 hc
      have e := numV_snoc [] c
      rw [List.nil_append] at e
      have e' : (numV [c]).toNat = c.toNat - 48 := by rw [e]; simp [numV]; omega
      rw [e', Lib.decDigits_one (by omega), show 48 + (c.toNat - 48) = c.toNat from by omega, UInt8.ofNat_toNat]
  | succ k ih =>
    intro l hl ha hh
    have hne : l ≠ [] := by intro e; rw [e] at hl; simp at hl
    have e := (List.dropLast_concat_getLast hne).symm
    have hdl : l.dropLast.length = k + 1 := by rw [List.length_dropLast, hl]; rfl
    have hdn : l.dropLast ≠ [] := by intro e'; rw [e'] at hdl; simp at hdl
    have hh0 := hh (by omega)
    rw [e, all_snoc, Bool.and_eq_true] at ha
    have hh' : l.dropLast.head? ≠ some 48 := by
      rw [e, head_app _ _ hdn] at hh0
      exact hh0
    have hp := numV_pos k _ hdl ha.1 hh'
    have hd := digB_true.1 ha.2
    have i := ih _ hdl ha.1 (fun _ => hh')
    generalize l.getLast hne = c at e ha hd
    have hv : numV l = 10 * numV l.dropLast + ((c.toNat : Int) - 48) := by rw [e, numV_snoc]; simp
    have hn : (numV l).toNat = 10 * (numV l.dropLast).toNat + (c.toNat - 48) := by omega
    rw [hn, dec_big _ (by omega)]
    rw [show (10 * (numV l.dropLast).toNat + (c.toNat - 48)) / 10 = (numV l.dropLast).toNat from by omega, show (10 * (numV l.dropLast).toNat + (c.toNat - 48)) % 10 = c.toNat - 48 from by omega]
    rw [i, show 48 + (c.toNat - 48) = c.toNat from by omega, UInt8.ofNat_toNat]
    exact e.symm

theorem dec_of_numB (l : List UInt8) (h : numB l = true) : Lib.decDigits (numV l).toNat = l := by
  unfold numB nought at h
  rw [Bool.and_eq_true, Bool.and_eq_true] at h
  obtain ⟨⟨h1, h2⟩, h3⟩ := h
  cases l with
  | nil => simp at h1
  | cons c r =>
    refine dec_numV r.length (c :: r) rfl h3 (fun hk e => ?_)
    rw [e] at h2
    have h0 : r = [] := by simpa using h2
    rw [h0] at hk
    simp at hk

theorem itoa_nat {n : Int} (h : 0 ≤ n) : Lib.itoa n = Lib.decDigits n.toNat := by unfold Lib.itoa; rw [if_neg (by omega)]
theorem bl_mk (l : List UInt8) : bl ⟨l.toArray⟩ = l := rfl

theorem read_num {n : Int} (h0 : 0 ≤ n) (h1 : n ≤ 1000000000) : readR ⟨(Lib.itoa n).toArray⟩ = (n, 0) := by
  rw [itoa_nat h0]
  obtain ⟨d1, d2, d3, d4⟩ := dec_digits n.toNat
  have hb := numB_dec n.toNat
  have hlen : (Lib.decDigits n.toNat).length ≤ 12 := by
    have := dec_len 9 n.toNat (by omega)
    omega
  generalize Lib.decDigits n.toNat = l at *
  unfold readR
  have hi : ((⟨l.toArray⟩ : ByteArray).toList == [105, 110, 102]) ≠ true := by
    rw [ByteArray.toList_eq]
    intro e
    have e' : l = [105, 110, 102] := by simpa using e
    rw [e'] at d1
    exact absurd d1 (by decide)
  rw [if_neg hi, if_neg (by show ¬ 12 < l.length; omega), bl_mk, if_neg (by rw [hb]; simp), if_neg (by rw [d2]; omega), d2]
  rw [show ((n.toNat : Int)) = n from by omega]
theorem read_inf : readR ⟨#[105, 110, 102]⟩ = (1000000001, 0) := by
  unfold readR
  rw [if_pos (by rw [ByteArray.toList_eq]; rfl)]
end Go.Proofs.YtfekmlblldhieaaDoor.Pl
