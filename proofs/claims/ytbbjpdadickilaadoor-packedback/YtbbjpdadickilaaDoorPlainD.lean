/- Plain facts: the text of a table that is right is read as that table. -/
import Derived.Test.YtbbjpdadickilaaDoorPlainC
import Derived.Lib.AtoiAll
import Derived.Lib.AtoiAllCases
namespace Go.Proofs.YtbbjpdadickilaaDoor.Pl
open Go
theorem dd_step {u : Nat} (h : ¬ u < 10) : Lib.decDigits u = Lib.decDigits (u / 10) ++ [UInt8.ofNat (48 + u % 10)] := by rw [Lib.decDigits, dif_neg h]
theorem dd_digits (u : Nat) : ∀ c ∈ Lib.decDigits u, 48 ≤ c.toNat ∧ c.toNat ≤ 57 := by
  induction u using Nat.strongRecOn with
  | _ u ih =>
    by_cases h : u < 10
    · rw [Lib.decDigits_one h]
      intro c hc
      simp at hc
      subst hc
      simp
      omega
    · rw [dd_step h]
      intro c hc
      rcases List.mem_append.1 hc with g | g
      · exact ih (u / 10) (by omega) c g
      · simp at g
        subst g
        simp
        omega
theorem pu_snoc : ∀ (l : List UInt8) (acc a : Nat) (c : UInt8), Lib.parseUint10 acc l = .ok a → a ≤ 1000000 → 48 ≤ c.toNat → c.toNat ≤ 57 → Lib.parseUint10 acc (l ++ [c]) = .ok (a * 10 + (c.toNat - 48))
  | [], acc, a, c, h, ha, h1, h2 => by
    simp only [Lib.parseUint10] at h
    injection h with h
    subst h
    simp only [List.nil_append, Lib.parseUint10]
    rw [if_pos ⟨h1, h2⟩, if_neg (by omega), if_neg (by omega)]
  | b :: r, acc, a, c, h, ha, h1, h2 => by
    simp only [Lib.parseUint10] at h
    simp only [List.cons_append, Lib.parseUint10]
    split at h
    · rename_i hb
      rw [if_pos hb]
      split at h
      · cases h
      · rename_i g1
        rw [if_neg g1]
        split at h
        · cases h
        · rename_i g2
          rw [if_neg g2]
          exact pu_snoc r _ a c h ha h1 h2
    · cases h
theorem pu_dec (u : Nat) : u ≤ 1000000 → Lib.parseUint10 0 (Lib.decDigits u) = .ok u := by
  induction u using Nat.strongRecOn with
  | _ u ih =>
    intro hu
    by_cases h : u < 10
    · rw [Lib.decDigits_one h]
      have e : (UInt8.ofNat (48 + u)).toNat = 48 + u := by simp; omega
      have := pu_snoc [] 0 0 (UInt8.ofNat (48 + u)) rfl (by omega) (by omega) (by omega)
      rw [e] at this
      simpa using this
    · rw [dd_step h]
      have e : (UInt8.ofNat (48 + u % 10)).toNat = 48 + u % 10 := by simp; omega
      have := pu_snoc (Lib.decDigits (u / 10)) 0 (u / 10) (UInt8.ofNat (48 + u % 10)) (ih (u / 10) (by omega) (by omega)) (by omega) (by omega) (by omega)
      rw [e] at this
      rw [this]
      congr 1
      omega
theorem atoi_dec {u : Nat} (hu : u ≤ 1000000) : Lib.atoiAll (Lib.decDigits u) = .ok (u : Int) := by
  have hd := dd_digits u
  have hp := pu_dec u hu
  cases hl : Lib.decDigits u with
  | nil =>
    have := congrArg List.length hl
    by_cases h : u < 10
    · rw [Lib.decDigits_one h] at this; simp at this
    · rw [dd_step h] at this; simp at this
  | cons c r =>
    have hc := hd c (by rw [hl]; simp)
    rw [hl] at hp
    have hm : Lib.parseMag (c :: r) = .ok u := by unfold Lib.parseMag; rw [if_neg (by simp)]; exact hp
    rw [Lib.atoiAll_plain c r (by omega) (by omega), hm]
    show Lib.signless (.ok u) = _
    unfold Lib.signless
    simp only
    rw [if_neg (by omega)]
theorem itoa_lab {n : Int} (h : labB n = true) : ∃ u : Nat, n = (u : Int) ∧ u ≤ 1000 ∧ Lib.itoa n = Lib.decDigits u := by
  simp [labB] at h
  obtain ⟨u, rfl⟩ := Int.eq_ofNat_of_zero_le (show (0 : Int) ≤ n by omega)
  exact ⟨u, rfl, by omega, by unfold Lib.itoa; rw [if_neg (by omega)]; simp⟩
theorem bef_at (c : UInt8) : ∀ (l r : List UInt8), (∀ b ∈ l, b ≠ c) → bef c (l ++ c :: r) = l ∧ aft c (l ++ c :: r) = r
  | [], r, _ => by simp [bef, aft]
  | b :: l, r, h => by
    have hb : (b != c) = true := bne_iff_ne.2 (h b (by simp))
    obtain ⟨h1, h2⟩ := bef_at c l r (fun x hx => h x (by simp [hx]))
    unfold bef at h1 ⊢
    unfold aft at h2 ⊢
    simp only [List.cons_append, List.takeWhile, List.dropWhile, hb]
    exact ⟨by rw [h1], h2⟩
def bodyL (p : Nm) : List UInt8 := p.1.data.toList ++ 32 :: Lib.itoa p.2
theorem lineL_body (p : Nm) : lineL p = bodyL p ++ [10] := by simp [lineL, bodyL]
theorem text_bytes {s : ByteArray} (h : textB s = true) : ∀ c ∈ s.data.toList, c ≠ 10 ∧ c ≠ 32 := by
  intro c hc
  obtain ⟨i, hi, e⟩ := List.mem_iff_getElem.1 hc
  have hi' : i < s.size := by simpa using hi
  simp only [textB, Bool.and_eq_true, okTo, List.all_eq_true, List.mem_range] at h
  have ho := h.2 i hi'
  have eb : byteAt s i = c.toNat := by
    rw [byteAt_lt hi', ← e]
    rfl
  have hg := ok_good ho
  rw [eb] at hg
  unfold goodN at hg
  constructor
  · rintro rfl; simp at hg
  · rintro rfl; simp at hg
theorem body_bytes {p : Nm} (h1 : textB p.1 = true) (h2 : labB p.2 = true) : ∀ c ∈ bodyL p, c ≠ 10 := by
  obtain ⟨u, _, _, e⟩ := itoa_lab h2
  intro c hc
  rcases List.mem_append.1 hc with g | g
  · exact (text_bytes h1 c g).1
  · rcases List.mem_cons.1 g with g | g
    · subst g; decide
    · rw [e] at g
      have := dd_digits u c g
      rintro rfl
      simp at this
def flatL (ns : List Nm) : List UInt8 := ns.flatMap lineL
theorem lines_flat : ∀ ns : List Nm, (∀ p ∈ ns, textB p.1 = true ∧ labB p.2 = true) → linesL (flatL ns) = ns.map bodyL
  | [], _ => rfl
  | p :: ns, h => by
    have hp := h p (by simp)
    obtain ⟨h1, h2⟩ := bef_at 10 (bodyL p) (flatL ns) (body_bytes hp.1 hp.2)
    have e : flatL (p :: ns) = bodyL p ++ 10 :: flatL ns := by simp [flatL, lineL_body]
    rw [e, linesL_cons (by simp), h1, h2, lines_flat ns (fun q hq => h q (by simp [hq]))]
    rfl
theorem flat_take (ns : List Nm) : ∀ k, k ≤ ns.length → textTo ns k = flatL (ns.take k)
  | 0, _ => by simp [textTo, flatL]
  | k + 1, h => by
    rw [textTo, flat_take ns k (by omega), List.take_succ_eq_append_getElem (by omega), nm_lt (by omega), flatL, flatL, List.flatMap_append, List.flatMap_cons, List.flatMap_nil, List.append_nil]
theorem show_flat (ns : List Nm) : (showS ns).data.toList = flatL ns := by
  show textTo ns ns.length = _
  rw [flat_take ns _ (Nat.le_refl _), List.take_length]
theorem right_each {ns : List Nm} (h : faultR ns = 0) : ∀ p ∈ ns, textB p.1 = true ∧ labB p.2 = true := by
  obtain ⟨_, hL, hT, _⟩ := fault_ok h
  intro p hp
  obtain ⟨i, hi, rfl⟩ := List.mem_iff_getElem.1 hp
  have a := lab_of hL hi
  have b := text_of hT hi
  rw [nm_lt hi] at a b
  exact ⟨b, a⟩
theorem lines_show {ns : List Nm} (h : faultR ns = 0) : linesL (showS ns).data.toList = ns.map bodyL := by rw [show_flat, lines_flat ns (right_each h)]
end Go.Proofs.YtbbjpdadickilaaDoor.Pl
