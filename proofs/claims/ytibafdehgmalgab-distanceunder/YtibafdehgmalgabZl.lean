/- weigh.areLabels, checkWords: what is wrong with words. -/
import Derived.Test.YtibafdehgmalgabJ13n
import Derived.Test.YtibafdehgmalgabRn
import Derived.Test.YtibafdehgmalgabPlainDm
namespace Go.Proofs.Ytibafdehgmalgab.Wt
open Go.ChangeShapes Go.WideShapes Go.ChangeAt Go.RowKit
open Go.Proofs.Ytibafdehgmalgab.Pl
set_option linter.unusedVariables false
set_option linter.unusedSimpArgs false
set_option maxRecDepth 100000 in
theorem areLabels_any (v : Value) (l : List Int) (w : World) (h : Nums w v l) (hl : ¬ 12 < l.length) :
    Calls Try.prog 37 #[v] w fun e w' => e = .returned (.bool (labsB l)) ∧ w = w' := by
  obtain ⟨a, cap, rfl, hc⟩ := h.get
  have HC : Hid (∀ j, j < l.length → ∃ b off, a = some ⟨b, off, none⟩ ∧ b < w.heap.size ∧ w.cell? ⟨b, off + j, none⟩ = some (.int .i64 (el l j))) := hc
  have HR : Hid (∀ i, i < l.length → inB (el l i) 1 1000 = false → labsB l = false) := fun i hi hb => all_false_el hi hb
  have HZ : Hid ((∀ i, i < l.length → inB (el l i) 1 1000 = true) → labsB l = true) := fun ha => by
    show l.all _ = true
    rw [List.all_eq_true]
    intro b hb
    obtain ⟨j, hj, rfl⟩ := mem_el hb
    exact ha j hj
  clear h hc
  generalize labsB l = r at *
  generalize l.length = n at *
  go_enter Try.func37, Try.ntmps37
  go_wp2
  go_loop [7] (fun i => ∃ k : Nat, k ≤ n ∧ i = .int .i64 k ∧ Hid (∀ j, j < k → inB (el l j) 1 1000 = true)) (fun i => n - (intOf i).toNat)
  case atStart => exact ⟨0, Nat.zero_le _, rfl, fun j hj => absurd hj (by omega)⟩
  case round =>
    obtain ⟨k, hk, rfl, hall⟩ := hrel
    by_cases hlt : k < n
    · have hlt' : (k : Int) < (n : Int) := by omega
      have hk0 : (0 : Int) ≤ (k : Int) := by omega
      obtain ⟨b, off, rfl, hb, g0⟩ := HC.out k hlt
      have HRk := hidP (HR.out k hlt)
      have HS : Hid (inB (el l k) 1 1000 = true → ∀ j, j < k + 1 → inB (el l j) 1 1000 = true) := fun g j hj => by
        by_cases e : j = k
        · rw [e]; exact g
        · exact hall.out j (by omega)
      generalize el l k = p at *
      have ways : p < 1 ∨ (¬ p < 1 ∧ (1000 : Int) < p) ∨ (¬ p < 1 ∧ ¬ (1000 : Int) < p) := by omega
      rcases ways with h1 | ⟨h1, h2⟩ | ⟨h1, h2⟩
      · have hr : r = false := HRk.out (by simp [inB]; omega)
        subst hr
        clear HS HRk HR HZ
        go_wp2
        go_ret
        exact ⟨rfl, rfl⟩
      · have hr : r = false := HRk.out (by simp [inB]; omega)
        subst hr
        clear HS HRk HR HZ
        go_wp2
        go_ret
        exact ⟨rfl, rfl⟩
      · have HS' := hidP (HS.out (by simp [inB]; omega))
        clear HS HRk
        go_wp2
        go_round
        case rel => exact ⟨k + 1, by omega, by go_num, HS'⟩
        case measure => simp [intOf]; omega
    · have hnl : ¬ (k : Int) < (n : Int) := by omega
      have hr : r = true := HZ.out (fun i hi => hall.out i (by omega))
      subst hr
      clear HR HZ
      go_wp2
      go_ret
      exact ⟨rfl, rfl⟩
/-- Words in a block, one behind the other. -/
def WdsAt (w : World) (b : Nat) (vws : List Value) (ws : List (List Int)) : Prop := Blk w b vws.toArray 25 ∧ vws.length = ws.length ∧ ∀ j, j < ws.length → Nums w (el vws j) (el ws j)
theorem WdsAt.later {w w' : World} {b B : Nat} {vws : List Value} {ws : List (List Int)} (h : WdsAt w b vws ws) (hb : Below B w w') (hB : w.heap.size ≤ B) : WdsAt w' b vws ws :=
  ⟨h.1.below hb (Nat.lt_of_lt_of_le h.1.lt hB), h.2.1, fun j hj => (h.2.2 j hj).later hb hB⟩
set_option maxRecDepth 100000 in
set_option maxHeartbeats 1600000 in
theorem checkWords_any (b : Nat) (vws : List Value) (ws : List (List Int)) (n : Nat) (w : World) (h : WdsAt w b vws ws) (hn : ws.length = n) (hn2 : n ≤ 10) :
    Calls Try.prog 33 #[.slice (some ⟨b, 0, none⟩) n n] w fun e w' => e = .returned (.int .i64 (wdsE ws)) ∧ w = w' := by
  obtain ⟨hB, hl, hN⟩ := h
  have HB := hidP hB
  have HN : Hid (∀ j, j < n → Nums w (el vws j) (el ws j)) := fun j hj => hN j (by omega)
  have HL := hidP (hl.trans hn)
  have HA : Hid (∀ k, k < n → (∀ j, j < k → wrdE (el ws j) = 0) → wrdE (el ws k) ≠ 0 → wdsE ws = wrdE (el ws k)) := fun k hk => wds_at (by omega)
  have HZ : Hid ((∀ j, j < n → wrdE (el ws j) = 0) → wdsE ws = 0) := fun h => wds_all (fun j hj => h j (by omega))
  clear hB hl hN hn
  generalize wdsE ws = r at *
  have hnot : ∀ (x : Bool) (w : World), (Op.unary .not (.bool x)).run Try.prog w = .ok (.bool (!x)) w := fun _ _ => rfl
  go_enter Try.func33, Try.ntmps33
  go_wp2
  go_loop [7] (fun i => ∃ k : Nat, k ≤ n ∧ i = .int .i64 k ∧ Hid (∀ j, j < k → wrdE (el ws j) = 0)) (fun i => n - (intOf i).toNat)
  case atStart => exact ⟨0, Nat.zero_le _, rfl, fun j hj => absurd hj (by omega)⟩
  case round =>
    obtain ⟨k, hk, rfl, hall⟩ := hrel
    by_cases hlt : k < n
    · have hlt' : (k : Int) < (n : Int) := by omega
      have hk0 : (0 : Int) ≤ (k : Int) := by omega
      have c0 := HB.out.cell k (v := el vws k) (by rw [List.getElem?_toArray, el_get (by rw [HL.out]; exact hlt)]; exact List.getElem?_eq_getElem _)
      have HNk := hidP (HN.out k hlt)
      have HAk := hidP (HA.out k hlt hall.out)
      have HS : Hid (wrdE (el ws k) = 0 → ∀ j, j < k + 1 → wrdE (el ws j) = 0) := fun g j hj => by
        by_cases e : j = k
        · rw [e]; exact g
        · exact hall.out j (by omega)
      generalize el ws k = x at *
      generalize el vws k = vx at *
      obtain ⟨ax, cx, hvx, _⟩ := HNk.out.get
      subst hvx
      by_cases h12 : 12 < x.length
      · have hr : r = 1 := by have h9 := wrd_long h12; rw [h9] at HAk; exact HAk.out (by decide)
        have h12' : (12 : Int) < (x.length : Int) := by omega
        subst hr
        clear HAk HS HNk HA HZ
        generalize x.length = X at *
        go_wp2
        go_ret
        exact ⟨rfl, rfl⟩
      · have h12' : ¬ (12 : Int) < (x.length : Int) := by omega
        have HL2 : Hid (Calls Try.prog 37 #[.slice ax x.length cx] w fun e w' => e = .returned (.bool (labsB x)) ∧ w = w') := areLabels_any _ x w HNk.out h12
        have hw := wrd_labs h12
        generalize x.length = X at *
        rcases bool_cases' (labsB x) with hb | hb
        · rw [if_pos hb] at hw
          rw [hb] at HL2
          have HS' := hidP (HS.out hw)
          clear HS HAk HNk hw hb
          go_wp2_with (first | (go_at_call 37; (with_reducible refine HL2.out.mono ?_); rintro e w' ⟨rfl, rfl⟩))
          go_round
          case rel => exact ⟨k + 1, by omega, by go_num, HS'⟩
          case measure => simp [intOf]; omega
        · rw [if_neg (by simp [hb])] at hw
          rw [hb] at HL2
          have hr : r = 2 := by rw [hw] at HAk; exact HAk.out (by decide)
          subst hr
          clear HS HAk HNk hw hb HA HZ
          go_wp2_with (first | (go_at_call 37; (with_reducible refine HL2.out.mono ?_); rintro e w' ⟨rfl, rfl⟩))
          go_ret
          exact ⟨rfl, rfl⟩
    · have hnl : ¬ (k : Int) < (n : Int) := by omega
      have hr : r = 0 := HZ.out (fun i hi => hall.out i (by omega))
      subst hr
      clear HA HZ
      go_wp2
      go_ret
      exact ⟨rfl, rfl⟩
end Go.Proofs.Ytibafdehgmalgab.Wt
