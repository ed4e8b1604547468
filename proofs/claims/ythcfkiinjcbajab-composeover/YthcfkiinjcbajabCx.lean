/- The program: a triple's Final and hops; two machines composed. -/
import Derived.Test.YthcfkiinjcbajabFh
namespace Go.Proofs.Ythcfkiinjcbajab.Wt
open Go.ChangeShapes Go.WideShapes Go.ChangeAt Go.RowKit
open Go.Proofs.Ythcfkiinjcbajab.Pl
set_option linter.unusedVariables false
set_option linter.unusedSimpArgs false
set_option maxRecDepth 100000 in
theorem composeP_bad (va vb : Value) (a b : Mc) (w : World) (ha : Mach w va a) (hoka : okM a) (hb : Mach w vb b) (hokb : okM b) (r : Int) (hr : (if faultM a ≠ 0 then faultM a else faultM b) = r) (h0 : ¬ r = 0) :
    Calls Try.prog 8 #[va, vb] w fun e w' => RatRes (0, []) r w e w' := by
  have HCK := hidP (fun W (hB : Below w.heap.size w W) => cmpCheck_any va vb a b W (ha.later hB (Nat.le_refl _)) hoka (hb.later hB (Nat.le_refl _)) hokb r hr)
  obtain ⟨vsa, rfl, hSa⟩ := ha
  obtain ⟨vsb, rfl, hSb⟩ := hb
  obtain ⟨aa, capa, rfl⟩ := hSa.sl
  obtain ⟨ab, capb, rfl⟩ := hSb.sl
  have hrn : (r != 0) = true := by simpa using h0
  clear hSa hSb hoka hokb hr h0
  generalize a.2.length = na at *
  generalize b.2.length = nb at *
  generalize a.1 = za at *
  generalize b.1 = zb at *
  go_enter Try.func8, Try.ntmps8
  go_wp2_with (first
    | (go_at_call 16; (with_reducible refine (HCK.out _ (by go_grown)).mono ?_); rintro e w1 ⟨rfl, hb1⟩; obtain ⟨s1, k0, k1, k2, hb1⟩ := boxedThree hb1 (by simp); have HB1 := hidP hb1; have K2 : Hid (Blk w1 (w.heap.size + 1 + 1) #[.int .i64 0, .slice none 0 0] 28) := k2; have bR0 := K2.out.cell 0 (v := .int .i64 0) rfl; have bR1 := K2.out.cell 1 (v := .slice none 0 0) rfl; have fR0 := K2.out.fz 0; have fR1 := K2.out.fz 1; clear k0 k1 k2 hb1 s1 HCK))
  exact bodyPost_ret (res_cmpP _ _ (w.heap.size + 1 + 1) r _ _ ((K2.out.set 0 (.int .i64 0)).set 1 (.slice none 0 0)) rfl rfl) rfl ⟨_, rfl, mach_zeroR _, (HB1.out.setCell (p := ⟨w.heap.size + 1 + 1, 0, none⟩) (by show w.heap.size ≤ w.heap.size + 1 + 1; omega) _).setCell (p := ⟨w.heap.size + 1 + 1, 1, none⟩) (by show w.heap.size ≤ w.heap.size + 1 + 1; omega) _⟩
set_option maxRecDepth 100000 in
theorem composeP_none (va vb : Value) (a b : Mc) (w : World) (ha : Mach w va a) (hoka : okM a) (hb : Mach w vb b) (hokb : okM b) (fa : faultM a = 0) (fb : faultM b = 0) (hz : a.1 < 0 ∨ b.1 < 0) :
    Calls Try.prog 8 #[va, vb] w fun e w' => RatRes (-1, []) 0 w e w' := by
  have HCK := hidP (fun W (hB : Below w.heap.size w W) => cmpCheck_any va vb a b W (ha.later hB (Nat.le_refl _)) hoka (hb.later hB (Nat.le_refl _)) hokb 0 (by rw [if_neg (fun h => h fa)]; exact fb))
  have ra := (right_parts fa).1
  have rb := (right_parts fb).1
  have HNO : Hid (∀ W : World, Mach W (.agg #[.int .i64 (-1), .slice none 0 0]) (-1, [])) := fun W => ⟨_, rfl, (OwnSts.nil W 0).sts⟩
  obtain ⟨vsa, rfl, hSa⟩ := ha
  obtain ⟨vsb, rfl, hSb⟩ := hb
  obtain ⟨aa, capa, rfl⟩ := hSa.sl
  obtain ⟨ab, capb, rfl⟩ := hSb.sl
  clear hSa hSb hoka hokb fa fb
  generalize a.2.length = na at *
  generalize b.2.length = nb at *
  generalize a.1 = za at *
  generalize b.1 = zb at *
  have hc : za = -1 ∨ (za == -1) = false ∧ zb = -1 := by
    by_cases g : za = -1
    · exact .inl g
    · exact .inr ⟨by simpa using g, by omega⟩
  clear hz ra rb
  rcases hc with hz | ⟨hz, hz2⟩
  · subst hz
    go_enter Try.func8, Try.ntmps8
    go_wp2_with (first
      | (go_at_call 16; (with_reducible refine (HCK.out _ (by go_grown)).mono ?_); rintro e w1 ⟨rfl, hb1⟩; obtain ⟨s1, k0, k1, k2, hb1⟩ := boxedThree hb1 (by simp); have HB1 := hidP hb1; have K2 : Hid (Blk w1 (w.heap.size + 1 + 1) #[.int .i64 0, .slice none 0 0] 28) := k2; have bR0 := K2.out.cell 0 (v := .int .i64 0) rfl; have bR1 := K2.out.cell 1 (v := .slice none 0 0) rfl; have fR0 := K2.out.fz 0; have fR1 := K2.out.fz 1; have c0 := k0.cell 0 (v := .int .i64 (-1)) rfl; have d0 := k1.cell 0 (v := .int .i64 zb) rfl; clear k0 k1 k2 hb1 s1 HCK))
    exact bodyPost_ret (res_cmpP _ _ (w.heap.size + 1 + 1) 0 _ _ ((K2.out.set 0 (.int .i64 (-1))).set 1 (.slice none 0 0)) rfl rfl) rfl ⟨_, rfl, HNO.out _, (HB1.out.setCell (p := ⟨w.heap.size + 1 + 1, 0, none⟩) (by show w.heap.size ≤ w.heap.size + 1 + 1; omega) _).setCell (p := ⟨w.heap.size + 1 + 1, 1, none⟩) (by show w.heap.size ≤ w.heap.size + 1 + 1; omega) _⟩
  · subst hz2
    go_enter Try.func8, Try.ntmps8
    go_wp2_with (first
      | (go_at_call 16; (with_reducible refine (HCK.out _ (by go_grown)).mono ?_); rintro e w1 ⟨rfl, hb1⟩; obtain ⟨s1, k0, k1, k2, hb1⟩ := boxedThree hb1 (by simp); have HB1 := hidP hb1; have K2 : Hid (Blk w1 (w.heap.size + 1 + 1) #[.int .i64 0, .slice none 0 0] 28) := k2; have bR0 := K2.out.cell 0 (v := .int .i64 0) rfl; have bR1 := K2.out.cell 1 (v := .slice none 0 0) rfl; have fR0 := K2.out.fz 0; have fR1 := K2.out.fz 1; have c0 := k0.cell 0 (v := .int .i64 za) rfl; have d0 := k1.cell 0 (v := .int .i64 (-1)) rfl; clear k0 k1 k2 hb1 s1 HCK))
    exact bodyPost_ret (res_cmpP _ _ (w.heap.size + 1 + 1) 0 _ _ ((K2.out.set 0 (.int .i64 (-1))).set 1 (.slice none 0 0)) rfl rfl) rfl ⟨_, rfl, HNO.out _, (HB1.out.setCell (p := ⟨w.heap.size + 1 + 1, 0, none⟩) (by show w.heap.size ≤ w.heap.size + 1 + 1; omega) _).setCell (p := ⟨w.heap.size + 1 + 1, 1, none⟩) (by show w.heap.size ≤ w.heap.size + 1 + 1; omega) _⟩
/-- Compose, at every argument. -/
theorem composeP_any (va vb : Value) (a b : Mc) (w : World) (ha : Mach w va a) (hoka : okM a) (hb : Mach w vb b) (hokb : okM b) :
    Calls Try.prog 8 #[va, vb] w fun e w' => RatRes (cpsA a b).1 (cpsA a b).2 w e w' := by
  by_cases fa : faultM a = 0
  · by_cases fb : faultM b = 0
    · by_cases hz : a.1 < 0 ∨ b.1 < 0
      · have e : cpsA a b = ((-1, []), 0) := by unfold cpsA; rw [if_neg (fun h => h fa), if_neg (fun h => h fb), if_pos hz]
        rw [e]
        exact composeP_none va vb a b w ha hoka hb hokb fa fb hz
      · exact composeP_ok va vb a b w ha hoka hb hokb fa fb (by omega) (by omega)
    · have e : cpsA a b = ((0, []), faultM b) := by unfold cpsA; rw [if_neg (fun h => h fa), if_pos fb]
      rw [e]
      exact composeP_bad va vb a b w ha hoka hb hokb _ (by rw [if_neg (fun h => h fa)]) fb
  · have e : cpsA a b = ((0, []), faultM a) := by unfold cpsA; rw [if_pos fa]
    rw [e]
    exact composeP_bad va vb a b w ha hoka hb hokb _ (by rw [if_pos fa]) fa
end Go.Proofs.Ythcfkiinjcbajab.Wt
