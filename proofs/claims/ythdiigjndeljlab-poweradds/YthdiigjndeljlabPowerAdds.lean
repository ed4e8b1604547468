/- The statement PowerAdds: n and m of one twin, one behind the other, are n + m of them; for every input and without any condition. -/
import Derived.Test.YthdiigjndeljlabTr
import Derived.Test.YthdiigjndeljlabKu
import Derived.Test.YthdiigjndeljlabKq
import Derived.Deep.RegionHeld3
import Derived.ShutString
import Derived.ChangeOld
import Derived.Below
import Derived.Handy
import Derived.SizedLaws
namespace Go.Proofs.Ythdiigjndeljlab.powerAdds
open Go.ChangeShapes Go.WideShapes Go.ChangeAt Go.RowKit
open Go.Proofs.Ythdiigjndeljlab.Pl Go.Proofs.Ythdiigjndeljlab.Wt
set_option linter.unusedVariables false

theorem own : ownKnob Try.prog.godebug = none := by kernel_rfl
theorem may_small {a b : Int} (a0 : 0 ≤ a) (a1 : a ≤ 1000000000) (b0 : 0 ≤ b) (b1 : b ≤ 1000000000) : mayB a b = true := mayB_iff.2 (.inr ⟨⟨a0, a1⟩, b0, b1⟩)
theorem pow_small {a b n : Int} (a0 : 0 ≤ a) (a1 : a < 1000) (b0 : 0 ≤ b) (b1 : b < 1000) (n0 : 0 ≤ n) (n1 : n < 800000) : powerT a b n = (a * n, b * n, 0) ∧ 0 ≤ a * n ∧ a * n ≤ 1000000000 ∧ 0 ≤ b * n ∧ b * n ≤ 1000000000 := by
  have h1 : 0 ≤ a * n := Int.mul_nonneg a0 n0
  have h2 : 0 ≤ b * n := Int.mul_nonneg b0 n0
  have h3 : a * n ≤ 1000 * 800000 := Int.mul_le_mul (by omega) (by omega) n0 (by omega)
  have h4 : b * n ≤ 1000 * 800000 := Int.mul_le_mul (by omega) (by omega) n0 (by omega)
  refine ⟨?_, h1, by omega, h2, by omega⟩
  rw [powerT_good (may_small a0 (by omega) b0 (by omega)) n0 (by omega)]
  unfold powT
  rw [Int.toNat_of_nonneg n0, not_inf (a := a) (b := b) (by omega)]
  simp
  omega
theorem adds {a b k l : Int} (a0 : 0 ≤ a) (a1 : a < 1000) (b0 : 0 ≤ b) (b1 : b < 1000) (k0 : 0 ≤ k) (k1 : k < 400000) (l0 : 0 ≤ l) (l1 : l < 400000) :
    ∃ p1 q1 p2 q2 p3 q3, powerT a b k = (p1, q1, 0) ∧ powerT a b l = (p2, q2, 0) ∧ powerT a b (k + l) = (p3, q3, 0) ∧ powerT a b 1 = (a, b, 0) ∧ timesT p1 q1 p2 q2 = (p3, q3, 0) := by
  obtain ⟨e1, u1⟩ := pow_small a0 a1 b0 b1 k0 (by omega)
  obtain ⟨e2, u2⟩ := pow_small a0 a1 b0 b1 l0 (by omega)
  obtain ⟨e3, u3⟩ := pow_small (n := k + l) a0 a1 b0 b1 (by omega) (by omega)
  obtain ⟨e4, u4⟩ := pow_small (n := 1) a0 a1 b0 b1 (by omega) (by omega)
  refine ⟨_, _, _, _, _, _, e1, e2, e3, by simpa using e4, ?_⟩
  rw [Int.mul_add, Int.mul_add] at u3 ⊢
  generalize a * k = p1 at *
  generalize b * k = q1 at *
  generalize a * l = p2 at *
  generalize b * l = q2 at *
  have m1 : mayB p1 q1 = true := may_small (by omega) (by omega) (by omega) (by omega)
  have m2 : mayB p2 q2 = true := may_small (by omega) (by omega) (by omega) (by omega)
  simp only [timesT, m1, m2, thenT]
  rw [not_inf (a := p1) (b := q1) (by omega), not_inf (a := p2) (b := q2) (by omega)]
  simp
  omega
set_option maxHeartbeats 4000000 in
theorem walk (x y n m : Int) (w : World) (w0 : (Lit.int .i64 x).wf = true) (w1 : (Lit.int .i64 y).wf = true) (w2 : (Lit.int .i64 n).wf = true) (w3 : (Lit.int .i64 m).wf = true) :
    Calls Try.prog 3 #[.int .i64 x, .int .i64 y, .int .i64 n, .int .i64 m] w fun e w' => e = .returned (.bool true) ∧ Below w.heap.size w w' := by
  have HW0 : Hid ((Lit.int .i64 x).wf = true) := w0
  have HW1 : Hid ((Lit.int .i64 y).wf = true) := w1
  have HW2 : Hid ((Lit.int .i64 n).wf = true) := w2
  have HW3 : Hid ((Lit.int .i64 m).wf = true) := w3
  clear w0 w1 w2 w3
  obtain ⟨a0, a1⟩ := pk_bd x 1000 (by omega)
  obtain ⟨b0, b1⟩ := pk_bd y 1000 (by omega)
  obtain ⟨k0, k1⟩ := pk_bd n 400000 (by omega)
  obtain ⟨l0, l1⟩ := pk_bd m 400000 (by omega)
  generalize ha : pk x 1000 = a at a0 a1
  generalize hb : pk y 1000 = b at b0 b1
  generalize hk : pk n 400000 = k at k0 k1
  generalize hl : pk m 400000 = l at l0 l1
  have HA : Hid (pk x 1000 = a) := ha
  have HB : Hid (pk y 1000 = b) := hb
  have HK : Hid (pk n 400000 = k) := hk
  have HL : Hid (pk m 400000 = l) := hl
  clear ha hb hk hl
  obtain ⟨p1, q1, p2, q2, p3, q3, h1, h2, h3, h4, h5⟩ := adds a0 a1 b0 b1 k0 k1 l0 l1
  have H1 : Hid (powerT a b k = (p1, q1, 0)) := h1
  have H2 : Hid (powerT a b l = (p2, q2, 0)) := h2
  have H3 : Hid (powerT a b (k + l) = (p3, q3, 0)) := h3
  have H4 : Hid (powerT a b 1 = (a, b, 0)) := h4
  have H5 : Hid (timesT p1 q1 p2 q2 = (p3, q3, 0)) := h5
  clear h1 h2 h3 h4 h5 a0 a1 b0 b1
  go_enter Try.func3, Try.ntmps3
  go_wp2_with (first
    | (go_at_call 4; refine (picked_any _ _ _ ?_ (by omega) (by omega)).mono ?_; (first | with_reducible exact HW0.out | with_reducible exact HW1.out | with_reducible exact HW2.out | with_reducible exact HW3.out); (first | rw [HA.out] | rw [HB.out] | rw [HK.out] | rw [HL.out]); rintro e w' ⟨rfl, rfl⟩)
    | (go_at_call 5; (with_reducible refine (powerT_of _ _ _ _ _ _ _ H1.out).mono ?_); rintro e w1 ⟨rfl, hb⟩; (have sw1_0 : w.heap.size < w1.heap.size := below_lt hb (by go_size); have cw1_0 : w1.cell? ⟨w.heap.size, 0, none⟩ = some (.int .i64 a) := below_at hb (show w.heap.size < _ by go_size) (by first | go_cell | simp [*]); have cw1_1 : w1.cell? ⟨w.heap.size, 1, none⟩ = some (.int .i64 b) := below_at hb (show w.heap.size < _ by go_size) (by first | go_cell | simp [*]); have Hw1 : Hid (Below w.heap.size w w1) := Below.trans (by go_grown) (hb.mono (by go_size)); clear hb)) | (go_at_call 5; (with_reducible refine (powerT_of _ _ _ _ _ _ _ H2.out).mono ?_); rintro e w2 ⟨rfl, hb⟩; (have sw2_0 : w.heap.size < w2.heap.size := below_lt hb (by go_size); have sw2_1 : w1.heap.size < w2.heap.size := below_lt hb (by go_size); have cw2_0 : w2.cell? ⟨w.heap.size, 0, none⟩ = some (.int .i64 a) := below_at hb (show w.heap.size < _ by go_size) (by first | go_cell | simp [*]); have cw2_1 : w2.cell? ⟨w.heap.size, 1, none⟩ = some (.int .i64 b) := below_at hb (show w.heap.size < _ by go_size) (by first | go_cell | simp [*]); have cw2_2 : w2.cell? ⟨w1.heap.size, 0, none⟩ = some (.int .i64 p1) := below_at hb (show w1.heap.size < _ by go_size) (by first | go_cell | simp [*]); have cw2_3 : w2.cell? ⟨w1.heap.size, 1, none⟩ = some (.int .i64 q1) := below_at hb (show w1.heap.size < _ by go_size) (by first | go_cell | simp [*]); have Hw2 : Hid (Below w.heap.size w w2) := Below.trans (by (have hp := Hw1.out); go_grown) (hb.mono (by go_size)); clear hb)) | (go_at_call 5; (with_reducible refine (powerT_of _ _ _ _ _ _ _ H3.out).mono ?_); rintro e w3 ⟨rfl, hb⟩; (have sw3_0 : w.heap.size < w3.heap.size := below_lt hb (by go_size); have sw3_1 : w1.heap.size < w3.heap.size := below_lt hb (by go_size); have sw3_2 : w2.heap.size < w3.heap.size := below_lt hb (by go_size); have cw3_0 : w3.cell? ⟨w.heap.size, 0, none⟩ = some (.int .i64 a) := below_at hb (show w.heap.size < _ by go_size) (by first | go_cell | simp [*]); have cw3_1 : w3.cell? ⟨w.heap.size, 1, none⟩ = some (.int .i64 b) := below_at hb (show w.heap.size < _ by go_size) (by first | go_cell | simp [*]); have cw3_2 : w3.cell? ⟨w1.heap.size, 0, none⟩ = some (.int .i64 p1) := below_at hb (show w1.heap.size < _ by go_size) (by first | go_cell | simp [*]); have cw3_3 : w3.cell? ⟨w1.heap.size, 1, none⟩ = some (.int .i64 q1) := below_at hb (show w1.heap.size < _ by go_size) (by first | go_cell | simp [*]); have cw3_4 : w3.cell? ⟨w2.heap.size, 0, none⟩ = some (.int .i64 p2) := below_at hb (show w2.heap.size < _ by go_size) (by first | go_cell | simp [*]); have cw3_5 : w3.cell? ⟨w2.heap.size, 1, none⟩ = some (.int .i64 q2) := below_at hb (show w2.heap.size < _ by go_size) (by first | go_cell | simp [*]); have Hw3 : Hid (Below w.heap.size w w3) := Below.trans (by (have hp := Hw2.out); go_grown) (hb.mono (by go_size)); clear hb)) | (go_at_call 5; (with_reducible refine (powerT_of _ _ _ _ _ _ _ H4.out).mono ?_); rintro e w4 ⟨rfl, hb⟩; (have sw4_0 : w.heap.size < w4.heap.size := below_lt hb (by go_size); have sw4_1 : w1.heap.size < w4.heap.size := below_lt hb (by go_size); have sw4_2 : w2.heap.size < w4.heap.size := below_lt hb (by go_size); have sw4_3 : w3.heap.size < w4.heap.size := below_lt hb (by go_size); have cw4_0 : w4.cell? ⟨w.heap.size, 0, none⟩ = some (.int .i64 a) := below_at hb (show w.heap.size < _ by go_size) (by first | go_cell | simp [*]); have cw4_1 : w4.cell? ⟨w.heap.size, 1, none⟩ = some (.int .i64 b) := below_at hb (show w.heap.size < _ by go_size) (by first | go_cell | simp [*]); have cw4_2 : w4.cell? ⟨w1.heap.size, 0, none⟩ = some (.int .i64 p1) := below_at hb (show w1.heap.size < _ by go_size) (by first | go_cell | simp [*]); have cw4_3 : w4.cell? ⟨w1.heap.size, 1, none⟩ = some (.int .i64 q1) := below_at hb (show w1.heap.size < _ by go_size) (by first | go_cell | simp [*]); have cw4_4 : w4.cell? ⟨w2.heap.size, 0, none⟩ = some (.int .i64 p2) := below_at hb (show w2.heap.size < _ by go_size) (by first | go_cell | simp [*]); have cw4_5 : w4.cell? ⟨w2.heap.size, 1, none⟩ = some (.int .i64 q2) := below_at hb (show w2.heap.size < _ by go_size) (by first | go_cell | simp [*]); have cw4_6 : w4.cell? ⟨w3.heap.size, 0, none⟩ = some (.int .i64 p3) := below_at hb (show w3.heap.size < _ by go_size) (by first | go_cell | simp [*]); have cw4_7 : w4.cell? ⟨w3.heap.size, 1, none⟩ = some (.int .i64 q3) := below_at hb (show w3.heap.size < _ by go_size) (by first | go_cell | simp [*]); have Hw4 : Hid (Below w.heap.size w w4) := Below.trans (by (have hp := Hw3.out); go_grown) (hb.mono (by go_size)); clear hb)))
  have hw4 := Hw4.out
  go_region_held3 (fun w' => Below w.heap.size w w' ∧ w'.cell? ⟨w.heap.size, 0, none⟩ = some (.int .i64 a) ∧ w'.cell? ⟨w.heap.size, 1, none⟩ = some (.int .i64 b) ∧ w'.cell? ⟨w1.heap.size, 0, none⟩ = some (.int .i64 p1) ∧ w'.cell? ⟨w1.heap.size, 1, none⟩ = some (.int .i64 q1) ∧ w'.cell? ⟨w2.heap.size, 0, none⟩ = some (.int .i64 p2) ∧ w'.cell? ⟨w2.heap.size, 1, none⟩ = some (.int .i64 q2) ∧ w'.cell? ⟨w3.heap.size, 0, none⟩ = some (.int .i64 p3) ∧ w'.cell? ⟨w3.heap.size, 1, none⟩ = some (.int .i64 q3) ∧ w'.cell? ⟨w4.heap.size, 0, none⟩ = some (.int .i64 a) ∧ w'.cell? ⟨w4.heap.size, 1, none⟩ = some (.int .i64 b)) (refine ⟨?_, ?_, ?_, ?_, ?_, ?_, ?_, ?_, ?_, ?_, ?_⟩ <;> first | go_cell | (go_grown; done) | exact below_at hb (by go_size) (by go_cell) | exact Below.trans (by go_grown) (hb.mono (by go_size))) (first | (go_at_call 6; (with_reducible refine (timesTwin_of _ _ _ _ _ _ _ H5.out).mono ?_); rintro e w5 ⟨rfl, hb⟩))
  go_wp2
  go_ret
  exact ⟨rfl, And.left ‹Below w.heap.size w w5 ∧ _›⟩

set_option maxRecDepth 100000 in
theorem lifted (os : Os) (started : os.Started) (H : Type) (enc : TypeId × Value → H) :
    ReturnsInHanded {} Try.checked os 3 .any (Rows.powerAddsSpec.pre6 enc Try.prog Try.f3 Rows.powerAddsRow.domain false) (Rows.powerAddsSpec.post enc Try.prog Try.f3 false true false false) := by
  refine returnsInHanded_of_change_sized (C := Try.checked) own started (by kernel_rfl) Try.func3
    (ChangeSpec.witness6 (enc := enc) (C := Try.checked) false ⟨#[], #[.int .i64 0, .int .i64 0, .int .i64 0, .int .i64 0], []⟩ 8 (by kernel_rfl) (by kernel_rfl) (by kernel_rfl) (by kernel_rfl)) ?_
  intro W base args ds gs before hval0 hW hcnd hsz0 _
  have hsz : (DataW.weightsEach Try.prog (Try.f3.params.toList ++ Rows.powerAddsSpec.plain.varTypes Try.prog) (ds ++ gs)).all (· ≤ reachBytes) = true := hsz0
  have hval : ∀ (j : Nat) t v, Try.f3.params[j]? = some t → args[j]? = some v → Value.okWide Try.prog W .any base t v := hval0
  clear hval0 hsz0
  have hW' := hW
  obtain ⟨p, q, hA0, hV, rfl, hfz, hnd⟩ := hW
  have hA : DataW.TrodAll enc Try.prog W 0 (fun _ => true) true Try.f3.params.toList args.toList ds p := hA0
  rw [Try.params3] at hA hval hsz
  obtain ⟨v0, vs0, d0, ds0, p0, q0, hargs, rfl, rfl, h0, r0⟩ := trodAll_cons hA
  obtain ⟨v1, vs1, d1, ds1, p1, q1, rfl, rfl, rfl, h1, r1⟩ := trodAll_cons r0
  obtain ⟨v2, vs2, d2, ds2, p2, q2, rfl, rfl, rfl, h2, r2⟩ := trodAll_cons r1
  obtain ⟨v3, vs3, d3, ds3, p3, q3, rfl, rfl, rfl, h3, r3⟩ := trodAll_cons r2
  obtain ⟨rfl, rfl, rfl⟩ := trodAll_nil r3
  obtain rfl : args = #[v0, v1, v2, v3] := by cases args; simp_all
  obtain ⟨rfl, rfl⟩ := trodVars_none hV
  obtain ⟨a0, rfl, rfl, rfl, w0⟩ := open_int Try.underlying3 (hval 0 3 v0 rfl rfl) h0
  obtain ⟨a1, rfl, rfl, rfl, w1⟩ := open_int Try.underlying3 (hval 1 3 v1 rfl rfl) h1
  obtain ⟨a2, rfl, rfl, rfl, w2⟩ := open_int Try.underlying3 (hval 2 3 v2 rfl rfl) h2
  obtain ⟨a3, rfl, rfl, rfl, w3⟩ := open_int Try.underlying3 (hval 3 3 v3 rfl rfl) h3
  refine (walk a0 a1 a2 a3 W w0 w1 w2 w3).mono fun e W' ⟨he, bel⟩ => ?_
  subst he
  exact ⟨_, rfl, _, _, _, [], _, [], hW', trodAll_mk1 (shut_bool Try.underlying4 _), (trodAll_cons_mk (shut_int Try.underlying3 w0) (trodAll_cons_mk (shut_int Try.underlying3 w1) (trodAll_cons_mk (shut_int Try.underlying3 w2) (trodAll_cons_mk (shut_int Try.underlying3 w3) trodAll_mk0)))), rfl, bel.frame _, fun h => by cases h⟩
end Go.Proofs.Ythdiigjndeljlab.powerAdds
namespace Go.Proofs.Ythdiigjndeljlab
theorem powerAdds_holds : Rows.PowerAddsSaid :=
  OpenClaim.holds_of_wide 3 Try.f3 rfl rfl rfl rfl rfl rfl rfl ⟨rfl, rfl, rfl, rfl, rfl⟩ rfl rfl rfl rfl rfl (by kernel_rfl) Try.func3 (by kernel_rfl)
    (of_decide_eq_true (by kernel_rfl)) (by unfold Func.isWrapper; first | (rw [if_pos (by decide +kernel)]; kernel_rfl) | (rw [if_neg (by decide +kernel)]; exact ⟨rfl, rfl⟩))
    (fun os started H enc _ => powerAdds.lifted os started H enc)
#print axioms powerAdds_holds
end Go.Proofs.Ythdiigjndeljlab
