/- The reference: does an arc lead to a state from one that is not done? -/
import Derived.Test.YtbamaolknpffgaaBm
import Derived.Test.YtbamaolknpffgaaPlainO
import Derived.Deep.DeepCutAuto
namespace Go.Proofs.Ytbamaolknpffgaa.Pl
/-- Does an arc lead to q from a state that is not done? -/
def waitB (l : List St) (bs : List Bool) (n q : Nat) : Bool := (List.range n).any fun p => !el bs p && leadsB l p q
theorem waitB_succ (l : List St) (bs : List Bool) (n q : Nat) : waitB l bs (n + 1) q = (waitB l bs n q || (!el bs n && leadsB l n q)) := by
  unfold waitB
  rw [List.range_succ, List.any_append]; simp
theorem waitB_true {l : List St} {bs : List Bool} {n q p : Nat} (hp : p < n) (h1 : el bs p = false) (h2 : leadsB l p q = true) : waitB l bs n q = true := by
  unfold waitB
  exact List.any_eq_true.2 ⟨p, List.mem_range.2 hp, by rw [h1, h2]; rfl⟩
theorem free_iff {l : List St} {bs : List Bool} {out : List Int} (hd : ∀ p, p < l.length → (el bs p = true ↔ (p : Int) ∈ out)) {q : Nat} (hq : q < l.length) : FreeQ l out q ↔ el bs q = false ∧ waitB l bs l.length q = false := by
  unfold FreeQ waitB
  rw [List.any_eq_false]
  constructor
  · rintro ⟨h1, h2⟩
    refine ⟨?_, fun p hp => ?_⟩
    · rcases bool_cases' (el bs q) with e | e
      · exact absurd ((hd q hq).1 e) h1
      · exact e
    · have hp' := List.mem_range.1 hp
      rcases bool_cases' (leadsB l p q) with e | e
      · rw [(hd p hp').2 (h2 p hp' e)]; simp
      · rw [e]; simp
  · rintro ⟨h1, h2⟩
    refine ⟨fun h => ?_, fun p hp h => ?_⟩
    · rw [(hd q hq).2 h] at h1; cases h1
    · have := h2 p (List.mem_range.2 hp)
      rw [h] at this
      refine (hd p hp).1 ?_
      simpa using this
end Go.Proofs.Ytbamaolknpffgaa.Pl
namespace Go.Proofs.Ytbamaolknpffgaa.Wt
open Go.ChangeShapes Go.WideShapes Go.ChangeAt Go.RowKit
open Go.Proofs.Ytbamaolknpffgaa.Pl
set_option linter.unusedVariables false
set_option linter.unusedSimpArgs false
set_option maxRecDepth 100000 in
set_option maxHeartbeats 1600000 in
theorem waits_any (z : Int) (vs vd : Value) (l : List St) (bs : List Bool) (q : Nat) (w : World) (h : Mach w (.agg #[.int .i64 z, vs]) (z, l)) (hok : okM (z, l)) (hB : Bools w vd bs) (hl : bs.length = l.length) (r : Bool) (hr : waitB l bs l.length q = r) :
    Calls Try.prog 22 #[.agg #[.int .i64 z, vs], vd, .int .i64 (q : Int)] w fun e w' => e = .returned (.bool r) ∧ Below w.heap.size w w' := by
  obtain ⟨vs', hvs, hS⟩ := h
  simp only [Value.agg.injEq, Array.mk.injEq, List.cons.injEq, and_true, true_and] at hvs
  subst hvs
  obtain ⟨a, cap, rfl, hc⟩ := hS.get
  obtain ⟨xd, cd, rfl, hcd⟩ := hB.get
  rw [hl] at hcd ⊢
  have HLK : Hid (∀ j, j < l.length → (el l j).2.length * 32 ≤ 140737488351232) := hok.2
  have hn32 := hok.1
  simp only at hn32
  have HC : Hid (∀ j, j < l.length → ∃ b off va, a = some ⟨b, off, none⟩ ∧ b < w.heap.size ∧ w.cell? ⟨b, off + j * 2, none⟩ = some (.int .i64 (el l j).1) ∧ w.cell? ⟨b, off + j * 2 + 1, none⟩ = some va ∧ Arcs w va (el l j).2) := hc
  have HD : Hid (∀ j, j < l.length → ∃ b off, xd = some ⟨b, off, none⟩ ∧ b < w.heap.size ∧ w.cell? ⟨b, off + j, none⟩ = some (.bool (el bs j))) := hcd
  have HR : Hid (waitB l bs l.length q = r) := hr
  clear hS hc hB hcd hl hr hok
  generalize hn : l.length = n at *
  have HN : Hid (l.length = n) := hn
  clear hn
  have hnot : ∀ (x : Bool) (w : World), (Op.unary .not (.bool x)).run Try.prog w = .ok (.bool (!x)) w := fun _ _ => rfl
  go_enter Try.func22, Try.ntmps22
  go_wp2
  go_loopw [7] (fun i wr => ∃ p : Nat, p ≤ n ∧ i = .int .i64 p ∧ Hid (waitB l bs p q = false) ∧ Hid (Blk wr w.heap.size #[.int .i64 z, .slice a n cap] 24) ∧ Hid (Below w.heap.size w wr)) (fun i _ => n - (intOf i).toNat)
  case atStart => exact ⟨0, Nat.zero_le _, rfl, rfl, Blk.made _ _ _, (Below.refl _ _).alloc (Nat.le_refl _) _⟩
  case round =>
    obtain ⟨p, hp, rfl, hno, hbx, hb⟩ := hrel
    have x1 := hbx.out.cell 1 (v := .slice a n cap) rfl
    by_cases hpn : p < n
    · obtain ⟨b, off, va, rfl, hbl, g0, g1, gA⟩ := HC.out p hpn
      obtain ⟨b2, off2, rfl, hbl2, d0⟩ := HD.out p hpn
      obtain ⟨a3, cap3, hva, hga⟩ := gA.get
      have HGA : Hid (∀ j, j < (el l p).2.length → ∃ b off, a3 = some ⟨b, off, none⟩ ∧ b < w.heap.size ∧ w.cell? ⟨b, off + j * 4, none⟩ = some (.int .i64 (el (el l p).2 j).1) ∧ w.cell? ⟨b, off + j * 4 + 1, none⟩ = some (.int .i64 (el (el l p).2 j).2.1) ∧ w.cell? ⟨b, off + j * 4 + 2, none⟩ = some (.int .i64 (el (el l p).2 j).2.2.1) ∧ w.cell? ⟨b, off + j * 4 + 3, none⟩ = some (.int .i64 (el (el l p).2 j).2.2.2)) := hga
      subst hva
      have hL32 := HLK.out p hpn
      have HWS := waitB_succ l bs p q
      rw [hno.out, Bool.false_or] at HWS
      have HWT : Hid (el bs p = false → leadsB l p q = true → waitB l bs n q = true) := fun h1 h2 => waitB_true hpn h1 h2
      have HLB : Hid (leadsB l p q = (el l p).2.any fun a => decide (a.2.2.2 = (q : Int))) := rfl
      have hp0 : (0 : Int) ≤ (p : Int) := by omega
      have hp1 : (p : Int) < (n : Int) := by omega
      clear gA hga g0
      generalize (el l p).2 = ar at *
      generalize hL : ar.length = L at *
      have HL : Hid (ar.length = L) := hL
      clear hL
      have HWS : Hid (waitB l bs (p + 1) q = (!el bs p && leadsB l p q)) := HWS
      go_wp2
      go_loopw [8] (fun i wr => ∃ j : Nat, j ≤ L ∧ i = .int .i64 j ∧ Hid ((ar.take j).any (fun a => decide (a.2.2.2 = (q : Int))) = false) ∧ Hid (Blk wr w.heap.size #[.int .i64 z, .slice (some ⟨b, off, none⟩) n cap] 24) ∧ Hid (Below w.heap.size w wr)) (fun i _ => L - (intOf i).toNat)
      case atStart => exact ⟨0, Nat.zero_le _, rfl, rfl, hbx, hb⟩
      case round =>
        obtain ⟨j, hj, rfl, hnj, hbx, hb⟩ := hrel
        have x1 := hbx.out.cell 1 (v := .slice (some ⟨b, off, none⟩) n cap) rfl
        have g1 := (hb.out.cell (p := ⟨b, off + p * 2 + 1, none⟩) hbl).trans g1
        have d0 := (hb.out.cell (p := ⟨b2, off2 + p, none⟩) hbl2).trans d0
        by_cases hjL : j < L
        · have hj0 : (0 : Int) ≤ (j : Int) := by omega
          have hj1 : (j : Int) < (L : Int) := by omega
          rcases bool_cases' (el bs p) with hin | hin
          · rw [hin] at d0
            have HW : Hid (waitB l bs (p + 1) q = false) := by show _ = _; rw [HWS.out, hin]; rfl
            clear hin
            go_wp2
            go_roundw
            case rel => exact ⟨p + 1, by omega, by go_num, HW, hbx, hb⟩
            case measure => simp [intOf]; omega
          · rw [hin] at d0
            obtain ⟨b3, off3, rfl, hb3l, _, _, _, e3⟩ := HGA.out j hjL
            have e3 := (hb.out.cell (p := ⟨b3, off3 + j * 4 + 3, none⟩) hb3l).trans e3
            have hat := all_any_take (ar := ar) (j := j) (by rw [HL.out]; exact hjL) (fun a => decide (a.2.2.2 = (q : Int)))
            rw [hnj.out, Bool.false_or] at hat
            have hmem : el ar j ∈ ar := el_mem (by rw [HL.out]; exact hjL)
            by_cases hq : (el ar j).2.2.2 = (q : Int)
            · have HRT : Hid (true = r) := by
                show _ = _
                rw [← HR.out]
                exact (HWT.out hin (by rw [HLB.out]; exact List.any_eq_true.2 ⟨_, hmem, by simpa using hq⟩)).symm
              rw [hq] at e3
              clear hq hat hin
              go_wp2
              go_ret
              exact ⟨ret_boolK HRT.out, hb.out⟩
            · have HA2 : Hid ((ar.take (j + 1)).any (fun a => decide (a.2.2.2 = (q : Int))) = false) := by show _ = _; rw [hat]; simpa using hq
              have hqb : ((el ar j).2.2.2 == (q : Int)) = false := by simpa using hq
              clear hat hin
              generalize (el ar j).2.2.2 = y at *
              go_wp2
              go_roundw
              case rel => exact ⟨j + 1, by omega, by go_num, HA2, hbx, hb⟩
              case measure => simp [intOf]; omega
        · have hnl : ¬ (j : Int) < (L : Int) := by omega
          have HW : Hid (waitB l bs (p + 1) q = false) := by
            have h9 := hnj.out
            rw [show j = ar.length by rw [HL.out]; omega, List.take_length] at h9
            show _ = _
            rw [HWS.out, HLB.out, h9]; simp
          go_wp2
          go_roundw
          case rel => exact ⟨p + 1, by omega, by go_num, HW, hbx, hb⟩
          case measure => simp [intOf]; omega
    · have hnl : ¬ (p : Int) < (n : Int) := by omega
      have HRF : Hid (false = r) := by show _ = _; rw [← HR.out]; have h9 := hno.out; rw [show p = n by omega] at h9; exact h9.symm
      go_wp2
      go_ret
      exact ⟨ret_boolK HRF.out, hb.out⟩
end Go.Proofs.Ytbamaolknpffgaa.Wt
