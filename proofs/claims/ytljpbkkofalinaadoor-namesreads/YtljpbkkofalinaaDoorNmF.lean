/- What the reference says is wrong with a table of names. -/
import Derived.Test.YtljpbkkofalinaaDoorNm
import Derived.Test.YtljpbkkofalinaaDoorNmM
import Derived.Laws.StructEq
import Derived.MapKept
namespace Go.Proofs.YtljpbkkofalinaaDoor.Wt
open Go.ChangeShapes Go.WideShapes Go.ChangeAt Go.RowKit
open Go.Proofs.YtljpbkkofalinaaDoor.Pl
set_option linter.unusedVariables false
theorem labB_eq (x : Int) : labB x = (decide ((1 : Int) ≤ x) && decide (x ≤ 1000)) := rfl
theorem tl_beq (a b : ByteArray) : (a.toList == b.toList) = true ↔ a = b := by rw [← beq_toListBytes]; exact Go.MapKept.bytes_beq a b
theorem tl_ne {a b : ByteArray} (h : (a.toList == b.toList) = false) : ¬ a = b := fun e => by rw [(tl_beq a b).2 e] at h; cases h
theorem ne_tl {a b : ByteArray} (h : ¬ a = b) : (a.toList == b.toList) = false := by
  rcases bool_cases (a.toList == b.toList) with g | g
  · exact absurd ((tl_beq a b).1 g) h
  · exact g
theorem clash_text {ns : List Nm} {i j : Nat} (h : ((nm ns i).1.toList == (nm ns j).1.toList) = true) : clash ns i j = true := by simp [clash, (tl_beq _ _).1 h]
theorem clash_lab {ns : List Nm} {i j : Nat} (h : ((nm ns i).2 == (nm ns j).2) = true) : clash ns i j = true := by simp [clash, beq_iff_eq.1 h]
theorem clash_not {ns : List Nm} {i j : Nat} (h : ((nm ns i).1.toList == (nm ns j).1.toList) = false) (g : ((nm ns i).2 == (nm ns j).2) = false) : clash ns i j = false := by
  simp [clash, tl_ne h, beq_eq_false_iff_ne.1 g]

set_option maxHeartbeats 2000000 in
theorem fault_some (b off cap : Nat) (ns : List Nm) (w : World) (hl : ns.length ≤ 100)
    (hc : ∀ j, j < ns.length → w.cell? ⟨b, off + j * 2, none⟩ = some (.string (nm ns j).1) ∧ w.cell? ⟨b, off + j * 2 + 1, none⟩ = some (.int .i64 (nm ns j).2)) :
    Calls Tryd.prog 17 #[.slice (some ⟨b, off, none⟩) ns.length cap] w fun e w' => e = .returned (.int .i64 (faultR ns)) ∧ Below w.heap.size w w' := by
  have H1 : Hid (labsTo ns ns.length = false → faultR ns = 2) := fun h => fault_lab hl h
  have H2 : Hid (labsTo ns ns.length = true → textsTo ns ns.length = false → faultR ns = 9) := fun h g => fault_text hl h g
  have H3 : Hid (labsTo ns ns.length = true → textsTo ns ns.length = true → faultR ns = if twiceTo ns ns.length = true then 10 else 0) := fun h g => fault_rest hl h g
  have HC : Hid (∀ j, j < ns.length → w.cell? ⟨b, off + j * 2, none⟩ = some (.string (nm ns j).1) ∧ w.cell? ⟨b, off + j * 2 + 1, none⟩ = some (.int .i64 (nm ns j).2)) := hc
  clear hc
  generalize hn : ns.length = n at *
  clear hn
  have hl' : ¬ (100 : Int) < (n : Int) := by omega
  have hnot : ∀ (x : Bool) (w : World), (Op.unary .not (.bool x)).run Tryd.prog w = .ok (.bool (!x)) w := fun _ _ => rfl
  go_enter Tryd.func17, Tryd.ntmps17
  go_wp2
  go_loop [3] (fun i => ∃ k : Nat, k ≤ n ∧ i = .int .i64 k ∧ Hid (labsTo ns k = true)) (fun i => n - (intOf i).toNat)
  case atStart => exact ⟨0, Nat.zero_le _, rfl, rfl⟩
  case round =>
    obtain ⟨k, hk, rfl, hok⟩ := hrel
    by_cases hlt : k < n
    · have g2 := (HC.out k hlt).2
      rcases bool_cases (labB (nm ns k).2) with ho | ho
      · have HO : Hid (labsTo ns (k + 1) = true) := by show _ = _; rw [labsTo_succ, hok.out, ho]; rfl
        have HI : Hid ((decide ((1 : Int) ≤ (nm ns k).2) && decide ((nm ns k).2 ≤ 1000)) = true) := ho
        clear ho hok
        generalize (nm ns k).2 = y at g2 HI
        go_wp2_with (first | (go_at_call 28; (with_reducible refine (inR_any _ _ _ _ _ HI.out).mono ?_); rintro e w' ⟨rfl, rfl⟩))
        go_round
        case rel => exact ⟨k + 1, by omega, by go_num, HO⟩
        case measure => simp [intOf]; omega
      · have HQ : Hid (faultR ns = 2) := H1.out (labsTo_false hlt ho)
        have HI : Hid ((decide ((1 : Int) ≤ (nm ns k).2) && decide ((nm ns k).2 ≤ 1000)) = false) := ho
        clear ho hok
        generalize (nm ns k).2 = y at g2 HI
        go_wp2_with (first | (go_at_call 28; (with_reducible refine (inR_any _ _ _ _ _ HI.out).mono ?_); rintro e w' ⟨rfl, rfl⟩))
        go_ret
        exact ⟨ret_int HQ.out.symm, Below.refl _ _⟩
    · have hke : k = n := by omega
      have HL : Hid (labsTo ns n = true) := by rw [← hke]; exact hok
      have H2' : Hid (textsTo ns n = false → faultR ns = 9) := fun h => H2.out HL.out h
      have H3' : Hid (textsTo ns n = true → faultR ns = if twiceTo ns n = true then 10 else 0) := fun h => H3.out HL.out h
      have hnl : ¬ (k : Int) < (n : Int) := by omega
      clear hke hok H1 H2 H3 HL hlt
      go_wp2
      go_loop [4] (fun i => ∃ k : Nat, k ≤ n ∧ i = .int .i64 k ∧ Hid (textsTo ns k = true)) (fun i => n - (intOf i).toNat)
      case atStart => exact ⟨0, Nat.zero_le _, rfl, rfl⟩
      case round =>
        clear hnl hk
        obtain ⟨k, hk, rfl, hok⟩ := hrel
        by_cases hlt : k < n
        · have g2 := (HC.out k hlt).1
          rcases bool_cases (textB (nm ns k).1) with ho | ho
          · have HO : Hid (textsTo ns (k + 1) = true) := by show _ = _; rw [textsTo_succ, hok.out, ho]; rfl
            have HI : Hid (textB (nm ns k).1 = true) := ho
            clear ho hok
            generalize (nm ns k).1 = y at g2 HI
            go_wp2_with (first | (go_at_call 29; (with_reducible refine (may_any _ _ _ HI.out).mono ?_); rintro e w' ⟨rfl, rfl⟩))
            go_round
            case rel => exact ⟨k + 1, by omega, by go_num, HO⟩
            case measure => simp [intOf]; omega
          · have HQ : Hid (faultR ns = 9) := H2'.out (textsTo_false hlt ho)
            have HI : Hid (textB (nm ns k).1 = false) := ho
            clear ho hok
            generalize (nm ns k).1 = y at g2 HI
            go_wp2_with (first | (go_at_call 29; (with_reducible refine (may_any _ _ _ HI.out).mono ?_); rintro e w' ⟨rfl, rfl⟩))
            go_ret
            exact ⟨ret_int HQ.out.symm, Below.refl _ _⟩
        · have hke : k = n := by omega
          have H3 : Hid (faultR ns = if twiceTo ns n = true then 10 else 0) := H3'.out (by rw [← hke]; exact hok.out)
          have hnl : ¬ (k : Int) < (n : Int) := by omega
          clear hke hok H2' H3' hlt
          go_wp2
          go_loopw [5] (fun i wr => ∃ k : Nat, k ≤ n ∧ i = .int .i64 k ∧ Hid (twiceTo ns k = false) ∧ Below w.heap.size w wr) (fun i _ => n - (intOf i).toNat)
          case atStart => exact ⟨0, Nat.zero_le _, rfl, rfl, Below.refl _ _⟩
          case round =>
            clear hnl hk
            obtain ⟨k, hk, rfl, hok, hb⟩ := hrel
            by_cases hlt : k < n
            · have hlt' : (k : Int) < (n : Int) := by omega
              go_wp2
              go_loopw [6] (fun i wr => ∃ j : Nat, j ≤ k ∧ i = .int .i64 j ∧ Hid (clashTo ns k j = false) ∧ Below w.heap.size w wr) (fun i _ => k - (intOf i).toNat)
              case atStart => exact ⟨0, Nat.zero_le _, rfl, rfl, hb⟩
              case round =>
                clear hb
                obtain ⟨j, hj, rfl, hcl, hb⟩ := hrel
                by_cases hjk : j < k
                · have g1 := (hb.cell (World.block_lt_of_cell? _ _ (HC.out k hlt).1)).trans (HC.out k hlt).1
                  have g2 := (hb.cell (World.block_lt_of_cell? _ _ (HC.out k hlt).2)).trans (HC.out k hlt).2
                  have g3 := (hb.cell (World.block_lt_of_cell? _ _ (HC.out j (by omega)).1)).trans (HC.out j (by omega)).1
                  have g4 := (hb.cell (World.block_lt_of_cell? _ _ (HC.out j (by omega)).2)).trans (HC.out j (by omega)).2
                  have hjn : (j : Int) < (n : Int) := by omega
                  rcases bool_cases ((nm ns k).1.toList == (nm ns j).1.toList) with ht | ht
                  · have HQ : Hid (faultR ns = 10) := by show _ = _; rw [H3.out, if_pos (twiceTo_true hlt (clashTo_true hjk (clash_text ht)))]
                    clear hok hcl
                    generalize (nm ns k).1 = t1 at g1 ht
                    generalize (nm ns j).1 = t2 at g3 ht
                    generalize (nm ns k).2 = l1 at g2
                    generalize (nm ns j).2 = l2 at g4
                    go_wp2
                    go_quiet (fail)
                    go_wp2
                    go_ret
                    exact ⟨ret_int HQ.out.symm, below_drewN hb nq⟩
                  · rcases bool_cases ((nm ns k).2 == (nm ns j).2) with hl2 | hl2
                    · have HQ : Hid (faultR ns = 10) := by show _ = _; rw [H3.out, if_pos (twiceTo_true hlt (clashTo_true hjk (clash_lab hl2)))]
                      clear hok hcl
                      generalize (nm ns k).1 = t1 at g1 ht
                      generalize (nm ns j).1 = t2 at g3 ht
                      generalize (nm ns k).2 = l1 at g2 hl2
                      generalize (nm ns j).2 = l2 at g4 hl2
                      go_wp2
                      go_quiet (fail)
                      go_wp2
                      go_ret
                      exact ⟨ret_int HQ.out.symm, below_drewN hb nq⟩
                    · have HO : Hid (clashTo ns k (j + 1) = false) := by show _ = _; rw [clashTo_succ, hcl.out, clash_not ht hl2]; rfl
                      clear hok hcl
                      generalize (nm ns k).1 = t1 at g1 ht
                      generalize (nm ns j).1 = t2 at g3 ht
                      generalize (nm ns k).2 = l1 at g2 hl2
                      generalize (nm ns j).2 = l2 at g4 hl2
                      go_wp2
                      go_quiet (fail)
                      go_wp2
                      go_roundw
                      case rel => exact ⟨j + 1, by omega, by go_num, HO, below_drewN hb nq⟩
                      case measure => simp [intOf]; omega
                · have hke : j = k := by omega
                  have HO : Hid (twiceTo ns (k + 1) = false) := by show _ = _; rw [twiceTo_succ, hok.out]; rw [hke] at hcl; rw [hcl.out]; rfl
                  have hnl : ¬ (j : Int) < (k : Int) := by omega
                  clear hke hok hcl hjk
                  go_wp2
                  go_roundw
                  case rel => exact ⟨k + 1, by omega, by go_num, HO, hb⟩
                  case measure => simp [intOf]; omega
            · have hke : k = n := by omega
              have HQ : Hid (faultR ns = 0) := by show _ = _; rw [H3.out, ← hke, hok.out]; rfl
              have hnl : ¬ (k : Int) < (n : Int) := by omega
              clear hke hok H3 hlt
              go_wp2
              go_ret
              exact ⟨ret_int HQ.out.symm, hb⟩
theorem fault_any (v : Value) (ns : List Nm) (w : World) (h : Nms w v ns) (hm : ns.length ≤ maxLen) :
    Calls Tryd.prog 17 #[v] w fun e w' => e = .returned (.int .i64 (faultR ns)) ∧ Below w.heap.size w w' := by
  unfold maxLen at hm
  by_cases hl : ns.length ≤ 100
  · by_cases hz : 0 < ns.length
    · obtain ⟨b, off, cap, rfl, _, hc⟩ := h.plain hz
      exact fault_some b off cap ns w hl hc
    · obtain rfl : ns = [] := List.eq_nil_of_length_eq_zero (by omega)
      obtain ⟨a, cap, rfl⟩ := h.empty
      go_enter Tryd.func17, Tryd.ntmps17
      go_wp2
      refine wp_loop_rounds 1 ?_; rw [rounds_succ]
      go_wp2
      refine wp_loop_rounds 1 ?_; rw [rounds_succ]
      go_wp2
      refine wp_loop_rounds 1 ?_; rw [rounds_succ]
      go_wp2
      go_ret
      exact ⟨rfl, Below.refl _ _⟩
  · obtain ⟨a, cap, rfl⟩ := h.sl
    have HQ : Hid (faultR ns = 1) := fault_size (by omega)
    have hl' : (100 : Int) < (ns.length : Int) := by omega
    clear h
    go_enter Tryd.func17, Tryd.ntmps17
    go_wp2
    go_ret
    exact ⟨ret_int HQ.out.symm, Below.refl _ _⟩
end Go.Proofs.YtljpbkkofalinaaDoor.Wt
