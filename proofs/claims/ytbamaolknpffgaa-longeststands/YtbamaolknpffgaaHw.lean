/- The program: container/heap's Push and Pop, at a heap of numbers. -/
import Derived.Test.YtbamaolknpffgaaHv
namespace Go.Proofs.Ytbamaolknpffgaa.Wt
open Go.ChangeShapes Go.WideShapes Go.ChangeAt Go.RowKit
open Go.Proofs.Ytbamaolknpffgaa.Pl
set_option linter.unusedVariables false
set_option linter.unusedSimpArgs false
set_option maxRecDepth 100000 in
set_option maxHeartbeats 3200000 in
theorem hPush_any (B base : Nat) (v : Value) (hs : List Int) (q : Int) (w : World) (hB : Blk w B #[v] 59) (hown : w.ownsRow base 3 1 v hs.length (hs.flatMap encI1)) (hbase : base ≤ w.heap.size) (hn : hs.length ≤ 900) (hH : HeapL hs hs.length) :
    Calls Try.prog 33 #[.iface 61 (.pointer (some ⟨B, 0, none⟩)), .iface 3 (.int .i64 q)] w fun e w' => e = .returned (.tuple #[]) ∧ ∃ v' hs', HeapL hs' hs'.length ∧ hs'.Perm (hs ++ [q]) ∧ Blk w' B #[v'] 59 ∧ w'.ownsRow base 3 1 v' hs'.length (hs'.flatMap encI1) ∧ Near w v.ownBlock v' ∧ Turn2 w w' B v.ownBlock := by
  have HP : Hid (Calls Try.prog 69 #[.pointer (some ⟨B, 0, none⟩), .iface 3 (.int .i64 q)] w fun e w' => e = .returned (.tuple #[]) ∧ ∃ v', Blk w' B #[v'] 59 ∧ w'.ownsRow base 3 1 v' (hs ++ [q]).length ((hs ++ [q]).flatMap encI1) ∧ Near w v.ownBlock v' ∧ Turn2 w w' B v.ownBlock) := rPush_any B base v hs q w hB hown hbase (by omega)
  have HU : Hid (UpL (hs ++ [q]) hs.length) := UpL.start hH q
  have HL : Hid ((hs ++ [q]).length = hs.length + 1) := by simp [Hid]
  have mP := meth_push B w
  generalize hs ++ [q] = hq at *
  generalize hs.length = n at *
  clear hB hown hH
  generalize v.ownBlock = r at *
  go_enter Try.func33, Try.ntmps33
  go_wp2_with (first
    | (go_at_call 69; (with_reducible refine HP.out.mono ?_); rintro e w1 ⟨rfl, v1, hb1, ho1, hn1, ht1⟩; obtain ⟨g1, cap1, hv1, _, _, _⟩ := own_some ho1 (by rw [HL.out]; omega); subst hv1; rw [HL.out] at ho1 hb1 hn1; have HB1 : Hid (Blk w1 B #[.slice (some ⟨g1, 0, none⟩) (n + 1) cap1] 59) := hb1; have HO1 : Hid (w1.ownsRow base 3 1 (.slice (some ⟨g1, 0, none⟩) (n + 1) cap1) (n + 1) (hq.flatMap encI1)) := ho1; have HN1 : Hid (Near w r (.slice (some ⟨g1, 0, none⟩) (n + 1) cap1)) := hn1; have HT1 : Hid (Turn2 w w1 B r) := ht1; have mN := meth_len (hb1.cell 0 (v := .slice (some ⟨g1, 0, none⟩) (n + 1) cap1) rfl); clear hb1 ho1 hn1 ht1)
    | (go_at_call 34; (with_reducible refine (rLen_any _ _ _ _).mono ?_); rintro e w2 ⟨rfl, rfl⟩)
    | (go_at_call 45; (with_reducible refine (up_any B base g1 (n + 1) cap1 hq n _ HB1.out HO1.out HL.out (by omega) HU.out (by omega)).mono ?_); rintro e w3 ⟨rfl, hs3, hh3, hp3, ho3, hb3, hg3⟩))
  go_end0
  have hl3 : hs3.length = n + 1 := by rw [hp3.length_eq]; exact HL.out
  refine ⟨rfl, _, hs3, by rw [hl3]; exact hh3, hp3, hb3, by rw [hl3]; exact ho3, HN1.out, HT1.out.trans (Turn2.grown hg3 B) ?_⟩
  rcases HN1.out with e | ⟨c, e, hc⟩
  · exact .inl e
  · exact .inr ⟨c, e, hc⟩
set_option maxRecDepth 100000 in
set_option maxHeartbeats 3200000 in
theorem hPop_any (B base : Nat) (v : Value) (hs : List Int) (w : World) (hB : Blk w B #[v] 59) (hown : w.ownsRow base 3 1 v hs.length (hs.flatMap encI1)) (h0 : 0 < hs.length) (hn : hs.length ≤ 900) (hH : HeapL hs hs.length) :
    Calls Try.prog 35 #[.iface 61 (.pointer (some ⟨B, 0, none⟩))] w fun e w' => ∃ x, e = .returned (.iface 3 (.int .i64 x)) ∧ ∃ v' hs', HeapL hs' hs'.length ∧ (x :: hs').Perm hs ∧ (∀ y ∈ hs', x ≤ y) ∧ Blk w' B #[v'] 59 ∧ w'.ownsRow base 3 1 v' hs'.length (hs'.flatMap encI1) ∧ v'.ownBlock = v.ownBlock ∧ Turn2 w w' B v.ownBlock := by
  obtain ⟨n, hl⟩ : ∃ n, hs.length = n + 1 := ⟨hs.length - 1, by omega⟩
  rw [hl] at hown
  obtain ⟨g, cap, hv, _, _, _⟩ := own_some hown (by omega)
  subst hv
  have HLN : Hid (hs.length = n + 1) := hl
  have HH : Hid (HeapL hs hs.length) := hH
  have mN := meth_len (hB.cell 0 (v := .slice (some ⟨g, 0, none⟩) (n + 1) cap) rfl)
  have mS := meth_swap (hB.cell 0 (v := .slice (some ⟨g, 0, none⟩) (n + 1) cap) rfl)
  have HSW : Hid (Calls Try.prog 67 #[.slice (some ⟨g, 0, none⟩) (n + 1) cap, .int .i64 0, .int .i64 (n : Int)] w fun e w' => e = .returned (.tuple #[]) ∧ w'.ownsRow base 3 1 (.slice (some ⟨g, 0, none⟩) (n + 1) cap) (n + 1) ((swpL hs 0 n).flatMap encI1) ∧ Blk w' B #[.slice (some ⟨g, 0, none⟩) (n + 1) cap] 59 ∧ w.grownBy w' (some g)) := hSwap (B := B) hown hB hl (by omega) (i := 0) (j := n) (by omega) (by omega)
  have HD : Hid (DownL (swpL hs 0 n) 0 n) := DownL.start hH hl
  have HLS : Hid ((swpL hs 0 n).length = n + 1) := by show _ = _; rw [swp_length]; exact hl
  have mP := meth_pop B
  have h9 : n ≤ 900 := by omega
  clear hB hown hH hl hn h0
  generalize hsw : swpL hs 0 n = hq at *
  have HSQ : Hid (swpL hs 0 n = hq) := hsw
  clear hsw
  go_enter Try.func35, Try.ntmps35
  go_wp2_with (first
    | (go_at_call 34; (with_reducible refine (rLen_any _ _ _ _).mono ?_); rintro e w2 ⟨rfl, rfl⟩)
    | (go_at_call 67; (with_reducible refine HSW.out.mono ?_); rintro e w1 ⟨rfl, ho1, hb1, hg1⟩; have HO1 : Hid (w1.ownsRow base 3 1 (.slice (some ⟨g, 0, none⟩) (n + 1) cap) (n + 1) (hq.flatMap encI1)) := ho1; have HB1 : Hid (Blk w1 B #[.slice (some ⟨g, 0, none⟩) (n + 1) cap] 59) := hb1; have HG1 : Hid (w2.grownBy w1 (some g)) := hg1; clear ho1 hb1 hg1)
    | (go_at_call 46; (with_reducible refine (down_any B base g (n + 1) cap n hq _ HB1.out HO1.out HLS.out (by omega) (by omega) HD.out).mono ?_); rintro e w3 ⟨⟨b3, rfl⟩, hs3, hh3, hp3, hd3, ho3, hb3, hg3⟩; have HO3 : Hid (w3.ownsRow base 3 1 (.slice (some ⟨g, 0, none⟩) (n + 1) cap) hs3.length (hs3.flatMap encI1)) := (by show World.ownsRow _ _ _ _ _ _ _; rw [hp3.length_eq, HLS.out]; exact ho3); have HB3 : Hid (Blk w3 B #[.slice (some ⟨g, 0, none⟩) (n + 1) cap] 59) := hb3; have HG3 : Hid (w1.grownBy w3 (some g)) := hg3; have HF3 : Hid (HeapL hs3 n ∧ hs3.Perm hq ∧ hs3.drop n = hq.drop n) := ⟨hh3, hp3, hd3⟩; clear hh3 hp3 hd3 ho3 hb3 hg3)
    | (go_at_call 68; (with_reducible refine (rPop_any B base _ hs3 n _ HB3.out HO3.out (by rw [HF3.out.2.1.length_eq, HLS.out]) (by omega)).mono ?_); rintro e w4 ⟨rfl, v4, hb4, ho4, hr4, ht4⟩))
  have hpf := pop_facts HH.out HLN.out (by rw [HSQ.out]; exact HF3.out.2.1) (by rw [HSQ.out]; exact HF3.out.2.2) HF3.out.1
  have hl4 : (hs3.take n).length = n := by rw [List.length_take, HF3.out.2.1.length_eq, HLS.out]; omega
  go_ret
  refine ⟨_, rfl, v4, hs3.take n, by rw [hl4]; exact hpf.2.1, by rw [hpf.1]; exact hpf.2.2.1, by rw [hpf.1]; exact hpf.2.2.2, hb4, by rw [hl4]; exact ho4, hr4, ?_⟩
  exact (Turn2.grown (gTrans HG1.out HG3.out) B).trans ht4 (.inl rfl)
end Go.Proofs.Ytbamaolknpffgaa.Wt
