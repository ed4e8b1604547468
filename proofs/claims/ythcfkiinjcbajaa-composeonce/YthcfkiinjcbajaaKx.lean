/- The keeping statements' machine with one path: tropicakeep.chain. -/
import Derived.Test.YthcfkiinjcbajaaJ16m
import Derived.Test.YthcfkiinjcbajaaAn
import Derived.Test.YthcfkiinjcbajaaRn
import Derived.Test.YthcfkiinjcbajaaJ16g
import Derived.Deep.DeepCutAuto
namespace Go.Proofs.Ythcfkiinjcbajaa.Wt
open Go.ChangeShapes Go.WideShapes Go.ChangeAt Go.RowKit
open Go.Proofs.Ythcfkiinjcbajaa.Pl
set_option linter.unusedVariables false
set_option linter.unusedSimpArgs false
def HeldCh (b o : Nat) (y0 y1 y2 : Int) (w : World) : Prop := w.cell? ⟨b, o, none⟩ = some (.int .i64 y0) ∧ w.cell? ⟨b, o + 1, none⟩ = some (.int .i64 y1) ∧ w.cell? ⟨b, o + 2, none⟩ = some (.int .i64 y2)
theorem res_chain (tm : Array Value) (W : World) (R : Nat) (x0 x1 : Value) (hB : Blk W R #[x0, x1] 24) (h2 : tm.getD 4 undef = .pointer (some ⟨R, 0, none⟩)) : (results Try.f21 tm).run Try.prog W = .ok (.agg #[x0, x1]) W := by
  have c0 := hB.cell 0 (v := x0) rfl
  have c1 := hB.cell 1 (v := x1) rfl
  simp only [Array.getD_eq_getD_getElem?] at h2
  simp [results, Try.results21, go_sem, h2, c0, c1]
set_option maxRecDepth 100000 in
set_option maxHeartbeats 3200000 in
theorem chain_any (v : Value) (l : List Ar) (w : World) (h : Arcs w v l) (hwf : ∀ a ∈ l, wfA a) (hl : l.length * 32 ≤ 140737488351232) :
    Calls Try.prog 21 #[v, .int .i64 6] w fun e w' => ∃ v', e = .returned v' ∧ Mach w' v' (chnM l (min l.length 6)) ∧ Below w.heap.size w w' := by
  obtain ⟨a, cap, rfl, hc⟩ := h.get
  have HC := hidP hc
  have HW := hidP hwf
  have HLT : Hid (l.length < 9223372036854775807) := by show _ < _; omega
  clear hc hwf h hl
  obtain ⟨k, hk⟩ : ∃ k, min l.length 6 = k := ⟨_, rfl⟩
  rw [hk]
  have hk6 : k ≤ 6 := by omega
  have hkl : k ≤ l.length := by omega
  have HK : Hid (∀ i, i = k → i = l.length ∨ (i < l.length ∧ i = 6)) := fun i hi => by omega
  clear hk
  go_enter Try.func21, Try.ntmps21
  go_wp2
  go_loopw [6] (fun iv wr => ∃ (i : Nat) (vo : Value), i ≤ k ∧ iv = .int .i64 i ∧ Hid (OwnSts wr (w.heap.size + 1) vo (chS l i)) ∧ Hid (Blk wr (w.heap.size + 1) #[.int .i64 0, vo] 24) ∧ Hid (Blk wr w.heap.size #[.int .i64 0, .slice none 0 0] 24) ∧ Hid (Below w.heap.size w wr)) (fun iv _ => k - (intOf iv).toNat)
  case atStart =>
    have k1 := Blk.made (w.alloc (.cells #[.int .i64 0, .slice none 0 0] 24)) #[.int .i64 0, .slice none 0 0] 24
    rw [World.size_alloc] at k1
    exact ⟨0, _, Nat.zero_le _, rfl, OwnSts.nil _ _, k1, (Blk.made _ _ _).alloc _, ((Below.refl _ _).alloc (Nat.le_refl _) _).alloc (by simp) _⟩
  case round =>
    obtain ⟨i, vo, hi, rfl, hO, hM, hR, hb⟩ := hrel
    obtain ⟨w4, hw4⟩ : ∃ w4, w4 = wr := ⟨_, rfl⟩
    subst hw4
    have s4 := hM.out.lt
    by_cases hlt : i < k
    · have i0 : (0 : Int) ≤ (i : Int) := by omega
      have i1 : (i : Int) < (l.length : Int) := by omega
      have i2 : (i : Int) < 6 := by omega
      have i1d : decide ((i : Int) < (l.length : Int)) = true := decide_eq_true i1
      have i2d : decide ((i : Int) < 6) = true := decide_eq_true i2
      have hil : i < l.length := by omega
      obtain ⟨b, off, rfl, hbl, q0, q1, q2, q3⟩ := HC.out i hil
      have q0 := (hb.out.cell (p := ⟨b, off + i * 4, none⟩) hbl).trans q0
      have q1 := (hb.out.cell (p := ⟨b, off + i * 4 + 1, none⟩) hbl).trans q1
      have q2 := (hb.out.cell (p := ⟨b, off + i * 4 + 2, none⟩) hbl).trans q2
      obtain ⟨wf0, wf1, wf2, _⟩ := HW.out _ (el_mem hil)
      have HNX := hidP (chS_succ l i)
      obtain ⟨ca, hca⟩ : ∃ ca, chA l i = ca := ⟨_, rfl⟩
      have hca2 := hca
      unfold chA at hca2
      rw [hca] at HNX
      clear hca q3
      obtain ⟨yy, hyy⟩ : ∃ yy, el l i = yy := ⟨_, rfl⟩
      rw [hyy] at q0 q1 q2 wf0 wf1 wf2 hca2
      clear hyy
      obtain ⟨y0, y1, y2, y3⟩ := yy
      simp only at q0 q1 q2 wf0 wf1 wf2 hca2
      obtain ⟨p0, hp0⟩ : ∃ p0, pkR y0 3 = p0 := ⟨_, rfl⟩
      obtain ⟨p1, hp1⟩ : ∃ p1, pkR y1 3 = p1 := ⟨_, rfl⟩
      obtain ⟨p2, hp2⟩ : ∃ p2, pkR y2 10 = p2 := ⟨_, rfl⟩
      have HPp0 := hidP (fun W => picked_R y0 3 W wf0 (by omega) (by omega) p0 hp0)
      have HPp1 := hidP (fun W => picked_R y1 3 W wf1 (by omega) (by omega) p1 hp1)
      have HPp2 := hidP (fun W => picked_R y2 10 W wf2 (by omega) (by omega) p2 hp2)
      rw [hp0, hp1, hp2] at hca2
      subst hca2
      clear hp0 hp1 hp2 wf0 wf1 wf2
      have hA4 : Below w4.heap.size w4 (w4.drew.alloc (.cells #[.int .i64 0, .int .i64 0, .int .i64 0, .int .i64 0] 51)) := ((Below.refl _ _).drew).alloc (Nat.le_refl _) _
      have hk4 := Blk.made w4.drew #[.int .i64 0, .int .i64 0, .int .i64 0, .int .i64 0] 51
      have hwr : IntKind.i64.wrap ((i : Int) + 1) = (i : Int) + 1 := wrapI (by omega) (by omega)
      have HS0 : HeldCh b (off + i * 4) y0 y1 y2 w4.drew := ⟨q0, q1, q2⟩
      have HS1 : HeldCh b (off + i * 4) y0 y1 y2 (w4.drew.alloc (.cells #[.int .i64 0, .int .i64 0, .int .i64 0, .int .i64 0] 51)) := ⟨(hA4.cell (World.block_lt_of_cell? _ _ q0)).trans q0, (hA4.cell (World.block_lt_of_cell? _ _ q1)).trans q1, (hA4.cell (World.block_lt_of_cell? _ _ q2)).trans q2⟩
      have HKA := hidP ((Blk.made w4 #[.int .i64 p0, .int .i64 p1, .int .i64 p2, .int .i64 ((i : Int) + 1)] 51).drew)
      have HBA := hidP (((Below.refl w4.heap.size w4).alloc (Nat.le_refl _) (.cells #[.int .i64 p0, .int .i64 p1, .int .i64 p2, .int .i64 ((i : Int) + 1)] 51)).drew)
      clear hA4 hk4
      go_upto_region 5 with fail
      go_cut [7] (fun s7 wx => s7 = .pointer (some ⟨w4.heap.size, 0, none⟩) ∧ Hid (Blk wx w4.heap.size #[.int .i64 p0, .int .i64 p1, .int .i64 p2, .int .i64 ((i : Int) + 1)] 51) ∧ Hid (Below w4.heap.size w4 wx))
      case first =>
          refine region_anyL (HeldCh b (off + i * 4) y0 y1 y2) 22 (by kernel_rfl) ?_
          refine anyL_take (i := 0) (v := ?v0_1) at0 (by kernel_rfl) (by kernel_rfl) (by kernel_rfl) (by kernel_rfl) (fun _ _ _ h => h) rfl ?y0_1 HS0 ?r0_1
          case y0_1 => intro wx hx; obtain ⟨h0, h1, h2⟩ := hx; go_simp; try (with_reducible rfl)
          simp only [Act.put, List.setIfInBounds_toArray, List.set_cons_zero, List.set_cons_succ]
          refine anyL_take (i := 1) (v := ?v1_2) (atS at0) (by kernel_rfl) (by kernel_rfl) (by kernel_rfl) (by kernel_rfl) (fun _ _ _ h => h) rfl ?y1_2 HS0 ?r1_2
          case y1_2 => intro wx hx; obtain ⟨h0, h1, h2⟩ := hx; go_simp; try (with_reducible rfl)
          simp only [Act.put, List.setIfInBounds_toArray, List.set_cons_zero, List.set_cons_succ]
          refine anyL_take (i := 2) (v := ?v2_3) (atS (atS at0)) (by kernel_rfl) (by kernel_rfl) (by kernel_rfl) (by kernel_rfl) (fun _ _ _ h => h) rfl ?y2_3 HS0 ?r2_3
          case y2_3 => intro wx hx; obtain ⟨h0, h1, h2⟩ := hx; go_simp; try (with_reducible rfl)
          simp only [Act.put, List.setIfInBounds_toArray, List.set_cons_zero, List.set_cons_succ]
          refine anyL_take (i := 3) (v := ?v3_4) (atS (atS (atS at0))) (by kernel_rfl) (by kernel_rfl) (by kernel_rfl) (by kernel_rfl) (fun _ _ _ h => h) rfl ?y3_4 HS0 ?r3_4
          case y3_4 => intro wx hx; obtain ⟨h0, h1, h2⟩ := hx; go_simp; try (with_reducible rfl)
          simp only [Act.put, List.setIfInBounds_toArray, List.set_cons_zero, List.set_cons_succ]
          refine anyL_take (i := 4) (v := ?v4_5) (atS (atS (atS (atS at0)))) (by kernel_rfl) (by kernel_rfl) (by kernel_rfl) (by kernel_rfl) (fun _ _ _ h => h) rfl ?y4_5 HS0 ?r4_5
          case y4_5 => intro wx hx; obtain ⟨h0, h1, h2⟩ := hx; go_simp; try (with_reducible rfl)
          simp only [Act.put, List.setIfInBounds_toArray, List.set_cons_zero, List.set_cons_succ]
          refine anyL_take (i := 6) (v := ?v6_6) (atS (atS (atS (atS (atS (atS at0)))))) (by kernel_rfl) (by kernel_rfl) (by kernel_rfl) (by kernel_rfl) (fun _ _ _ h => h) rfl ?y6_6 HS0 ?r6_6
          case y6_6 => intro wx hx; obtain ⟨h0, h1, h2⟩ := hx; go_simp; try (with_reducible rfl)
          simp only [Act.put, List.setIfInBounds_toArray, List.set_cons_zero, List.set_cons_succ]
          refine anyL_take (i := 7) (v := ?v7_7) (atS (atS (atS (atS (atS (atS (atS at0))))))) (by kernel_rfl) (by kernel_rfl) (by kernel_rfl) (by kernel_rfl) (fun _ _ _ h => h) rfl ?y7_7 HS0 ?r7_7
          case y7_7 => intro wx hx; obtain ⟨h0, h1, h2⟩ := hx; go_simp; try (with_reducible rfl)
          simp only [Act.put, List.setIfInBounds_toArray, List.set_cons_zero, List.set_cons_succ]
          refine anyL_take (i := 8) (v := ?v8_8) (atS (atS (atS (atS (atS (atS (atS (atS at0)))))))) (by kernel_rfl) (by kernel_rfl) (by kernel_rfl) (by kernel_rfl) (fun _ _ _ h => h) rfl ?y8_8 HS0 ?r8_8
          case y8_8 => intro wx hx; obtain ⟨h0, h1, h2⟩ := hx; go_simp; try (with_reducible rfl)
          simp only [Act.put, List.setIfInBounds_toArray, List.set_cons_zero, List.set_cons_succ]
          refine anyL_take (i := 9) (v := ?v9_9) (atS (atS (atS (atS (atS (atS (atS (atS (atS at0))))))))) (by kernel_rfl) (by kernel_rfl) (by kernel_rfl) (by kernel_rfl) (fun _ _ _ h => h) rfl ?y9_9 HS0 ?r9_9
          case y9_9 => intro wx hx; obtain ⟨h0, h1, h2⟩ := hx; go_simp; try (with_reducible rfl)
          simp only [Act.put, List.setIfInBounds_toArray, List.set_cons_zero, List.set_cons_succ]
          refine anyL_take (i := 10) (v := ?v10_10) (atS (atS (atS (atS (atS (atS (atS (atS (atS (atS at0)))))))))) (by kernel_rfl) (by kernel_rfl) (by kernel_rfl) (by kernel_rfl) (fun _ _ _ h => h) rfl ?y10_10 HS0 ?r10_10
          case y10_10 => intro wx hx; obtain ⟨h0, h1, h2⟩ := hx; go_simp; try (with_reducible rfl)
          simp only [Act.put, List.setIfInBounds_toArray, List.set_cons_zero, List.set_cons_succ]
          refine anyL_take (i := 12) (v := ?v12_11) (atS (atS (atS (atS (atS (atS (atS (atS (atS (atS (atS (atS at0)))))))))))) (by kernel_rfl) (by kernel_rfl) (by kernel_rfl) (by kernel_rfl) (fun _ _ _ h => h) rfl ?y12_11 HS0 ?r12_11
          case y12_11 => intro wx hx; obtain ⟨h0, h1, h2⟩ := hx; go_simp; try (with_reducible rfl)
          simp only [Act.put, List.setIfInBounds_toArray, List.set_cons_zero, List.set_cons_succ]
          refine anyL_take (i := 13) (v := ?v13_12) (atS (atS (atS (atS (atS (atS (atS (atS (atS (atS (atS (atS (atS at0))))))))))))) (by kernel_rfl) (by kernel_rfl) (by kernel_rfl) (by kernel_rfl) (fun _ _ _ h => h) rfl ?y13_12 HS0 ?r13_12
          case y13_12 => intro wx hx; obtain ⟨h0, h1, h2⟩ := hx; go_simp; try (with_reducible rfl)
          simp only [Act.put, List.setIfInBounds_toArray, List.set_cons_zero, List.set_cons_succ]
          refine anyL_take (i := 14) (v := ?v14_13) (atS (atS (atS (atS (atS (atS (atS (atS (atS (atS (atS (atS (atS (atS at0)))))))))))))) (by kernel_rfl) (by kernel_rfl) (by kernel_rfl) (by kernel_rfl) (fun _ _ _ h => h) rfl ?y14_13 HS0 ?r14_13
          case y14_13 => intro wx hx; obtain ⟨h0, h1, h2⟩ := hx; go_simp; try (with_reducible rfl)
          simp only [Act.put, List.setIfInBounds_toArray, List.set_cons_zero, List.set_cons_succ]
          refine anyL_take (i := 15) (v := ?v15_14) (atS (atS (atS (atS (atS (atS (atS (atS (atS (atS (atS (atS (atS (atS (atS at0))))))))))))))) (by kernel_rfl) (by kernel_rfl) (by kernel_rfl) (by kernel_rfl) (fun _ _ _ h => h) rfl ?y15_14 HS0 ?r15_14
          case y15_14 => intro wx hx; obtain ⟨h0, h1, h2⟩ := hx; go_simp; try (with_reducible rfl)
          simp only [Act.put, List.setIfInBounds_toArray, List.set_cons_zero, List.set_cons_succ]
          refine anyL_take (i := 16) (v := ?v16_15) (atS (atS (atS (atS (atS (atS (atS (atS (atS (atS (atS (atS (atS (atS (atS (atS at0)))))))))))))))) (by kernel_rfl) (by kernel_rfl) (by kernel_rfl) (by kernel_rfl) (fun _ _ _ h => h) rfl ?y16_15 HS0 ?r16_15
          case y16_15 => intro wx hx; obtain ⟨h0, h1, h2⟩ := hx; go_simp; try (with_reducible rfl)
          simp only [Act.put, List.setIfInBounds_toArray, List.set_cons_zero, List.set_cons_succ]
          refine anyL_take (i := 18) (v := ?v18_16) (atS (atS (atS (atS (atS (atS (atS (atS (atS (atS (atS (atS (atS (atS (atS (atS (atS (atS at0)))))))))))))))))) (by kernel_rfl) (by kernel_rfl) (by kernel_rfl) (by kernel_rfl) (fun _ _ _ h => h) rfl ?y18_16 HS0 ?r18_16
          case y18_16 => intro wx hx; obtain ⟨h0, h1, h2⟩ := hx; go_simp; try (with_reducible rfl)
          simp only [Act.put, List.setIfInBounds_toArray, List.set_cons_zero, List.set_cons_succ]
          refine anyL_take (i := 19) (v := ?v19_17) (atS (atS (atS (atS (atS (atS (atS (atS (atS (atS (atS (atS (atS (atS (atS (atS (atS (atS (atS at0))))))))))))))))))) (by kernel_rfl) (by kernel_rfl) (by kernel_rfl) (by kernel_rfl) (fun _ _ _ h => h) rfl ?y19_17 HS0 ?r19_17
          case y19_17 => intro wx hx; obtain ⟨h0, h1, h2⟩ := hx; go_simp; try (with_reducible rfl)
          simp only [Act.put, List.setIfInBounds_toArray, List.set_cons_zero, List.set_cons_succ]
          refine anyL_br (rs := [5, 21]) (by kernel_rfl) (by simp) (List.forall_mem_cons.2 ⟨⟨_, (atS (atS (atS (atS (atS at0))))), rfl, fun K hK => ?_⟩, List.forall_mem_cons.2 ⟨⟨_, (atS (atS (atS (atS (atS (atS (atS (atS (atS (atS (atS (atS (atS (atS (atS (atS (atS (atS (atS (atS (atS at0))))))))))))))))))))), rfl, fun K hK => ?_⟩, fun _ h => absurd h (by simp)⟩⟩)
          ·
            go_simp
            with_reducible refine (HPp0.out _).mono ?_
            rintro e wq ⟨rfl, hq⟩
            subst hq
            refine hK _ _ (.inr HS0) ?_
            try simp only [Act.put, List.setIfInBounds_toArray, List.set_cons_zero, List.set_cons_succ]
            refine anyL_br (rs := [11, 21]) (by kernel_rfl) (by simp) (List.forall_mem_cons.2 ⟨⟨_, (atS (atS (atS (atS (atS (atS (atS (atS (atS (atS (atS at0))))))))))), rfl, fun K hK => ?_⟩, List.forall_mem_cons.2 ⟨⟨_, (atS (atS (atS (atS (atS (atS (atS (atS (atS (atS (atS (atS (atS (atS (atS (atS (atS (atS (atS (atS (atS at0))))))))))))))))))))), rfl, fun K hK => ?_⟩, fun _ h => absurd h (by simp)⟩⟩)
            ·
              go_simp
              with_reducible refine (HPp1.out _).mono ?_
              rintro e wq ⟨rfl, hq⟩
              subst hq
              refine hK _ _ (.inr HS0) ?_
              try simp only [Act.put, List.setIfInBounds_toArray, List.set_cons_zero, List.set_cons_succ]
              refine anyL_br (rs := [17, 21]) (by kernel_rfl) (by simp) (List.forall_mem_cons.2 ⟨⟨_, (atS (atS (atS (atS (atS (atS (atS (atS (atS (atS (atS (atS (atS (atS (atS (atS (atS at0))))))))))))))))), rfl, fun K hK => ?_⟩, List.forall_mem_cons.2 ⟨⟨_, (atS (atS (atS (atS (atS (atS (atS (atS (atS (atS (atS (atS (atS (atS (atS (atS (atS (atS (atS (atS (atS at0))))))))))))))))))))), rfl, fun K hK => ?_⟩, fun _ h => absurd h (by simp)⟩⟩)
              ·
                go_simp
                with_reducible refine (HPp2.out _).mono ?_
                rintro e wq ⟨rfl, hq⟩
                subst hq
                refine hK _ _ (.inr HS0) ?_
                try simp only [Act.put, List.setIfInBounds_toArray, List.set_cons_zero, List.set_cons_succ]
                refine anyL_take (i := 20) (v := ?v20_18) (atS (atS (atS (atS (atS (atS (atS (atS (atS (atS (atS (atS (atS (atS (atS (atS (atS (atS (atS (atS at0)))))))))))))))))))) (by kernel_rfl) (by kernel_rfl) (by kernel_rfl) (by kernel_rfl) (fun _ _ _ h => h) rfl ?y20_18 HS0 ?r20_18
                case y20_18 => intro wx hx; obtain ⟨h0, h1, h2⟩ := hx; go_simp; try (with_reducible rfl)
                simp only [Act.put, List.setIfInBounds_toArray, List.set_cons_zero, List.set_cons_succ]
                refine anyL_one (i := 21) (atS (atS (atS (atS (atS (atS (atS (atS (atS (atS (atS (atS (atS (atS (atS (atS (atS (atS (atS (atS (atS at0))))))))))))))))))))) (by kernel_rfl) rfl (fun K hK => ?_)
                go_simp
                refine hK _ _ (.inr HS1) ?_
                try simp only [Act.put, List.setIfInBounds_toArray, List.set_cons_zero, List.set_cons_succ]
                refine anyL_one (i := 22) (atS (atS (atS (atS (atS (atS (atS (atS (atS (atS (atS (atS (atS (atS (atS (atS (atS (atS (atS (atS (atS (atS at0)))))))))))))))))))))) (by kernel_rfl) rfl (fun K hK => ?_)
                go_simp
                refine hK _ _ (.inl rfl) (anyL_done (by kernel_rfl) (NoPanic.normal ?_))
                try simp only [Act.put, List.setIfInBounds_toArray, List.set_cons_zero, List.set_cons_succ]
                go_wp2
                go_meet
                case rel => exact ⟨rfl, HKA, HBA⟩
              ·
                go_simp
                refine hK _ _ (.inr HS1) ?_
                try simp only [Act.put, List.setIfInBounds_toArray, List.set_cons_zero, List.set_cons_succ]
                refine anyL_one (i := 17) (atS (atS (atS (atS (atS (atS (atS (atS (atS (atS (atS (atS (atS (atS (atS (atS (atS at0))))))))))))))))) (by kernel_rfl) rfl (fun K hK => ?_)
                go_simp
                with_reducible refine (HPp2.out _).mono ?_
                rintro e wq ⟨rfl, hq⟩
                subst hq
                refine hK _ _ (.inr HS1) ?_
                try simp only [Act.put, List.setIfInBounds_toArray, List.set_cons_zero, List.set_cons_succ]
                refine anyL_take (i := 20) (v := ?v20_19) (atS (atS (atS (atS (atS (atS (atS (atS (atS (atS (atS (atS (atS (atS (atS (atS (atS (atS (atS (atS at0)))))))))))))))))))) (by kernel_rfl) (by kernel_rfl) (by kernel_rfl) (by kernel_rfl) (fun _ _ _ h => h) rfl ?y20_19 HS1 ?r20_19
                case y20_19 => intro wx hx; obtain ⟨h0, h1, h2⟩ := hx; go_simp; try (with_reducible rfl)
                simp only [Act.put, List.setIfInBounds_toArray, List.set_cons_zero, List.set_cons_succ]
                refine anyL_one (i := 22) (atS (atS (atS (atS (atS (atS (atS (atS (atS (atS (atS (atS (atS (atS (atS (atS (atS (atS (atS (atS (atS (atS at0)))))))))))))))))))))) (by kernel_rfl) rfl (fun K hK => ?_)
                go_simp
                refine hK _ _ (.inl rfl) (anyL_done (by kernel_rfl) (NoPanic.normal ?_))
                try simp only [Act.put, List.setIfInBounds_toArray, List.set_cons_zero, List.set_cons_succ]
                go_wp2
                go_meet
                case rel => exact ⟨rfl, HKA, HBA⟩
            ·
              go_simp
              refine hK _ _ (.inr HS1) ?_
              try simp only [Act.put, List.setIfInBounds_toArray, List.set_cons_zero, List.set_cons_succ]
              refine anyL_one (i := 11) (atS (atS (atS (atS (atS (atS (atS (atS (atS (atS (atS at0))))))))))) (by kernel_rfl) rfl (fun K hK => ?_)
              go_simp
              with_reducible refine (HPp1.out _).mono ?_
              rintro e wq ⟨rfl, hq⟩
              subst hq
              refine hK _ _ (.inr HS1) ?_
              try simp only [Act.put, List.setIfInBounds_toArray, List.set_cons_zero, List.set_cons_succ]
              refine anyL_one (i := 17) (atS (atS (atS (atS (atS (atS (atS (atS (atS (atS (atS (atS (atS (atS (atS (atS (atS at0))))))))))))))))) (by kernel_rfl) rfl (fun K hK => ?_)
              go_simp
              with_reducible refine (HPp2.out _).mono ?_
              rintro e wq ⟨rfl, hq⟩
              subst hq
              refine hK _ _ (.inr HS1) ?_
              try simp only [Act.put, List.setIfInBounds_toArray, List.set_cons_zero, List.set_cons_succ]
              refine anyL_take (i := 20) (v := ?v20_20) (atS (atS (atS (atS (atS (atS (atS (atS (atS (atS (atS (atS (atS (atS (atS (atS (atS (atS (atS (atS at0)))))))))))))))))))) (by kernel_rfl) (by kernel_rfl) (by kernel_rfl) (by kernel_rfl) (fun _ _ _ h => h) rfl ?y20_20 HS1 ?r20_20
              case y20_20 => intro wx hx; obtain ⟨h0, h1, h2⟩ := hx; go_simp; try (with_reducible rfl)
              simp only [Act.put, List.setIfInBounds_toArray, List.set_cons_zero, List.set_cons_succ]
              refine anyL_one (i := 22) (atS (atS (atS (atS (atS (atS (atS (atS (atS (atS (atS (atS (atS (atS (atS (atS (atS (atS (atS (atS (atS (atS at0)))))))))))))))))))))) (by kernel_rfl) rfl (fun K hK => ?_)
              go_simp
              refine hK _ _ (.inl rfl) (anyL_done (by kernel_rfl) (NoPanic.normal ?_))
              try simp only [Act.put, List.setIfInBounds_toArray, List.set_cons_zero, List.set_cons_succ]
              go_wp2
              go_meet
              case rel => exact ⟨rfl, HKA, HBA⟩
          ·
            go_simp
            refine hK _ _ (.inr HS1) ?_
            try simp only [Act.put, List.setIfInBounds_toArray, List.set_cons_zero, List.set_cons_succ]
            refine anyL_one (i := 5) (atS (atS (atS (atS (atS at0))))) (by kernel_rfl) rfl (fun K hK => ?_)
            go_simp
            with_reducible refine (HPp0.out _).mono ?_
            rintro e wq ⟨rfl, hq⟩
            subst hq
            refine hK _ _ (.inr HS1) ?_
            try simp only [Act.put, List.setIfInBounds_toArray, List.set_cons_zero, List.set_cons_succ]
            refine anyL_one (i := 11) (atS (atS (atS (atS (atS (atS (atS (atS (atS (atS (atS at0))))))))))) (by kernel_rfl) rfl (fun K hK => ?_)
            go_simp
            with_reducible refine (HPp1.out _).mono ?_
            rintro e wq ⟨rfl, hq⟩
            subst hq
            refine hK _ _ (.inr HS1) ?_
            try simp only [Act.put, List.setIfInBounds_toArray, List.set_cons_zero, List.set_cons_succ]
            refine anyL_one (i := 17) (atS (atS (atS (atS (atS (atS (atS (atS (atS (atS (atS (atS (atS (atS (atS (atS (atS at0))))))))))))))))) (by kernel_rfl) rfl (fun K hK => ?_)
            go_simp
            with_reducible refine (HPp2.out _).mono ?_
            rintro e wq ⟨rfl, hq⟩
            subst hq
            refine hK _ _ (.inr HS1) ?_
            try simp only [Act.put, List.setIfInBounds_toArray, List.set_cons_zero, List.set_cons_succ]
            refine anyL_take (i := 20) (v := ?v20_21) (atS (atS (atS (atS (atS (atS (atS (atS (atS (atS (atS (atS (atS (atS (atS (atS (atS (atS (atS (atS at0)))))))))))))))))))) (by kernel_rfl) (by kernel_rfl) (by kernel_rfl) (by kernel_rfl) (fun _ _ _ h => h) rfl ?y20_21 HS1 ?r20_21
            case y20_21 => intro wx hx; obtain ⟨h0, h1, h2⟩ := hx; go_simp; try (with_reducible rfl)
            simp only [Act.put, List.setIfInBounds_toArray, List.set_cons_zero, List.set_cons_succ]
            refine anyL_one (i := 22) (atS (atS (atS (atS (atS (atS (atS (atS (atS (atS (atS (atS (atS (atS (atS (atS (atS (atS (atS (atS (atS (atS at0)))))))))))))))))))))) (by kernel_rfl) rfl (fun K hK => ?_)
            go_simp
            refine hK _ _ (.inl rfl) (anyL_done (by kernel_rfl) (NoPanic.normal ?_))
            try simp only [Act.put, List.setIfInBounds_toArray, List.set_cons_zero, List.set_cons_succ]
            go_wp2
            go_meet
            case rel => exact ⟨rfl, HKA, HBA⟩
      case rest =>
        obtain ⟨rfl, hKA, hBA⟩ := hcut
        obtain ⟨w5, hw5⟩ : ∃ w5, w5 = wc := ⟨_, rfl⟩
        subst hw5
        clear HS0 HS1 HBA HKA q0 q1 q2
        have c0 := hKA.out.cell 0 (v := .int .i64 p0) rfl
        have c1 := hKA.out.cell 1 (v := .int .i64 p1) rfl
        have c2 := hKA.out.cell 2 (v := .int .i64 p2) rfl
        have c3 := hKA.out.cell 3 (v := .int .i64 ((i : Int) + 1)) rfl
        have M5 := hM.out.below hBA.out hM.out.lt
        have m1 := M5.cell 1 (v := vo) rfl
        have s5 := hBA.out.size
        have hA6 : Below w5.heap.size w5 (w5.alloc (.cells #[.int .i64 p0, .int .i64 p1, .int .i64 p2, .int .i64 ((i : Int) + 1)] 51)) := (Below.refl _ _).alloc (Nat.le_refl _) _
        have hva := (OwnArcs.made w5 (p0, p1, p2, (i : Int) + 1)).mono (base' := w.heap.size + 1) (by omega)
        obtain ⟨a7, c7, w7, r7, hM7, hb7, hO7, hM8, hb8⟩ := push_step (B := w.heap.size + 1) (z := 0) (Mb := w.heap.size + 1) (1000000001, [(p0, p1, p2, (i : Int) + 1)]) ((hO.out.laterB hBA.out).laterB hA6) hva (M5.below hA6 M5.lt) (by simp; omega) (Nat.le_refl _) (by rw [chS_len]; omega)
        rw [chS_len] at r7 hO7 hM8 hb8
        simp only [World.size_alloc] at r7
        have HR7 := hidP r7
        have m7 := hM7.cell 1 (v := vo) rfl
        have f7 := hM7.fz 1
        rw [← HNX.out] at hO7
        have HO7 := hidP hO7
        have HM8 := hidP hM8
        have hBW : Below w.heap.size w w5 := hb.out.trans (hBA.out.mono hb.out.size)
        have HB8 := hidP ((hBW.alloc hBW.size (.cells #[.int .i64 p0, .int .i64 p1, .int .i64 p2, .int .i64 ((i : Int) + 1)] 51)).trans (hb8.mono (by omega)))
        have HR8 := hidP (((hR.out.below hBA.out hR.out.lt).below hA6 (by have := hR.out.lt; omega)).below hb8 (Nat.lt_succ_self _))
        clear r7 hO7 hM8 hb8 hb7 hva hM7 hBW hA6 M5
        go_wp2_with (first
          | (at_builtin; refine wpListAppendRun rfl _ _ 22 rfl rfl rfl HR7.out ?_; clear HR7))
        go_roundw
        case rel => exact ⟨i + 1, _, by omega, by go_num, HO7, HM8, HR8, HB8⟩
        case measure => simp [intOf]; omega
    · obtain rfl : k = i := by omega
      have m1 := hM.out.cell 1 (v := vo) rfl
      obtain ⟨a7, c7, w7, r7, hM7, hb7, hO7, hM8, hb8⟩ := push_step (B := w.heap.size + 1) (z := 0) (Mb := w.heap.size + 1) (0, []) hO.out (OwnArcs.nil _ _) hM.out (by omega) (Nat.le_refl _) (by rw [chS_len]; omega)
      rw [chS_len] at r7 hO7 hM8 hb8
      have HR7 := hidP r7
      have m7 := hM7.cell 1 (v := vo) rfl
      have f7 := hM7.fz 1
      have HO7 := hidP hO7
      have HM8 := hidP hM8
      have m8 := hM8.cell 0 (v := .int .i64 0) rfl
      have m9 := hM8.cell 1 (v := .slice a7 (k + 1) c7) rfl
      have HR8 := hidP (hR.out.below hb8 (Nat.lt_succ_self _))
      have e0 := HR8.out.cell 0 (v := .int .i64 0) rfl
      have e1 := HR8.out.cell 1 (v := .slice none 0 0) rfl
      have g0 := HR8.out.fz 0
      have g1 := HR8.out.fz 1
      have HB8 := hidP (hb.out.trans (hb8.mono (by omega)))
      have HCL : Hid ((chS l k ++ [(0, [])]).length = k + 1) := by show _ = _; rw [List.length_append, chS_len]; rfl
      clear r7 hO7 hM8 hb8 hb7 hM7
      have hc2 : ¬ (k : Int) < (l.length : Int) ∨ ((k : Int) < (l.length : Int) ∧ ¬ (k : Int) < 6) := by
        rcases HK.out k rfl with h | h
        · left; omega
        · right; omega
      rcases hc2 with n1 | ⟨n1, n2⟩
      · have n1d : decide ((k : Int) < (l.length : Int)) = false := decide_eq_false n1
        go_wp2_with (first
          | (at_builtin; refine wpListAppendRun rfl _ _ 22 rfl rfl rfl HR7.out ?_; clear HR7))
        refine bodyPost_ret (res_chain _ _ w.heap.size _ _ ((HR8.out.set 0 (.int .i64 0)).set 1 (.slice a7 (k + 1) c7)) rfl) rfl ⟨_, rfl, ⟨_, rfl, ?_⟩, (HB8.out.setCell (p := ⟨w.heap.size, 0, none⟩) (Nat.le_refl _) _).setCell (p := ⟨w.heap.size, 1, none⟩) (Nat.le_refl _) _⟩
        exact ((HO7.out.setM HR8.out 0 _).setM (HR8.out.set 0 _) 1 _).sts
      · have n1d : decide ((k : Int) < (l.length : Int)) = true := decide_eq_true n1
        have n2d : decide ((k : Int) < 6) = false := decide_eq_false n2
        go_wp2_with (first
          | (at_builtin; refine wpListAppendRun rfl _ _ 22 rfl rfl rfl HR7.out ?_; clear HR7))
        refine bodyPost_ret (res_chain _ _ w.heap.size _ _ ((HR8.out.set 0 (.int .i64 0)).set 1 (.slice a7 (k + 1) c7)) rfl) rfl ⟨_, rfl, ⟨_, rfl, ?_⟩, (HB8.out.setCell (p := ⟨w.heap.size, 0, none⟩) (Nat.le_refl _) _).setCell (p := ⟨w.heap.size, 1, none⟩) (Nat.le_refl _) _⟩
        exact ((HO7.out.setM HR8.out 0 _).setM (HR8.out.set 0 _) 1 _).sts
end Go.Proofs.Ythcfkiinjcbajaa.Wt
