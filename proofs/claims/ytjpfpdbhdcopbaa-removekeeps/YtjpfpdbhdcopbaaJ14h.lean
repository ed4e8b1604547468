/- arrange.arranged: each state's arcs as a function leaves them. arrange.Sorted and arrange.ByOut. -/
import Derived.Test.YtjpfpdbhdcopbaaJ14s
import Derived.Test.YtjpfpdbhdcopbaaJ14b
import Derived.Test.YtjpfpdbhdcopbaaMcN
import Derived.Test.YtjpfpdbhdcopbaaJ14m
import Derived.Laws.MakeOwn
namespace Go.Proofs.Ytjpfpdbhdcopbaa.Wt
open Go.ChangeShapes Go.WideShapes Go.ChangeAt Go.RowKit
open Go.Proofs.Ytjpfpdbhdcopbaa.Pl
set_option linter.unusedVariables false
set_option linter.unusedSimpArgs false
def HeldR (B : Nat) (f : Int) (w : World) : Prop := w.cell? ⟨B, 0, none⟩ = some (.int .i64 f)
set_option maxRecDepth 100000 in
set_option maxHeartbeats 3200000 in
theorem arranged_ok (v : Value) (m : Mc) (w : World) (h : Mach w v m) (hok : okM m) (g : Nat) (lb : Array Value) (f : List Ar → List Ar) (eg : ∀ ar W, (callFunc g ar).run Try.prog W = .ok (.enter g ar) W) (hp : PutAt g lb f w) (hr : faultM m = 0) :
    Calls Try.prog 39 #[v, .func (.func g) #[] lb] w fun e w' => ∃ v', e = .returned (.tuple #[v', .int .i64 0]) ∧ MachFrom w.heap.size w' v' (mapM f m) ∧ Below w.heap.size w w' := by
  obtain ⟨i0, hi0, hz0, hz1, hz2⟩ := info_parts infoArc
  obtain ⟨i1, hi1, hy0, hy1, hy2⟩ := info_parts infoState
  obtain ⟨z, l⟩ := m
  obtain ⟨vs, rfl, hS⟩ := h
  obtain ⟨a, cap, rfl, hc⟩ := hS.get
  have H60 : Hid (l.length ≤ 60) := (right_size hr).1
  have HM : Hid (Mach w (.agg #[.int .i64 z, .slice a l.length cap]) (z, l)) := ⟨_, rfl, hS⟩
  have HK : Hid (okM (z, l)) := hok
  have HR : Hid (faultM (z, l) = 0) := hr
  have HP : Hid (PutAt g lb f w) := hp
  have HC : Hid (∀ j, j < l.length → ∃ b off va, a = some ⟨b, off, none⟩ ∧ b < w.heap.size ∧ w.cell? ⟨b, off + j * 2, none⟩ = some (.int .i64 (el l j).1) ∧ w.cell? ⟨b, off + j * 2 + 1, none⟩ = some va ∧ Arcs w va (el l j).2) := hc
  clear hS hc hok hr hp
  simp only
  generalize hn : l.length = n at *
  have HN : Hid (l.length = n) := hn
  clear hn
  have h60 := H60.out
  have hmk : ∀ W : World, (Instr.makeSlice 22 (.int .i64 (n : Int)) (.int .i64 (n : Int))).run Try.prog W = .ok (.slice (some ⟨W.heap.size, 0, none⟩) n n) (W.alloc (.cells ((List.replicate n ((0 : Int), Value.slice none 0 0)).flatMap encS).toArray 46)) := fun W => by
    have h := run_make (P := Try.prog) W 22 46 i1 _ Try.underlying22 hi1 hy0 .i64 .i64 n n (by omega) (by omega) (by rw [hy2]; omega) (by omega)
    rw [hy1, Int.toNat_natCast, made_states] at h
    exact h
  clear h60
  go_enter Try.func39, Try.ntmps39
  go_wp2_with (first
      | (go_at_call 16; (with_reducible refine (coreCheck_any _ (z, l) _ (HM.out.later (B := w.heap.size) (by go_grown) (Nat.le_refl _)) HK.out _ HR.out).mono ?_); rintro e w1 ⟨rfl, hb⟩; obtain ⟨s1, k0, k1, hb1⟩ := boxed2 hb (by simp); have HB1 : Hid (Below w.heap.size w w1) := hb1; have K0 : Hid (Blk w1 w.heap.size #[.int .i64 z, .slice a n cap] 24) := k0; have K1 : Hid (Blk w1 (w.heap.size + 1) #[.int .i64 0, .slice none 0 0] 24) := k1; have c1 := k0.cell 1 (v := .slice a n cap) rfl; have s2 : w.heap.size < w1.heap.size := (by omega); have s3 : w.heap.size + 1 < w1.heap.size := (by omega); clear hb hb1 k0 k1))
  have HW : Hid (w.heap.size + 2 ≤ w1.heap.size) := s1
  go_loopw [24] (fun i wr => ∃ (k : Nat) (vs : List (Int × Value)), k ≤ n ∧ i = .int .i64 k ∧ vs.length = n ∧ Hid (Blk wr w1.heap.size (vs.flatMap encS).toArray 46) ∧ Hid (∀ j, j < k → (el vs j).1 = (el l j).1 ∧ wr.ownsRow (w1.heap.size + 1) 53 4 (el vs j).2 (f (el l j).2).length ((f (el l j).2).flatMap encA)) ∧ Hid (Blk wr w.heap.size #[.int .i64 z, .slice a n cap] 24) ∧ Hid (Blk wr (w.heap.size + 1) #[.int .i64 0, .slice none 0 0] 24) ∧ Hid (Below w.heap.size w wr) ∧ w1.heap.size + 1 ≤ wr.heap.size) (fun i _ => n - (intOf i).toNat)
  case atStart => exact ⟨0, List.replicate n ((0 : Int), Value.slice none 0 0), Nat.zero_le _, rfl, by simp, Blk.made _ _ _, fun j hj => absurd hj (Nat.not_lt_zero _), K0.out.alloc _, K1.out.alloc _, HB1.out.alloc HB1.out.size _, by simp⟩
  case round =>
    obtain ⟨k, vs, hk, rfl, hvl, hbs, hold, hk0, hk1, hb, hws⟩ := hrel
    have c1 := hk0.out.cell 1 (v := .slice a n cap) rfl
    by_cases hlt : k < n
    · obtain ⟨b, off, va, rfl, hbl, g0, g1, gA⟩ := HC.out k hlt
      have g0 := (hb.out.cell (p := ⟨b, off + k * 2, none⟩) hbl).trans g0
      have g1 := (hb.out.cell (p := ⟨b, off + k * 2 + 1, none⟩) hbl).trans g1
      have GA : Hid (Arcs (wr.alloc (.cells #[.int .i64 (el l k).1, va] 46)) va (el l k).2) := (gA.later hb.out (Nat.le_refl _)).later ((Below.refl _ _).alloc (Nat.le_refl _) _) (Nat.le_refl _)
      have HLK : Hid ((el l k).2.length * 32 ≤ 140737488351232) := HK.out.2 k (by show k < l.length; rw [HN.out]; exact hlt)
      have hk0' : (0 : Int) ≤ (k : Int) := Int.natCast_nonneg _
      have hk1' : (k : Int) < (n : Int) := by omega
      obtain ⟨a2, cap2, hva⟩ := GA.out.sl
      subst hva
      clear gA
      go_wp2_with (first
        | (at_builtin; refine wpList_append_rows encA_len (by decide) encA_one rfl _ _ 44 rfl (wr.heap.size + 1) 53 i0 _ 32 Try.underlying44 hi0 hz0 hz1 hz2 rfl (.slice none 0 0) 0 [] rfl (World.ownsRow_nil _ _ _ _) _ (el l k).2 rfl GA.out (by have := HLK.out; unfold maxLen; omega) (by have := HLK.out; omega) (by simp) ?_; intro v1 w2 ho1 hg1))
      have ho1' := own_zero ho1
      obtain ⟨a1, cp1, rfl⟩ := own_sl ho1'
      have B1 : Below (wr.heap.size + 1) (wr.alloc (.cells #[.int .i64 (el l k).1, .slice a2 (el l k).2.length cap2] 46)) w2 := below_new (by simp) hg1
      have B1' : Below wr.heap.size wr w2 := ((Below.refl _ _).alloc (Nat.le_refl _) _).trans (B1.mono (by omega))
      have HCC := HP.out w2.drew (wr.heap.size + 1) _ (el l k).2 ((hb.out.trans (B1'.mono hb.out.size)).drew) (by have := hb.out.size; omega) ho1' HLK.out
      have HB0 := (Blk.made wr #[.int .i64 (el l k).1, .slice a2 (el l k).2.length cap2] 46).below B1 (Nat.lt_succ_self _)
      have HS : HeldR wr.heap.size (el l k).1 w2.drew := HB0.cell 0 rfl
      refine region_anyL (HeldR wr.heap.size (el l k).1) 9 (by kernel_rfl) ?_
      refine anyL_take (i := 0) (v := ?v0_6) at0 (by kernel_rfl) (by kernel_rfl) (by kernel_rfl) (by kernel_rfl) (fun _ _ _ h => h) rfl ?y0_6 HS ?r0_6
      case y0_6 => intro wx hx; have h1 : wx.cell? ⟨wr.heap.size, 0, none⟩ = some (.int .i64 (el l k).1) := hx; go_simp; try (with_reducible rfl)
      simp only [Act.put, List.setIfInBounds_toArray, List.set_cons_zero, List.set_cons_succ]
      refine anyL_take (i := 1) (v := ?v1_7) (atS at0) (by kernel_rfl) (by kernel_rfl) (by kernel_rfl) (by kernel_rfl) (fun _ _ _ h => h) rfl ?y1_7 HS ?r1_7
      case y1_7 => intro wx hx; have h1 : wx.cell? ⟨wr.heap.size, 0, none⟩ = some (.int .i64 (el l k).1) := hx; go_simp; try (with_reducible rfl)
      simp only [Act.put, List.setIfInBounds_toArray, List.set_cons_zero, List.set_cons_succ]
      refine anyL_take (i := 2) (v := ?v2_8) (atS (atS at0)) (by kernel_rfl) (by kernel_rfl) (by kernel_rfl) (by kernel_rfl) (fun _ _ _ h => h) rfl ?y2_8 HS ?r2_8
      case y2_8 => intro wx hx; have h1 : wx.cell? ⟨wr.heap.size, 0, none⟩ = some (.int .i64 (el l k).1) := hx; go_simp; try (with_reducible rfl)
      simp only [Act.put, List.setIfInBounds_toArray, List.set_cons_zero, List.set_cons_succ]
      refine anyL_take (i := 3) (v := ?v3_9) (atS (atS (atS at0))) (by kernel_rfl) (by kernel_rfl) (by kernel_rfl) (by kernel_rfl) (fun _ _ _ h => h) rfl ?y3_9 HS ?r3_9
      case y3_9 => intro wx hx; have h1 : wx.cell? ⟨wr.heap.size, 0, none⟩ = some (.int .i64 (el l k).1) := hx; go_simp; try (with_reducible rfl)
      simp only [Act.put, List.setIfInBounds_toArray, List.set_cons_zero, List.set_cons_succ]
      refine anyL_take (i := 4) (v := ?v4_10) (atS (atS (atS (atS at0)))) (by kernel_rfl) (by kernel_rfl) (by kernel_rfl) (by kernel_rfl) (fun _ _ _ h => h) rfl ?y4_10 HS ?r4_10
      case y4_10 => intro wx hx; have h1 : wx.cell? ⟨wr.heap.size, 0, none⟩ = some (.int .i64 (el l k).1) := hx; go_simp; try (with_reducible rfl)
      simp only [Act.put, List.setIfInBounds_toArray, List.set_cons_zero, List.set_cons_succ]
      refine anyL_take (i := 5) (v := ?v5_11) (atS (atS (atS (atS (atS at0))))) (by kernel_rfl) (by kernel_rfl) (by kernel_rfl) (by kernel_rfl) (fun _ _ _ h => h) rfl ?y5_11 HS ?r5_11
      case y5_11 => intro wx hx; have h1 : wx.cell? ⟨wr.heap.size, 0, none⟩ = some (.int .i64 (el l k).1) := hx; go_simp; try (with_reducible rfl)
      simp only [Act.put, List.setIfInBounds_toArray, List.set_cons_zero, List.set_cons_succ]
      refine anyL_one (i := 6) (atS (atS (atS (atS (atS (atS at0)))))) (by kernel_rfl) rfl (fun K hK => ?_)
      go_simp
      refine HCC.mono ?_
      rintro e w3 ⟨v3, rfl, ho3, hg3⟩
      obtain ⟨a3, cp3, rfl⟩ := own_sl ho3
      have B3 : Below (wr.heap.size + 1) w2.drew w3 := (Below.refl _ _).grown hg3 (by have := B1.size; simp only [World.size_alloc] at this; exact this) (fun q hq => ((ho1'.lt q hq).1))
      have B3' : Below (wr.heap.size + 1) w2 w3 := ⟨B3.os, B3.tape, B3.output, B3.size, B3.block⟩
      have HS3 : HeldR wr.heap.size (el l k).1 w3 := (HB0.below B3' (Nat.lt_succ_self _)).cell 0 rfl
      have BW : Below wr.heap.size wr w3 := B1'.trans (B3'.mono (by omega))
      have hbs3 : Blk w3 w1.heap.size (vs.flatMap encS).toArray 46 := hbs.out.below BW (by omega)
      have e0 := hbs3.cell (k * 2) (v := .int .i64 (el vs k).1) (by rw [List.getElem?_toArray]; exact flat_at encS_len vs k (by omega) 0 (by omega))
      have e1 := hbs3.cell (k * 2 + 1) (v := (el vs k).2) (by rw [List.getElem?_toArray]; exact flat_at encS_len vs k (by omega) 1 (by omega))
      have f0 := hbs3.fz (k * 2)
      have f1 := hbs3.fz (k * 2 + 1)
      refine hK _ _ (.inr HS3) ?_
      try simp only [Act.put, List.setIfInBounds_toArray, List.set_cons_zero, List.set_cons_succ]
      refine anyL_take (i := 7) (v := ?v7_12) (atS (atS (atS (atS (atS (atS (atS at0))))))) (by kernel_rfl) (by kernel_rfl) (by kernel_rfl) (by kernel_rfl) (fun _ _ _ h => h) rfl ?y7_12 HS3 ?r7_12
      case y7_12 => intro wx hx; have h1 : wx.cell? ⟨wr.heap.size, 0, none⟩ = some (.int .i64 (el l k).1) := hx; go_simp; try (with_reducible rfl)
      simp only [Act.put, List.setIfInBounds_toArray, List.set_cons_zero, List.set_cons_succ]
      refine anyL_take (i := 8) (v := ?v8_13) (atS (atS (atS (atS (atS (atS (atS (atS at0)))))))) (by kernel_rfl) (by kernel_rfl) (by kernel_rfl) (by kernel_rfl) (fun _ _ _ h => h) rfl ?y8_13 HS3 ?r8_13
      case y8_13 => intro wx hx; have h1 : wx.cell? ⟨wr.heap.size, 0, none⟩ = some (.int .i64 (el l k).1) := hx; go_simp; try (with_reducible rfl)
      simp only [Act.put, List.setIfInBounds_toArray, List.set_cons_zero, List.set_cons_succ]
      refine anyL_one (i := 9) (atS (atS (atS (atS (atS (atS (atS (atS (atS at0))))))))) (by kernel_rfl) rfl (fun K hK => ?_)
      go_simp
      refine hK _ _ (.inl rfl) (anyL_done (by kernel_rfl) (NoPanic.normal ?_))
      try simp only [Act.put, List.setIfInBounds_toArray, List.set_cons_zero, List.set_cons_succ]
      have R1 : Hid (Blk ((w3.setCell ⟨w1.heap.size, k * 2, none⟩ (.int .i64 (el l k).1)).setCell ⟨w1.heap.size, k * 2 + 1, none⟩ (.slice a3 (f (el l k).2).length cp3)) w1.heap.size ((vs.set k ((el l k).1, .slice a3 (f (el l k).2).length cp3)).flatMap encS).toArray 46) := by
        have h := (hbs3.set (k * 2) (.int .i64 (el l k).1)).set (k * 2 + 1) (.slice a3 (f (el l k).2).length cp3)
        rw [set_state (by omega) ((el l k).1, .slice a3 (f (el l k).2).length cp3)] at h
        exact h
      have R2 : Hid (∀ j, j < k + 1 → (el (vs.set k ((el l k).1, .slice a3 (f (el l k).2).length cp3)) j).1 = (el l j).1 ∧ ((w3.setCell ⟨w1.heap.size, k * 2, none⟩ (.int .i64 (el l k).1)).setCell ⟨w1.heap.size, k * 2 + 1, none⟩ (.slice a3 (f (el l k).2).length cp3)).ownsRow (w1.heap.size + 1) 53 4 (el (vs.set k ((el l k).1, .slice a3 (f (el l k).2).length cp3)) j).2 (f (el l j).2).length ((f (el l j).2).flatMap encA)) := by
        intro j hj
        rw [el_setS (by omega)]
        by_cases hjk : j = k
        · subst hjk
          rw [if_pos rfl]
          exact ⟨rfl, ownsRow_setCell_below (ownsRow_setCell_below (own_mono (base' := w1.heap.size + 1) ho3 (by omega)) (Nat.lt_succ_self _) _) (Nat.lt_succ_self _) _⟩
        · rw [if_neg hjk]
          obtain ⟨q1, q2⟩ := hold.out j (by omega)
          exact ⟨q1, ownsRow_setCell_below (ownsRow_setCell_below (own_below q2 BW) (Nat.lt_succ_self _) _) (Nat.lt_succ_self _) _⟩
      have R3 : Hid (Blk ((w3.setCell ⟨w1.heap.size, k * 2, none⟩ (.int .i64 (el l k).1)).setCell ⟨w1.heap.size, k * 2 + 1, none⟩ (.slice a3 (f (el l k).2).length cp3)) w.heap.size #[.int .i64 z, .slice (some ⟨b, off, none⟩) n cap] 24) := ((hk0.out.below BW (by omega)).setO _ _ (by show w.heap.size ≠ w1.heap.size; omega)).setO _ _ (by show w.heap.size ≠ w1.heap.size; omega)
      have R4 : Hid (Blk ((w3.setCell ⟨w1.heap.size, k * 2, none⟩ (.int .i64 (el l k).1)).setCell ⟨w1.heap.size, k * 2 + 1, none⟩ (.slice a3 (f (el l k).2).length cp3)) (w.heap.size + 1) #[.int .i64 0, .slice none 0 0] 24) := ((hk1.out.below BW (by omega)).setO _ _ (by show w.heap.size + 1 ≠ w1.heap.size; omega)).setO _ _ (by show w.heap.size + 1 ≠ w1.heap.size; omega)
      have R5 : Hid (Below w.heap.size w ((w3.setCell ⟨w1.heap.size, k * 2, none⟩ (.int .i64 (el l k).1)).setCell ⟨w1.heap.size, k * 2 + 1, none⟩ (.slice a3 (f (el l k).2).length cp3))) := ((hb.out.trans (BW.mono hb.out.size)).setCell (by show w.heap.size ≤ w1.heap.size; omega) _).setCell (by show w.heap.size ≤ w1.heap.size; omega) _
      have R6 : Hid (w1.heap.size + 1 ≤ w3.heap.size) := Nat.le_trans hws BW.size
      clear ho1 ho1' ho3 hg1 hg3 B1 B1' B3 B3' BW hbs3 HB0 HCC HS HS3 hold hbs hk0 hk1
      have h60 : n ≤ 60 := H60.out
      go_wp2
      go_roundw
      case rel => exact ⟨k + 1, _, by omega, by go_num, by simp [hvl], R1, R2, R3, R4, R5, by simp [World.setCell]; exact R6.out⟩
      case measure => simp [intOf]; omega
    · have hke : k = n := by omega
      have hnl : ¬ (k : Int) < (n : Int) := by omega
      have HX : Hid (∀ w', Agree w1.heap.size wr w' → Sts w' (.slice (some ⟨w1.heap.size, 0, none⟩) n n) (l.map fun s => (s.1, f s.2))) := by
        intro w' hg
        have hl2 : (l.map fun s => (s.1, f s.2)).length = n := by simp; exact HN.out
        have := sts_block (l := l.map fun s => (s.1, f s.2)) (B := w1.heap.size + 1) (w := w') (blk_agree hbs.out (Nat.le_refl _) hg) (by rw [hl2]; exact hvl) (fun j hj => by
          have hj' : j < l.length := by simpa using hj
          rw [el_map hj']
          obtain ⟨q1, q2⟩ := hold.out j (by rw [hke, ← HN.out]; exact hj')
          exact ⟨q1, own_agree q2 (hg.mono (Nat.le_succ _))⟩)
        rw [hl2] at this
        exact this
      have d0 := hk0.out.cell 0 (v := .int .i64 z) rfl
      have e0 := hk1.out.cell 0 (v := .int .i64 0) rfl
      have e1 := hk1.out.cell 1 (v := .slice none 0 0) rfl
      have e2 := hk1.out.fz 0
      have e3 := hk1.out.fz 1
      have HB : Hid (Below w.heap.size w wr) := hb
      clear hold hbs hb hke hk0 hk1
      go_wp2
      refine bodyPost_ret (v := .tuple #[.agg #[.int .i64 z, .slice (some ⟨w1.heap.size, 0, none⟩) n n], .int .i64 0]) (by simp [results, Try.results39, go_sem, *]) rfl ⟨_, rfl, fun w' hg => ⟨_, rfl, ?_⟩, by (have h := HB.out); go_grown⟩
      exact HX.out w' (((agree_set (by show w.heap.size + 1 < _; omega) _).trans (by simp [World.setCell]) (agree_set (by show w.heap.size + 1 < _; omega) _)).trans (by simp [World.setCell]) (hg.mono (by omega)))
set_option maxRecDepth 100000 in
theorem arranged_bad (v : Value) (m : Mc) (w : World) (h : Mach w v m) (hok : okM m) (g : Nat) (lb : Array Value) (r : Int) (hr : faultM m = r) (h0 : r ≠ 0) :
    Calls Try.prog 39 #[v, .func (.func g) #[] lb] w fun e w' => e = .returned (.tuple #[.agg #[.int .i64 0, .slice none 0 0], .int .i64 r]) ∧ Below w.heap.size w w' := by
  obtain ⟨z, l⟩ := m
  obtain ⟨vs, rfl, hS⟩ := h
  obtain ⟨a, cap, rfl⟩ := hS.sl
  have HM : Hid (Mach w (.agg #[.int .i64 z, .slice a l.length cap]) (z, l)) := ⟨_, rfl, hS⟩
  have HK : Hid (okM (z, l)) := hok
  have HR : Hid (faultM (z, l) = r) := hr
  clear hS hok hr
  simp only
  have hne : (r != 0) = true := by simpa using h0
  generalize l.length = n at *
  go_enter Try.func39, Try.ntmps39
  go_wp2_with (first
      | (go_at_call 16; (with_reducible refine (coreCheck_any _ (z, l) _ (HM.out.later (B := w.heap.size) (by go_grown) (Nat.le_refl _)) HK.out _ HR.out).mono ?_); rintro e w1 ⟨rfl, hb⟩; obtain ⟨s1, k0, k1, hb1⟩ := boxed2 hb (by simp); have HB1 : Hid (Below w.heap.size w w1) := hb1; have e0 := k1.cell 0 (v := .int .i64 0) rfl; have e1 := k1.cell 1 (v := .slice none 0 0) rfl; have f0 := k1.fz 0; have f1 := k1.fz 1; clear hb hb1 k0 k1))
  exact bodyPost_ret (v := .tuple #[.agg #[.int .i64 0, .slice none 0 0], .int .i64 r]) (by simp [results, Try.results39, go_sem, *]) rfl ⟨rfl, by (have h := HB1.out); go_grown⟩
theorem mach_none (w : World) : Mach w (.agg #[.int .i64 0, .slice none 0 0]) (0, []) := ⟨_, rfl, [], .inl ⟨rfl, rfl⟩, rfl, by simp⟩
theorem arranged_any (v : Value) (m : Mc) (w : World) (h : Mach w v m) (hok : okM m) (g : Nat) (lb : Array Value) (f : List Ar → List Ar) (eg : ∀ ar W, (callFunc g ar).run Try.prog W = .ok (.enter g ar) W) (hp : PutAt g lb f w) (r : Int) (hr : faultM m = r) :
    Calls Try.prog 39 #[v, .func (.func g) #[] lb] w fun e w' => ∃ v', e = .returned (.tuple #[v', .int .i64 r]) ∧ MachFrom w.heap.size w' v' (resM r (mapM f m)) ∧ Below w.heap.size w w' := by
  by_cases h0 : r = 0
  · subst h0
    exact arranged_ok v m w h hok g lb f eg hp hr
  · refine (arranged_bad v m w h hok g lb r hr h0).mono ?_
    rintro e w' ⟨he, hb⟩
    refine ⟨_, he, ?_, hb⟩
    rw [resM, if_neg h0]
    exact fun w'' _ => mach_none w''
end Go.Proofs.Ytjpfpdbhdcopbaa.Wt
namespace Go.Proofs.Ytjpfpdbhdcopbaa.Wt
open Go.ChangeShapes Go.WideShapes Go.ChangeAt Go.RowKit
open Go.Proofs.Ytjpfpdbhdcopbaa.Pl
set_option linter.unusedVariables false
set_option linter.unusedSimpArgs false
set_option maxRecDepth 100000 in
set_option maxHeartbeats 1000000 in
theorem sorted_any (v : Value) (m : Mc) (w : World) (h : Mach w v m) (hok : okM m) (r : Int) (hr : faultM m = r) :
    Calls Try.prog 19 #[v] w fun e w' => ∃ v', e = .returned (.tuple #[v', .int .i64 r]) ∧ MachFrom w.heap.size w' v' (resM r (mapM (sortS false) m)) ∧ Below w.heap.size w w' := by
  obtain ⟨z, l⟩ := m
  obtain ⟨vs, rfl, hS⟩ := h
  obtain ⟨a, cap, rfl⟩ := hS.sl
  have HM : Hid (Mach w (.agg #[.int .i64 z, .slice a l.length cap]) (z, l)) := ⟨_, rfl, hS⟩
  have HK : Hid (okM (z, l)) := hok
  have HR : Hid (faultM (z, l) = r) := hr
  clear hS hok hr
  simp only
  generalize l.length = n at *
  have eg : ∀ args w, (callFunc 64 args).run Try.prog w = .ok (.enter 64 args) w := enters_of Try.func64 (by kernel_rfl) rfl
  go_enter Try.func19, Try.ntmps19
  go_wp2
  have k0 : Blk ((w.alloc (.cells #[.int .i64 z, .slice a n cap] 24)).alloc (.cells #[.int .i64 0, .slice none 0 0] 24)).drew w.heap.size #[.int .i64 z, .slice a n cap] 24 := (Blk.made w _ _).alloc _
  have HS : HeldN w.heap.size z (.slice a n cap) ((w.alloc (.cells #[.int .i64 z, .slice a n cap] 24)).alloc (.cells #[.int .i64 0, .slice none 0 0] 24)).drew := ⟨k0.cell 0 rfl, k0.cell 1 rfl⟩
  refine region_anyL (HeldN w.heap.size z (.slice a n cap)) 1000 (by kernel_rfl) ?_
  refine anyL_take (i := 0) (v := ?v0_1) at0 (by kernel_rfl) (by kernel_rfl) (by kernel_rfl) (by kernel_rfl) (fun _ _ _ h => h) rfl ?y0_1 HS ?r0_1
  case y0_1 => intro wx hx; obtain ⟨h1, h2⟩ := hx; go_simp; try (with_reducible rfl)
  simp only [Act.put, List.setIfInBounds_toArray, List.set_cons_zero, List.set_cons_succ]
  refine anyL_take (i := 1) (v := ?v1_2) (atS at0) (by kernel_rfl) (by kernel_rfl) (by kernel_rfl) (by kernel_rfl) (fun _ _ _ h => h) rfl ?y1_2 HS ?r1_2
  case y1_2 => intro wx hx; obtain ⟨h1, h2⟩ := hx; go_simp; try (with_reducible rfl)
  simp only [Act.put, List.setIfInBounds_toArray, List.set_cons_zero, List.set_cons_succ]
  refine anyL_one (i := 2) (atS (atS at0)) (by kernel_rfl) rfl (fun K hK => ?_)
  go_simp
  refine (sortedBy_any false _ _ _ ⟨rfl, rfl⟩).mono ?_
  rintro e w1 ⟨fv, rfl, ⟨F, Ky, rfl, hF, hKy, hcF⟩, hb⟩
  obtain ⟨s1, b0, b1, hb1⟩ := boxed2 (below_undrew hb) (by simp [World.drew])
  have HS1 : HeldN w.heap.size z (.slice a n cap) w1 := ⟨b0.cell 0 rfl, b0.cell 1 rfl⟩
  refine hK _ _ (.inr HS1) ?_
  try simp only [Act.put, List.setIfInBounds_toArray, List.set_cons_zero, List.set_cons_succ]
  refine anyL_one (i := 3) (atS (atS (atS at0))) (by kernel_rfl) rfl (fun K hK => ?_)
  go_simp
  refine (arranged_any _ (z, l) _ (HM.out.later hb1 (Nat.le_refl _)) HK.out _ _ (sortS false) eg (put_sort false Ky F w1 hKy hF hcF) r HR.out).mono ?_
  rintro e w2 ⟨v2, rfl, hm2, hb2⟩
  obtain ⟨a2, c2, rfl⟩ := hm2.sl
  generalize hMe : resM r (mapM (sortS false) (z, l)) = M at *
  have HMe : Hid (resM r (mapM (sortS false) (z, l)) = M) := hMe
  clear hMe
  have b02 := b0.below hb2 b0.lt
  have b12 := b1.below hb2 b1.lt
  have HS2 : HeldN w.heap.size z (.slice a n cap) w2 := ⟨b02.cell 0 rfl, b02.cell 1 rfl⟩
  have HB2 : Hid (Below w.heap.size w w2) := hb1.trans (hb2.mono hb1.size)
  have HM2 : Hid (MachFrom w.heap.size ((w2.setCell ⟨w.heap.size + 1, 0, none⟩ (.int .i64 M.1)).setCell ⟨w.heap.size + 1, 1, none⟩ (.slice a2 M.2.length c2)) (.agg #[.int .i64 M.1, .slice a2 M.2.length c2]) M) := ((hm2.set (by show w.heap.size + 1 < _; omega) _).set (by show w.heap.size + 1 < _; omega) _).mono (by omega)
  have e0 := b12.cell 0 (v := .int .i64 0) rfl
  have e1 := b12.cell 1 (v := .slice none 0 0) rfl
  have f0 := b12.fz 0
  have f1 := b12.fz 1
  refine hK _ _ (.inr HS2) ?_
  try simp only [Act.put, List.setIfInBounds_toArray, List.set_cons_zero, List.set_cons_succ]
  refine anyL_take (i := 4) (v := ?v4_3) (atS (atS (atS (atS at0)))) (by kernel_rfl) (by kernel_rfl) (by kernel_rfl) (by kernel_rfl) (fun _ _ _ h => h) rfl ?y4_3 HS2 ?r4_3
  case y4_3 => intro wx hx; obtain ⟨h1, h2⟩ := hx; go_simp; try (with_reducible rfl)
  simp only [Act.put, List.setIfInBounds_toArray, List.set_cons_zero, List.set_cons_succ]
  refine anyL_take (i := 5) (v := ?v5_4) (atS (atS (atS (atS (atS at0))))) (by kernel_rfl) (by kernel_rfl) (by kernel_rfl) (by kernel_rfl) (fun _ _ _ h => h) rfl ?y5_4 HS2 ?r5_4
  case y5_4 => intro wx hx; obtain ⟨h1, h2⟩ := hx; go_simp; try (with_reducible rfl)
  simp only [Act.put, List.setIfInBounds_toArray, List.set_cons_zero, List.set_cons_succ]
  refine anyL_one (i := 6) (atS (atS (atS (atS (atS (atS at0)))))) (by kernel_rfl) rfl (fun K hK => ?_)
  go_simp
  have b03 := (b02.setO (⟨w.heap.size + 1, 0, none⟩ : Addr) (.int .i64 M.1) (by show w.heap.size ≠ w.heap.size + 1; omega)).setO (⟨w.heap.size + 1, 1, none⟩ : Addr) (.slice a2 M.2.length c2) (by show w.heap.size ≠ w.heap.size + 1; omega)
  have HS3 : HeldN w.heap.size z (.slice a n cap) _ := ⟨b03.cell 0 rfl, b03.cell 1 rfl⟩
  refine hK _ _ (.inr HS3) ?_
  try simp only [Act.put, List.setIfInBounds_toArray, List.set_cons_zero, List.set_cons_succ]
  refine anyL_take (i := 7) (v := ?v7_5) (atS (atS (atS (atS (atS (atS (atS at0))))))) (by kernel_rfl) (by kernel_rfl) (by kernel_rfl) (by kernel_rfl) (fun _ _ _ h => h) rfl ?y7_5 HS3 ?r7_5
  case y7_5 => intro wx hx; obtain ⟨h1, h2⟩ := hx; go_simp; try (with_reducible rfl)
  simp only [Act.put, List.setIfInBounds_toArray, List.set_cons_zero, List.set_cons_succ]
  refine anyL_done (by kernel_rfl) (NoPanic.normal ?_)
  clear b0 b1 b02 b03 HS HS1 HS2 HS3 hm2 hb hb1 hb2 k0
  have b12' := (b12.set 0 (.int .i64 M.1)).set 1 (.slice a2 M.2.length c2)
  have x0 := b12'.cell 0 (v := .int .i64 M.1) rfl
  have x1 := b12'.cell 1 (v := .slice a2 M.2.length c2) rfl
  clear b12 b12' e0 e1 f0 f1
  have HB3 : Hid (Below w.heap.size w ((w2.setCell ⟨w.heap.size + 1, 0, none⟩ (.int .i64 M.1)).setCell ⟨w.heap.size + 1, 1, none⟩ (.slice a2 M.2.length c2))) := (HB2.out.setCell (by show _ ≤ w.heap.size + 1; omega) _).setCell (by show _ ≤ w.heap.size + 1; omega) _
  generalize (w2.setCell ⟨w.heap.size + 1, 0, none⟩ (.int .i64 M.1)).setCell ⟨w.heap.size + 1, 1, none⟩ (.slice a2 M.2.length c2) = w3 at *
  go_wp2
  exact bodyPost_ret (v := .tuple #[.agg #[.int .i64 M.1, .slice a2 M.2.length c2], .int .i64 r]) (by simp [results, Try.results19, go_sem, *]) rfl ⟨_, rfl, by rw [HMe.out]; exact HM2.out, HB3.out⟩
end Go.Proofs.Ytjpfpdbhdcopbaa.Wt
