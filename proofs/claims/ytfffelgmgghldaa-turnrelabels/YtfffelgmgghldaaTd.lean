/- turn.changesOf: a list of changes under its keys, or why it is refused. -/
import Derived.Test.YtfffelgmgghldaaTc
namespace Go.Proofs.Ytfffelgmgghldaa.Wt
open Go.ChangeShapes Go.WideShapes Go.ChangeAt Go.RowKit Go.Maps
open Go.Proofs.Ytfffelgmgghldaa.Pl
set_option linter.unusedVariables false
set_option linter.unusedSimpArgs false
/-- What changesOf answers. -/
def ChsRes (l : List Ch) (w : World) (e : Ending) (w' : World) : Prop :=
  ((fltC l ≠ 0 ∧ e = .returned (.tuple #[.map none, .int .i64 (fltC l)])) ∨ (fltC l = 0 ∧ ∃ mb, e = .returned (.tuple #[.map (some mb), .int .i64 0]) ∧ w.heap.size ≤ mb ∧ OwnC w' mb l.length (chM l l.length))) ∧ Below w.heap.size w w'
theorem changesOf_long (v : Value) (l : List Ch) (w : World) (h : Chs w v l) (hl : l.length ≤ 8796093022208) (h50 : 50 < l.length) :
    Calls Try.prog 33 #[v] w fun e w' => ChsRes l w e w' := by
  obtain ⟨a, cap, rfl⟩ := h.sl
  have HR : Hid (fltC l = 1) := flt_long h50
  unfold ChsRes
  rw [HR.out]
  have h50' : (50 : Int) < (l.length : Int) := by omega
  clear h
  generalize l.length = n at *
  go_enter Try.func33, Try.ntmps33
  go_wp2
  go_ret2
  exact ⟨.inl ⟨by simp, rfl⟩, Below.refl _ _⟩
theorem chB_wf {c : Ch} (h : chB c = true) : (Lit.int .i64 c.1).wf = true ∧ (Lit.int .i64 c.2).wf = true := by
  simp only [chB, inB, Bool.and_eq_true, decide_eq_true_eq] at h
  exact ⟨WalkArith.wf_i64 (by omega), WalkArith.wf_i64 (by omega)⟩
set_option maxRecDepth 100000 in
set_option maxHeartbeats 1600000 in
theorem changesOf_short (v : Value) (l : List Ch) (w : World) (h : Chs w v l) (h50 : ¬ 50 < l.length) :
    Calls Try.prog 33 #[v] w fun e w' => ChsRes l w e w' := by
  obtain ⟨a, cap, rfl, hc⟩ := h.get
  have HC : Hid (∀ j, j < l.length → ∃ b off, a = some ⟨b, off, none⟩ ∧ b < w.heap.size ∧ w.cell? ⟨b, off + j * 2, none⟩ = some (.int .i64 (el l j).1) ∧ w.cell? ⟨b, off + j * 2 + 1, none⟩ = some (.int .i64 (el l j).2)) := hc
  have HR : Hid (∀ i, i < l.length → chB (el l i) = false → fltC l = 2) := fun i hi hb => flt_range h50 hi hb
  have HF : Hid ((∀ j, j < l.length → chB (el l j) = true) → fltC l = if size (chM l l.length) < l.length then 10 else 0) := fun ha => by
    rw [flt_small h50 ha]
    by_cases g : twcB l = true
    · rw [if_pos g, if_pos ((chM_twice l).2 g)]
    · rw [if_neg g, if_neg (fun x => g ((chM_twice l).1 x))]
  have HSZ : Hid (size (chM l l.length) ≤ l.length) := (chM_size l l.length).1
  have h50' : ¬ (50 : Int) < (l.length : Int) := by omega
  unfold ChsRes
  clear h hc
  generalize fltC l = r at *
  generalize l.length = n at *
  have hmk : ∀ W : World, (Instr.makeMap 52 (some (.int .i64 (n : Int)))).run Try.prog W = .ok (.map (some W.heap.size)) (W.alloc (.map #[] 0)) := fun W => run_makeMap_hint Try.underlying52 _ W
  go_enter Try.func33, Try.ntmps33
  go_wp2
  go_loopw [14] (fun i wr => ∃ k : Nat, k ≤ n ∧ i = .int .i64 k ∧ Hid (∀ j, j < k → chB (el l j) = true) ∧ Hid (Below w.heap.size w wr)) (fun i _ => n - (intOf i).toNat)
  case atStart => exact ⟨0, Nat.zero_le _, rfl, fun j hj => absurd hj (by omega), Below.refl _ _⟩
  case round =>
    obtain ⟨k, hk, rfl, hall, hb⟩ := hrel
    obtain ⟨w2, hw2⟩ : ∃ w2, w2 = wr := ⟨_, rfl⟩
    subst hw2
    by_cases hlt : k < n
    · have hlt' : (k : Int) < (n : Int) := by omega
      have hk0 : (0 : Int) ≤ (k : Int) := by omega
      obtain ⟨b, off, rfl, hbl, g0, g1⟩ := HC.out k hlt
      have g0 := (hb.out.cell (p := ⟨b, off + k * 2, none⟩) hbl).trans g0
      have g1 := (hb.out.cell (p := ⟨b, off + k * 2 + 1, none⟩) hbl).trans g1
      have HRk := hidP (HR.out k hlt)
      have HS : Hid (chB (el l k) = true → ∀ j, j < k + 1 → chB (el l j) = true) := fun g j hj => by
        by_cases e : j = k
        · rw [e]; exact g
        · exact hall.out j (by omega)
      generalize el l k = p at *
      obtain ⟨p0, p1⟩ := p
      simp only at g0 g1
      have HB0 : Hid (Below w.heap.size w (w2.alloc (.cells #[.int .i64 p0, .int .i64 p1] 59))) := hb.out.alloc hb.out.size _
      rcases Bool.eq_false_or_eq_true (chB (p0, p1)) with e1 | e1
      · have E1 := hidP e1
        have HS' := hidP (HS.out e1)
        clear HS HRk e1
        go_wp2_with (first | (go_at_call 47; (with_reducible refine (chInRange_any (p0, p1) _ _ E1.out).mono ?_); rintro e w3 ⟨rfl, hb3⟩; have HB3 := hidP (HB0.out.trans (hb3.mono HB0.out.size)); clear hb3))
        go_roundw
        case rel => exact ⟨k + 1, by omega, by go_num, HS', HB3⟩
        case measure => simp [intOf]; omega
      · have E1 := hidP e1
        have hr : r = 2 := HRk.out e1
        clear HS HRk e1 HF HR
        subst hr
        go_wp2_with (first | (go_at_call 47; (with_reducible refine (chInRange_any (p0, p1) _ _ E1.out).mono ?_); rintro e w3 ⟨rfl, hb3⟩; have HB3 := hidP (HB0.out.trans (hb3.mono HB0.out.size)); clear hb3))
        go_ret2
        exact ⟨.inl ⟨by simp, rfl⟩, HB3.out⟩
    · have hlt' : ¬ (k : Int) < (n : Int) := by omega
      have hkn : k = n := by omega
      have HALL : Hid (∀ j, j < n → chB (el l j) = true) := fun j hj => hall.out j (by omega)
      clear hall hkn
      go_wp2
      go_loopw [27] (fun i wr => ∃ k : Nat, k ≤ n ∧ i = .int .i64 k ∧ Hid (OwnC wr w2.heap.size k (chM l k)) ∧ Hid (Below w2.heap.size w2 wr)) (fun i _ => n - (intOf i).toNat)
      case atStart => exact ⟨0, Nat.zero_le _, rfl, World.ownsMap_made _ _ _ _, (Below.refl _ _).alloc (Nat.le_refl _) _⟩
      case round =>
        obtain ⟨k, hk, rfl, how, hb2⟩ := hrel
        obtain ⟨w3, hw3⟩ : ∃ w3, w3 = wr := ⟨_, rfl⟩
        subst hw3
        by_cases hlt : k < n
        · have hlt' : (k : Int) < (n : Int) := by omega
          have hk0 : (0 : Int) ≤ (k : Int) := by omega
          obtain ⟨b, off, rfl, hbl, g0, g1⟩ := HC.out k hlt
          have hbw := hb.out.trans (hb2.out.mono hb.out.size)
          have g0 := (hbw.cell (p := ⟨b, off + k * 2, none⟩) hbl).trans g0
          have g1 := (hbw.cell (p := ⟨b, off + k * 2 + 1, none⟩) hbl).trans g1
          obtain ⟨q0, q1⟩ := chB_wf (HALL.out k hlt)
          obtain ⟨w4, hrun, how4, hg4⟩ := OwnC.next (World.ownsMap.alloc how.out (.cells #[.int .i64 (el l k).1, .int .i64 (el l k).2] 59)) (by omega) q0 q1
          have HO4 := hidP how4
          have HB4 : Hid (Below w2.heap.size w2 w4) := (hb2.out.alloc hb2.out.size _).grown hg4 (by have := hb2.out.size; simp; omega) (fun j hj => by cases hj; exact Nat.le_refl _)
          clear how4 hg4 hbw q0 q1
          generalize (el l k).1 = p0 at *
          generalize (el l k).2 = p1 at *
          go_wp2
          go_roundw
          case rel => exact ⟨k + 1, by omega, by go_num, HO4, HB4⟩
          case measure => simp [intOf]; omega
        · have hlt' : ¬ (k : Int) < (n : Int) := by omega
          obtain rfl : k = n := by omega
          have hr := HF.out HALL.out
          have HO := hidP how.out
          have HB := hidP (hb.out.trans (hb2.out.mono hb.out.size))
          have hs2 := hb.out.size
          have hln : ∀ ty : TypeId, (Builtin.len_ #[52] ty #[.map (some w2.heap.size)]).run Try.prog w3 = .ok (.int .i64 (size (chM l k))) w3 := fun ty => World.ownsMap.len how.out Try.underlying52 ty
          have hsz := HSZ.out
          clear how hb2 HF HR
          generalize hS : size (chM l k) = sz at *
          by_cases hlt3 : sz < k
          · have hlt3' : (sz : Int) < (k : Int) := by omega
            rw [if_pos hlt3] at hr
            subst hr
            go_wp2
            go_ret2
            exact ⟨rfl, HB.out⟩
          · have hlt3' : ¬ (sz : Int) < (k : Int) := by omega
            rw [if_neg hlt3] at hr
            subst hr
            go_wp2
            go_ret2
            exact ⟨⟨_, rfl, hs2, HO.out⟩, HB.out⟩
theorem changesOf_any (v : Value) (l : List Ch) (w : World) (h : Chs w v l) (hok : okC l) :
    Calls Try.prog 33 #[v] w fun e w' => ChsRes l w e w' := by
  by_cases h50 : 50 < l.length
  · exact changesOf_long v l w h (by unfold okC at hok; omega) h50
  · exact changesOf_short v l w h h50
end Go.Proofs.Ytfffelgmgghldaa.Wt
