/- turn.turned: each arc as a function leaves it. -/
import Derived.Test.YthcfkiinjcbajabJ16B
import Derived.Test.YthcfkiinjcbajabJ16l
import Derived.Test.YthcfkiinjcbajabRn
import Derived.Test.YthcfkiinjcbajabJ16a
import Derived.Shelf.Abstract
import Derived.Laws.EntriesVeiled
namespace Go.Proofs.Ythcfkiinjcbajab.Wt
open Go.ChangeShapes Go.WideShapes Go.ChangeAt Go.RowKit
open Go.Proofs.Ythcfkiinjcbajab.Pl
set_option linter.unusedVariables false
set_option linter.unusedSimpArgs false
/-- Labels that may be. -/
def labA (a : Ar) : Prop := 0 ≤ a.1 ∧ a.1 ≤ 1000 ∧ 0 ≤ a.2.1 ∧ a.2.1 ≤ 1000
theorem right_lab {m : Mc} (hr : faultM m = 0) : ∀ j, j < m.2.length → ∀ p ∈ (el m.2 j).2, labA p := fun j hj p hp => by
  have h3 := (right_parts hr).2 (el m.2 j) (el_mem hj)
  simp only [stB, Bool.and_eq_true, List.all_eq_true] at h3
  have h4 := h3.2 p hp
  simp only [arcB, inB, Bool.and_eq_true, decide_eq_true_eq] at h4
  unfold labA
  omega
/-- The function value makes f a of an arc a. -/
def DoA (g : Nat) (lb : Array Value) (f : Ar → Ar) (w0 : World) : Prop :=
  ∀ (W : World) (a : Ar), Below w0.heap.size w0 W → labA a →
    Calls Try.prog g (#[.agg #[.int .i64 a.1, .int .i64 a.2.1, .int .i64 a.2.2.1, .int .i64 a.2.2.2]] ++ lb) W fun e w' => e = .returned (.agg #[.int .i64 (f a).1, .int .i64 (f a).2.1, .int .i64 (f a).2.2.1, .int .i64 (f a).2.2.2]) ∧ Below W.heap.size W w'
def doM (f : Ar → Ar) (m : Mc) : Mc := (m.1, m.2.map fun s => (s.1, s.2.map f))
set_option maxRecDepth 100000 in
set_option maxHeartbeats 3200000 in
theorem turnedP_ok (v : Value) (m : Mc) (w : World) (h : Mach w v m) (hok : okM m) (g : Nat) (lb : Array Value) (f : Ar → Ar) (eg : ∀ ar W, (callFunc g ar).run Try.prog W = .ok (.enter g ar) W) (hp : DoA g lb f w) (hr : faultM m = 0) :
    Calls Try.prog 21 #[v, .func (.func g) #[] lb] w fun e w' => ∃ v', e = .returned (.tuple #[v', .int .i64 0]) ∧ MachFrom w.heap.size w' v' (doM f m) ∧ Below w.heap.size w w' := by
  obtain ⟨z, l⟩ := m
  obtain ⟨vs, rfl, hS⟩ := h
  obtain ⟨a, cap, rfl, hc⟩ := hS.get
  have H60 : Hid (l.length ≤ 60) := (right_size hr).1
  have HM : Hid (Mach w (.agg #[.int .i64 z, .slice a l.length cap]) (z, l)) := ⟨_, rfl, hS⟩
  have HK : Hid (okM (z, l)) := hok
  have HR : Hid (faultM (z, l) = 0) := hr
  have HP : Hid (DoA g lb f w) := hp
  have HST : Hid (∀ j, j < l.length → (el l j).2.length ≤ 400) := fun j hj => (right_states hr j hj).2.1
  have HLB : Hid (∀ j, j < l.length → ∀ p ∈ (el l j).2, labA p) := right_lab hr
  have HC : Hid (∀ j, j < l.length → ∃ b off va, a = some ⟨b, off, none⟩ ∧ b < w.heap.size ∧ w.cell? ⟨b, off + j * 2, none⟩ = some (.int .i64 (el l j).1) ∧ w.cell? ⟨b, off + j * 2 + 1, none⟩ = some va ∧ Arcs w va (el l j).2) := hc
  clear hS hc hok hr hp
  simp only
  generalize hn : l.length = n at *
  have HN : Hid (l.length = n) := hn
  clear hn
  have hmk := run_states n (by have := H60.out; omega)
  go_enter Try.func21, Try.ntmps21
  go_wp2_with (first
      | (go_at_call 30; (with_reducible refine (coreCheck_any _ (z, l) _ (HM.out.later (B := w.heap.size) (by go_grown) (Nat.le_refl _)) HK.out _ HR.out).mono ?_); rintro e w1 ⟨rfl, hb⟩; obtain ⟨s1, k0, k1, hb1⟩ := boxedTwo hb (by simp); have HB1 : Hid (Below w.heap.size w w1) := hb1; have K0 : Hid (Blk w1 w.heap.size #[.int .i64 z, .slice a n cap] 28) := k0; have K1 : Hid (Blk w1 (w.heap.size + 1) #[.int .i64 0, .slice none 0 0] 28) := k1; have c1 := k0.cell 1 (v := .slice a n cap) rfl; have s2 : w.heap.size < w1.heap.size := (by omega); have s3 : w.heap.size + 1 < w1.heap.size := (by omega); clear hb hb1 k0 k1))
  have HW : Hid (w.heap.size + 2 ≤ w1.heap.size) := s1
  clear hmk
  go_loopw [26] (fun i wr => ∃ (k : Nat) (vs : List (Int × Value)), k ≤ n ∧ i = .int .i64 k ∧ vs.length = n ∧ Hid (Blk wr w1.heap.size (vs.flatMap encS).toArray 45) ∧ Hid (∀ j, j < k → (el vs j).1 = (el l j).1 ∧ wr.ownsRow (w1.heap.size + 1) 51 4 (el vs j).2 ((el l j).2.map f).length (((el l j).2.map f).flatMap encA)) ∧ Hid (Blk wr w.heap.size #[.int .i64 z, .slice a n cap] 28) ∧ Hid (Blk wr (w.heap.size + 1) #[.int .i64 0, .slice none 0 0] 28) ∧ Hid (Below w.heap.size w wr) ∧ w1.heap.size + 1 ≤ wr.heap.size) (fun i _ => n - (intOf i).toNat)
  case atStart => exact ⟨0, List.replicate n ((0 : Int), Value.slice none 0 0), Nat.zero_le _, rfl, by simp, Blk.made _ _ _, fun j hj => absurd hj (Nat.not_lt_zero _), K0.out.alloc _, K1.out.alloc _, HB1.out.alloc HB1.out.size _, by simp⟩
  case round =>
    obtain ⟨k, vs, hk, rfl, hvl, hbs, hold, hk0, hk1, hb, hws⟩ := hrel
    have c1 := hk0.out.cell 1 (v := .slice a n cap) rfl
    obtain ⟨w2, hw2⟩ : ∃ w2, w2 = wr := ⟨_, rfl⟩
    subst hw2
    by_cases hlt : k < n
    · obtain ⟨b, off, va, rfl, hbl, g0, g1, gA⟩ := HC.out k hlt
      have g0 := (hb.out.cell (p := ⟨b, off + k * 2, none⟩) hbl).trans g0
      have g1 := (hb.out.cell (p := ⟨b, off + k * 2 + 1, none⟩) hbl).trans g1
      obtain ⟨a2, cap2, rfl, hc2⟩ := (gA.later hb.out (Nat.le_refl _)).get
      have HC2 := hidP hc2
      have hl4 : (el l k).2.length ≤ 400 := HST.out k hlt
      have HL2 := hidP (HLB.out k hlt)
      have hk0' : (0 : Int) ≤ (k : Int) := Int.natCast_nonneg _
      have hk1' : (k : Int) < (n : Int) := by omega
      clear gA hc2
      obtain ⟨ar, har⟩ : ∃ ar, (el l k).2 = ar := ⟨_, rfl⟩
      have HAR := hidP har
      obtain ⟨fi, hfi⟩ : ∃ fi, (el l k).1 = fi := ⟨_, rfl⟩
      have HFI := hidP hfi
      rw [har] at g1 HC2 hl4 HL2
      rw [hfi] at g0
      clear har hfi
      generalize hn1 : ar.length = n1 at *
      have HN1 := hidP hn1
      clear hn1
      have hmk := run_arcs n1 (by omega)
      go_wp2
      clear hmk
      have HV := hidP hvl
      go_loopw [38] (fun i wi => ∃ (k2 : Nat) (xs : List Ar), k2 ≤ n1 ∧ i = .int .i64 k2 ∧ xs.length = n1 ∧ Hid (Blk wi (w2.heap.size + 1) (xs.flatMap encA).toArray 51) ∧ Hid (∀ j, j < k2 → el xs j = f (el ar j)) ∧ Hid (Blk wi w2.heap.size #[.int .i64 fi, .slice a2 n1 cap2] 45) ∧ Hid (Below w2.heap.size w2 wi)) (fun i _ => n1 - (intOf i).toNat)
      case atStart => exact ⟨0, List.replicate n1 ((0, 0, 0, 0) : Ar), Nat.zero_le _, rfl, by simp, (by have := Blk.made (w2.alloc (.cells #[.int .i64 fi, .slice a2 n1 cap2] 45)) ((List.replicate n1 ((0, 0, 0, 0) : Ar)).flatMap encA).toArray 51; rw [World.size_alloc] at this; exact this), fun j hj => absurd hj (Nat.not_lt_zero _), (Blk.made _ _ _).alloc _, ((Below.refl _ _).alloc (Nat.le_refl _) _).alloc (by simp) _⟩
      case round =>
        obtain ⟨k2, xs, hk2, rfl, hxl, hbx, holx, hbt, hbi⟩ := hrel
        obtain ⟨w3, hw3⟩ : ∃ w3, w3 = wr := ⟨_, rfl⟩
        subst hw3
        by_cases hlt2 : k2 < n1
        · obtain ⟨b2, off2, rfl, hb2l, q0, q1, q2, q3⟩ := HC2.out k2 hlt2
          have q0 := (hbi.out.cell (p := ⟨b2, off2 + k2 * 4, none⟩) hb2l).trans q0
          have q1 := (hbi.out.cell (p := ⟨b2, off2 + k2 * 4 + 1, none⟩) hb2l).trans q1
          have q2 := (hbi.out.cell (p := ⟨b2, off2 + k2 * 4 + 2, none⟩) hb2l).trans q2
          have q3 := (hbi.out.cell (p := ⟨b2, off2 + k2 * 4 + 3, none⟩) hb2l).trans q3
          have hk20 : (0 : Int) ≤ (k2 : Int) := Int.natCast_nonneg _
          have hk21 : (k2 : Int) < (n1 : Int) := by omega
          obtain ⟨y, hy⟩ : ∃ y : Ar, f (el ar k2) = y := ⟨_, rfl⟩
          have HY := hidP hy
          obtain ⟨p, hpp⟩ : ∃ p : Ar, el ar k2 = p := ⟨_, rfl⟩
          have HPP := hidP hpp
          have HCC := hidP (fun W (hW : Below w.heap.size w W) => HP.out W (el ar k2) hW (HL2.out _ (el_mem (by rw [HN1.out]; exact hlt2))))
          rw [hy] at HCC
          rw [hpp] at HCC q0 q1 q2 q3
          clear hy hpp
          obtain ⟨p0, p1, p2, p3⟩ := p
          obtain ⟨y0, y1, y2, y3⟩ := y
          simp only at HCC q0 q1 q2 q3
          have HB0 := hidP (((hb.out.trans (hbi.out.mono hb.out.size))).alloc (Nat.le_trans hb.out.size hbi.out.size) (.cells #[.int .i64 p0, .int .i64 p1, .int .i64 p2, .int .i64 p3] 51))
          have hbl := hbx.out.lt
          go_wp2_with (go_at_fn g; refine (HCC.out _ HB0.out).mono ?_; rintro e w4 ⟨rfl, hb4⟩; obtain ⟨s4, _, hb4'⟩ := boxed hb4 (by simp); have B4 := hidP hb4'; have X4 := hbx.out.below hb4' hbl; have HX4 := hidP X4; have e0 := X4.cell (k2 * 4) (v := .int .i64 (el xs k2).1) (by rw [List.getElem?_toArray]; exact flat_at encA_len xs k2 (by omega) 0 (by omega)); have e1 := X4.cell (k2 * 4 + 1) (v := .int .i64 (el xs k2).2.1) (by rw [List.getElem?_toArray]; exact flat_at encA_len xs k2 (by omega) 1 (by omega)); have e2 := X4.cell (k2 * 4 + 2) (v := .int .i64 (el xs k2).2.2.1) (by rw [List.getElem?_toArray]; exact flat_at encA_len xs k2 (by omega) 2 (by omega)); have e3 := X4.cell (k2 * 4 + 3) (v := .int .i64 (el xs k2).2.2.2) (by rw [List.getElem?_toArray]; exact flat_at encA_len xs k2 (by omega) 3 (by omega)); have f0 := X4.fz (k2 * 4); have f1 := X4.fz (k2 * 4 + 1); have f2 := X4.fz (k2 * 4 + 2); have f3 := X4.fz (k2 * 4 + 3); clear hb4 hb4' X4)
          go_roundw
          case rel =>
            refine ⟨k2 + 1, xs.set k2 (y0, y1, y2, y3), by omega, by go_num, by simp [hxl], ?_, ?_, ?_, ?_⟩
            · have h := (((HX4.out.set (k2 * 4) (.int .i64 y0)).set (k2 * 4 + 1) (.int .i64 y1)).set (k2 * 4 + 2) (.int .i64 y2)).set (k2 * 4 + 3) (.int .i64 y3)
              rw [set_arc (by omega) (y0, y1, y2, y3)] at h
              exact h
            · intro j hj
              rw [el_setS (by omega)]
              by_cases hjk : j = k2
              · subst hjk
                rw [if_pos rfl, HPP.out]
                rw [HPP.out] at HY
                exact HY.out.symm
              · rw [if_neg hjk]
                exact holx.out j (by omega)
            · exact ((((hbt.out.below B4.out (by omega)).setO _ _ (by show w2.heap.size ≠ w2.heap.size + 1; omega)).setO _ _ (by show w2.heap.size ≠ w2.heap.size + 1; omega)).setO _ _ (by show w2.heap.size ≠ w2.heap.size + 1; omega)).setO _ _ (by show w2.heap.size ≠ w2.heap.size + 1; omega)
            · exact ((((hbi.out.trans (B4.out.mono (by omega))).setCell (by show w2.heap.size ≤ w2.heap.size + 1; omega) _).setCell (by show w2.heap.size ≤ w2.heap.size + 1; omega) _).setCell (by show w2.heap.size ≤ w2.heap.size + 1; omega) _).setCell (by show w2.heap.size ≤ w2.heap.size + 1; omega) _
          case measure => simp [intOf]; omega
        · have hke2 : k2 = n1 := by omega
          have hnl2 : ¬ (k2 : Int) < (n1 : Int) := by omega
          have hxe : xs = ar.map f := by
            refine el_ext (by rw [List.length_map, HN1.out]; exact hxl) fun j hj => ?_
            rw [holx.out j (by omega), el_map (by rw [HN1.out]; omega)]
          have t0 := hbt.out.cell 0 (v := .int .i64 fi) rfl
          have HOW := hidP (arcs_block (B := w1.heap.size + 1) hbx.out (by omega) (by omega))
          rw [hxl] at HOW
          have hbs3 := hbs.out.below hbi.out (by omega)
          have e0 := hbs3.cell (k * 2) (v := .int .i64 (el vs k).1) (by rw [List.getElem?_toArray]; exact flat_at encS_len vs k (by rw [HV.out]; omega) 0 (by omega))
          have e1 := hbs3.cell (k * 2 + 1) (v := (el vs k).2) (by rw [List.getElem?_toArray]; exact flat_at encS_len vs k (by rw [HV.out]; omega) 1 (by omega))
          have f0 := hbs3.fz (k * 2)
          have f1 := hbs3.fz (k * 2 + 1)
          have HBS3 := hidP hbs3
          have HXE := hidP hxe
          have HXL := hidP hxl
          clear hxe hxl hbs3
          have h60 := H60.out
          go_wp2
          go_roundw
          case rel =>
            refine ⟨k + 1, vs.set k (fi, .slice (some ⟨w2.heap.size + 1, 0, none⟩) n1 n1), by omega, by go_num, by simp; exact HV.out, ?_, ?_, ?_, ?_, ?_, ?_⟩
            · have h := (HBS3.out.set (k * 2) (.int .i64 fi)).set (k * 2 + 1) (.slice (some ⟨w2.heap.size + 1, 0, none⟩) n1 n1)
              rw [set_state (by rw [HV.out]; omega) (fi, .slice (some ⟨w2.heap.size + 1, 0, none⟩) n1 n1)] at h
              exact h
            · intro j hj
              rw [el_setS (by rw [HV.out]; omega)]
              by_cases hjk : j = k
              · subst hjk
                rw [if_pos rfl, HAR.out, HFI.out, ← HXE.out, HXL.out]
                exact ⟨rfl, ownsRow_setCell_below (ownsRow_setCell_below HOW.out (Nat.lt_succ_self _) _) (Nat.lt_succ_self _) _⟩
              · rw [if_neg hjk]
                obtain ⟨q1, q2⟩ := hold.out j (by omega)
                exact ⟨q1, ownsRow_setCell_below (ownsRow_setCell_below (own_below q2 hbi.out) (Nat.lt_succ_self _) _) (Nat.lt_succ_self _) _⟩
            · exact ((hk0.out.below hbi.out (by omega)).setO _ _ (by show w.heap.size ≠ w1.heap.size; omega)).setO _ _ (by show w.heap.size ≠ w1.heap.size; omega)
            · exact ((hk1.out.below hbi.out (by omega)).setO _ _ (by show w.heap.size + 1 ≠ w1.heap.size; omega)).setO _ _ (by show w.heap.size + 1 ≠ w1.heap.size; omega)
            · exact ((hb.out.trans (hbi.out.mono hb.out.size)).setCell (by show w.heap.size ≤ w1.heap.size; omega) _).setCell (by show w.heap.size ≤ w1.heap.size; omega) _
            · have := hbi.out.size
              simp [World.setCell]; omega
          case measure => simp [intOf]; omega
    · have hke : k = n := by omega
      have hnl : ¬ (k : Int) < (n : Int) := by omega
      have HX : Hid (∀ w', Agree w1.heap.size w2 w' → Sts w' (.slice (some ⟨w1.heap.size, 0, none⟩) n n) (l.map fun s => (s.1, s.2.map f))) := by
        intro w' hg
        have hl2 : (l.map fun s => (s.1, s.2.map f)).length = n := by simp; exact HN.out
        have := sts_block (l := l.map fun s => (s.1, s.2.map f)) (B := w1.heap.size + 1) (w := w') (blk_agree hbs.out (Nat.le_refl _) hg) (by rw [hl2]; exact hvl) (fun j hj => by
          have hj' : j < l.length := by simpa using hj
          rw [el_map hj']
          obtain ⟨q1, q2⟩ := hold.out j (by rw [hke, ← HN.out]; exact hj')
          exact ⟨q1, own_agree q2 (hg.mono (Nat.le_succ _))⟩)
        rw [hl2] at this
        exact this
      have d0 := hk0.out.cell 0 (v := .int .i64 z) rfl
      have e0 := hk1.out.cell 0 (v := .int .i64 0) rfl
      have e1 := hk1.out.cell 1 (v := .slice none 0 0) rfl
      have e2 := hk1.out.fz 0
      have e3 := hk1.out.fz 1
      have HB : Hid (Below w.heap.size w w2) := hb
      clear hold hbs hb hke hk0 hk1
      go_wp2
      refine bodyPost_ret (v := .tuple #[.agg #[.int .i64 z, .slice (some ⟨w1.heap.size, 0, none⟩) n n], .int .i64 0]) (by simp [results, Try.results21, go_sem, *]) rfl ⟨_, rfl, fun w' hg => ⟨_, rfl, ?_⟩, by (have h := HB.out); go_grown⟩
      exact HX.out w' (((agree_set (by show w.heap.size + 1 < _; omega) _).trans (by simp [World.setCell]) (agree_set (by show w.heap.size + 1 < _; omega) _)).trans (by simp [World.setCell]) (hg.mono (by omega)))
end Go.Proofs.Ythcfkiinjcbajab.Wt
