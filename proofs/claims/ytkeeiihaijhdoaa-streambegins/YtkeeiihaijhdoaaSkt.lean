/- The reference: a mark along an arc. -/
import Derived.Test.YtkeeiihaijhdoaaSkl
namespace Go.Proofs.Ytkeeiihaijhdoaa.Sm
open Go.ChangeShapes Go.WideShapes Go.ChangeAt Go.RowKit
open Go.Proofs.Ytkeeiihaijhdoaa.Pl Go.Proofs.Ytkeeiihaijhdoaa.Wt
set_option linter.unusedVariables false
set_option linter.unusedSimpArgs false
set_option maxRecDepth 100000 in
set_option maxHeartbeats 1600000 in
theorem moved_any (v : Value) (k : Mk) (a : Ar) (w : World) (h : MkIs w v k) (hs : k.2.2.length ≤ 1000000) (h0 : 0 ≤ k.2.1) (h1 : k.2.1 ≤ 1000000000000000) (h2 : 0 ≤ a.2.2.1) (h3 : a.2.2.1 ≤ 1000000000000) (h4 : 0 ≤ a.2.1) :
    Calls Try.prog 41 #[v, .agg #[.int .i64 a.1, .int .i64 a.2.1, .int .i64 a.2.2.1, .int .i64 a.2.2.2]] w fun e w' => ∃ vo, e = .returned (.agg #[.int .i64 a.2.2.2, .int .i64 (goA k.2 a).1, vo]) ∧ OwnN w' w.heap.size vo (goA k.2 a).2 ∧ Below w.heap.size w w' := by
  obtain ⟨q, x, l⟩ := k
  obtain ⟨a0, a1, a2, a3⟩ := a
  obtain ⟨vo, rfl, hn⟩ := h
  simp only at hn hs h0 h1 h2 h3 h4 ⊢
  obtain ⟨al, cl, rfl, hc⟩ := hn.get
  have HC : Hid (∀ j, j < l.length → ∃ b off, al = some ⟨b, off, none⟩ ∧ b < w.heap.size ∧ w.cell? ⟨b, off + j, none⟩ = some (.int .i64 (el l j))) := hc
  have HTK : Hid (∀ j, j < l.length → l.take (j + 1) = l.take j ++ [el l j]) := fun j hj => take_el hj
  have HTA : Hid (l.take l.length = l) := List.take_length
  have HTL : Hid (∀ j, j ≤ l.length → (l.take j).length = j) := fun j hj => by rw [List.length_take]; omega
  have HG : Hid (goA (x, l) (a0, a1, a2, a3) = (x + a2, if a1 = 0 then l else l ++ [a1])) := by show _ = _; simp [goA]
  rw [HG.out]
  clear hn hc HG
  simp only
  obtain ⟨R, hR⟩ : ∃ R, R = if a1 = 0 then l else l ++ [a1] := ⟨_, rfl⟩
  rw [← hR]
  have HRR := hidP hR
  clear hR
  generalize hL : l.length = n at *
  have HLN := hidP hL
  clear hL
  go_enter Try.func41, Try.ntmps41
  go_wp2
  go_loopw [5, 6] (fun s5 i wr => ∃ k : Nat, k ≤ n ∧ i = .int .i64 k ∧ Hid (OwnN wr (w.heap.size + 3) s5 (l.take k)) ∧ Hid (Blk wr w.heap.size #[.int .i64 q, .int .i64 x, .slice al n cl] 67) ∧ Hid (Blk wr (w.heap.size + 1) #[.int .i64 a0, .int .i64 a1, .int .i64 a2, .int .i64 a3] 75) ∧ Hid (Blk wr (w.heap.size + 2) #[.int .i64 0, .int .i64 0, .slice none 0 0] 67) ∧ w.heap.size + 3 ≤ wr.heap.size ∧ Hid (Below w.heap.size w wr)) (fun _ i _ => n - (intOf i).toNat)
  case atStart => exact ⟨0, Nat.zero_le _, rfl, OwnN.nil _ _, ((Blk.made w _ _).alloc _).alloc _, (by have h := (Blk.made (w.alloc (.cells #[.int .i64 q, .int .i64 x, .slice al n cl] 67)) #[.int .i64 a0, .int .i64 a1, .int .i64 a2, .int .i64 a3] 75).alloc (.cells #[.int .i64 0, .int .i64 0, .slice none 0 0] 67); simp only [World.size_alloc] at h; exact h), (by have h := Blk.made ((w.alloc (.cells #[.int .i64 q, .int .i64 x, .slice al n cl] 67)).alloc (.cells #[.int .i64 a0, .int .i64 a1, .int .i64 a2, .int .i64 a3] 75)) #[.int .i64 0, .int .i64 0, .slice none 0 0] 67; simp only [World.size_alloc] at h; exact h), by simp, by show Below _ _ _; go_grown⟩
  case round =>
    obtain ⟨k, hk, rfl, hown, b0, b1, b2, hsz, hb⟩ := hrel
    rename_i s5
    obtain ⟨ar, cr, hvo⟩ := hown.out.sl
    rw [HTL.out k hk] at hvo
    subst hvo
    have c1 := b0.out.cell 1 (v := .int .i64 x) rfl
    have c2 := b0.out.cell 2 (v := .slice al n cl) rfl
    have d1 := b1.out.cell 1 (v := .int .i64 a1) rfl
    have d2 := b1.out.cell 2 (v := .int .i64 a2) rfl
    have d3 := b1.out.cell 3 (v := .int .i64 a3) rfl
    have e0 := b2.out.cell 0 (v := .int .i64 0) rfl
    have e1 := b2.out.cell 1 (v := .int .i64 0) rfl
    have e2 := b2.out.cell 2 (v := .slice none 0 0) rfl
    have g0 := b2.out.fz 0
    have g1 := b2.out.fz 1
    have g2 := b2.out.fz 2
    by_cases hlt : k < n
    · have hk0 : (0 : Int) ≤ (k : Int) := by omega
      have hk1 : (k : Int) < (n : Int) := by omega
      obtain ⟨b, off, rfl, hbl, q0⟩ := HC.out k hlt
      have q0 := (hb.out.cell (p := ⟨b, off + k, none⟩) hbl).trans q0
      have HT := hidP (HTK.out k hlt)
      generalize el l k = y at *
      obtain ⟨a9, c9, w9, r9, o9, hb9, hg9⟩ := hown.out.push y (by rw [HTL.out k hk]; omega) (by omega)
      rw [HTL.out k hk] at r9 o9
      have HR9 := hidP r9
      have HO9 : Hid (OwnN w9 (w.heap.size + 3) (.slice a9 (k + 1) c9) (l.take (k + 1))) := by show OwnN _ _ _ _; rw [HT.out]; exact o9
      have HB9 : Hid (Below w.heap.size w w9) := hb.out.trans (hb9.mono (by omega))
      have B0 := hidP (b0.out.below hb9 (by omega))
      have B1 := hidP (b1.out.below hb9 (by omega))
      have B2 := hidP (b2.out.below hb9 (by omega))
      have zz9 := hb9.size
      clear r9 o9 hb9 hg9
      go_wp2_with (first
        | (at_builtin; refine wpListAppendRun rfl _ _ 35 rfl rfl rfl HR9.out ?_; clear HR9))
      go_roundw
      case rel => exact ⟨k + 1, by omega, by go_num, HO9, B0, B1, B2, by omega, HB9⟩
      case measure => simp [intOf]; omega
    · have hnl : ¬ (k : Int) < (n : Int) := by omega
      have hkn : k = n := by omega
      have HO : Hid (OwnN wr (w.heap.size + 3) (.slice ar k cr) l) := by
        show OwnN _ _ _ _
        have h := hown.out
        rw [hkn, HTA.out] at h
        rw [hkn]; exact h
      by_cases hz : a1 = 0
      · have hRl : R = l := by rw [HRR.out, if_pos hz]
        have hz1 : ¬ (0 : Int) < a1 := by omega
        clear hown
        go_wp2
        exact bodyPost_ret (v := .agg #[.int .i64 a3, .int .i64 (x + a2), .slice ar k cr]) (by simp [results, Try.results41, go_sem, *]) rfl ⟨_, rfl, OwnN.mono (((HO.out.set (by show w.heap.size + 2 < _; omega) _).set (by show w.heap.size + 2 < _; omega) _).set (by show w.heap.size + 2 < _; omega) _) (by omega), by have h9 := hb.out; go_grown⟩
      · have hRl : R = l ++ [a1] := by rw [HRR.out, if_neg hz]
        have hz1 : (0 : Int) < a1 := by omega
        obtain ⟨a9, c9, w9, r9, o9, hb9, hg9⟩ := HO.out.push a1 (by rw [HLN.out]; omega) (by omega)
        rw [HLN.out] at r9 o9
        rw [← hRl] at o9
        have hkn' : n = k := hkn.symm
        have HR9 : Hid ((Builtin.append_ #[35, 35] 35 #[.slice ar k cr, .slice (some ⟨wr.heap.size, 0, none⟩) 1 1]).run Try.prog (wr.alloc (.cells #[.int .i64 a1] 3)) = .ok (.slice a9 (n + 1) c9) w9) := r9
        have HO9 := hidP o9
        have HB9 : Hid (Below w.heap.size w w9) := hb.out.trans (hb9.mono (by omega))
        have B2 := hidP (b2.out.below hb9 (by omega))
        have zz9 := hb9.size
        have x0 := B2.out.cell 0 (v := .int .i64 0) rfl
        have x1 := B2.out.cell 1 (v := .int .i64 0) rfl
        have x2 := B2.out.cell 2 (v := .slice none 0 0) rfl
        have y0 := B2.out.fz 0
        have y1 := B2.out.fz 1
        have y2 := B2.out.fz 2
        have B1 := b1.out.below hb9 (by omega)
        have B0 := b0.out.below hb9 (by omega)
        have u1 := B0.cell 1 (v := .int .i64 x) rfl
        have f2 := B1.cell 2 (v := .int .i64 a2) rfl
        have f3 := B1.cell 3 (v := .int .i64 a3) rfl
        clear r9 o9 hb9 hg9 hown HO hkn hkn' B0 B1 hRl
        go_wp2_with (first
          | (at_builtin; refine wpListAppendRun rfl _ _ 35 rfl rfl rfl HR9.out ?_; clear HR9))
        exact bodyPost_ret (v := .agg #[.int .i64 a3, .int .i64 (x + a2), .slice a9 (n + 1) c9]) (by simp [results, Try.results41, go_sem, *]) rfl ⟨_, rfl, OwnN.mono (((HO9.out.set (by show w.heap.size + 2 < _; omega) _).set (by show w.heap.size + 2 < _; omega) _).set (by show w.heap.size + 2 < _; omega) _) (by omega), by have h9 := HB9.out; go_grown⟩
end Go.Proofs.Ytkeeiihaijhdoaa.Sm
