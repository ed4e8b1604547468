/- Marks in the order of their states; what Begin answers (the program's). -/
import Derived.Test.YtkeeiihaijhdoaaSkq
import Derived.Test.YtkeeiihaijhdoaaSke
namespace Go.Proofs.Ytkeeiihaijhdoaa.Sm
open Go.ChangeShapes Go.WideShapes Go.ChangeAt Go.RowKit Go.Maps
open Go.Proofs.Ytkeeiihaijhdoaa.Pl Go.Proofs.Ytkeeiihaijhdoaa.Wt
set_option linter.unusedVariables false
set_option linter.unusedSimpArgs false
theorem ordL_len (n : Nat) (T : Tbl) : (ordL n T).length ≤ n := by
  unfold ordL
  have := List.length_filterMap_le (fun q : Nat => (T (q : Int)).map fun k => ((q : Int), k)) (List.range n)
  simpa using this
set_option maxRecDepth 100000 in
set_option maxHeartbeats 1600000 in
theorem inOrder_any (v : Value) (mc : Mc) (m : Nat) (K : Tbl) (kk : List Int) (w : World) (h : Mach w v mc) (h60 : mc.2.length ≤ 60) (hM : MpK w m K kk) (hs : ∀ q k, K q = some k → k.2.length ≤ 1000000) :
    Calls Try.prog 30 #[.map (some m), v] w fun e w' => ∃ v', e = .returned v' ∧ OwnM w' w.heap.size v' (ordL mc.2.length K) ∧ Below w.heap.size w w' := by
  have HM := hidP hM
  have HSZ := hidP hs
  obtain ⟨z, l⟩ := mc
  obtain ⟨vs, rfl, hS⟩ := h
  obtain ⟨a, cap, rfl⟩ := hS.sl
  clear hS hM hs
  simp only at h60 ⊢
  generalize l.length = n at *
  have HSU : Hid (∀ k, ordL (k + 1) K = ordL k K ++ (match K (k : Int) with | none => [] | some y => [((k : Int), y)])) := fun k => ordL_succ k K
  have HOL : Hid (∀ k, (ordL k K).length ≤ k) := fun k => ordL_len k K
  have HO0 : Hid (ordL 0 K = []) := rfl
  go_enter Try.func30, Try.ntmps30
  go_wp2
  go_loopw [5, 12] (fun s5 i wr => ∃ (k : Nat), k ≤ n ∧ i = .int .i64 k ∧ Hid (OwnM wr (w.heap.size + 1) s5 (ordL k K)) ∧ Hid (Blk wr w.heap.size #[.int .i64 z, .slice a n cap] 24) ∧ w.heap.size + 1 ≤ wr.heap.size ∧ Hid (Below w.heap.size w wr)) (fun _ i _ => n - (intOf i).toNat)
  case atStart => exact ⟨0, Nat.zero_le _, rfl, OwnM.nil _ _, Blk.made _ _ _, by simp, by show Below _ _ _; go_grown⟩
  case round =>
    obtain ⟨k, hk, rfl, hown, bM, hsz, hb⟩ := hrel
    rename_i s5
    obtain ⟨ar, cr, hvo⟩ := hown.out.sl
    subst hvo
    by_cases hlt : k < n
    · have hk0 : (0 : Int) ≤ (k : Int) := by omega
      have hk1 : (k : Int) < (n : Int) := by omega
      have hLk := HOL.out k
      have HSk := hidP (HSU.out k)
      have hwf : wfI (k : Int) := wfI_of (by omega) (by omega)
      rcases hT : K (k : Int) with _ | ⟨c, o⟩
      · have hlk := ((HM.out.below (hb.out.mono (Nat.le_refl _))).lookS hwf).2 hT
        have HN : Hid (ordL (k + 1) K = ordL k K) := by show _ = _; rw [HSk.out, hT]; simp
        go_wp2
        go_roundw
        case rel => exact ⟨k + 1, by omega, by go_num, by rw [HN.out]; exact hown.out.later ((Below.refl _ _).alloc (Nat.le_refl _) _), bM.out.alloc _, by simp; omega, by show Below _ _ _; have h9 := hb.out; go_grown⟩
        case measure => simp [intOf]; omega
      · obtain ⟨ao, co, hlk, hno⟩ := ((HM.out.below (hb.out.mono (Nat.le_refl _))).lookS hwf).1 _ hT
        have HN : Hid (ordL (k + 1) K = ordL k K ++ [((k : Int), c, o)]) := by show _ = _; rw [HSk.out, hT]
        have ho8 : o.length ≤ 1000000 := HSZ.out _ _ hT
        simp only at hlk hno
        have HW7 : Hid (Below wr.heap.size wr (wr.alloc (.cells #[.int .i64 (k : Int), .int .i64 c, .slice ao o.length co] 67))) := by show Below _ _ _; go_grown
        have HNO := hidP hno
        clear hno hT HSk
        generalize hL : (ordL k K).length = L at *
        have HLL := hidP hL
        clear hL
        go_wp2_with (first
          | (go_at_call 53; (with_reducible refine (copied_any _ ((k : Int), c, o) _ (mkIs_of (HNO.out.later HW7.out (Nat.le_refl _))) (by simp only; omega)).mono ?_); rintro e w8 ⟨v8, rfl, ho, hb8⟩; obtain ⟨a8, c8, rfl⟩ := ho.sl; have HB8 : Hid (Below wr.heap.size wr w8) := HW7.out.trans (hb8.mono HW7.out.size); have zz8 := HB8.out.size; obtain ⟨a9, c9, w9, r9, o9, hb9⟩ := (hown.out.later HB8.out).push ((k : Int), c, o) (va := .slice a8 o.length c8) (ho.mono (by simp; omega)) (by rw [HLL.out]; omega) (by omega); rw [HLL.out] at r9 o9; simp only at r9; have HR9 := hidP r9; have HO9 : Hid (OwnM w9 (w.heap.size + 1) (.slice a9 (L + 1) c9) (ordL (k + 1) K)) := (by show OwnM _ _ _ _; rw [HN.out]; exact o9); have HBM9 := hidP ((bM.out.below HB8.out bM.out.lt).below hb9 (by omega)); have HB9 : Hid (Below w.heap.size w w9) := hb.out.trans ((HB8.out.mono hb.out.size).trans (hb9.mono (by omega))); have zz9 := hb9.size; clear ho hb8 r9 o9 hb9)
          | (at_builtin; refine wpListAppendRun rfl _ _ 26 rfl rfl rfl HR9.out ?_; clear HR9))
        go_roundw
        case rel => exact ⟨k + 1, by omega, by go_num, HO9, HBM9, by omega, HB9⟩
        case measure => simp [intOf]; omega
    · have hnl : ¬ (k : Int) < (n : Int) := by omega
      have hkn : k = n := by omega
      subst hkn
      go_wp2
      go_ret
      exact ⟨_, rfl, hown.out.mono (by omega), hb.out⟩
end Go.Proofs.Ytkeeiihaijhdoaa.Sm
