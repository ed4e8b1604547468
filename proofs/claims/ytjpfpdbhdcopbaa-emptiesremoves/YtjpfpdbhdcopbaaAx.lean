/- The reference: of arcs in order, the first of those that are alike. -/
import Derived.Test.YtjpfpdbhdcopbaaAp
namespace Go.Proofs.Ytjpfpdbhdcopbaa.Wt
open Go.ChangeShapes Go.WideShapes Go.ChangeAt Go.RowKit
open Go.Proofs.Ytjpfpdbhdcopbaa.Pl
set_option linter.unusedVariables false
set_option linter.unusedSimpArgs false
theorem light_one {l : List Ar} (h : 0 < l.length) : lightL (l.take 1) = [el l 0] := by
  cases l with
  | nil => simp at h
  | cons a l => rfl
theorem wrapL {n : Int} (h0 : -9223372036854775808 ≤ n) (h1 : n ≤ 9223372036854775807) : IntKind.i64.wrap n = n := by
  have h64 : IntKind.i64.wrap n = if n % 18446744073709551616 ≥ 9223372036854775808 then n % 18446744073709551616 - 18446744073709551616 else n % 18446744073709551616 := by
    simp [IntKind.wrap, IntKind.bits, IntKind.signed]
  rw [h64]
  split <;> omega
set_option maxRecDepth 100000 in
set_option maxHeartbeats 3200000 in
theorem lightest_any (v : Value) (l : List Ar) (w : World) (h : Arcs w v l) (hl : l.length * 32 ≤ 140737488351232) :
    Calls Try.prog 23 #[v] w fun e w' => ∃ v', e = .returned v' ∧ w'.ownsRow w.heap.size 53 4 v' (lightL l).length ((lightL l).flatMap encA) ∧ Below w.heap.size w w' := by
  obtain ⟨i0, hi0, hz0, hz1, hz2⟩ := info_parts infoArc
  obtain ⟨sa, cap, rfl, hc⟩ := h.get
  have HC : Hid (∀ j, j < l.length → ∃ b off, sa = some ⟨b, off, none⟩ ∧ b < w.heap.size ∧ w.cell? ⟨b, off + j * 4, none⟩ = some (.int .i64 (el l j).1) ∧ w.cell? ⟨b, off + j * 4 + 1, none⟩ = some (.int .i64 (el l j).2.1) ∧ w.cell? ⟨b, off + j * 4 + 2, none⟩ = some (.int .i64 (el l j).2.2.1) ∧ w.cell? ⟨b, off + j * 4 + 3, none⟩ = some (.int .i64 (el l j).2.2.2)) := hc
  clear h hc
  generalize hn : l.length = n at *
  have HN : Hid (l.length = n) := hn
  clear hn
  go_enter Try.func23, Try.ntmps23
  go_wp2
  go_loopw [3, 4] (fun s3 i wr => ∃ (k : Nat) (vo : Value), k ≤ n ∧ vo = s3 ∧ i = .int .i64 k ∧ Hid (wr.ownsRow w.heap.size 53 4 vo (lightL (l.take k)).length ((lightL (l.take k)).flatMap encA)) ∧ Hid (Below w.heap.size w wr)) (fun _ i _ => n - (intOf i).toNat)
  case atStart => exact ⟨0, _, Nat.zero_le _, rfl, rfl, World.ownsRow_nil _ _ _ _, by (show Below _ _ _); go_grown⟩
  case round =>
    obtain ⟨k, vo, hk, rfl, rfl, hown, hb⟩ := hrel
    by_cases hlt : k < n
    · obtain ⟨b, off, rfl, hbl, g0, g1, g2, g3⟩ := HC.out k hlt
      have g0 := (hb.out.cell (p := ⟨b, off + k * 4, none⟩) hbl).trans g0
      have g1 := (hb.out.cell (p := ⟨b, off + k * 4 + 1, none⟩) hbl).trans g1
      have g2 := (hb.out.cell (p := ⟨b, off + k * 4 + 2, none⟩) hbl).trans g2
      have g3 := (hb.out.cell (p := ⟨b, off + k * 4 + 3, none⟩) hbl).trans g3
      have hol : Hid ((lightL (l.take k)).length ≤ n) := by show _ ≤ _; have h1 := lightL_le (l.take k); rw [List.length_take] at h1; omega
      cases k with
      | zero =>
        have HE : Hid (lightL (l.take 1) = lightL (l.take 0) ++ [el l 0]) := by show _ = _; rw [light_one (by rw [HN.out]; exact hlt)]; rfl
        have k2 : (0 : Int) < (n : Int) := by omega
        generalize lightL (l.take 0) = o at *
        generalize el l 0 = p at *
        go_wp2
        go_quiet (fail)
        have HO : Hid ((wr.drewN nq).ownsRow w.heap.size 53 4 vo o.length (o.flatMap encA)) := hown
        have HZ : Hid (w.heap.size ≤ (wr.drewN nq).heap.size) := hb.out.size
        have HBD : Hid (Below w.heap.size w (wr.drewN nq)) := below_drewN hb.out nq
        clear hown hb
        generalize hwd : wr.drewN nq = wd at HO HZ HBD ⊢
        have P0 : wd.cell? ⟨b, off, none⟩ = some (.int .i64 p.1) := by rw [← hwd]; simpa using g0
        have P1 : wd.cell? ⟨b, off + 1, none⟩ = some (.int .i64 p.2.1) := by rw [← hwd]; simpa using g1
        have P2 : wd.cell? ⟨b, off + 2, none⟩ = some (.int .i64 p.2.2.1) := by rw [← hwd]; simpa using g2
        have P3 : wd.cell? ⟨b, off + 3, none⟩ = some (.int .i64 p.2.2.2) := by rw [← hwd]; simpa using g3
        clear hwd g0 g1 g2 g3
        go_wp2_with (first
          | (at_builtin; refine wpList_append_rows encA_len (by decide) encA_one rfl _ _ 44 rfl w.heap.size 53 i0 _ 32 Try.underlying44 hi0 hz0 hz1 hz2 rfl _ o.length (o.flatMap encA) rfl (HO.out.alloc _) _ [p] rfl (one_arc _ p) (by have := hol.out; simp; unfold maxLen; omega) (by have := hol.out; simp; omega) (by have := HZ.out; simp at this ⊢; omega) ?_; intro v2 w2 ho2 hg2; obtain ⟨HO2, HB2, HZ2⟩ := snoc_facts HO.out HZ.out ho2 hg2; clear ho2 hg2))
        go_roundw
        case rel => exact ⟨(0) + 1, _, by omega, rfl, by go_num, by rw [HE.out]; exact HO2, HBD.out.trans HB2.out⟩
        case measure => simp [intOf]; omega
      | succ d =>
        obtain ⟨b2, off2, he, _, q0, q1, q2, q3⟩ := HC.out d (by omega)
        injection he with he
        injection he with he1 he2 _
        subst he1 he2
        have q0 := (hb.out.cell (p := ⟨b, off + d * 4, none⟩) hbl).trans q0
        have q1 := (hb.out.cell (p := ⟨b, off + d * 4 + 1, none⟩) hbl).trans q1
        have q2 := (hb.out.cell (p := ⟨b, off + d * 4 + 2, none⟩) hbl).trans q2
        have q3 := (hb.out.cell (p := ⟨b, off + d * 4 + 3, none⟩) hbl).trans q3
        have HT := lightL_take (l := l) (k := d) (by rw [HN.out]; exact hlt)
        have k0 : ((d : Int) + 1 == 0) = false := by simp; omega
        have k1 : (0 : Int) ≤ (d : Int) + 1 := by omega
        have k2 : (d : Int) + 1 < (n : Int) := by omega
        have k3 : (0 : Int) ≤ (d : Int) := by omega
        have k4 : (d : Int) < (n : Int) := by omega
        have k5 : IntKind.i64.wrap (d : Int) = (d : Int) := wrapL (by omega) (by omega)
        have k6 : ¬ (d : Int) + 1 = 0 := by omega
        generalize lightL (l.take (d + 1)) = o at *
        generalize el l (d + 1) = p at *
        generalize el l d = q at *
        by_cases e0 : p.1 = q.1
        · by_cases e1 : p.2.1 = q.2.1
          · by_cases e3 : p.2.2.2 = q.2.2.2
            · have HE : Hid (lightL (l.take (d + 1 + 1)) = o) := by show _ = _; rw [HT]; simp [alikeB, e0, e1, e3]
              rw [← e0] at q0
              rw [← e1] at q1
              rw [← e3] at q3
              clear HT e0 e1 e3
              go_wp2
              go_quiet (fail)
              go_wp2
              go_roundw
              case rel => exact ⟨(d + 1) + 1, _, by omega, rfl, by go_num, by rw [HE.out]; exact hown, below_drewN hb.out _⟩
              case measure => simp [intOf]; omega
            · have HE : Hid (lightL (l.take (d + 1 + 1)) = o ++ [p]) := by show _ = _; rw [HT]; simp [alikeB, e3]
              rw [← e0] at q0
              rw [← e1] at q1
              have n3 : (p.2.2.2 != q.2.2.2) = true := by simpa using e3
              clear HT e0 e1
              go_wp2
              go_quiet (fail)
              have HO : Hid ((wr.drewN nq).ownsRow w.heap.size 53 4 vo o.length (o.flatMap encA)) := hown
              have HZ : Hid (w.heap.size ≤ (wr.drewN nq).heap.size) := hb.out.size
              have HBD : Hid (Below w.heap.size w (wr.drewN nq)) := below_drewN hb.out nq
              clear hown hb
              generalize hwd : wr.drewN nq = wd at HO HZ HBD ⊢
              have P0 : wd.cell? ⟨b, off + (d + 1) * 4, none⟩ = some (.int .i64 p.1) := by rw [← hwd]; exact g0
              have P1 : wd.cell? ⟨b, off + (d + 1) * 4 + 1, none⟩ = some (.int .i64 p.2.1) := by rw [← hwd]; exact g1
              have P2 : wd.cell? ⟨b, off + (d + 1) * 4 + 2, none⟩ = some (.int .i64 p.2.2.1) := by rw [← hwd]; exact g2
              have P3 : wd.cell? ⟨b, off + (d + 1) * 4 + 3, none⟩ = some (.int .i64 p.2.2.2) := by rw [← hwd]; exact g3
              clear hwd g0 g1 g2 g3
              go_wp2_with (first
                | (at_builtin; refine wpList_append_rows encA_len (by decide) encA_one rfl _ _ 44 rfl w.heap.size 53 i0 _ 32 Try.underlying44 hi0 hz0 hz1 hz2 rfl _ o.length (o.flatMap encA) rfl (HO.out.alloc _) _ [p] rfl (one_arc _ p) (by have := hol.out; simp; unfold maxLen; omega) (by have := hol.out; simp; omega) (by have := HZ.out; simp at this ⊢; omega) ?_; intro v2 w2 ho2 hg2; obtain ⟨HO2, HB2, HZ2⟩ := snoc_facts HO.out HZ.out ho2 hg2; clear ho2 hg2))
              go_roundw
              case rel => exact ⟨(d + 1) + 1, _, by omega, rfl, by go_num, by rw [HE.out]; exact HO2, HBD.out.trans HB2.out⟩
              case measure => simp [intOf]; omega
          · have HE : Hid (lightL (l.take (d + 1 + 1)) = o ++ [p]) := by show _ = _; rw [HT]; simp [alikeB, e1]
            rw [← e0] at q0
            have n1 : (p.2.1 != q.2.1) = true := by simpa using e1
            clear HT e0
            go_wp2
            go_quiet (fail)
            have HO : Hid ((wr.drewN nq).ownsRow w.heap.size 53 4 vo o.length (o.flatMap encA)) := hown
            have HZ : Hid (w.heap.size ≤ (wr.drewN nq).heap.size) := hb.out.size
            have HBD : Hid (Below w.heap.size w (wr.drewN nq)) := below_drewN hb.out nq
            clear hown hb
            generalize hwd : wr.drewN nq = wd at HO HZ HBD ⊢
            have P0 : wd.cell? ⟨b, off + (d + 1) * 4, none⟩ = some (.int .i64 p.1) := by rw [← hwd]; exact g0
            have P1 : wd.cell? ⟨b, off + (d + 1) * 4 + 1, none⟩ = some (.int .i64 p.2.1) := by rw [← hwd]; exact g1
            have P2 : wd.cell? ⟨b, off + (d + 1) * 4 + 2, none⟩ = some (.int .i64 p.2.2.1) := by rw [← hwd]; exact g2
            have P3 : wd.cell? ⟨b, off + (d + 1) * 4 + 3, none⟩ = some (.int .i64 p.2.2.2) := by rw [← hwd]; exact g3
            clear hwd g0 g1 g2 g3
            go_wp2_with (first
              | (at_builtin; refine wpList_append_rows encA_len (by decide) encA_one rfl _ _ 44 rfl w.heap.size 53 i0 _ 32 Try.underlying44 hi0 hz0 hz1 hz2 rfl _ o.length (o.flatMap encA) rfl (HO.out.alloc _) _ [p] rfl (one_arc _ p) (by have := hol.out; simp; unfold maxLen; omega) (by have := hol.out; simp; omega) (by have := HZ.out; simp at this ⊢; omega) ?_; intro v2 w2 ho2 hg2; obtain ⟨HO2, HB2, HZ2⟩ := snoc_facts HO.out HZ.out ho2 hg2; clear ho2 hg2))
            go_roundw
            case rel => exact ⟨(d + 1) + 1, _, by omega, rfl, by go_num, by rw [HE.out]; exact HO2, HBD.out.trans HB2.out⟩
            case measure => simp [intOf]; omega
        · have HE : Hid (lightL (l.take (d + 1 + 1)) = o ++ [p]) := by show _ = _; rw [HT]; simp [alikeB, e0]
          have n0 : (p.1 != q.1) = true := by simpa using e0
          clear HT
          go_wp2
          go_quiet (fail)
          have HO : Hid ((wr.drewN nq).ownsRow w.heap.size 53 4 vo o.length (o.flatMap encA)) := hown
          have HZ : Hid (w.heap.size ≤ (wr.drewN nq).heap.size) := hb.out.size
          have HBD : Hid (Below w.heap.size w (wr.drewN nq)) := below_drewN hb.out nq
          clear hown hb
          generalize hwd : wr.drewN nq = wd at HO HZ HBD ⊢
          have P0 : wd.cell? ⟨b, off + (d + 1) * 4, none⟩ = some (.int .i64 p.1) := by rw [← hwd]; exact g0
          have P1 : wd.cell? ⟨b, off + (d + 1) * 4 + 1, none⟩ = some (.int .i64 p.2.1) := by rw [← hwd]; exact g1
          have P2 : wd.cell? ⟨b, off + (d + 1) * 4 + 2, none⟩ = some (.int .i64 p.2.2.1) := by rw [← hwd]; exact g2
          have P3 : wd.cell? ⟨b, off + (d + 1) * 4 + 3, none⟩ = some (.int .i64 p.2.2.2) := by rw [← hwd]; exact g3
          clear hwd g0 g1 g2 g3
          go_wp2_with (first
            | (at_builtin; refine wpList_append_rows encA_len (by decide) encA_one rfl _ _ 44 rfl w.heap.size 53 i0 _ 32 Try.underlying44 hi0 hz0 hz1 hz2 rfl _ o.length (o.flatMap encA) rfl (HO.out.alloc _) _ [p] rfl (one_arc _ p) (by have := hol.out; simp; unfold maxLen; omega) (by have := hol.out; simp; omega) (by have := HZ.out; simp at this ⊢; omega) ?_; intro v2 w2 ho2 hg2; obtain ⟨HO2, HB2, HZ2⟩ := snoc_facts HO.out HZ.out ho2 hg2; clear ho2 hg2))
          go_roundw
          case rel => exact ⟨(d + 1) + 1, _, by omega, rfl, by go_num, by rw [HE.out]; exact HO2, HBD.out.trans HB2.out⟩
          case measure => simp [intOf]; omega
    · have hke : k = n := by omega
      have hnl : ¬ (k : Int) < (n : Int) := by omega
      have HO : Hid (wr.ownsRow w.heap.size 53 4 vo (lightL l).length ((lightL l).flatMap encA)) := by
        have h := hown.out
        rw [hke, ← HN.out, List.take_length] at h
        exact h
      clear hke hown
      go_wp2
      go_ret
      exact ⟨_, rfl, HO.out, hb.out⟩
end Go.Proofs.Ytjpfpdbhdcopbaa.Wt
