/- The program: Decode. -/
import Derived.Test.YtbbjpdadickilaaDoorJ9a
import Derived.Test.YtbbjpdadickilaaDoorJ9b
import Derived.Test.YtbbjpdadickilaaDoorMcV
namespace Go.Proofs.YtbbjpdadickilaaDoor.Wt
open Go.ChangeShapes Go.WideShapes Go.ChangeAt Go.RowKit
open Go.Proofs.YtbbjpdadickilaaDoor.Pl
set_option linter.unusedVariables false
set_option linter.unusedSimpArgs false
theorem mach_own {w : World} {base : Nat} {a : Option Addr} {n c : Nat} {z : Int} {sts : List St} (h : OwnSts w base (.slice a n c) sts) : Mach w (.agg #[.int .i64 z, .slice a n c]) (z, sts) := ⟨_, rfl, h.sts⟩
theorem belowN {B : Nat} {w W : World} (h : Below B w W) (k : Nat) : Below B w (W.drewN k) := ⟨h.os, h.tape, h.output, h.size, h.block⟩
theorem res_machD (tm : Array Value) (W : World) (R : Nat) (z ec : Int) (vs : Value) (hB : Blk W R #[.int .i64 z, vs] 24) (h2 : tm.getD 2 undef = .pointer (some ⟨R, 0, none⟩)) (h3 : tm.getD 3 undef = .int .i64 ec) : (results Tryd.f6 tm).run Tryd.prog W = .ok (.tuple #[.agg #[.int .i64 z, vs], .int .i64 ec]) W := by
  have c0 := hB.cell 0 (v := .int .i64 z) rfl
  have c1 := hB.cell 1 (v := vs) rfl
  simp only [Array.getD_eq_getD_getElem?] at h2 h3
  simp [results, Tryd.results6, go_sem, h2, h3, c0, c1]
theorem blk_twoD {W : World} {R : Nat} {a b x y : Value} {t : TypeId} (h : Blk W R #[a, b] t) : Blk ((W.setCell ⟨R, 0, none⟩ x).setCell ⟨R, 1, none⟩ y) R #[x, y] t := (h.set 0 x).set 1 y
theorem zero_postD {l : List Int} {w W : World} {tm : Array Value} {x0 x1 : Value} {ec : Int} (hB : Blk W w.heap.size #[x0, x1] 24) (hb : Below w.heap.size w W) (ha : UnpAns l (0, []) ec) (h2 : tm.getD 2 undef = .pointer (some ⟨w.heap.size, 0, none⟩)) (h3 : tm.getD 3 undef = .int .i64 ec) :
    bodyPost Tryd.prog Tryd.f6 (fun e w' => UnpRes l w e w') .ret { tmps := tm, defers := [] } ((W.setCell ⟨w.heap.size, 0, none⟩ (.int .i64 0)).setCell ⟨w.heap.size, 1, none⟩ (.slice none 0 0)) :=
  bodyPost_ret (res_machD _ _ w.heap.size 0 ec _ (blk_twoD hB) h2 h3) rfl ⟨_, (0, []), ec, rfl, mach_zeroU _, ha, (hb.setCell (Nat.le_refl _) _).setCell (Nat.le_refl _) _⟩
set_option maxRecDepth 100000 in
theorem decodeP_long (a : Option Addr) (cap : Nat) (l : List Int) (w : World) (h : 8000 < l.length) :
    Calls Tryd.prog 6 #[.slice a l.length cap] w fun e w' => UnpRes l w e w' := by
  have HA : Hid (UnpAns l (0, []) 1) := by unfold UnpAns; rw [if_pos h]; exact ⟨rfl, rfl⟩
  have HM := hid (Blk.made w #[.int .i64 0, .slice none 0 0] 24)
  have h' : (8000 : Int) < (l.length : Int) := by omega
  generalize l.length = n at *
  go_enter Tryd.func6, Tryd.ntmps6
  go_wp2
  exact bodyPost_ret (v := .tuple #[.agg #[.int .i64 0, .slice none 0 0], .int .i64 1]) (by simp [results, Tryd.results6, go_sem]) rfl ⟨_, (0, []), 1, rfl, mach_zeroU _, HA.out, by go_grown⟩
set_option maxRecDepth 100000 in
theorem decodeP_short (a : Option Addr) (cap : Nat) (l : List Int) (w : World) (h : l.length < 5) :
    Calls Tryd.prog 6 #[.slice a l.length cap] w fun e w' => UnpRes l w e w' := by
  have HA : Hid (UnpAns l (0, []) 3) := by unfold UnpAns; rw [if_neg (by omega), if_pos h]; exact ⟨rfl, rfl⟩
  have h1 : ¬ (8000 : Int) < (l.length : Int) := by omega
  have h' : (l.length : Int) < 5 := by omega
  generalize l.length = n at *
  go_enter Tryd.func6, Tryd.ntmps6
  go_wp2
  exact bodyPost_ret (v := .tuple #[.agg #[.int .i64 0, .slice none 0 0], .int .i64 3]) (by simp [results, Tryd.results6, go_sem]) rfl ⟨_, (0, []), 3, rfl, mach_zeroU _, HA.out, by go_grown⟩
set_option maxRecDepth 100000 in
set_option maxHeartbeats 800000 in
theorem decodeP_main (a : Option Addr) (cap : Nat) (l : List Int) (w : World) (h : Bys w (.slice a l.length cap) l) (hb : bytesB l) (hcap : l.length ≤ cap) (h5 : 5 ≤ l.length) (h8 : l.length ≤ 8000) :
    Calls Tryd.prog 6 #[.slice a l.length cap] w fun e w' => UnpRes l w e w' := by
  obtain ⟨e, he⟩ : ∃ e, l.length = e + 2 := ⟨l.length - 2, by omega⟩
  have hbd : bodyOf l = l.take e := by unfold bodyOf; rw [he]; rfl
  have hsm : sumOf l = joinL (l.drop e) := by unfold sumOf; rw [he]; rfl
  obtain ⟨bd, hbde⟩ : ∃ bd, l.take e = bd := ⟨_, rfl⟩
  have hbl : bd.length = e := by rw [← hbde, List.length_take]; omega
  have hbb : bytesB bd := by rw [← hbde]; exact bytes_take hb e
  have HBP : Hid (∀ W, Below w.heap.size w W → Bys W (.slice a e cap) bd) := fun W hW => by
    have h1 := bys_pre (h.later hW (Nat.le_refl _)) e (by omega) (by omega)
    rw [hbde] at h1
    exact h1
  obtain ⟨b, off, hab, hblt⟩ : ∃ b off, a = some ⟨b, off, none⟩ ∧ b < w.heap.size := by
    obtain ⟨a', cap', hv, hc⟩ := h.get
    obtain ⟨b, off, h1, h2, _⟩ := hc 0 (by omega)
    injection hv with h3 _ _
    exact ⟨b, off, by rw [h3, h1], h2⟩
  subst hab
  have HBS : Hid (∀ W, Below w.heap.size w W → Bys W (.slice (some ⟨b, off + e, none⟩) 2 (cap - e)) (l.drop e)) := fun W hW => by
    obtain ⟨a', cap', hv, hc⟩ := (h.later hW (Nat.le_refl _)).get
    refine .inr ⟨⟨b, off + e, none⟩, cap - e, by rw [List.length_drop, he, Nat.add_sub_cancel_left], fun j hj i u hu => ?_⟩
    rw [List.length_drop] at hj
    obtain ⟨b', off', h1, h2, h3⟩ := hc (e + j) (by omega)
    injection hv with h4 _ _
    rw [h1] at h4
    simp only [Option.some.injEq, Addr.mk.injEq, and_true] at h4
    cases i with
    | zero =>
      simp [encU1] at hu
      subst hu
      rw [Addr.add_lit, Nat.mul_one, Nat.add_zero, h4.1, h4.2, Nat.add_assoc, h3]
      congr 2
      simp [el]
    | succ i => simp [encU1] at hu
  have HCR : Hid (∀ W, Below w.heap.size w W → Calls Tryd.prog 11 #[.slice (some ⟨b, off, none⟩) e cap] W fun e w' => e = .returned (.int .u16 (crcN bd)) ∧ w' = W) := fun W hW => (sumOf_any _ bd W (HBP.out W hW) hbb (by omega)).mono fun _ _ g => ⟨g.1, g.2.symm⟩
  have HNB : Hid (∀ W, Below w.heap.size w W → Calls Tryd.prog 14 #[.slice (some ⟨b, off + e, none⟩) 2 (cap - e)] W fun e w' => e = .returned (.int .i64 (sumOf l)) ∧ w' = W) := fun W hW => (numberOf_any _ (l.drop e) W (HBS.out W hW) (bytes_drop hb e) (by rw [List.length_drop]; omega) _ hsm.symm).mono fun _ _ g => ⟨g.1, g.2.symm⟩
  have HMO : Hid (∀ W, Below w.heap.size w W → Calls Tryd.prog 15 #[.slice (some ⟨b, off, none⟩) e cap] W fun e w' => MoAns bd W e w') := fun W hW => by
    have := machineOf_any (some ⟨b, off, none⟩) cap bd W (by rw [hbl]; exact HBP.out W hW) hbb (by omega) (by omega) (by omega)
    rw [hbl] at this
    exact this
  have HA : Hid (∀ m ec, (if crcN bd ≠ sumOf l then ec = 11 ∧ m = (0, []) else (ec = 0 ∧ faultM m = 0 ∧ packB m = bd) ∨ ((∀ r, faultM r = 0 → packB r ≠ bd) ∧ ec = 3 ∧ m = (0, []))) → UnpAns l m ec) := fun m ec hh => by
    unfold UnpAns
    rw [if_neg (by omega), if_neg (by omega), hbd, hbde]
    exact hh
  have q1 : ¬ (8000 : Int) < (e : Int) + 2 := by omega
  have q2 : ¬ (e : Int) + 2 < 5 := by omega
  have q3 : (e : Int) ≤ (cap : Int) := by omega
  have q4 : ¬ cap = e := by omega
  have q5 : (e : Int) ≤ (e : Int) + 2 := by omega
  have q6 : IntKind.i64.wrap ((e : Int) + 2 - 2) = (e : Int) := by rw [wrapI (by omega) (by omega)]; omega
  have hcs := crcN_range bd
  have uc : IntKind.i64.wrap (crcN bd) = crcN bd := u16_i64 hcs
  have HM0 := hid (Blk.made w #[.int .i64 0, .slice none 0 0] 24)
  have HB0 : Hid (∀ k, Below w.heap.size w ((w.alloc (.cells #[.int .i64 0, .slice none 0 0] 24)).drewN k)) := fun k => belowN ((Below.refl _ _).alloc (Nat.le_refl _) _) k
  rw [he]
  clear hbd hsm hbde h hcap h5 h8 he hb HBP HBS hbl hbb
  generalize sumOf l = sm at *
  by_cases hsum : crcN bd = sm
  · have HAB : Hid ((∀ r, faultM r = 0 → packB r ≠ bd) → UnpAns l (0, []) 3) := fun hh => HA.out _ _ (by rw [if_neg (by simpa using hsum)]; exact .inr ⟨hh, rfl, rfl⟩)
    have HAG : Hid (∀ m, faultM m = 0 → packB m = bd → UnpAns l m 0) := fun m h1 h2 => HA.out _ _ (by rw [if_neg (by simpa using hsum)]; exact .inl ⟨rfl, h1, h2⟩)
    have hne : (crcN bd != sm) = false := by simpa using hsum
    clear hsum HA
    generalize crcN bd = cr at *
    go_enter Tryd.func6, Tryd.ntmps6
    go_wp2
    go_quiet (first
      | (go_at_call 11; (with_reducible refine Calls.quiet_of_same (HCR.out _ (HB0.out _))))
      | (go_at_call 14; (with_reducible refine Calls.quiet_of_same (HNB.out _ (HB0.out _)))))
    have HB1 : Hid (Below w.heap.size w ((w.alloc (.cells #[.int .i64 0, .slice none 0 0] 24)).drewN nq)) := HB0.out nq
    have HM1 : Hid (Blk ((w.alloc (.cells #[.int .i64 0, .slice none 0 0] 24)).drewN nq) w.heap.size #[.int .i64 0, .slice none 0 0] 24) := HM0.out
    generalize (w.alloc (.cells #[.int .i64 0, .slice none 0 0] 24)).drewN nq = W1 at *
    clear HB0 HM0 HNB HCR
    have c0 := HM1.out.cell 0 (v := .int .i64 0) rfl
    have c1 := HM1.out.cell 1 (v := .slice none 0 0) rfl
    have f0 := HM1.out.fz 0
    have f1 := HM1.out.fz 1
    go_wp2_with (first
      | (go_at_call 15; (with_reducible refine (HMO.out _ HB1.out).mono ?_); rintro e1 w2 ⟨av, cv, ⟨z, sts⟩, ec, rfl, ho, hok, hcase, hb2⟩; have HM2 := hid ((HM1.out.below hb2 HM1.out.lt).alloc (.cells #[.int .i64 z, .slice av sts.length cv] 24)); have HK2 := hid (Blk.made w2 #[.int .i64 z, .slice av sts.length cv] 24); have HO2 : Hid (OwnSts (w2.alloc (.cells #[.int .i64 z, .slice av sts.length cv] 24)) W1.heap.size (.slice av sts.length cv) sts) := ho.kept (grownB ((Below.refl _ _).alloc (Nat.le_refl _) _)); have HOK := hid hok; have hsb := Nat.le_trans HB1.out.size hb2.size; have HB2 : Hid (Below w.heap.size w (w2.alloc (.cells #[.int .i64 z, .slice av sts.length cv] 24))) := (HB1.out.trans (hb2.mono HB1.out.size)).alloc hsb _; clear ho hok hb2; obtain ⟨r, hr⟩ : ∃ r, faultM (z, sts) = r := ⟨_, rfl⟩; have HF := hid hr; clear hr; have c0 := HM2.out.cell 0 (v := .int .i64 0) rfl; have c1 := HM2.out.cell 1 (v := .slice none 0 0) rfl; have f0 := HM2.out.fz 0; have f1 := HM2.out.fz 1; have k0 := HK2.out.cell 0 (v := .int .i64 z) rfl; have k1 := HK2.out.cell 1 (v := .slice av sts.length cv) rfl; have HC := hid hcase; rcases hcase with ⟨rfl, hpk, hone⟩ | ⟨rfl, hm, hno⟩)
      | (go_at_call 5; (with_reducible refine (coreCheck_any _ (z, sts) _ (mach_own HO2.out) HOK.out r HF.out).mono ?_); rintro e1 w3 ⟨rfl, hb3⟩; have HM3 := hid (HM2.out.below hb3 HM2.out.lt); have HK3 := hid (HK2.out.below hb3 HK2.out.lt); have HO3 := hid (HO2.out.kept (grownB hb3)); have HB3 := hid (HB2.out.trans (hb3.mono HB2.out.size)); have c0 := HM3.out.cell 0 (v := .int .i64 0) rfl; have c1 := HM3.out.cell 1 (v := .slice none 0 0) rfl; have f0 := HM3.out.fz 0; have f1 := HM3.out.fz 1; have k0 := HK3.out.cell 0 (v := .int .i64 z) rfl; have k1 := HK3.out.cell 1 (v := .slice av sts.length cv) rfl; clear hb3))
    · have h0 : r ≠ 0 := by simpa using ‹(r != 0) = true›
      refine zero_postD HM3.out HB3.out (HAB.out fun q hq hb => h0 ?_) rfl rfl
      rw [← HF.out, ← hone q hq hb]
      exact hq
    · have h0 : r = 0 := by first | (simpa using ‹¬ (r != 0) = true›) | (simpa using ‹(r != 0) = false›) | assumption
      subst h0
      have hlt := HM1.out.lt
      exact bodyPost_ret (res_machD _ _ w.heap.size z 0 _ (blk_twoD HM3.out) rfl rfl) rfl ⟨_, (z, sts), 0, rfl, mach_own ((HO3.out.setCell (a := ⟨w.heap.size, 0, none⟩) hlt _).setCell (a := ⟨w.heap.size, 1, none⟩) hlt _), HAG.out _ HF.out hpk, (HB3.out.setCell (Nat.le_refl _) _).setCell (Nat.le_refl _) _⟩
    · exact zero_postD HM2.out HB2.out (HAB.out hno) rfl rfl
  · have HA1 : Hid (UnpAns l (0, []) 11) := HA.out _ _ (by rw [if_pos hsum]; exact ⟨rfl, rfl⟩)
    have hne : (crcN bd != sm) = true := bne_iff_ne.2 hsum
    generalize crcN bd = cr at *
    go_enter Tryd.func6, Tryd.ntmps6
    go_wp2
    go_quiet (first
      | (go_at_call 11; (with_reducible refine Calls.quiet_of_same (HCR.out _ (HB0.out _))))
      | (go_at_call 14; (with_reducible refine Calls.quiet_of_same (HNB.out _ (HB0.out _)))))
    have HB1 : Hid (Below w.heap.size w ((w.alloc (.cells #[.int .i64 0, .slice none 0 0] 24)).drewN nq)) := HB0.out nq
    have HM1 : Hid (Blk ((w.alloc (.cells #[.int .i64 0, .slice none 0 0] 24)).drewN nq) w.heap.size #[.int .i64 0, .slice none 0 0] 24) := HM0.out
    generalize (w.alloc (.cells #[.int .i64 0, .slice none 0 0] 24)).drewN nq = W1 at *
    clear HB0 HM0 HNB HCR
    have c0 := HM1.out.cell 0 (v := .int .i64 0) rfl
    have c1 := HM1.out.cell 1 (v := .slice none 0 0) rfl
    have f0 := HM1.out.fz 0
    have f1 := HM1.out.fz 1
    go_wp2
    exact zero_postD HM1.out HB1.out HA1.out rfl rfl
theorem decodeP_any (a : Option Addr) (cap : Nat) (l : List Int) (w : World) (h : Bys w (.slice a l.length cap) l) (hb : bytesB l) (hcap : l.length ≤ cap) :
    Calls Tryd.prog 6 #[.slice a l.length cap] w fun e w' => UnpRes l w e w' := by
  by_cases h8 : 8000 < l.length
  · exact decodeP_long a cap l w h8
  · by_cases h5 : l.length < 5
    · exact decodeP_short a cap l w h5
    · exact decodeP_main a cap l w h hb hcap (by omega) (by omega)
end Go.Proofs.YtbbjpdadickilaaDoor.Wt
