/- What the reference answers to labels that are fed where the machine or the run is wrong. -/
import Derived.Test.YtkeeiihaijhdoaaFaq
import Derived.Test.YtkeeiihaijhdoaaFar
import Derived.Test.YtkeeiihaijhdoaaFal
import Derived.Test.YtkeeiihaijhdoaaFan
namespace Go.Proofs.Ytkeeiihaijhdoaa.Sm
open Go.ChangeShapes Go.WideShapes Go.ChangeAt Go.RowKit
open Go.Proofs.Ytkeeiihaijhdoaa.Pl Go.Proofs.Ytkeeiihaijhdoaa.Wt
set_option linter.unusedVariables false
set_option linter.unusedSimpArgs false
set_option maxRecDepth 100000 in
set_option maxHeartbeats 800000 in
theorem feedR_bad (v vr vx : Value) (m : Mc) (r : Ru) (x : List Int) (w : World) (h : Mach w v m) (hok : okM m) (hr : RunV w vr r) (hou : okU r) (hx : Nums w vx x) (hxl : x.length ≤ 17592186044000) (hbad : chkA m r ≠ 0) :
  Calls Try.prog 17 #[v, vr, vx] w fun e w' => ∃ s ec, FedAns m r x s ec ∧ RunRes s ec w e w' := by
 have HM := hidP h
 have HK := hidP hok
 have HR := hidP hr
 have HO := hidP hou
 have HX := hidP hx
 obtain ⟨z, l⟩ := m
 obtain ⟨vs, rfl, hS⟩ := h
 obtain ⟨a, cap, rfl, hcs⟩ := hS.get
 have HCS : Hid (∀ j, j < l.length → ∃ b off va, a = some ⟨b, off, none⟩ ∧ b < w.heap.size ∧ w.cell? ⟨b, off + j * 2, none⟩ = some (.int .i64 (el l j).1) ∧ w.cell? ⟨b, off + j * 2 + 1, none⟩ = some va ∧ Arcs w va (el l j).2) := hcs
 obtain ⟨vm, rfl, hMk⟩ := hr
 obtain ⟨am, cm, rfl⟩ := hMk.sl
 have HMK := hidP hMk
 obtain ⟨ax, cx, rfl, hxc⟩ := hx.get
 have HXC := hidP hxc
 clear hS hcs hok hou hMk hx hxc
 simp only at HMK ⊢
 have hnot : ∀ (x : Bool) (w : World), (Op.unary .not (.bool x)).run Try.prog w = .ok (.bool (!x)) w := fun _ _ => rfl
 have HU : Hid (Below w.heap.size w (((w.alloc (.cells #[.int .i64 z, .slice a l.length cap] 24)).alloc (.cells #[.int .i64 r.1, .slice am r.2.length cm] 28)).alloc (.cells #[.int .i64 0, .slice none 0 0] 28))) := by show Below _ _ _; go_grown
 by_cases hf : faultM (z, l) = 0
 ·have HF := hidP hf
  have h60 : l.length ≤ 60 := (right_size hf).1
  by_cases hrun : runB l.length r = true
  ·exact absurd (by unfold chkA; rw [if_neg (by omega)]; simp only; rw [if_pos hrun]) hbad
  ·have hrf : runB l.length r = false := by simpa using hrun
   have hc : chkA (z, l) r = 13 := by unfold chkA; rw [if_neg (by omega)]; simp only; rw [if_neg hrun]
   have HANS : Hid (FedAns (z, l) r x (0, []) 13) := .inl ⟨by omega, rfl, hc.symm⟩
   have HRM : Hid (∀ W v vr, Mach W v (z, l) → RunV W vr r → Calls Try.prog 39 #[v, vr] W fun e w' => e = .returned (.bool false) ∧ Below W.heap.size W w') := fun W v vr h1 h2 => runMay_any v vr (z, l) r W h1 HK.out h2 HO.out h60 false hrf
   clear hc hf hrun hrf
   go_enter Try.func17, Try.ntmps17
   go_wp2_with (first
    | (go_at_call 31; (with_reducible refine (fault_any _ (z, l) _ (HM.out.later HU.out (Nat.le_refl _)) HK.out 0 HF.out).mono ?_); rintro e w1 ⟨rfl, hb⟩; obtain ⟨s1, b1, b2, b3, hb1⟩ := boxedThree hb (by simp); have HB1 := hidP hb1; have BM1 := hidP b1; have BR1 := hidP b2; have BT1 := hidP b3; have c0 := b1.cell 0 (v := .int .i64 z) rfl; have c1 := b1.cell 1 (v := .slice a l.length cap) rfl; have c2 := b2.cell 0 (v := .int .i64 r.1) rfl; have c3 := b2.cell 1 (v := .slice am r.2.length cm) rfl; clear hb hb1 b1 b2 b3)
    | (go_at_call 39; (with_reducible refine (HRM.out _ _ _ (HM.out.later HB1.out (Nat.le_refl _)) (HR.out.later HB1.out (Nat.le_refl _))).mono ?_); rintro e w2 ⟨rfl, hb⟩; have HB2 : Hid (Below w.heap.size w w2) := HB1.out.trans (hb.mono HB1.out.size); have BM2 := hidP (BM1.out.below hb BM1.out.lt); have BR2 := hidP (BR1.out.below hb BR1.out.lt); have BT2 := hidP (BT1.out.below hb BT1.out.lt); have d2 := BR2.out.cell 0 (v := .int .i64 r.1) rfl; have d3 := BR2.out.cell 1 (v := .slice am r.2.length cm) rfl; have y0 := BT2.out.cell 0 (v := .int .i64 0) rfl; have y1 := BT2.out.cell 1 (v := .slice none 0 0) rfl; have t0 := BT2.out.fz 0; have t1 := BT2.out.fz 1; have z2 : w.heap.size + 2 < w2.heap.size := BT2.out.lt; have z1 : w.heap.size + 1 < w2.heap.size := BR2.out.lt; clear hb c0 c1 c2 c3))
   exact bodyPost_ret (v := .tuple #[.agg #[.int .i64 0, .slice none 0 0], .int .i64 13]) (by simp [results, Try.results17, go_sem, *]) rfl ⟨(0, []), 13, HANS.out, _, rfl, ⟨_, rfl, [], .inl ⟨rfl, rfl⟩, rfl, by simp⟩, by have h9 := HB2.out; go_grown⟩
 ·have hc : chkA (z, l) r = faultM (z, l) := by unfold chkA; rw [if_pos hf]
  have HANS : Hid (FedAns (z, l) r x (0, []) (faultM (z, l))) := .inl ⟨by omega, rfl, hc.symm⟩
  generalize hq : faultM (z, l) = q at *
  have HQ := hidP hq
  clear hq hc
  go_enter Try.func17, Try.ntmps17
  go_wp2_with (first
   | (go_at_call 31; (with_reducible refine (fault_any _ (z, l) _ (HM.out.later HU.out (Nat.le_refl _)) HK.out q HQ.out).mono ?_); rintro e w1 ⟨rfl, hb⟩; obtain ⟨s1, b1, b2, b3, hb1⟩ := boxedThree hb (by simp); have HB1 := hidP hb1; have y0 := b3.cell 0 (v := .int .i64 0) rfl; have y1 := b3.cell 1 (v := .slice none 0 0) rfl; have t0 := b3.fz 0; have t1 := b3.fz 1; have z2 : w.heap.size + 2 < w1.heap.size := b3.lt; clear hb hb1 b1 b2 b3))
  exact bodyPost_ret (v := .tuple #[.agg #[.int .i64 0, .slice none 0 0], .int .i64 q]) (by simp [results, Try.results17, go_sem, *]) rfl ⟨(0, []), q, HANS.out, _, rfl, ⟨_, rfl, [], .inl ⟨rfl, rfl⟩, rfl, by simp⟩, by have h9 := HB1.out; go_grown⟩
end Go.Proofs.Ytkeeiihaijhdoaa.Sm
namespace Go.Proofs.Ytkeeiihaijhdoaa.Sm
open Go.ChangeShapes Go.WideShapes Go.ChangeAt Go.RowKit
open Go.Proofs.Ytkeeiihaijhdoaa.Pl Go.Proofs.Ytkeeiihaijhdoaa.Wt
set_option linter.unusedVariables false
theorem fedT_bnd {m : Mc} (hf : faultM m = 0) (h60 : m.2.length ≤ 60) : ∀ {l : List Int} {K : Tbl} {res : Option Tbl} {B : Nat}, FedT m K l res → DomT m.2.length K → BndT 1000000000 B K → ∀ R, res = some R → DomT m.2.length R ∧ BndT 1000000000 (B + 61 * l.length) R
  | [], _, _, B, .nil _, hd, hb, R, h => by
    cases h
    exact ⟨hd, by simpa using hb⟩
  | x :: l, _, _, B, .over a1 a2 a3, hd, hb, R, h => by cases h
  | x :: l, K, _, B, .on (O := O) (K' := K') a1 a2 a3 a4, hd, hb, R, h => by
    have hDN := minS_dom hf a1
    have hBN := minS_bnd hf hb a1
    have e := a2.one (itT_clo hDN (arcs_ok hf))
    have hDK : DomT m.2.length K' := fun q y hq => (a2.1 q y hq).dom hDN (arcs_ok hf)
    have hBK : BndT 1000000000 (B + 61) K' := fun q y hq => by
      have h2 := hq
      rw [e] at h2
      have h3 := itT_bnd hf hBN _ q y h2
      have h4 : ¬ 1000000000 < y.1 := fun h => a3 ⟨q, y, hq, h⟩
      omega
    have := fedT_bnd hf h60 a4 hDK hBK R h
    refine ⟨this.1, fun q y hq => ?_⟩
    have h5 := this.2 q y hq
    simp only [List.length_cons]
    omega
theorem ordL_okU {n : Nat} {K : Tbl} {B : Nat} {z : Int} (hn : n ≤ 60) (hB : B ≤ 1000000) (hb : BndT 1000000000 B K) : okU (z, ordL n K) := by
 refine ⟨by have := ordL_len n K; simp only; omega, fun j hj => ?_⟩
 have h2 := hb _ _ (ordL_mem (el_mem hj))
 simp only at h2 ⊢
 omega
theorem fed_ok {m : Mc} {r : Ru} {x : List Int} {s : Ru} {ec : Int} (h : FedAns m r x s ec) : okU s := by
 rcases h with ⟨_, rfl, _⟩ | ⟨_, _, rfl, _⟩ | ⟨_, _, _, rfl, _⟩ | ⟨hc, ho, _, res, hres, rfl, _⟩
 ·exact ⟨by simp, by simp⟩
 ·exact ⟨by simp, by simp⟩
 ·exact ⟨by simp, by simp⟩
 ·rcases res with _ | K
  ·exact ⟨by simp, by simp⟩
  ·obtain ⟨hf, hrun⟩ := chk_ok hc
   have h60 : m.2.length ≤ 60 := by obtain ⟨z, l⟩ := m; exact (right_size hf).1
   have hT := tblT_facts hrun
   have hfd := runB_fed hrun
   have := fedT_bnd hf h60 hres hT.1 hT.2 K rfl
   exact ordL_okU h60 (B := 800 + 61 * x.length) (by omega) this.2
theorem nzT_of {nl : List Mk} (h : NzL nl) : NzT (tblT nl) := fun q k hk x hx => by
 obtain ⟨j, hj, he⟩ := List.getElem_of_mem (tblT_mem hk)
 have := h j hj
 rw [el_get hj, he] at this
 exact this x hx
theorem nzL_run {n : Int} {r : Ru} (h : runB n r = true) : NzL r.2 := fun j hj x hx => by
 simp only [runB, Bool.and_eq_true] at h
 have h2 := List.all_eq_true.1 h.2 _ (el_mem hj)
 simp only [mkB, Bool.and_eq_true] at h2
 have h3 := List.all_eq_true.1 h2.2 x hx
 simp only [inB, Bool.and_eq_true, decide_eq_true_eq] at h3
 omega
theorem fedT_nz {m : Mc} : ∀ {l : List Int} {K : Tbl} {res : Option Tbl}, FedT m K l res → NzT K → ∀ R, res = some R → NzT R
  | [], _, _, .nil _, hn, R, h => by cases h; exact hn
  | x :: l, _, _, .over a1 a2 a3, hn, R, h => by cases h
  | x :: l, K, _, .on a1 a2 a3 a4, hn, R, h => by
    refine fedT_nz a4 (a2.nz fun p y hp => ?_) R h
    obtain ⟨q, z, a, h1, _, _, _, rfl⟩ := a1.1 p y hp
    exact goA_nz (hn q z h1)
theorem fed_nz {m : Mc} {r : Ru} {x : List Int} {s : Ru} {ec : Int} (h : FedAns m r x s ec) : NzL s.2 := by
 rcases h with ⟨_, rfl, _⟩ | ⟨_, _, rfl, _⟩ | ⟨_, _, _, rfl, _⟩ | ⟨hc, ho, _, res, hres, rfl, _⟩
 ·intro j hj; simp at hj
 ·intro j hj; simp at hj
 ·intro j hj; simp at hj
 ·rcases res with _ | K
  ·intro j hj; simp at hj
  ·exact (fedT_nz hres (nzT_of (nzL_run (chk_ok hc).2)) K rfl).list
theorem run_out {w w' : World} {v : Value} {r : Ru} (h : RunV w v r) (hz : NzL r.2) {P : Nat} {t : TypeId} (hP : Blk w P #[.int .i64 0, .slice none 0 0] t) (hk : ∀ b, b < w.heap.size → b ≠ P → w'.heap[b]? = w.heap[b]?) (hs : w.heap.size ≤ w'.heap.size) : RunV w' v r := by
 obtain ⟨vs, h1, h2⟩ := h
 exact ⟨vs, h1, ((MarksX.old h2 (Below.refl _ _) (Nat.le_refl _)).zero hz hP hk hs (by have := hP.lt; omega)).marks⟩
end Go.Proofs.Ytkeeiihaijhdoaa.Sm
