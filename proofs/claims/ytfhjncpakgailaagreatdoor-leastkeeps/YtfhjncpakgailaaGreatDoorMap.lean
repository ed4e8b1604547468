/- certain.finalOf: what ends a set. -/
import Derived.Test.YtfhjncpakgailaaGreatDoorMao
import Derived.BigQuiet
namespace Go.Proofs.YtfhjncpakgailaaGreatDoor.Wt
open Go.ChangeShapes Go.WideShapes Go.ChangeAt Go.RowKit
open Go.Proofs.YtfhjncpakgailaaGreatDoor.Pl
set_option linter.unusedVariables false
set_option linter.unusedSimpArgs false
set_option maxRecDepth 100000 in
set_option maxHeartbeats 3200000 in
theorem finalOf_any (vm : Value) (m : Mc) (base : Nat) (v : Value) (ps : List Pa) (w : World) (hM : Mach w vm m) (hf : faultM m = 0) (h : OwnP w base v ps) (hs : ∀ p ∈ ps, SmP m.2.length 1000000000000 p) (hl : ps.length ≤ 1000) (r0 r1 : Int) (hr0 : tldN (mnL (fnsP m.2 ps)) = r0) (hr1 : tldE (mnL (fnsP m.2 ps)) = r1) :
  Calls Tryz.prog 100 #[vm, v] w fun e w' => e = .returned (.tuple #[.int .i64 r0, .int .i64 r1]) ∧ Below w.heap.size w w' := by
 obtain ⟨z, l⟩ := m
 simp only at hs hr0 hr1
 obtain ⟨vs, rfl, hSt⟩ := hM
 obtain ⟨a, cap, rfl, hc⟩ := hSt.get
 simp only at hc ⊢
 have HC := hidP hc
 have HFB : Hid (∀ q, q < l.length → 0 ≤ (el l q).1 ∧ (el l q).1 ≤ 1000000001) := fun q hq => by
  have h1 := (right_states hf q hq).1
  simp [finB, inB] at h1
  omega
 have h60 := (right_size hf).1
 have HP := hidP h
 have HEL : Hid (∀ k, k < ps.length → SmP l.length 1000000000000 (el ps k)) := fun k hk => hs _ (el_mem hk)
 have HST : Hid (∀ k, k < ps.length → ∀ p, el ps k = p → ∀ f, (el l p.1.toNat).1 = f → 0 ≤ p.2 → p.2 ≤ 1000000000000 → 0 ≤ f → f ≤ 1000000001 → mnL (fnsP l (ps.take (k + 1))) = if f = 1000000001 then mnL (fnsP l (ps.take k)) else if p.2 + f < mnL (fnsP l (ps.take k)) then p.2 + f else mnL (fnsP l (ps.take k))) := fun k hk p hp f hf h0 h1 f0 f1 => fnsP_step hk hp hf h0 h1 f0 f1
 have HALL : Hid (mnL (fnsP l (ps.take ps.length)) = mnL (fnsP l ps)) := by show _ = _; rw [List.take_length]
 obtain ⟨av, cv, rfl⟩ := h.sl
 have HB0 : Hid (Below w.heap.size w (w.alloc (.cells #[.int .i64 z, .slice a l.length cap] 29))) := (Below.refl _ _).alloc (Nat.le_refl _) _
 have HK0 := hidP (Blk.made w #[.int .i64 z, .slice a l.length cap] 29)
 have HR0 := hidP hr0
 have HR1 := hidP hr1
 clear h hs hc hSt hf hr0 hr1
 obtain ⟨n, hn⟩ : ∃ n, ps.length = n := ⟨_, rfl⟩
 rw [hn] at hl HST HALL HEL ⊢
 have HN := hidP hn
 clear hn
 obtain ⟨nl, hnl⟩ : ∃ nl, l.length = nl := ⟨_, rfl⟩
 rw [hnl] at HC HFB h60 HEL HB0 HK0 ⊢
 clear hnl
 go_enter Tryz.func100, Tryz.ntmps100
 go_wp2
 go_loopw [6, 12] (fun s6 i wr => ∃ (k : Nat) (y : Int), k ≤ n ∧ s6 = .int .i64 (toX y) ∧ i = .int .i64 k ∧ y ≤ noneI ∧ Hid (mnL (fnsP l (ps.take k)) = y) ∧ Hid (Below w.heap.size w wr) ∧ Hid (Blk wr w.heap.size #[.int .i64 z, .slice a nl cap] 29)) (fun _ i _ => n - (intOf i).toNat)
 case atStart => exact ⟨0, noneI, Nat.zero_le _, rfl, rfl, Int.le_refl _, rfl, HB0, HK0⟩
 case round =>
  clear HB0 HK0
  obtain ⟨k, y, hk, rfl, rfl, hyn, hy, hW, hK⟩ := hrel
  obtain ⟨w1, hw1⟩ : ∃ w1, w1 = wr := ⟨_, rfl⟩
  subst hw1
  by_cases hlt : k < n
  ·have k0 : (0 : Int) ≤ (k : Int) := Int.natCast_nonneg _
   have k1 : (k : Int) < (n : Int) := by omega
   obtain ⟨b, off, hab, hbl, c0, c1⟩ := HP.out.cell (j := k) (by rw [HN.out]; exact hlt)
   subst hab
   have c0 := (hW.out.cell (p := ⟨b, off + k * 2, none⟩) hbl).trans c0
   have c1 := (hW.out.cell (p := ⟨b, off + k * 2 + 1, none⟩) hbl).trans c1
   have hsm := HEL.out k hlt
   have HSK := hidP (HST.out k hlt)
   obtain ⟨pk, hpk⟩ : ∃ pk, el ps k = pk := ⟨_, rfl⟩
   rw [hpk] at c0 c1 hsm HSK
   have HSK := hidP (HSK.out pk rfl)
   clear hpk
   obtain ⟨p0, p1⟩ := pk
   simp only [SmP] at hsm c0 c1 HSK
   obtain ⟨t, rfl⟩ : ∃ t : Nat, p0 = (t : Int) := ⟨p0.toNat, by omega⟩
   have t0 : (0 : Int) ≤ (t : Int) := Int.natCast_nonneg _
   have t1 : (t : Int) < (nl : Int) := hsm.2.1
   obtain ⟨b2, off2, va, ha2, hb2, x0, _⟩ := HC.out t (by omega)
   subst ha2
   have x0 := (hW.out.cell (p := ⟨b2, off2 + t * 2, none⟩) hb2).trans x0
   have hfb := HFB.out t (by omega)
   simp only [Int.toNat_natCast] at HSK
   obtain ⟨f, hf⟩ : ∃ f, (el l t).1 = f := ⟨_, rfl⟩
   rw [hf] at x0 hfb
   have HSK := hidP (HSK.out f hf hsm.2.2.1 hsm.2.2.2 hfb.1 hfb.2)
   rw [hy.out] at HSK
   clear hf
   have hlW := hW.out.size
   have hlK := hK.out.lt
   have hA := (Below.refl w1.heap.size w1).alloc (Nat.le_refl _) (.cells #[.int .i64 (t : Int), .int .i64 p1] 84)
   have W1 := hidP (hW.out.trans (hA.mono hW.out.size))
   have K1 := hidP (hK.out.alloc (.cells #[.int .i64 (t : Int), .int .i64 p1] 84))
   have d1 := hK.out.cell 1 (v := .slice (some ⟨b2, off2, none⟩) nl cap) rfl
   have hbw : b2 < w1.heap.size := by omega
   have hbw3 : b < w1.heap.size := by omega
   by_cases e1 : f = 1000000001
   ·rw [if_pos e1] at HSK
    have e1' : (f != 1000000001) = false := by rw [e1]; rfl
    clear e1
    go_wp2
    go_roundw
    case rel => exact ⟨k + 1, y, by omega, rfl, by go_num, hyn, HSK, W1, K1⟩
    case measure => simp [intOf]; omega
   ·rw [if_neg e1] at HSK
    have e1' : (f != 1000000001) = true := by simpa using e1
    have hwr : IntKind.i64.wrap (p1 + f) = p1 + f := wrapI (by omega) (by omega)
    have HMN := hidP (toX_min (y := y) (c := p1 + f) hyn (by unfold noneI; omega) (by omega))
    have hmn : min (toX y) (p1 + f) = toX (if p1 + f < y then p1 + f else y) := by rw [← HMN.out]; split <;> omega
    have hyn2 : (if p1 + f < y then p1 + f else y) ≤ noneI := by split <;> omega
    obtain ⟨y2, hy2⟩ : ∃ y2, (if p1 + f < y then p1 + f else y) = y2 := ⟨_, rfl⟩
    rw [hy2] at HSK HMN hmn hyn2
    clear hy2 e1
    by_cases hlt2 : p1 + f < toX y
    ·have hq : p1 + f = toX y2 := by rw [← HMN.out, if_pos hlt2]
     have HQ := hidP hq
     clear hq hmn
     go_wp2
     go_roundw
     case rel => exact ⟨k + 1, y2, by omega, by rw [HQ.out], by go_num, hyn2, HSK, W1, K1⟩
     case measure => simp [intOf]; omega
    ·have hq : toX y = toX y2 := by rw [← HMN.out, if_neg hlt2]
     have HQ := hidP hq
     clear hq hmn
     go_wp2
     go_roundw
     case rel => exact ⟨k + 1, y2, by omega, by rw [HQ.out], by go_num, hyn2, HSK, W1, K1⟩
     case measure => simp [intOf]; omega
  ·have hk1 : ¬ (k : Int) < (n : Int) := by omega
   obtain rfl : k = n := by omega
   rw [hy.out] at HALL
   rw [← HALL.out] at HR0 HR1
   unfold tldN at HR0
   unfold tldE at HR1
   unfold toX
   by_cases e1 : y = noneI
   ·rw [if_pos e1] at HR0 HR1 ⊢
    have q0 : r0 = 1000000001 := HR0.out.symm
    have q1 : r1 = 0 := HR1.out.symm
    subst q0 q1
    clear e1 hy HALL
    go_wp2
    go_ret2
    exact ⟨rfl, hW.out⟩
   ·rw [if_neg e1] at HR0 HR1 ⊢
    have e1' : (y == 9223372036854775807) = false := by unfold noneI at hyn; simp; omega
    by_cases e2 : 1000000000 < y
    ·rw [if_pos e2] at HR0 HR1
     have q0 : r0 = 0 := HR0.out.symm
     have q1 : r1 = 4 := HR1.out.symm
     subst q0 q1
     clear e1 hy HALL
     go_wp2
     go_ret2
     exact ⟨rfl, hW.out⟩
    ·rw [if_neg e2] at HR0 HR1
     have q0 : r0 = y := HR0.out.symm
     have q1 : r1 = 0 := HR1.out.symm
     subst q0 q1
     clear e1 hy HALL
     go_wp2
     go_ret2
     exact ⟨rfl, hW.out⟩
theorem slThreeJ {v : Value} {n : Nat} (h : ∃ a c, v = .slice a n c) : ∃ a k c, v = .slice a k c := by obtain ⟨a, c, e⟩ := h; exact ⟨a, n, c, e⟩
theorem own_capJ {w : World} {base : Nat} {e : TypeId} {s : Nat} {a : Option Addr} {n n' cap : Nat} {xs : List Value} (h : w.ownsRow base e s (.slice a n cap) n' xs) : n ≤ cap := by
 rcases h.2 with ⟨hv, _⟩ | ⟨g, cap', cur, hv, _, _, hnc, _⟩
 ·injection hv with _ h2 h3; omega
 ·injection hv with _ h2 h3; omega
theorem elemArcJ : Tryz.prog.underlying 54 = some (.slice (Tryz.prog.elem 54)) := by kernel_rfl
theorem sizeArcJ (w : World) : (sizeOf (Tryz.prog.elem 54)).run Tryz.prog w = .ok 4 w := by kernel_rfl
def slA (a : Option Addr) (cap : Nat) (c : Nat × Nat) : Slc := (a.map (·.add (c.1 * 4)), c.2, cap - c.1)
theorem run_pieJ (a : Option Addr) (n cap f k : Nat) (hf : f < k) (hk : k ≤ cap) (W : World) : (Instr.sliceAt 54 (.slice a n cap) (some (.int .i64 (f : Int))) (some (.int .i64 (k : Int))) none).run Tryz.prog W = .ok (.slice (slA a cap (f, k - f)).1 (slA a cap (f, k - f)).2.1 (slA a cap (f, k - f)).2.2) W := by
 rw [run_sliceAt_slice _ _ _ _ _ _ elemArcJ, run_slice_lh _ _ _ _ _ elemArcJ _ _ _ _ (by omega) (by omega) (by omega), sizeArcJ]
 simp only [Result.andThen_ok, sliced, Int.toNat_natCast]
 rw [if_neg (by omega)]
 rfl
theorem run_endJ (a : Option Addr) (n cap f : Nat) (hf : f < n) (hk : n ≤ cap) (W : World) : (Instr.sliceAt 54 (.slice a n cap) (some (.int .i64 (f : Int))) none none).run Tryz.prog W = .ok (.slice (slA a cap (f, n - f)).1 (slA a cap (f, n - f)).2.1 (slA a cap (f, n - f)).2.2) W := by
 rw [run_sliceAt_slice _ _ _ _ _ _ elemArcJ, run_slice_l _ _ _ _ _ elemArcJ _ _ (by omega) (by omega), sizeArcJ]
 simp only [Result.andThen_ok, sliced, Int.toNat_natCast]
 rw [if_neg (by omega)]
 rfl
theorem infoArcsJ : (Tryz.prog.info? 54).map (fun i => (i.zero, i.size, i.bytes)) = some (some (.slice none 0 0), 1, 24) := by kernel_rfl
def LstM (w : World) (base : Nat) (v : Value) (a : Option Addr) (cap : Nat) (cs : List (Nat × Nat)) : Prop := w.ownsRow base 54 1 v cs.length ((cs.map (slA a cap)).flatMap encL)
theorem LstM.nil (w : World) (base : Nat) (a : Option Addr) (cap : Nat) : LstM w base (.slice none 0 0) a cap [] := World.ownsRow_nil _ _ _ _
theorem LstM.later {w w' : World} {base : Nat} {v : Value} {a : Option Addr} {cap : Nat} {cs : List (Nat × Nat)} (h : LstM w base v a cap cs) (hb : Below w.heap.size w w') : LstM w' base v a cap cs := ownBelow h hb
theorem LstM.drewN' {w : World} {base : Nat} {v : Value} {a : Option Addr} {cap : Nat} {cs : List (Nat × Nat)} (h : LstM w base v a cap cs) (n : Nat) : LstM (w.drewN n) base v a cap cs := h.later ⟨rfl, rfl, rfl, Nat.le_refl _, fun _ _ => rfl⟩
theorem Below.drewNJ {B : Nat} {w w' : World} (h : Below B w w') (n : Nat) : Below B w (w'.drewN n) := ⟨h.os, h.tape, h.output, h.size, h.block⟩
theorem LstM.sl {w : World} {base : Nat} {v : Value} {a : Option Addr} {cap : Nat} {cs : List (Nat × Nat)} (h : LstM w base v a cap cs) : ∃ b c, v = .slice b cs.length c := own_sl h
theorem LstM.push {W : World} {base : Nat} {v : Value} {a : Option Addr} {cap : Nat} {cs : List (Nat × Nat)} (h : LstM W base v a cap cs) (c : Nat × Nat) (hl : cs.length ≤ 100000) (hb : base ≤ W.heap.size) :
  ∃ v' w', (Builtin.append_ #[135, 135] 135 #[v, .slice (some ⟨W.heap.size, 0, none⟩) 1 1]).run Tryz.prog (W.alloc (.cells #[.slice (slA a cap c).1 (slA a cap c).2.1 (slA a cap c).2.2] 54)) = .ok v' w' ∧ LstM w' base v' a cap (cs ++ [c]) ∧ Below base W w' := by
 obtain ⟨i1, hi1, hy0, hy1, hy2⟩ := info_parts infoArcsJ
 obtain ⟨v4, w4, r4, ho4, hg4, _⟩ := run_append_spot (P := Tryz.prog) (w := W.alloc (.cells (encL (slA a cap c)).toArray 54)) encL_len (by decide) encL_one 135 135 base 54 i1 _ 24 Tryz.underlying135 hi1 hy0 hy1 hy2 rfl _ cs.length ((cs.map (slA a cap)).flatMap encL) (World.ownsRow.alloc h _) _ [slA a cap c] (oneRow (enc := encL) W (slA a cap c) rfl 54) (by simp; unfold maxLen; omega) (by simp; omega) (by simp; omega)
 refine ⟨v4, w4, r4, ?_, ((Below.refl _ _).alloc hb _).grown hg4 (by simp; omega) (own_geK h)⟩
 unfold LstM
 rw [List.length_append, List.map_append, List.flatMap_append]
 exact ho4
set_option maxRecDepth 100000 in
set_option maxHeartbeats 3200000 in
theorem byLabels_any (base : Nat) (a : Option Addr) (n cap : Nat) (l : List Ar) (w : World) (h : OwnArcs w base (.slice a n cap) l) (hn : n = l.length) (hl : n ≤ 100000) (hcl : ∀ k, k ≤ l.length → CutI l k (cutS l k).1 (cutS l k).2) :
    Calls Tryz.prog 101 #[.slice a n cap] w fun e w' => ∃ vr, e = .returned vr ∧ LstM w' w.heap.size vr a cap (cutL l) ∧ Below w.heap.size w w' := by
  have hcap := own_capJ h
  have HA := hidP h.arcs
  have HCI : Hid (∀ k, k ≤ n → CutI l k (cutS l k).1 (cutS l k).2) := fun k hk => hcl k (by omega)
  have HSU : Hid (∀ k, cutS l (k + 1) = if labA (el l k) = labA (el l (cutS l k).2) then cutS l k else ((cutS l k).1 ++ [((cutS l k).2, k - (cutS l k).2)], k)) := fun k => rfl
  have HCU : Hid (cutL l = if (cutS l n).2 < n then (cutS l n).1 ++ [((cutS l n).2, n - (cutS l n).2)] else (cutS l n).1) := by show _ = _; rw [hn]; rfl
  have HN := hidP hn
  have L0 := hidP (LstM.nil w w.heap.size a cap)
  have W0 := hidP (Below.refl w.heap.size w)
  have HLC : Hid (∀ k, (cutS l k).1.length ≤ k) := fun k => by
    induction k with
    | zero => simp [cutS]
    | succ k ih =>
      unfold cutS
      split
      · omega
      · simp; omega
  clear h hcl hn
  go_enter Tryz.func101, Tryz.ntmps101
  go_wp2
  go_loopw [3, 4, 9] (fun s3 s4 i wr => ∃ (k : Nat) (cs : List (Nat × Nat)) (f : Nat) (vl : Value), k ≤ n ∧ vl = s3 ∧ s4 = .int .i64 (f : Int) ∧ i = .int .i64 k ∧ f ≤ k ∧ Hid (cutS l k = (cs, f)) ∧ Hid (LstM wr w.heap.size vl a cap cs) ∧ Hid (Below w.heap.size w wr)) (fun _ _ i _ => n - (intOf i).toNat)
  case atStart => exact ⟨0, [], 0, _, Nat.zero_le _, rfl, rfl, rfl, Nat.le_refl _, rfl, L0, W0⟩
  case round =>
    clear L0 W0
    obtain ⟨k, cs, f, vl, hk, rfl, rfl, rfl, hfk, hcs, hL, hW⟩ := hrel
    obtain ⟨w1, hw1⟩ : ∃ w1, w1 = wr := ⟨_, rfl⟩
    subst hw1
    by_cases hlt : k < n
    · have k0 : (0 : Int) ≤ (k : Int) := Int.natCast_nonneg _
      have k1 : (k : Int) < (n : Int) := by omega
      have f0 : (0 : Int) ≤ (f : Int) := Int.natCast_nonneg _
      have f1 : (f : Int) < (n : Int) := by omega
      obtain ⟨b, off, hab, hbl, c0, c1, c2, c3⟩ := arcs_at HA.out (j := k) (by rw [← HN.out]; exact hlt)
      obtain ⟨b', off', hab', _, e0, e1, _, _⟩ := arcs_at HA.out (j := f) (by rw [← HN.out]; omega)
      rw [hab] at hab'
      injection hab' with hab'
      injection hab' with hb1 hb2 _
      subst hb1 hb2
      subst hab
      have c0 := (hW.out.cell (p := ⟨b, off + k * 4, none⟩) hbl).trans c0
      have c1 := (hW.out.cell (p := ⟨b, off + k * 4 + 1, none⟩) hbl).trans c1
      have c2 := (hW.out.cell (p := ⟨b, off + k * 4 + 2, none⟩) hbl).trans c2
      have c3 := (hW.out.cell (p := ⟨b, off + k * 4 + 3, none⟩) hbl).trans c3
      have e0 := (hW.out.cell (p := ⟨b, off + f * 4, none⟩) hbl).trans e0
      have e1 := (hW.out.cell (p := ⟨b, off + f * 4 + 1, none⟩) hbl).trans e1
      have HS1 := hidP (HSU.out k)
      rw [hcs.out] at HS1
      have HCL : Hid (cs.length = (cutS l k).1.length) := by show _ = _; rw [hcs.out]
      have hcl9 := HLC.out k
      have hbw : b < w1.heap.size := Nat.lt_of_lt_of_le hbl hW.out.size
      have hbn : b ≠ w1.heap.size := by omega
      have hlf := (HCI.out k hk).lt
      rw [hcs.out] at hlf hcl9
      simp only at hcl9 hlf
      have HCL : Hid (cs.length ≤ k) := hcl9
      obtain ⟨x, hx⟩ : ∃ x, el l k = x := ⟨_, rfl⟩
      obtain ⟨y, hy⟩ : ∃ y, el l f = y := ⟨_, rfl⟩
      rw [hx] at c0 c1 c2 c3 HS1
      rw [hy] at e0 e1 HS1
      have hkf : k = f → x = y := fun e => by rw [← hx, ← hy, e]
      have HKF := hidP hkf
      clear hx hy hkf
      obtain ⟨x0, x1, x2, x3⟩ := x
      obtain ⟨y0, y1, y2, y3⟩ := y
      simp only at c0 c1 c2 c3 e0 e1 HS1
      have hA := (Below.refl w1.heap.size w1).alloc (Nat.le_refl _) (.cells #[.int .i64 x0, .int .i64 x1, .int .i64 x2, .int .i64 x3] 58)
      have W1 := hidP (hW.out.trans (hA.mono hW.out.size))
      have L1 := hidP (hL.out.later hA)
      clear hA hcl9
      by_cases q0 : x0 = y0
      · by_cases q1 : x1 = y1
        · have HSS : Hid (cutS l (k + 1) = (cs, f)) := by show _ = _; rw [HS1.out, if_pos (show labA (x0, x1, x2, x3) = labA (y0, y1, y2, y3) by simp [labA, q0, q1])]
          have q0' : (x0 != y0) = false := by simp [q0]
          have q1' : (x1 != y1) = false := by simp [q1]
          clear HS1 q0 q1 HKF
          go_wp2
          go_quiet (fail)
          have W2 := hidP (Below.drewNJ W1.out nq)
          have L2 := hidP (L1.out.drewN' nq)
          go_wp2
          go_roundw
          case rel => exact ⟨k + 1, cs, f, _, by omega, rfl, rfl, by go_num, by omega, HSS, L2, W2⟩
          case measure => simp [intOf]; omega
        · have HSD : Hid (cutS l (k + 1) = (cs ++ [(f, k - f)], k)) := by show _ = _; rw [HS1.out, if_neg (show ¬ labA (x0, x1, x2, x3) = labA (y0, y1, y2, y3) by simp [labA, q1])]
          have q0' : (x0 != y0) = false := by simp [q0]
          have q1' : (x1 != y1) = true := by simp [q1]
          have hfk2 : f < k := by
            rcases Nat.lt_or_eq_of_le hfk with g | g
            · exact g
            · have h9 := HKF.out g.symm; simp only [Prod.mk.injEq] at h9; exact absurd h9.2.1 q1
          have hpie := run_pieJ (some ⟨b, off, none⟩) n cap f k hfk2 (by omega)
          clear HS1 q0 q1 HKF
          go_wp2
          go_quiet (fail)
          have W2 := hidP (Below.drewNJ W1.out nq)
          have L2 := hidP (L1.out.drewN' nq)
          obtain ⟨w3, hw3⟩ : ∃ w3, w3 = (w1.alloc (.cells #[.int .i64 x0, .int .i64 x1, .int .i64 x2, .int .i64 x3] 58)).drewN nq := ⟨_, rfl⟩
          rw [← hw3] at W2 L2 ⊢
          clear hw3
          obtain ⟨v4, w4, r4, l4, b4⟩ := L2.out.push (f, k - f) (by have := HCL.out; omega) W2.out.size
          have HR4 := hidP r4
          have L4 := hidP l4
          have W4 := hidP (W2.out.trans b4)
          obtain ⟨a4, n4, c4, hv4⟩ := slThreeJ l4.sl
          subst hv4
          clear r4 l4 b4 L2
          go_wp2_with (first | (at_builtin; refine wpListAppendRun rfl _ _ 135 rfl rfl rfl HR4.out ?_))
          go_roundw
          case rel => exact ⟨k + 1, cs ++ [(f, k - f)], k, _, by omega, rfl, rfl, by go_num, by omega, HSD, L4, W4⟩
          case measure => simp [intOf]; omega
      · have HSD : Hid (cutS l (k + 1) = (cs ++ [(f, k - f)], k)) := by show _ = _; rw [HS1.out, if_neg (show ¬ labA (x0, x1, x2, x3) = labA (y0, y1, y2, y3) by simp [labA, q0])]
        have q0' : (x0 != y0) = true := by simp [q0]
        have hfk2 : f < k := by
          rcases Nat.lt_or_eq_of_le hfk with g | g
          · exact g
          · have h9 := HKF.out g.symm; simp only [Prod.mk.injEq] at h9; exact absurd h9.1 q0
        have hpie := run_pieJ (some ⟨b, off, none⟩) n cap f k hfk2 (by omega)
        clear HS1 q0 HKF
        go_wp2
        go_quiet (fail)
        have W2 := hidP (Below.drewNJ W1.out nq)
        have L2 := hidP (L1.out.drewN' nq)
        obtain ⟨w3, hw3⟩ : ∃ w3, w3 = (w1.alloc (.cells #[.int .i64 x0, .int .i64 x1, .int .i64 x2, .int .i64 x3] 58)).drewN nq := ⟨_, rfl⟩
        rw [← hw3] at W2 L2 ⊢
        clear hw3
        obtain ⟨v4, w4, r4, l4, b4⟩ := L2.out.push (f, k - f) (by have := HCL.out; omega) W2.out.size
        have HR4 := hidP r4
        have L4 := hidP l4
        have W4 := hidP (W2.out.trans b4)
        obtain ⟨a4, n4, c4, hv4⟩ := slThreeJ l4.sl
        subst hv4
        clear r4 l4 b4 L2
        go_wp2_with (first | (at_builtin; refine wpListAppendRun rfl _ _ 135 rfl rfl rfl HR4.out ?_))
        go_roundw
        case rel => exact ⟨k + 1, cs ++ [(f, k - f)], k, _, by omega, rfl, rfl, by go_num, by omega, HSD, L4, W4⟩
        case measure => simp [intOf]; omega
    · have hk1 : ¬ (k : Int) < (n : Int) := by omega
      obtain rfl : k = n := by omega
      rw [hcs.out] at HCU
      simp only at HCU
      have hcl9 := HLC.out k
      rw [hcs.out] at hcl9
      simp only at hcl9
      by_cases hfn : f < k
      · rw [if_pos hfn] at HCU
        have hfn' : (f : Int) < (k : Int) := by omega
        have hpie := run_endJ a k cap f hfn (by omega)
        obtain ⟨v4, w4, r4, l4, b4⟩ := hL.out.push (f, k - f) (by omega) hW.out.size
        have HR4 := hidP r4
        have L4 := hidP l4
        have W4 := hidP (hW.out.trans b4)
        obtain ⟨a4, n4, c4, hv4⟩ := slThreeJ l4.sl
        subst hv4
        clear r4 l4 b4 hcl9
        go_wp2_with (first | (at_builtin; refine wpListAppendRun rfl _ _ 135 rfl rfl rfl HR4.out ?_))
        go_ret
        exact ⟨_, rfl, by rw [HCU.out]; exact L4.out, W4.out⟩
      · rw [if_neg hfn] at HCU
        have hfn' : ¬ (f : Int) < (k : Int) := by omega
        obtain ⟨a4, n4, c4, hv4⟩ := slThreeJ hL.out.sl
        subst hv4
        clear hcl9
        go_wp2
        go_ret
        exact ⟨_, rfl, by rw [HCU.out]; exact hL.out, hW.out⟩
end Go.Proofs.YtfhjncpakgailaaGreatDoor.Wt
namespace Go.Proofs.YtfhjncpakgailaaGreatDoor.Pl
set_option linter.unusedVariables false
set_option linter.unusedSimpArgs false
def lsU (g : List Ar) (k : Nat) : Int := mnL ((el g 0).2.2.1 :: (g.take k).map fun a => a.2.2.1)
theorem lsU_zero {g : List Ar} (h : (el g 0).2.2.1 < noneI) : lsU g 0 = (el g 0).2.2.1 := by
 unfold lsU
 simp only [List.take_zero, List.map_nil, mnL]
 rw [if_pos h]
theorem lsU_succ {g : List Ar} {k : Nat} (hk : k < g.length) (h : (el g k).2.2.1 ≤ noneI) : lsU g (k + 1) = if (el g k).2.2.1 < lsU g k then (el g k).2.2.1 else lsU g k := by
 unfold lsU
 rw [take_el hk, List.map_append]
 exact mnL_snoc ((el g 0).2.2.1 :: (g.take k).map fun a => a.2.2.1) _ h
theorem lsU_all {g : List Ar} (h0 : 0 < g.length) : lsU g g.length = mnL (g.map fun a => a.2.2.1) := by
 unfold lsU
 rw [List.take_length]
 simp only [mnL]
 have h1 := mnL_le (List.mem_map.2 ⟨el g 0, el_mem h0, rfl⟩ : (el g 0).2.2.1 ∈ g.map fun a => a.2.2.1)
 rw [if_neg (by omega)]
theorem tgU_ne {g : List Ar} {c : Int} {k : Nat} (h : 0 < k) : tgU g c k ≠ [] := fun e => by
 have h1 : ((el g 0).2.2.2, (el g 0).2.2.1 - c) ∈ tgU g c k := mem_tgU.2 ⟨0, h, .inl rfl, rfl⟩
 rw [e] at h1
 cases h1
end Go.Proofs.YtfhjncpakgailaaGreatDoor.Pl
