/- The statement LeastApart: whatever numbers a machine is made of, no two states of the smallest machine are alike, or it is too large to be made certain, for every input and without any condition (where the table of powers of ten that the standard library reads is as its text lays it: that is the card's tie). -/
import Derived.Test.YtfhjncpakgailaaGreatDoorCards
import Derived.Test.YtfhjncpakgailaaGreatDoorTie
import Derived.Test.YtfhjncpakgailaaGreatDoorPac
import Derived.Test.YtfhjncpakgailaaGreatDoorPah
import Derived.Test.YtfhjncpakgailaaGreatDoorPaP
import Derived.Test.YtfhjncpakgailaaGreatDoorPaQ
import Derived.Test.YtfhjncpakgailaaGreatDoorPad
import Derived.Test.YtfhjncpakgailaaGreatDoorPag
import Derived.Lib.SmallJoins
import Derived.ChangeOld
import Derived.Below
import Derived.Deep.DeepHandedRow
import Derived.Stop.LaidErr
import Derived.BigQuiet
import Derived.Deep.DeepCutAuto
namespace Go.Proofs.YtfhjncpakgailaaGreatDoor.leastApart
open Go.ChangeShapes Go.WideShapes Go.ChangeAt Go.RowKit
open Go.Proofs.YtfhjncpakgailaaGreatDoor.Pl Go.Proofs.YtfhjncpakgailaaGreatDoor.Wt
set_option linter.unusedVariables false
set_option linter.unusedSimpArgs false
theorem own : ownKnob Tryz.prog.godebug = none := by kernel_rfl
theorem laidOut : laidOutB Tryz.prog = true := by kernel_rfl
theorem right_toX {m : Mc} (hr : faultM m = 0) : ∀ q, q < m.2.length → ∀ a ∈ (el m.2 q).2, ∃ t : Nat, a.2.2.2 = (t : Int) ∧ t < m.2.length := fun q hq a ha => by
 have h1 := (right_parts hr).2 _ (el_mem hq)
 simp only [stB, Bool.and_eq_true, List.all_eq_true] at h1
 have h2 := h1.2 _ ha
 simp only [arcB, inB, Bool.and_eq_true, decide_eq_true_eq] at h2
 exact ⟨a.2.2.2.toNat, by omega, by omega⟩
theorem infoBoolA : (Tryz.prog.info? 4).map (fun i => (i.zero, i.size, i.bytes)) = some (some (.bool false), 1, 1) := by kernel_rfl
theorem run_boolsA (n : Nat) (hn : n ≤ 5000) (W : World) : (Instr.makeSlice 53 (.int .i64 (n : Int)) (.int .i64 (n : Int))).run Tryz.prog W = .ok (.slice (some ⟨W.heap.size, 0, none⟩) n n) (W.alloc (.cells (Array.replicate n (Value.bool false)) 4)) := by
 obtain ⟨i1, hi1, hy0, hy1, hy2⟩ := info_parts infoBoolA
 have h := run_make (P := Tryz.prog) W 53 4 i1 _ Tryz.underlying53 hi1 hy0 .i64 .i64 n n (by omega) (by omega) (by rw [hy2]; omega) (by omega)
 rw [hy1, Int.toNat_natCast] at h
 have hz : Value.cells (.bool false) = #[.bool false] := rfl
 have e : madeCells (Value.cells (.bool false)) (n * 1) = Array.replicate n (Value.bool false) := by
  apply Array.ext_getElem?
  intro t
  simp only [madeCells, hz]
  by_cases ht : t < n
  ·simp [ht, Nat.mod_one]
  ·simp [ht]
 rw [e] at h
 exact h
theorem tbl_cell {w : World} {G : Nat} {D : List Bool} {t : TypeId} (h : Blk w G (D.map Value.bool).toArray t) {k : Nat} (hk : k < D.length) {b : Bool} (hb : el D k = b) : w.cell? ⟨G, k, none⟩ = some (.bool b) := by
 refine h.cell k ?_
 rw [← hb, el_get hk]
 simp [hk]
theorem tbl_put {w : World} {G : Nat} {D : List Bool} {t : TypeId} (h : Blk w G (D.map Value.bool).toArray t) (k : Nat) (b : Bool) : Blk (w.setCell ⟨G, k, none⟩ (.bool b)) G ((D.set k b).map Value.bool).toArray t := by
 have h9 := h.set k (.bool b)
 rw [List.setIfInBounds_toArray, ← List.map_set] at h9
 exact h9
theorem below_drewT {B : Nat} {w w' : World} (h : Below B w w') (n : Nat) : Below B w (w'.drewN n) := ⟨h.os, h.tape, h.output, h.size, h.block⟩
set_option maxRecDepth 100000 in
set_option maxHeartbeats 12800000 in
theorem core (vx : Value) (rx : Rw) (w : World) (hx : RawV w vx rx ∧ okR rx ∧ wfR rx) (htab : Tab w) :
  Calls Tryz.prog 6 #[vx] w fun e w' => e = .returned (.bool true) ∧ Below w.heap.size w w' := by
 have HTB : Hid (Tab w) := htab
 clear htab
 obtain ⟨hx, hokx, hwfx⟩ := hx
 have HIx : Hid (RawV w vx rx) := hx
 have HOKx : Hid (okR rx) := hokx
 have HWFx : Hid (wfR rx) := hwfx
 obtain ⟨vs0x, rfl, hNx⟩ := hx
 obtain ⟨a0x, c0x, rfl, hNxx⟩ := hNx.get
 clear hNx hNxx hokx hwfx
 rcases cerK_two rx 5 (by omega) (by omega) with hE | ⟨U, hU⟩
 ·have HFU : Hid (∀ v W, Tab W → RawV W v rx → okR rx → wfR rx → Calls Tryz.prog 9 #[v, .int .i64 5] W fun e w' => e = .returned (.bool true) ∧ Below W.heap.size W w') := fun v W hT h1 h2 h3 => full5_any v rx W h1 h2 h3 _ _ hE true rfl hT
  clear hE
  have HB0 : Hid (∀ o1, Below w.heap.size w (w.alloc o1)) := fun o1 => (Below.refl _ _).alloc (Nat.le_refl _) _
  go_enter Tryz.func6, Tryz.ntmps6
  go_wp2_with (first
   | (go_at_call 9; (with_reducible refine (HFU.out _ _ (HTB.out.later (HB0.out _)) (HIx.out.later (HB0.out _) (Nat.le_refl _)) HOKx.out HWFx.out).mono ?_); rintro e w1 ⟨rfl, hb⟩; obtain ⟨s1, bb0, hb1⟩ := boxed hb (by simp); have KX1 := hidP bb0; clear bb0; have HB1 := hidP hb1; have qX0 := KX1.out.cell 0 (v := .int .i64 rx.1) rfl; have qX1 := KX1.out.cell 1 (v := .slice a0x rx.2.length c0x) rfl; clear hb hb1))
  go_ret
  exact ⟨rfl, HB1.out⟩
 ·have HFU : Hid (∀ v W, Tab W → RawV W v rx → okR rx → wfR rx → Calls Tryz.prog 9 #[v, .int .i64 5] W fun e w' => e = .returned (.bool false) ∧ Below W.heap.size W w') := fun v W hT h1 h2 h3 => full5_any v rx W h1 h2 h3 _ _ hU.eq false rfl hT
  have HSM : Hid (∀ v W, Tab W → RawV W v rx → okR rx → wfR rx → Calls Tryz.prog 10 #[v, .int .i64 5] W fun e w' => ∃ v1 v2 Y, ∃ tt : Int, e = .returned (.tuple #[v1, v2, .int .i64 tt, .bool true]) ∧ (∃ p T vs, SmlU U Y tt p T vs) ∧ Mach w' v1 U ∧ Mach w' v2 Y ∧ Below W.heap.size W w') := fun v W hT h1 h2 h3 => small5_any v rx W h1 h2 h3 U hU.eq hU.right hU.cheap hU.crt hT
  have HAP : Hid (∀ Y tt, (∃ p T vs, SmlU U Y tt p T vs) → ∀ n k D, Y.2.length = n → RndT Y.2 k 0 0 (tblF n D) → n ≤ k → ∀ i j, i < n → j < n → el D (i * n + j) = decide (i ≠ j)) := fun Y tt ⟨p, T, vs, hS⟩ n k D hn hR hk i j hi hj => RndT.end hS hn (right_toX hS.right) hR hk hi hj
  have HRI : Hid (∀ Y tt, (∃ p T vs, SmlU U Y tt p T vs) → faultM Y = 0) := fun Y tt ⟨p, T, vs, hS⟩ => hS.right
  have t4 : ((U.2.length : Int) == 0) = false := by have := hU.pos; exact beq_eq_false_iff_ne.2 (by omega)
  clear hU
  have HB0 : Hid (∀ o1, Below w.heap.size w (w.alloc o1)) := fun o1 => (Below.refl _ _).alloc (Nat.le_refl _) _
  go_enter Tryz.func6, Tryz.ntmps6
  go_upto_region 6 with (first
   | (go_at_call 9; (with_reducible refine (HFU.out _ _ (HTB.out.later (HB0.out _)) (HIx.out.later (HB0.out _) (Nat.le_refl _)) HOKx.out HWFx.out).mono ?_); rintro e w1 ⟨rfl, hb⟩; obtain ⟨s1, bb0, hb1⟩ := boxed hb (by simp); have KX1 := hidP bb0; clear bb0; have HB1 := hidP hb1; have qX0 := KX1.out.cell 0 (v := .int .i64 rx.1) rfl; have qX1 := KX1.out.cell 1 (v := .slice a0x rx.2.length c0x) rfl; clear hb hb1)
   | (go_at_call 10; (with_reducible refine (HSM.out _ _ (HTB.out.later HB1.out) (HIx.out.later HB1.out (Nat.le_refl _)) HOKx.out HWFx.out).mono ?_); rintro e w2 ⟨v2, v2y, Y, tt, rfl, hq, hm, hmy, hb⟩; have HMu : Hid (Mach w2 v2 (U)) := hm; obtain ⟨vsu, rfl, hSu⟩ := hm; obtain ⟨au, cu, rfl⟩ := hSu.sl; clear hSu; have HMy : Hid (Mach w2 v2y Y) := hmy; obtain ⟨vsy, rfl, hSy⟩ := hmy; obtain ⟨ay, cy, rfl⟩ := hSy.sl; clear hSy; have HSU := hidP hq; clear hq; have hb2 := hb; have HB2 := hidP (HB1.out.trans (hb2.mono HB1.out.size)); have KX2 := hidP (KX1.out.below hb2 KX1.out.lt); have qX0 := ((KX2.out.alloc (.cells #[.int .i64 U.1, .slice au U.2.length cu] 29)).alloc (.cells #[.int .i64 Y.1, .slice ay Y.2.length cy] 29)).cell 0 (v := .int .i64 rx.1) rfl; have qX1 := ((KX2.out.alloc (.cells #[.int .i64 U.1, .slice au U.2.length cu] 29)).alloc (.cells #[.int .i64 Y.1, .slice ay Y.2.length cy] 29)).cell 1 (v := .slice a0x rx.2.length c0x) rfl; clear hb hb2))
  have hfy := HRI.out _ _ HSU.out
  have HAL := hidP (HAP.out _ _ HSU.out)
  clear HAP HRI HSU HFU HSM HIx HOKx HWFx HTB qX0 qX1 HMu
  have YB := hidP (Blk.made (w2.alloc (.cells #[.int .i64 U.1, .slice au U.2.length cu] 29)) #[.int .i64 Y.1, .slice ay Y.2.length cy] 29)
  rw [World.size_alloc] at YB
  have B3 : Hid (Below w2.heap.size w2 ((w2.alloc (.cells #[.int .i64 U.1, .slice au U.2.length cu] 29)).alloc (.cells #[.int .i64 Y.1, .slice ay Y.2.length cy] 29))) := ((Below.refl _ _).alloc (Nat.le_refl _) _).alloc (by simp) _
  obtain ⟨zy, l⟩ := Y
  obtain ⟨h60, -⟩ := right_size hfy
  have h60 : l.length ≤ 60 := h60
  have hto := right_toX hfy
  obtain ⟨_, he, hS⟩ := HMy.out
  simp only [Value.agg.injEq, Array.mk.injEq, List.cons.injEq, and_true, true_and] at he
  subst he
  obtain ⟨a', cap', hsl, hc⟩ := hS.get
  simp only [Value.slice.injEq, true_and] at hsl
  obtain ⟨rfl, rfl⟩ := hsl
  have HC : Hid (∀ j, j < l.length → ∃ b off va, ay = some ⟨b, off, none⟩ ∧ b < w2.heap.size ∧ w2.cell? ⟨b, off + j * 2, none⟩ = some (.int .i64 (el l j).1) ∧ w2.cell? ⟨b, off + j * 2 + 1, none⟩ = some va ∧ Arcs w2 va (el l j).2) := hc
  have HTO : Hid (∀ q, q < l.length → ∀ i, i < (el l q).2.length → ∃ t : Nat, (el (el l q).2 i).2.2.2 = (t : Int) ∧ t < l.length) := fun q hq i hi => hto q hq _ (el_mem hi)
  have HST : Hid (∀ j, j < l.length → (el l j).2.length ≤ 400) := fun j hj => (right_states hfy j hj).2.1
  have HPT : Hid (∀ n k a b D c, l.length = n → D.length = n * n → RndT l k a b (tblF n D) → a < n → b < n → (tblF n D a b = true → c = true) → (aptB l (tblF n D) a b = true → c = true) → (c = true → tblF n D a b = true ∨ aptB l (tblF n D) a b = true) → RndT l k a (b + 1) (tblF n (D.set (a * n + b) c))) := fun n k a b D c hn hD hR ha hb h1 h2 h3 => by subst hn; exact RndT.put hto hD hR ha hb h1 h2 h3
  have HAL : Hid (∀ n k D, l.length = n → RndT l k 0 0 (tblF n D) → n ≤ k → ∀ i j, i < n → j < n → el D (i * n + j) = decide (i ≠ j)) := HAL.out
  have HR0 : Hid (∀ n, RndT l 0 0 0 (tblF n (List.replicate (n * n) false))) := fun n => by (show RndT _ _ _ _ _); rw [tbl_start]; exact RndT.start l
  have HRW : Hid (∀ k a b T, RndT l k a b T → l.length ≤ b → RndT l k (a + 1) 0 T) := fun k a b T h hb => h.row hb
  have HRR : Hid (∀ k a b T, RndT l k a b T → l.length ≤ a → RndT l (k + 1) 0 0 T) := fun k a b T h hb => h.round hb
  have HLY : Hid (((zy, l) : Mc).2.length = l.length) := rfl
  have HB2 := HB2
  clear hS hc hfy hto HMy
  simp only at YB B3
  obtain ⟨n, hn⟩ : ∃ n, l.length = n := ⟨_, rfl⟩
  have HN := hidP hn
  rw [hn] at YB B3 h60
  try simp only [hn]
  clear hn
  obtain ⟨N2, hN2⟩ : ∃ N2 : Nat, N2 = n * n := ⟨_, rfl⟩
  have hNb : N2 ≤ 3600 := by rw [hN2]; exact Nat.mul_le_mul h60 h60
  have hNN : (N2 : Int) = (n : Int) * (n : Int) := by rw [hN2, Int.natCast_mul]
  have x1 : IntKind.i64.wrap ((n : Int) * (n : Int)) = (N2 : Int) := by rw [← hNN]; exact wrapI (by omega) (by omega)
  clear hNN
  have HN2 := hidP hN2
  clear hN2
  generalize (w2.alloc (.cells #[.int .i64 U.1, .slice au U.2.length cu] 29)).alloc (.cells #[.int .i64 zy, .slice ay n cy] 29) = w3 at *
  have y1 := YB.out.cell 1 (v := .slice ay n cy) rfl
  have hmk := run_boolsA N2 (by omega)
  obtain ⟨Yb, hYb⟩ : ∃ Yb, Yb = w2.heap.size + 1 := ⟨_, rfl⟩
  rw [← hYb] at YB y1
  try rw [← hYb]
  have HYB := hidP hYb
  clear hYb
  have hY3 := YB.out.lt
  have h23 := B3.out.size
  have TB : Hid (Blk (w3.alloc (.cells (Array.replicate N2 (Value.bool false)) 4)) w3.heap.size ((List.replicate N2 false).map Value.bool).toArray 4) := by
   show Blk _ _ _ _
   rw [show ((List.replicate N2 false).map Value.bool).toArray = Array.replicate N2 (Value.bool false) from by simp]
   exact Blk.made _ _ _
  have YB3 := hidP (YB.out.alloc (.cells (Array.replicate N2 (Value.bool false)) 4))
  have B4 := hidP (B3.out.alloc B3.out.size (.cells (Array.replicate N2 (Value.bool false)) 4))
  go_wp2
  generalize w3.heap.size = G at *
  clear hmk y1
  go_loopw [9] (fun s9 wr => ∃ (k : Nat) (D : List Bool), s9 = .int .i64 k ∧ k ≤ n + 1 ∧ Hid (D.length = N2) ∧ Hid (RndT l k 0 0 (tblF n D)) ∧ Hid (Blk wr G (D.map Value.bool).toArray 4) ∧ Hid (Blk wr Yb #[.int .i64 zy, .slice ay n cy] 29) ∧ Hid (Below w2.heap.size w2 wr)) (fun s9 _ => n + 1 - (intOf s9).toNat)
  case atStart => exact ⟨0, List.replicate N2 false, by go_num, Nat.zero_le _, List.length_replicate, by rw [HN2.out]; exact HR0.out n, TB, YB3, B4⟩
  case round =>
   clear TB YB3 B4 YB B3 HR0
   obtain ⟨k, D, rfl, hk, hD, hR, hT, hY, hb⟩ := hrel
   by_cases hkn : k ≤ n
   ·have hkn' : (k : Int) ≤ (n : Int) := by omega
    go_wp2
    go_loopw [10] (fun s10 wr => ∃ (q : Nat) (D : List Bool), s10 = .int .i64 q ∧ q ≤ n ∧ Hid (D.length = N2) ∧ Hid (RndT l k q 0 (tblF n D)) ∧ Hid (Blk wr G (D.map Value.bool).toArray 4) ∧ Hid (Blk wr Yb #[.int .i64 zy, .slice ay n cy] 29) ∧ Hid (Below w2.heap.size w2 wr)) (fun s10 _ => n - (intOf s10).toNat)
    case atStart => exact ⟨0, D, by go_num, Nat.zero_le _, hD, hR, hT, hY, hb⟩
    case round =>
     clear hD hR hT hY hb
     obtain ⟨q, D, rfl, hq, hD, hR, hT, hY, hb⟩ := hrel
     by_cases hqn : q < n
     ·have hqn' : (q : Int) < (n : Int) := by omega
      have hq0 : (0 : Int) ≤ (q : Int) := by omega
      go_wp2
      go_loopw [11] (fun s11 wr => ∃ (p : Nat) (D : List Bool), s11 = .int .i64 p ∧ p ≤ n ∧ Hid (D.length = N2) ∧ Hid (RndT l k q p (tblF n D)) ∧ Hid (Blk wr G (D.map Value.bool).toArray 4) ∧ Hid (Blk wr Yb #[.int .i64 zy, .slice ay n cy] 29) ∧ Hid (Below w2.heap.size w2 wr)) (fun s11 _ => n - (intOf s11).toNat)
      case atStart => exact ⟨0, D, by go_num, Nat.zero_le _, hD, hR, hT, hY, hb⟩
      case round =>
       clear hD hR hT hY hb
       obtain ⟨p, D, rfl, hp, hD, hR, hT, hY, hb⟩ := hrel
       by_cases hpn : p < n
       ·have hpn' : (p : Int) < (n : Int) := by omega
        have hp0 : (0 : Int) ≤ (p : Int) := by omega
        obtain ⟨M, hM⟩ : ∃ M : Nat, M = q * n := ⟨_, rfl⟩
        obtain ⟨K, hK⟩ : ∃ K : Nat, K = M + p := ⟨_, rfl⟩
        have hKb : K < N2 := by rw [hK, hM, HN2.out]; exact flt_lt hqn hpn
        have m1 : IntKind.i64.wrap ((q : Int) * (n : Int)) = (M : Int) := by rw [← Int.natCast_mul, ← hM]; exact wrapI (by omega) (by omega)
        have m2 : IntKind.i64.wrap ((M : Int) + (p : Int)) = (K : Int) := by rw [wrapI (by omega) (by omega)]; omega
        have hK0 : (0 : Int) ≤ (K : Int) := by omega
        have hK1 : (K : Int) < (N2 : Int) := by omega
        have HP2 : Hid (∀ c, (tblF n D q p = true → c = true) → (aptB l (tblF n D) q p = true → c = true) → (c = true → tblF n D q p = true ∨ aptB l (tblF n D) q p = true) → RndT l k q (p + 1) (tblF n (D.set K c))) := fun c h1 h2 h3 => by rw [hK, hM]; exact HPT.out n k q p D c HN.out (by rw [hD.out, HN2.out]) hR.out hqn hpn h1 h2 h3
        have HTK : Hid (tblF n D q p = el D K) := by (show _ = _); unfold tblF; rw [hK, hM]
        have HKI : Hid (∀ t u, t < n → u < n → t * n + u = K → t = q ∧ u = p) := fun t u ht hu e => (flt_one hu hpn).1 (by rw [e, hK, hM])
        clear hM hK
        obtain ⟨b3, off, v1, hab, hbl, s0, s1, sA⟩ := HC.out q (by rw [HN.out]; exact hqn)
        obtain ⟨b3', off', v2, hab', hbl', t0, t1, tA⟩ := HC.out p (by rw [HN.out]; exact hpn)
        rw [hab] at hab'
        injection hab' with hab'
        injection hab' with hb1 hb2 _
        subst hb1 hb2
        have s0 := (hb.out.cell (p := ⟨b3, off + q * 2, none⟩) hbl).trans s0
        have s1 := (hb.out.cell (p := ⟨b3, off + q * 2 + 1, none⟩) hbl).trans s1
        have t0 := (hb.out.cell (p := ⟨b3, off + p * 2, none⟩) hbl).trans t0
        have t1 := (hb.out.cell (p := ⟨b3, off + p * 2 + 1, none⟩) hbl).trans t1
        have hTO1 := HTO.out q (by rw [HN.out]; exact hqn)
        have hTO2 := HTO.out p (by rw [HN.out]; exact hpn)
        have hl4 := HST.out q (by rw [HN.out]; exact hqn)
        rw [HN.out] at hTO1 hTO2
        have HHD : Hid ((el l q).1 ≠ (el l p).1 ∨ (el l q).2.length ≠ (el l p).2.length → aptB l (tblF n D) q p = true) := fun h => apt_head h
        have HBD : Hid (∀ i, i < (el l q).2.length → badT (tblF n D) (el (el l q).2 i) (el (el l p).2 i) = true → aptB l (tblF n D) q p = true) := fun i hi h => apt_bad hi h
        have HNO : Hid ((el l q).1 = (el l p).1 → (el l q).2.length = (el l p).2.length → (∀ i, i < (el l q).2.length → badT (tblF n D) (el (el l q).2 i) (el (el l p).2 i) = false) → aptB l (tblF n D) q p = false) := fun h1 h2 h3 => apt_none h1 h2 h3
        obtain ⟨sa, sc, rfl, hca⟩ := sA.get
        obtain ⟨ta, tc', rfl, hcb⟩ := tA.get
        have HCA : Hid (∀ j, j < (el l q).2.length → ∃ b off, sa = some ⟨b, off, none⟩ ∧ b < w2.heap.size ∧ w2.cell? ⟨b, off + j * 4, none⟩ = some (.int .i64 (el (el l q).2 j).1) ∧ w2.cell? ⟨b, off + j * 4 + 1, none⟩ = some (.int .i64 (el (el l q).2 j).2.1) ∧ w2.cell? ⟨b, off + j * 4 + 2, none⟩ = some (.int .i64 (el (el l q).2 j).2.2.1) ∧ w2.cell? ⟨b, off + j * 4 + 3, none⟩ = some (.int .i64 (el (el l q).2 j).2.2.2)) := hca
        have HCB : Hid (∀ j, j < (el l p).2.length → ∃ b off, ta = some ⟨b, off, none⟩ ∧ b < w2.heap.size ∧ w2.cell? ⟨b, off + j * 4, none⟩ = some (.int .i64 (el (el l p).2 j).1) ∧ w2.cell? ⟨b, off + j * 4 + 1, none⟩ = some (.int .i64 (el (el l p).2 j).2.1) ∧ w2.cell? ⟨b, off + j * 4 + 2, none⟩ = some (.int .i64 (el (el l p).2 j).2.2.1) ∧ w2.cell? ⟨b, off + j * 4 + 3, none⟩ = some (.int .i64 (el (el l p).2 j).2.2.2)) := hcb
        have HO1 := hidP hTO1
        have HO2 := hidP hTO2
        have y1 := hY.out.cell 1 (v := .slice ay n cy) rfl
        rw [hab] at y1
        have HAY := hidP hab
        clear hca hcb sA tA hTO1 hTO2 hab
        generalize (el l q).1 = fq at *
        generalize (el l p).1 = fp at *
        generalize (el l q).2 = lq at *
        generalize (el l p).2 = lp at *
        obtain ⟨w5, hw5⟩ : ∃ w5, w5 = wr := ⟨_, rfl⟩
        subst hw5
        have hyl := hY.out.lt
        have hgl := hT.out.lt
        have A1 : Below w5.heap.size w5 (w5.alloc (.cells #[.int .i64 fq, .slice sa lq.length sc] 56)) := (Below.refl _ _).alloc (Nat.le_refl _) _
        have y2 := (hY.out.alloc (.cells #[.int .i64 fq, .slice sa lq.length sc] 56)).cell 1 (v := .slice (some ⟨b3, off, none⟩) n cy) (by rw [← HAY.out]; rfl)
        have t2 := (A1.cell (p := ⟨b3, off + p * 2, none⟩) (World.block_lt_of_cell? _ _ t0)).trans t0
        have t3 := (A1.cell (p := ⟨b3, off + p * 2 + 1, none⟩) (World.block_lt_of_cell? _ _ t1)).trans t1
        have S1 := hidP ((Blk.made w5 #[.int .i64 fq, .slice sa lq.length sc] 56).alloc (.cells #[.int .i64 fp, .slice ta lp.length tc'] 56))
        have S2 := hidP (Blk.made (w5.alloc (.cells #[.int .i64 fq, .slice sa lq.length sc] 56)) #[.int .i64 fp, .slice ta lp.length tc'] 56)
        rw [World.size_alloc] at S2
        have T5 := hidP ((hT.out.alloc (.cells #[.int .i64 fq, .slice sa lq.length sc] 56)).alloc (.cells #[.int .i64 fp, .slice ta lp.length tc'] 56))
        have Y5 := hidP ((hY.out.alloc (.cells #[.int .i64 fq, .slice sa lq.length sc] 56)).alloc (.cells #[.int .i64 fp, .slice ta lp.length tc'] 56))
        have B5 := hidP ((hb.out.alloc hb.out.size (.cells #[.int .i64 fq, .slice sa lq.length sc] 56)).alloc (hb.out.alloc hb.out.size (.cells #[.int .i64 fq, .slice sa lq.length sc] 56)).size (.cells #[.int .i64 fp, .slice ta lp.length tc'] 56))
        clear A1 hT hY hb
        go_upto_region 19 with fail
        generalize ((w5.alloc (.cells #[.int .i64 fq, .slice sa lq.length sc] 56)).alloc (.cells #[.int .i64 fp, .slice ta lp.length tc'] 56)) = w6 at *
        clear s0 s1 t0 t1 y1 y2 t2 t3
        have o0 := S1.out.cell 0 (v := .int .i64 fq) rfl
        have o1 := S1.out.cell 1 (v := .slice sa lq.length sc) rfl
        have o2 := S2.out.cell 0 (v := .int .i64 fp) rfl
        have o3 := S2.out.cell 1 (v := .slice ta lp.length tc') rfl
        have hKc := tbl_cell T5.out (k := K) (by rw [hD.out]; exact hKb) rfl
        have hKf := T5.out.fz K
        by_cases hne : fq = fp ∧ lq.length = lp.length
        rotate_left
        ·have HC1 := hidP (HHD.out (by omega))
         have HR2 := hidP (HP2.out true (fun _ => rfl) (fun _ => rfl) (fun _ => .inr HC1.out))
         have HT2 := hidP (tbl_put T5.out K true)
         have hYG : Yb ≠ G := by omega
         have HY2 := hidP (Y5.out.setO ⟨G, K, none⟩ (.bool true) hYG)
         have HBB := hidP (B5.out.setCell (p := ⟨G, K, none⟩) (by show w2.heap.size ≤ G; omega) (.bool true))
         have HDL : Hid ((D.set K true).length = N2) := by (show _ = _); rw [List.length_set]; exact hD.out
         have NE : ¬ (fq = fp ∧ lq.length = lp.length) := hne
         clear HHD HBD HNO HP2 HTK HKI HCA HCB HO1 HO2 hne
         generalize lq.length = nl at *
         generalize lp.length = nr at *
         by_cases e1 : fq = fp
         ·have e2 : ¬ (nl : Int) = (nr : Int) := by omega
          subst e1
          clear NE
          go_wp2
          go_roundw
          case rel => exact ⟨p + 1, D.set K true, by go_num, by omega, HDL, HR2, HT2, HY2, HBB⟩
          case measure => simp [intOf]; omega
         ·clear NE
          go_wp2
          go_roundw
          case rel => exact ⟨p + 1, D.set K true, by go_num, by omega, HDL, HR2, HT2, HY2, HBB⟩
          case measure => simp [intOf]; omega
        obtain ⟨rfl, hlr⟩ := hne
        have HLR := hidP hlr
        rw [← hlr] at o3 S2
        have HNN : Hid ((∀ i, i < lq.length → badT (tblF n D) (el lq i) (el lp i) = false) → aptB l (tblF n D) q p = false) := fun h => HNO.out rfl HLR.out h
        clear HHD hlr HNO
        obtain ⟨nl, hnl⟩ : ∃ nl, lq.length = nl := ⟨_, rfl⟩
        have HNL := hidP hnl
        rw [hnl] at o1 o3 S1 S2 hl4
        try rw [hnl]
        clear hnl
        obtain ⟨c0, hc0⟩ : ∃ c0, el D K = c0 := ⟨_, rfl⟩
        have HC0 : Hid (tblF n D q p = c0) := by (show _ = _); rw [HTK.out, hc0]
        have HDS : Hid (D.set K c0 = D) := by (show _ = _); rw [← hc0, el_get (by rw [hD.out]; exact hKb), List.set_getElem_self]
        clear hc0 hKc
        go_wp2
        go_loopw [14] (fun s14 wr => ∃ (j : Nat) (c : Bool), s14 = .int .i64 j ∧ j ≤ nl ∧ Hid (c0 = true → c = true) ∧ Hid (c = true → c0 = true ∨ aptB l (tblF n D) q p = true) ∧ Hid (∀ i, i < j → badT (tblF n D) (el lq i) (el lp i) = true → c = true) ∧ Hid (Blk wr w5.heap.size #[.int .i64 fq, .slice sa nl sc] 56) ∧ Hid (Blk wr (w5.heap.size + 1) #[.int .i64 fq, .slice ta nl tc'] 56) ∧ Hid (Blk wr G ((D.set K c).map Value.bool).toArray 4) ∧ Hid (Blk wr Yb #[.int .i64 zy, .slice ay n cy] 29) ∧ Hid (Below w2.heap.size w2 wr)) (fun s14 _ => nl - (intOf s14).toNat)
        case atStart => exact ⟨0, c0, by go_num, Nat.zero_le _, fun h => h, fun h => .inl h, fun i hi => absurd hi (Nat.not_lt_zero _), S1, S2, by rw [HDS.out]; exact T5.out, Y5, B5⟩
        case round =>
         clear S1 S2 T5 Y5 B5 o0 o1 o2 o3 hKf
         obtain ⟨j, c, rfl, hj, hc1, hc2, hc3, S1, S2, T5, Y5, B5⟩ := hrel
         have o1 := S1.out.cell 1 (v := .slice sa nl sc) rfl
         by_cases hjn : j < nl
         ·have hjn' : (j : Int) < (nl : Int) := by omega
          have hj0 : (0 : Int) ≤ (j : Int) := by omega
          obtain ⟨b4, of4, rfl, hb4, g0, g1, g2, g3⟩ := HCA.out j (by rw [HNL.out]; exact hjn)
          obtain ⟨b5, of5, rfl, hb5, r0, r1, r2, r3⟩ := HCB.out j (by rw [← HLR.out, HNL.out]; exact hjn)
          obtain ⟨t, et, htn⟩ := HO1.out j (by rw [HNL.out]; exact hjn)
          obtain ⟨u, eu, hun⟩ := HO2.out j (by rw [← HLR.out, HNL.out]; exact hjn)
          have HBJ := hidP (HBD.out j (by rw [HNL.out]; exact hjn))
          have HBA : Hid (badT (tblF n D) (el lq j) (el lp j) = (decide ((el lq j).1 ≠ (el lp j).1) || decide ((el lq j).2.1 ≠ (el lp j).2.1) || decide ((el lq j).2.2.1 ≠ (el lp j).2.2.1) || tblF n D t u)) := by (show _ = _); unfold badT; rw [et, eu, Int.toNat_natCast, Int.toNat_natCast]
          have HC4 : Hid (∀ c', (c = true → c' = true) → (badT (tblF n D) (el lq j) (el lp j) = true → c' = true) → ∀ i, i < j + 1 → badT (tblF n D) (el lq i) (el lp i) = true → c' = true) := fun c' h1 h2 i hi h => by
           rcases Nat.lt_or_ge i j with x | x
           ·exact h1 (hc3.out i x h)
           ·exact h2 (by rw [show j = i by omega]; exact h)
          rw [et] at g3
          rw [eu] at r3
          have g0 := (B5.out.cell (p := ⟨b4, of4 + j * 4, none⟩) hb4).trans g0
          have g1 := (B5.out.cell (p := ⟨b4, of4 + j * 4 + 1, none⟩) hb4).trans g1
          have g2 := (B5.out.cell (p := ⟨b4, of4 + j * 4 + 2, none⟩) hb4).trans g2
          have g3 := (B5.out.cell (p := ⟨b4, of4 + j * 4 + 3, none⟩) hb4).trans g3
          have r0 := (B5.out.cell (p := ⟨b5, of5 + j * 4, none⟩) hb5).trans r0
          have r1 := (B5.out.cell (p := ⟨b5, of5 + j * 4 + 1, none⟩) hb5).trans r1
          have r2 := (B5.out.cell (p := ⟨b5, of5 + j * 4 + 2, none⟩) hb5).trans r2
          have r3 := (B5.out.cell (p := ⟨b5, of5 + j * 4 + 3, none⟩) hb5).trans r3
          have c2 := S2.out.cell 1 (v := .slice (some ⟨b5, of5, none⟩) nl tc') rfl
          obtain ⟨M2, hM2⟩ : ∃ M2 : Nat, M2 = t * n := ⟨_, rfl⟩
          obtain ⟨K2, hK2⟩ : ∃ K2 : Nat, K2 = M2 + u := ⟨_, rfl⟩
          have hKb2 : K2 < N2 := by rw [hK2, hM2, HN2.out]; exact flt_lt htn hun
          have m3 : IntKind.i64.wrap ((t : Int) * (n : Int)) = (M2 : Int) := by rw [← Int.natCast_mul, ← hM2]; exact wrapI (by omega) (by omega)
          have m4 : IntKind.i64.wrap ((M2 : Int) + (u : Int)) = (K2 : Int) := by rw [wrapI (by omega) (by omega)]; omega
          have hK20 : (0 : Int) ≤ (K2 : Int) := by omega
          have hK21 : (K2 : Int) < (N2 : Int) := by omega
          have HBO' : Hid ((el (D.set K c) K2 = true → tblF n D t u = true ∨ c = true) ∧ (tblF n D t u = true → el (D.set K c) K2 = true ∨ c = true)) := by
           have e0 : tblF n D t u = el D K2 := by unfold tblF; rw [hK2, hM2]
           show _ ∧ _
           rw [e0]
           by_cases hkk : K = K2
           ·rw [← hkk, el_get (by rw [List.length_set, hD.out]; exact hKb), List.getElem_set_self]
            refine ⟨fun h => .inr h, fun h => .inl (hc1.out ?_)⟩
            rw [← HC0.out, HTK.out]; exact h
           ·have : el (D.set K c) K2 = el D K2 := by simp only [el, List.getD_eq_getElem?_getD, List.getElem?_set_ne hkk]
            rw [this]
            exact ⟨fun h => .inl h, fun h => .inl h⟩
          have hDc : (D.set K c).length = N2 := by rw [List.length_set]; exact hD.out
          clear hM2 hK2 et eu hb4 hb5
          generalize badT (tblF n D) (el lq j) (el lp j) = bad at *
          generalize tblF n D t u = btu at *
          generalize el lq j = pp at *
          generalize el lp j = qq at *
          obtain ⟨p0, p1, p2, p3⟩ := pp
          obtain ⟨q0, q1, q2, q3⟩ := qq
          simp only at g0 g1 g2 r0 r1 r2
          have HBA : Hid (bad = (decide (p0 ≠ q0) || decide (p1 ≠ q1) || decide (p2 ≠ q2) || btu)) := HBA
          obtain ⟨w7, hw7⟩ : ∃ w7, w7 = wr := ⟨_, rfl⟩
          subst hw7
          have AA : Below w7.heap.size w7 (w7.alloc (.cells #[.int .i64 p0, .int .i64 p1, .int .i64 p2, .int .i64 (t : Int)] 58)) := (Below.refl _ _).alloc (Nat.le_refl _) _
          have c2a := (S2.out.alloc (.cells #[.int .i64 p0, .int .i64 p1, .int .i64 p2, .int .i64 (t : Int)] 58)).cell 1 (v := .slice (some ⟨b5, of5, none⟩) nl tc') rfl
          have r0a := (AA.cell (p := ⟨b5, of5 + j * 4, none⟩) (World.block_lt_of_cell? _ _ r0)).trans r0
          have r1a := (AA.cell (p := ⟨b5, of5 + j * 4 + 1, none⟩) (World.block_lt_of_cell? _ _ r1)).trans r1
          have r2a := (AA.cell (p := ⟨b5, of5 + j * 4 + 2, none⟩) (World.block_lt_of_cell? _ _ r2)).trans r2
          have r3a := (AA.cell (p := ⟨b5, of5 + j * 4 + 3, none⟩) (World.block_lt_of_cell? _ _ r3)).trans r3
          have X1 := hidP ((Blk.made w7 #[.int .i64 p0, .int .i64 p1, .int .i64 p2, .int .i64 (t : Int)] 58).alloc (.cells #[.int .i64 q0, .int .i64 q1, .int .i64 q2, .int .i64 (u : Int)] 58))
          have X2 := hidP (Blk.made (w7.alloc (.cells #[.int .i64 p0, .int .i64 p1, .int .i64 p2, .int .i64 (t : Int)] 58)) #[.int .i64 q0, .int .i64 q1, .int .i64 q2, .int .i64 (u : Int)] 58)
          rw [World.size_alloc] at X2
          have hlt7 : G < w7.heap.size := T5.out.lt
          have S1b := hidP ((S1.out.alloc (.cells #[.int .i64 p0, .int .i64 p1, .int .i64 p2, .int .i64 (t : Int)] 58)).alloc (.cells #[.int .i64 q0, .int .i64 q1, .int .i64 q2, .int .i64 (u : Int)] 58))
          have S2b := hidP ((S2.out.alloc (.cells #[.int .i64 p0, .int .i64 p1, .int .i64 p2, .int .i64 (t : Int)] 58)).alloc (.cells #[.int .i64 q0, .int .i64 q1, .int .i64 q2, .int .i64 (u : Int)] 58))
          have T5b := hidP ((T5.out.alloc (.cells #[.int .i64 p0, .int .i64 p1, .int .i64 p2, .int .i64 (t : Int)] 58)).alloc (.cells #[.int .i64 q0, .int .i64 q1, .int .i64 q2, .int .i64 (u : Int)] 58))
          have Y5b := hidP ((Y5.out.alloc (.cells #[.int .i64 p0, .int .i64 p1, .int .i64 p2, .int .i64 (t : Int)] 58)).alloc (.cells #[.int .i64 q0, .int .i64 q1, .int .i64 q2, .int .i64 (u : Int)] 58))
          have B5b := hidP ((B5.out.alloc B5.out.size (.cells #[.int .i64 p0, .int .i64 p1, .int .i64 p2, .int .i64 (t : Int)] 58)).alloc (B5.out.alloc B5.out.size (.cells #[.int .i64 p0, .int .i64 p1, .int .i64 p2, .int .i64 (t : Int)] 58)).size (.cells #[.int .i64 q0, .int .i64 q1, .int .i64 q2, .int .i64 (u : Int)] 58))
          clear AA S1 S2 T5 Y5 B5
          go_upto_region 26 with fail
          clear o1 c2 c2a g0 g1 g2 g3 r0 r1 r2 r3 r0a r1a r2a r3a
          generalize ((w7.alloc (.cells #[.int .i64 p0, .int .i64 p1, .int .i64 p2, .int .i64 (t : Int)] 58)).alloc (.cells #[.int .i64 q0, .int .i64 q1, .int .i64 q2, .int .i64 (u : Int)] 58)) = w8 at *
          have x0 := X1.out.cell 0 (v := .int .i64 p0) rfl
          have x1' := X1.out.cell 1 (v := .int .i64 p1) rfl
          have x2 := X1.out.cell 2 (v := .int .i64 p2) rfl
          have x3 := X1.out.cell 3 (v := .int .i64 (t : Int)) rfl
          have z0 := X2.out.cell 0 (v := .int .i64 q0) rfl
          have z1 := X2.out.cell 1 (v := .int .i64 q1) rfl
          have z2 := X2.out.cell 2 (v := .int .i64 q2) rfl
          have z3 := X2.out.cell 3 (v := .int .i64 (u : Int)) rfl
          have tu := tbl_cell T5b.out (k := K2) (by rw [hDc]; exact hKb2) rfl
          have tk := tbl_cell T5b.out (k := K) (by rw [hDc]; exact hKb) rfl
          have tf := T5b.out.fz K
          have HTB2 : Hid (Blk (World.setCell w8 ⟨G, K, none⟩ (.bool true)) G ((D.set K true).map Value.bool).toArray 4) := by
           have h9 := tbl_put T5b.out K true
           rw [List.set_set] at h9
           exact h9
          have h5s : G < w5.heap.size := hgl
          have n1 : w5.heap.size ≠ G := by omega
          have n2 : w5.heap.size + 1 ≠ G := by omega
          have n3 : Yb ≠ G := by omega
          have hwg : w2.heap.size ≤ G := by omega
          generalize w7.heap.size + 1 = Q2 at *
          generalize w7.heap.size = Q1 at *
          by_cases e0 : p0 = q0
          rotate_left
          ·have b0 : (p0 != q0) = true := by simp [e0]
           have HAT := hidP (HBJ.out (by rw [HBA.out]; simp [e0]))
           clear e0
           go_wp2
           go_roundw
           case rel => exact ⟨j + 1, true, by go_num, by omega, fun _ => rfl, fun _ => .inr HAT.out, HC4.out true (fun _ => rfl) (fun _ => rfl), S1b.out.setO _ _ n1, S2b.out.setO _ _ n2, HTB2.out, Y5b.out.setO _ _ n3, B5b.out.setCell (p := ⟨G, K, none⟩) hwg _⟩
           case measure => simp [intOf]; omega
          have b0 : (p0 != q0) = false := by simp [e0]
          have HE0 := hidP e0
          clear e0
          by_cases e1 : p1 = q1
          rotate_left
          ·have b1 : (p1 != q1) = true := by simp [e1]
           have HAT := hidP (HBJ.out (by rw [HBA.out]; simp [e1]))
           clear e1
           go_wp2
           go_roundw
           case rel => exact ⟨j + 1, true, by go_num, by omega, fun _ => rfl, fun _ => .inr HAT.out, HC4.out true (fun _ => rfl) (fun _ => rfl), S1b.out.setO _ _ n1, S2b.out.setO _ _ n2, HTB2.out, Y5b.out.setO _ _ n3, B5b.out.setCell (p := ⟨G, K, none⟩) hwg _⟩
           case measure => simp [intOf]; omega
          have b1 : (p1 != q1) = false := by simp [e1]
          have HE1 := hidP e1
          clear e1
          by_cases e2 : p2 = q2
          rotate_left
          ·have b2 : (p2 != q2) = true := by simp [e2]
           have HAT := hidP (HBJ.out (by rw [HBA.out]; simp [e2]))
           clear e2
           go_wp2
           go_roundw
           case rel => exact ⟨j + 1, true, by go_num, by omega, fun _ => rfl, fun _ => .inr HAT.out, HC4.out true (fun _ => rfl) (fun _ => rfl), S1b.out.setO _ _ n1, S2b.out.setO _ _ n2, HTB2.out, Y5b.out.setO _ _ n3, B5b.out.setCell (p := ⟨G, K, none⟩) hwg _⟩
           case measure => simp [intOf]; omega
          have b2 : (p2 != q2) = false := by simp [e2]
          have HE2 := hidP e2
          clear e2
          have HDK := hidP hDc
          cases hbo : el (D.set K c) K2
          ·rw [hbo] at tu HBO'
           have HNB : Hid (bad = true → c = true) := fun h => by
            rw [HBA.out, HE0.out, HE1.out, HE2.out] at h
            simp only [ne_eq, not_true_eq_false, decide_false, Bool.false_or] at h
            rcases HBO'.out.2 h with x | x
            ·cases x
            ·exact x
           clear hbo
           go_wp2
           go_roundw
           case rel => exact ⟨j + 1, c, by go_num, by omega, hc1, hc2, HC4.out c (fun h => h) HNB.out, S1b, S2b, T5b, Y5b, B5b⟩
           case measure => simp [intOf]; omega
          ·rw [hbo] at tu HBO'
           have HAT : Hid (c0 = true ∨ aptB l (tblF n D) q p = true) := by
            rcases HBO'.out.1 rfl with x | x
            ·exact .inr (HBJ.out (by rw [HBA.out, x]; simp))
            ·exact hc2.out x
           clear hbo
           go_wp2
           go_roundw
           case rel => exact ⟨j + 1, true, by go_num, by omega, fun _ => rfl, fun _ => HAT.out, HC4.out true (fun _ => rfl) (fun _ => rfl), S1b.out.setO _ _ n1, S2b.out.setO _ _ n2, HTB2.out, Y5b.out.setO _ _ n3, B5b.out.setCell (p := ⟨G, K, none⟩) hwg _⟩
           case measure => simp [intOf]; omega
         ·have hjn' : ¬ (j : Int) < (nl : Int) := by omega
          have HR2 : Hid (RndT l k q (p + 1) (tblF n (D.set K c))) := by
           refine HP2.out c (fun h => hc1.out (by rw [← HC0.out]; exact h)) (fun h => ?_) (fun h => ?_)
           ·by_cases hbd : ∃ i, i < lq.length ∧ badT (tblF n D) (el lq i) (el lp i) = true
            ·obtain ⟨i, hi, hbi⟩ := hbd
             exact hc3.out i (by rw [HNL.out] at hi; omega) hbi
            ·have h9 : ∀ i, i < lq.length → badT (tblF n D) (el lq i) (el lp i) = false := fun i hi => by
              cases g : badT (tblF n D) (el lq i) (el lp i)
              ·rfl
              ·exact absurd ⟨i, hi, g⟩ hbd
             rw [HNN.out h9] at h; cases h
           ·rw [HC0.out]; exact hc2.out h
          have HDL : Hid ((D.set K c).length = N2) := by (show _ = _); rw [List.length_set]; exact hD.out
          go_wp2
          go_roundw
          case rel => exact ⟨p + 1, D.set K c, by go_num, by omega, HDL, HR2, T5, Y5, B5⟩
          case measure => simp [intOf]; omega
       ·have hpn' : ¬ (p : Int) < (n : Int) := by omega
        have HR2 := hidP (HRW.out _ _ _ _ hR.out (by rw [HN.out]; omega))
        go_wp2
        go_roundw
        case rel => exact ⟨q + 1, D, by go_num, by omega, hD, HR2, hT, hY, hb⟩
        case measure => simp [intOf]; omega
     ·have hqn' : ¬ (q : Int) < (n : Int) := by omega
      have HR2 := hidP (HRR.out _ _ _ _ hR.out (by rw [HN.out]; omega))
      go_wp2
      go_roundw
      case rel => exact ⟨k + 1, D, by go_num, by omega, hD, HR2, hT, hY, hb⟩
      case measure => simp [intOf]; omega
   ·have hkn' : ¬ (k : Int) ≤ (n : Int) := by omega
    have HEL : Hid (∀ i j, i < n → j < n → el D (i * n + j) = decide (i ≠ j)) := HAL.out n k D HN.out hR.out (by omega)
    clear hR HAL HPT HRW HRR HTO HST HC hkn
    obtain ⟨w5, hw5⟩ : ∃ w5, w5 = wr := ⟨_, rfl⟩
    subst hw5
    go_wp2
    go_loopw [17] (fun s17 wr => ∃ (q : Nat) (m : Nat), s17 = .int .i64 q ∧ q ≤ n ∧ wr = w5.drewN m) (fun s17 _ => n - (intOf s17).toNat)
    case atStart => exact ⟨0, 0, by go_num, Nat.zero_le _, rfl⟩
    case round =>
     obtain ⟨q, m, rfl, hq, rfl⟩ := hrel
     by_cases hqn : q < n
     ·have hqn' : (q : Int) < (n : Int) := by omega
      have hq0 : (0 : Int) ≤ (q : Int) := by omega
      go_wp2
      go_loopw [18] (fun s18 wr => ∃ (p : Nat) (m : Nat), s18 = .int .i64 p ∧ p ≤ n ∧ wr = w5.drewN m) (fun s18 _ => n - (intOf s18).toNat)
      case atStart => exact ⟨0, _, by go_num, Nat.zero_le _, rfl⟩
      case round =>
       obtain ⟨p, m, rfl, hp, rfl⟩ := hrel
       by_cases hpn : p < n
       ·have hpn' : (p : Int) < (n : Int) := by omega
        have hp0 : (0 : Int) ≤ (p : Int) := by omega
        obtain ⟨M, hM⟩ : ∃ M : Nat, M = q * n := ⟨_, rfl⟩
        obtain ⟨K, hK⟩ : ∃ K : Nat, K = M + p := ⟨_, rfl⟩
        have hKb : K < N2 := by rw [hK, hM, HN2.out]; exact flt_lt hqn hpn
        have m1 : IntKind.i64.wrap ((q : Int) * (n : Int)) = (M : Int) := by rw [← Int.natCast_mul, ← hM]; exact wrapI (by omega) (by omega)
        have m2 : IntKind.i64.wrap ((M : Int) + (p : Int)) = (K : Int) := by rw [wrapI (by omega) (by omega)]; omega
        have hK0 : (0 : Int) ≤ (K : Int) := by omega
        have hK1 : (K : Int) < (N2 : Int) := by omega
        have hcell := HEL.out q p hqn hpn
        rw [← hM, ← hK] at hcell
        have tc : (w5.drewN m).cell? ⟨G, K, none⟩ = some (.bool (decide (q ≠ p))) := tbl_cell hT.out (by rw [hD.out]; exact hKb) hcell
        clear hM hK hcell
        by_cases hqp : q = p
        ·subst hqp
         simp only [ne_eq, not_true_eq_false, decide_false] at tc
         have b0 : ((q : Int) != (q : Int)) = false := by simp
         go_wp2
         go_roundw
         case rel => exact ⟨q + 1, _, by go_num, by omega, rfl⟩
         case measure => simp [intOf]; omega
        ·simp only [ne_eq, hqp, not_false_eq_true, decide_true] at tc
         have b0 : ((q : Int) != (p : Int)) = true := by simp; omega
         go_wp2
         go_roundw
         case rel => exact ⟨p + 1, _, by go_num, by omega, rfl⟩
         case measure => simp [intOf]; omega
       ·have hpn' : ¬ (p : Int) < (n : Int) := by omega
        go_wp2
        go_roundw
        case rel => exact ⟨q + 1, _, by go_num, by omega, rfl⟩
        case measure => simp [intOf]; omega
     ·have hqn' : ¬ (q : Int) < (n : Int) := by omega
      go_wp2
      go_ret
      exact ⟨rfl, HB2.out.trans ((below_drewT hb.out _).mono HB2.out.size)⟩
theorem walk (vx : Value) (rx : Rw) (w : World) (hx : RawV w vx rx ∧ okR rx ∧ wfR rx) (htab : Tab w) :
 Calls Tryz.prog 6 #[vx] w fun e w' => e = .returned (.bool true) ∧ Below w.heap.size w w' := core vx rx w hx htab
theorem gTab : Tryz.prog.globalNamed "internal/strconv.uint64pow10" = some 0 := by kernel_rfl
theorem gTabType : (Tryz.prog.globals[0]?).map (·.type) = some 254 := by kernel_rfl
theorem cellsT : Tryz.prog.cellsOf 254 = 20 := by kernel_rfl
theorem cellsE : Tryz.prog.cellsOf 192 = 1 := by kernel_rfl
theorem tabEq : (Rows.laid_internal_strconv_uint64pow10 : DataW Unit) = Lib.tabData .u64 Lib.pow10Tab := by kernel_rfl
theorem tabOf {W : World} (h : laidMetH Tryz.prog Rows.leastApartRow.laid W) : Tab W := by
 have h1 : laidMet Tryz.prog [("math/bits.deBruijn32tab", Rows.laid_math_bits_deBruijn32tab), ("math/bits.deBruijn64tab", Rows.laid_math_bits_deBruijn64tab), ("internal/strconv.uint64pow10", Rows.laid_internal_strconv_uint64pow10)] W := h
 have h2 : laidMet Tryz.prog [("internal/strconv.uint64pow10", Rows.laid_internal_strconv_uint64pow10)] W := h1.tail.tail
 rw [tabEq] at h2
 exact Lib.tabIs_of_head gTab gTabType Tryz.underlying254 Tryz.underlying192 cellsE cellsT h2
set_option maxRecDepth 100000 in
theorem contract (H : Type) (enc : TypeId × Value → H) (W : World) (base : Nat) (args : Array Value) (ds gs : List (DataW H)) (before : List MemPlace)
  (hval : ∀ (j : Nat) t v, Tryz.f6.params[j]? = some t → args[j]? = some v → Value.okWide Tryz.prog W .any base t v)
  (hW : DataW.Whole enc Tryz.prog Tryz.f6.params.toList Rows.leastApartSpec.vars false W args.toList ds gs before)
  (hsz : (DataW.weightsEach Tryz.prog (Tryz.f6.params.toList ++ (OpenSpec.ofChange Rows.leastApartSpec).bare.plain.varTypes Tryz.prog) (ds ++ gs)).all (· ≤ reachBytes) = true)
  (hL : laidMetH Tryz.prog Rows.leastApartRow.laid W) :
  Calls Tryz.prog 6 args W fun e W' => ∃ v, e = .returned v ∧ Rows.leastApartSpec.post enc Tryz.prog Tryz.f6 false true false false W args v W' := by
 have hW' := hW
 obtain ⟨p, q, hA0, hV, rfl, hfz, hnd⟩ := hW
 have hA : DataW.TrodAll enc Tryz.prog W 0 (fun _ => true) true Tryz.f6.params.toList args.toList ds p := hA0
 rw [Tryz.params6] at hA hval hsz
 obtain ⟨v0, vs0, d0, ds0, p0, q0, hargs, rfl, rfl, h0, r0⟩ := trodAll_cons hA
 obtain ⟨rfl, rfl, rfl⟩ := trodAll_nil r0
 obtain rfl : args = #[v0] := by cases args; simp_all
 obtain ⟨rfl, rfl⟩ := trodVars_none hV
 have k0 := h0
 have lt0 : ∀ x ∈ p0, x.block < W.heap.size := by obtain ⟨m, hm⟩ := k0; exact DataW.trod_lt m _ _ _ hm
 obtain ⟨z0, w0⟩ : ∃ m : Rw, RawV W v0 m ∧ okR m ∧ wfR m := by
  obtain ⟨c0, c1, y0, y1, n, rfl, hd, hp, t0, t1⟩ := Go.Joins.open_agg2 Tryz.underlying24 (by kernel_rfl) (by kernel_rfl) (hval 0 24 v0 rfl rfl) h0
  subst hd
  exact open_raw t0 t1 ((Fits.arg hsz (j := 0) rfl rfl).field Tryz.underlying24 (f := 1) rfl rfl)
 refine (walk v0 z0 W w0 (tabOf hL)).mono fun e W' ⟨he, bel⟩ => ?_
 subst he
 exact ⟨_, rfl, _, _, _, [], _, [], hW', trodAll_mk1 (shut_bool Tryz.underlying4 _), (trodAll_cons_mk (Below.trod laidOut (by kernel_rfl) (of_decide_eq_true (by kernel_rfl)) k0 bel lt0) trodAll_mk0), rfl, bel.frame _, fun h => by cases h⟩
def cells_laid_math_bits_deBruijn32tab : Array Value := #[.int .u8 0, .int .u8 1, .int .u8 28, .int .u8 2, .int .u8 29, .int .u8 14, .int .u8 24, .int .u8 3, .int .u8 30, .int .u8 22, .int .u8 20, .int .u8 15, .int .u8 25, .int .u8 17, .int .u8 4, .int .u8 8, .int .u8 31, .int .u8 27, .int .u8 13, .int .u8 23, .int .u8 21, .int .u8 19, .int .u8 16, .int .u8 7, .int .u8 26, .int .u8 12, .int .u8 18, .int .u8 6, .int .u8 11, .int .u8 5, .int .u8 10, .int .u8 9]
def cells_laid_math_bits_deBruijn64tab : Array Value := #[.int .u8 0, .int .u8 1, .int .u8 56, .int .u8 2, .int .u8 57, .int .u8 49, .int .u8 28, .int .u8 3, .int .u8 61, .int .u8 58, .int .u8 42, .int .u8 50, .int .u8 38, .int .u8 29, .int .u8 17, .int .u8 4, .int .u8 62, .int .u8 47, .int .u8 59, .int .u8 36, .int .u8 45, .int .u8 43, .int .u8 51, .int .u8 22, .int .u8 53, .int .u8 39, .int .u8 33, .int .u8 30, .int .u8 24, .int .u8 18, .int .u8 12, .int .u8 5, .int .u8 63, .int .u8 55, .int .u8 48, .int .u8 27, .int .u8 60, .int .u8 41, .int .u8 37, .int .u8 16, .int .u8 46, .int .u8 35, .int .u8 44, .int .u8 21, .int .u8 52, .int .u8 32, .int .u8 23, .int .u8 11, .int .u8 54, .int .u8 26, .int .u8 40, .int .u8 15, .int .u8 34, .int .u8 20, .int .u8 31, .int .u8 10, .int .u8 25, .int .u8 14, .int .u8 19, .int .u8 9, .int .u8 13, .int .u8 8, .int .u8 7, .int .u8 6]
def cells_laid_internal_strconv_uint64pow10 : Array Value := #[.int .u64 1, .int .u64 10, .int .u64 100, .int .u64 1000, .int .u64 10000, .int .u64 100000, .int .u64 1000000, .int .u64 10000000, .int .u64 100000000, .int .u64 1000000000, .int .u64 10000000000, .int .u64 100000000000, .int .u64 1000000000000, .int .u64 10000000000000, .int .u64 100000000000000, .int .u64 1000000000000000, .int .u64 10000000000000000, .int .u64 100000000000000000, .int .u64 1000000000000000000, .int .u64 10000000000000000000]
def layOne (c : Array Value) : Obj → Obj
 | .cells _ t frozen => .cells c t frozen
 | o => o
theorem laid_met (os : Os) : laidMet Tryz.prog Rows.leastApartRow.laid (World.forCall ({ World.holding Tryz.prog os ⟨#[], #[], []⟩ with heap := ((((World.holding Tryz.prog os ⟨#[], #[], []⟩).heap.modify 1 (layOne cells_laid_math_bits_deBruijn32tab)).modify 2 (layOne cells_laid_math_bits_deBruijn64tab)).modify 0 (layOne cells_laid_internal_strconv_uint64pow10)) }) (fun _ _ => 0) ⟨#[], #[.agg #[.int .i64 0, .slice none 0 0]], []⟩).memory :=
 laidMet_of_run' 8 (by kernel_rfl) (by kernel_rfl)
theorem reads (os : Os) {H : Type} (enc : TypeId × Value → H) : ∃ places, DataW.whole enc Tryz.prog (World.forCall ({ World.holding Tryz.prog os ⟨#[], #[], []⟩ with heap := ((((World.holding Tryz.prog os ⟨#[], #[], []⟩).heap.modify 1 (layOne cells_laid_math_bits_deBruijn32tab)).modify 2 (layOne cells_laid_math_bits_deBruijn64tab)).modify 0 (layOne cells_laid_internal_strconv_uint64pow10)) }) (fun _ _ => 0) ⟨#[], #[.agg #[.int .i64 0, .slice none 0 0]], []⟩).memory Tryz.f6.params.toList Rows.leastApartSpec.vars false (#[.agg #[.int .i64 0, .slice none 0 0]] : Array Value).toList 8 = some ([.agg [.lit (.int .i64 0), .nil]], [], places) :=
 ⟨[], by kernel_rfl⟩
set_option maxRecDepth 100000 in
theorem lifted (os : Os) (started : os.Started) (H : Type) (enc : TypeId × Value → H) (F : Stop.Interp) :
  ReturnsInHanded {} Tryz.checked os 6 .any ((OpenSpec.ofChange Rows.leastApartSpec).preRow enc Tryz.prog Tryz.f6 Rows.leastApartRow.domain false Rows.leastApartRow.laid) (((OpenSpec.ofChange Rows.leastApartSpec).at F).post enc Tryz.prog Tryz.f6 false true false false) := by
 obtain ⟨places, hx⟩ := reads os enc
 refine returnsInHanded_of_row (C := Tryz.checked) (s := OpenSpec.ofChange Rows.leastApartSpec) own started (by kernel_rfl) Tryz.func6
  (witness_row_at (enc := enc) (C := Tryz.checked) false ({ World.holding Tryz.prog os ⟨#[], #[], []⟩ with heap := ((((World.holding Tryz.prog os ⟨#[], #[], []⟩).heap.modify 1 (layOne cells_laid_math_bits_deBruijn32tab)).modify 2 (layOne cells_laid_math_bits_deBruijn64tab)).modify 0 (layOne cells_laid_internal_strconv_uint64pow10)) }) #[.agg #[.int .i64 0, .slice none 0 0]] rfl (by kernel_rfl) (by kernel_rfl) (by kernel_rfl)
   (OpenSpec.preRow_of_cond 8 hx (by kernel_rfl) (fun k hk => by cases hk) (by kernel_rfl) (laid_met os))) ?_
 intro W base args ds gs before hval hW _ _ hsz hL _ _
 exact contract H enc W base args ds gs before hval hW hsz hL
theorem said : Rows.LeastApartSaid :=
 OpenClaim.holds_of_cond 6 Tryz.f6 rfl rfl rfl rfl rfl rfl rfl ⟨rfl, rfl, rfl, rfl, rfl⟩ rfl rfl rfl rfl rfl (by kernel_rfl) Tryz.func6 (by kernel_rfl)
  (of_decide_eq_true (by kernel_rfl)) (by unfold Func.isWrapper; first | (rw [if_pos (by decide +kernel)]; kernel_rfl) | (rw [if_neg (by decide +kernel)]; exact ⟨rfl, rfl⟩))
  (fun os started H enc _ F => by rw [OpenClaim.pre_eq_preRow]; exact lifted os started H enc F)
theorem plain (f : FuncId) (fn : Func) (hf : Tryz.pinned.checked.prog.funcNamed "tropica/tropicakeep.LeastApart" = some f) (hfn : Tryz.pinned.checked.prog.funcs[f]? = some fn) :
  true = Tryz.pinned.checked.prog.looks [] ∧ ∀ (j : Nat) t, fn.params[j]? = some t → Tryz.pinned.checked.prog.wantsStandIn t = false := by
 obtain rfl : f = 6 := Option.some.inj ((show Tryz.prog.funcNamed "tropica/tropicakeep.LeastApart" = some 6 by kernel_rfl).symm.trans hf) |>.symm
 obtain rfl : fn = Tryz.f6 := (Option.some.inj (Tryz.func6.symm.trans hfn)).symm
 refine ⟨by kernel_rfl, fun j t ht => ?_⟩
 rw [Tryz.params6] at ht
 obtain rfl : t = 24 := by simpa using Array.mem_of_getElem? ht
 exact (show Tryz.prog.wantsStandIn 24 = false by kernel_rfl)
end Go.Proofs.YtfhjncpakgailaaGreatDoor.leastApart
namespace Go.Proofs.YtfhjncpakgailaaGreatDoor
theorem leastApart_card : Rows.LeastApartCardSaid :=
 Claim7.holds_tied_plain_at .later [] _ _ _ _ leastApart.said (fun _ h => by cases h) (by kernel_rfl) (fun _ h => by cases h) leastApart_row_tie rfl ⟨rfl, rfl⟩ (by kernel_rfl) rfl leastApart.plain (by kernel_rfl)
#print axioms leastApart_card
end Go.Proofs.YtfhjncpakgailaaGreatDoor
