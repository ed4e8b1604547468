/- The reference: the cheapest path for two words. -/
import Derived.Test.YtpfcljhbamnghaaWx
import Derived.Deep.DeepCutAuto
import Derived.BigQuiet
namespace Go.Proofs.Ytpfcljhbamnghaa.Wt
open Go.ChangeShapes Go.WideShapes Go.ChangeAt Go.RowKit
open Go.Proofs.Ytpfcljhbamnghaa.Pl
set_option linter.unusedVariables false
set_option linter.unusedSimpArgs false
theorem run_numsB (n : Nat) (hn : n ≤ 1000000) (W : World) : (Instr.makeSlice 22 (.int .i64 (n : Int)) (.int .i64 (n : Int))).run Try.prog W = .ok (.slice (some ⟨W.heap.size, 0, none⟩) n n) (W.alloc (.cells ((List.replicate n (0 : Int)).map (Value.int .i64)).toArray 3)) := by
  obtain ⟨i1, hi1, hy0, hy1, hy2⟩ := info_parts infoIntU
  have h := run_make (P := Try.prog) W 22 3 i1 _ Try.underlying22 hi1 hy0 .i64 .i64 n n (by omega) (by omega) (by rw [hy2]; omega) (by omega)
  rw [hy1, Int.toNat_natCast, made_nums] at h
  exact h
theorem tab_small {n X Y : Nat} (hn : n ≤ 60) (hX : X ≤ 12) (hY : Y ≤ 12) : n * (X + 1) ≤ 780 ∧ n * (X + 1) * (Y + 1) ≤ 10140 := by
  have h1 : n * (X + 1) ≤ 60 * 13 := Nat.mul_le_mul hn (by omega)
  have h2 : n * (X + 1) * (Y + 1) ≤ 60 * 13 * 13 := Nat.mul_le_mul h1 (by omega)
  omega
/-- The table of costs, in a block of its own, and the machine's box. -/
def TabW (w : World) (z : Int) (a : Option Addr) (n cap : Nat) (wr : World) (cs : List Int) : Prop := Blk wr (w.heap.size + 1) (cs.map (Value.int .i64)).toArray 3 ∧ Blk wr w.heap.size #[.int .i64 z, .slice a n cap] 26 ∧ Below w.heap.size w wr
theorem TabW.set {w wr : World} {z : Int} {a : Option Addr} {n cap : Nat} {cs : List Int} (h : TabW w z a n cap wr cs) (k : Nat) (c : Int) : TabW w z a n cap (wr.setCell ⟨w.heap.size + 1, k, none⟩ (.int .i64 c)) (cs.set k c) :=
  ⟨by have := h.1.set k (.int .i64 c); rwa [set_num] at this, h.2.1.setO _ _ (by show w.heap.size ≠ w.heap.size + 1; omega), h.2.2.setCell (p := ⟨w.heap.size + 1, k, none⟩) (by show w.heap.size ≤ w.heap.size + 1; omega) _⟩
theorem TabW.made (w : World) (z : Int) (a : Option Addr) (n cap N : Nat) : TabW w z a n cap ((w.alloc (.cells #[.int .i64 z, .slice a n cap] 26)).alloc (.cells ((List.replicate N (0 : Int)).map (Value.int .i64)).toArray 3)) (List.replicate N 0) := by
  have h := Blk.made (w.alloc (.cells #[.int .i64 z, .slice a n cap] 26)) ((List.replicate N (0 : Int)).map (Value.int .i64)).toArray 3
  rw [World.size_alloc] at h
  exact ⟨h, (Blk.made w _ _).alloc _, ((Below.refl _ _).alloc (Nat.le_refl _) _).alloc (by simp) _⟩
theorem TabW.drew {w wr : World} {z : Int} {a : Option Addr} {n cap : Nat} {cs : List Int} (h : TabW w z a n cap wr cs) : TabW w z a n cap wr.drew cs := ⟨h.1.drew, h.2.1.drew, h.2.2.drew⟩
theorem TabW.drewN {w wr : World} {z : Int} {a : Option Addr} {n cap : Nat} {cs : List Int} (h : TabW w z a n cap wr cs) (q : Nat) : TabW w z a n cap (wr.drewN q) cs := ⟨h.1.drewN q, h.2.1.drewN q, ⟨h.2.2.os, h.2.2.tape, h.2.2.output, h.2.2.size, h.2.2.block⟩⟩
theorem belowDrewN {B : Nat} {a w : World} (h : Below B a w) (q : Nat) : Below B a (w.drewN q) := ⟨h.os, h.tape, h.output, h.size, h.block⟩
/-- The sum of a block of numbers. -/
def tabSum (w : World) (C : Nat) : Nat := match w.heap[C]? with
  | some (.cells cs _ _) => sumT (cs.toList.map intOf)
  | _ => 0
theorem tabSum_of {w : World} {C : Nat} {cs : List Int} {t : TypeId} (h : Blk w C (cs.map (Value.int .i64)).toArray t) : tabSum w C = sumT cs := by
  unfold tabSum
  unfold Blk at h
  rw [h]
  show sumT (((cs.map (Value.int .i64)).toArray.toList).map intOf) = _
  congr 1
  rw [List.map_map]
  exact List.map_id'' (fun _ => rfl) cs
def boolN (v : Value) : Nat := match v with | .bool true => 1 | _ => 0
theorem idx_start (X Y zn : Nat) : zn * (X + 1) * (Y + 1) = idx X Y zn 0 0 := by simp [idx]
/-- Nothing gets cheaper from place k on. -/
def ClosedK (l : List St) (x y : List Int) (free : Bool) (cs : List Int) (k : Nat) : Prop := el cs k < noneI → ∀ w k', Pl.Edge l x y free k w k' → el cs k' ≤ el cs k + (w : Int)
/-- Nothing gets cheaper along one arc. -/
def ClosedA (x y : List Int) (free : Bool) (cs : List Int) (k i j : Nat) (a : Ar) : Prop := ∀ t i' j' : Nat, a.2.2.2 = (t : Int) → fitN x i a.1 = some i' → fitF free y j a.2.1 = some j' → el cs (idx x.length y.length t i' j') ≤ el cs k + (a.2.2.1.toNat : Int)
theorem ClosedK.of {l : List St} {x y : List Int} {free : Bool} {cs : List Int} {q i j k : Nat} (hk : k = idx x.length y.length q i j) (hi : i ≤ x.length) (hj : j ≤ y.length) (h : ∀ t, t < (el l q).2.length → ClosedA x y free cs k i j (el (el l q).2 t)) : ClosedK l x y free cs k := by
  rintro _ w k' ⟨q', i', j', a, t, i2, j2, hq', hi', hj', ha, ht, f1, f2, ek, rfl, rfl⟩
  rw [hk] at ek
  obtain ⟨rfl, rfl, rfl⟩ := idx_one hi hj hi' hj' ek
  obtain ⟨s, hs, e⟩ := List.getElem_of_mem ha
  have := h s hs
  rw [el_get hs, e] at this
  exact this t i2 j2 ht f1 f2
set_option maxRecDepth 100000 in
set_option maxHeartbeats 1600000 in
theorem cheapest_any (fr : Bool) (v vx vy : Value) (m : Mc) (x y : List Int) (w : World) (h : Mach w v m) (hr : faultM m = 0) (nx : Nums w vx x) (ny : Nums w vy y) (ex : wrdE x = 0) (ey : wrdE y = 0) :
    Calls Try.prog 33 #[v, vx, vy, .bool fr] w fun e w' => ∃ cs, e = .returned (.int .i64 (bstF cs m.2 x.length y.length m.2.length)) ∧ CostT m.2 x y fr m.1 cs ∧ ClosedT m.2 x y fr cs ∧ Below w.heap.size w w' := by
  obtain ⟨z, l⟩ := m
  obtain ⟨⟨hz1, hz2⟩, hst⟩ := right_parts hr
  have h60 := (right_size hr).1
  have hX := (wrd_parts ex).1
  have hY := (wrd_parts ey).1
  simp only at hz1 hz2 hst h60
  have HARC : Hid (∀ j, j < l.length → (el l j).2.length ≤ 400) := fun j hj => by
    have h1 := arcN_take hj
    have h2 := arcN_takeR l (j + 1)
    have h3 := (right_size hr).2
    omega
  have HFIN : Hid (∀ q, q < l.length → (el l q).1 ≠ 1000000001 → 0 ≤ (el l q).1 ∧ (el l q).1 ≤ 1000000000) := fun q hq hf => by
    have h1 := stB_fin (hst _ (el_mem hq))
    simp [finB, inB] at h1
    omega
  obtain ⟨vs, rfl, hS⟩ := h
  obtain ⟨a, cap, rfl, hc⟩ := hS.get
  have HC : Hid (∀ j, j < l.length → ∃ b off va, a = some ⟨b, off, none⟩ ∧ b < w.heap.size ∧ w.cell? ⟨b, off + j * 2, none⟩ = some (.int .i64 (el l j).1) ∧ w.cell? ⟨b, off + j * 2 + 1, none⟩ = some va ∧ Arcs w va (el l j).2) := hc
  obtain ⟨ax, cx, rfl, _⟩ := nx.get
  obtain ⟨ay, cy, rfl, _⟩ := ny.get
  obtain ⟨hN1, hN2⟩ := tab_small h60 hX hY
  generalize hn : l.length = n at *
  generalize hXe : x.length = X at *
  generalize hYe : y.length = Y at *
  generalize hN : n * (X + 1) * (Y + 1) = N at *
  have HN := hidP hn
  have HXE := hidP hXe
  have HYE := hidP hYe
  have HNN := hidP hN
  have mw : IntKind.i64.wrap ((n : Int) * ((X : Int) + 1)) = (n : Int) * ((X : Int) + 1) := by
    have : (n : Int) * ((X : Int) + 1) = ((n * (X + 1) : Nat) : Int) := by push_cast; rfl
    rw [this]; exact wrapI (by omega) (by omega)
  have mw2 : IntKind.i64.wrap ((n : Int) * ((X : Int) + 1) * ((Y : Int) + 1)) = (N : Int) := by
    have : (n : Int) * ((X : Int) + 1) * ((Y : Int) + 1) = ((n * (X + 1) * (Y + 1) : Nat) : Int) := by push_cast; rfl
    rw [this, hN]; exact wrapI (by omega) (by omega)
  have hmk := run_numsB N (by omega)
  have HST : Hid (∀ s, s ∈ l → stB n s = true) := hst
  have HNX := hidP nx
  have HNY := hidP ny
  clear hS hc hr hst nx ny hn hXe hYe hN ex ey
  go_enter Try.func33, Try.ntmps33
  go_wp2
  go_loopw [12] (fun i wr => ∃ (k : Nat) (cs : List Int), k ≤ N ∧ i = .int .i64 k ∧ Hid (cs.length = N ∧ ∀ j, j < k → el cs j = noneI) ∧ Hid (TabW w z a n cap wr cs)) (fun i _ => N - (intOf i).toNat)
  case atStart => exact ⟨0, List.replicate N 0, Nat.zero_le _, rfl, ⟨by simp, fun j hj => absurd hj (by omega)⟩, by have h9 := TabW.made w z a n cap N; rw [List.map_replicate, List.toArray_replicate] at h9; exact h9⟩
  case round =>
    obtain ⟨k, cs, hk, rfl, hcs, hT⟩ := hrel
    by_cases hkN : k < N
    · have hk1 : (k : Int) < (N : Int) := by omega
      have hk0 : (0 : Int) ≤ (k : Int) := by omega
      have c0 := num_cell hT.out.1 (j := k) (by rw [hcs.out.1]; exact hkN)
      have f0 := hT.out.1.fz k
      go_wp2
      go_roundw
      case rel => exact ⟨k + 1, cs.set k noneI, by omega, by go_num, ⟨by rw [List.length_set]; exact hcs.out.1, fun j hj => by rw [el_setT (by rw [hcs.out.1]; exact hkN)]; split; rfl; exact hcs.out.2 j (by omega)⟩, hT.out.set k _⟩
      case measure => simp [intOf]; omega
    · have hk1 : ¬ (k : Int) < (N : Int) := by omega
      obtain rfl : k = N := by omega
      have hrep : cs = List.replicate k noneI := el_ext (by rw [hcs.out.1]; simp) fun j hj => by
        rw [hcs.out.1] at hj
        rw [hcs.out.2 j hj, el_replicateT hj]
      subst hrep
      clear hcs hmk mw mw2
      have d0 := hT.out.2.1.cell 0 (v := .int .i64 z) rfl
      go_upto_if 48 with fail
      go_cut [] (fun wx => ∃ cs, Hid (CostT l x y fr z cs) ∧ Hid (TabW w z a n cap wx cs))
      case first =>
        by_cases hz0 : 0 ≤ z
        · obtain ⟨zn, rfl⟩ : ∃ zn : Nat, z = (zn : Int) := ⟨z.toNat, by omega⟩
          have hzn : zn < n := by omega
          have hCS : Hid (CostT l x y fr (zn : Int) ((List.replicate k noneI).set (zn * (X + 1) * (Y + 1)) 0)) := by
            have h9 := CostT.start (l := l) (x := x) (y := y) (free := fr) (z := zn) (by rw [HN.out]; exact hzn)
            rw [HN.out, HXE.out, HYE.out, HNN.out, ← idx_start] at h9
            exact h9
          have hI : zn * (X + 1) * (Y + 1) < k := by
            rw [← HNN.out, idx_start]
            exact idx_lt hzn (by omega) (by omega)
          have hI1 : zn * (X + 1) ≤ 780 := Nat.le_trans (Nat.mul_le_mul_right _ (by omega)) hN1
          have mz1 : IntKind.i64.wrap ((zn : Int) * ((X : Int) + 1)) = (zn : Int) * ((X : Int) + 1) := by
            have : (zn : Int) * ((X : Int) + 1) = ((zn * (X + 1) : Nat) : Int) := by push_cast; rfl
            rw [this]; exact wrapI (by omega) (by omega)
          have mz2 : IntKind.i64.wrap ((zn : Int) * ((X : Int) + 1) * ((Y : Int) + 1)) = ((zn * (X + 1) * (Y + 1) : Nat) : Int) := by
            have : (zn : Int) * ((X : Int) + 1) * ((Y : Int) + 1) = ((zn * (X + 1) * (Y + 1) : Nat) : Int) := by push_cast; rfl
            rw [this]; exact wrapI (by omega) (by omega)
          clear hI1
          generalize zn * (X + 1) * (Y + 1) = I0 at *
          have hI0 : (0 : Int) ≤ (I0 : Int) := by omega
          have hI2 : (I0 : Int) < (k : Int) := by omega
          have c0 := num_cell hT.out.1 (j := I0) (by simpa using hI)
          have f0 := hT.out.1.fz I0
          go_wp2
          go_meet
          case rel => exact ⟨_, hCS, hT.out.set I0 0⟩
        · have hCS : Hid (CostT l x y fr z (List.replicate k noneI)) := by
            have h9 := CostT.none (l := l) (x := x) (y := y) (free := fr) (z := z) (by omega)
            rw [HN.out, HXE.out, HYE.out, HNN.out] at h9
            exact h9
          go_wp2
          go_meet
          case rel => exact ⟨_, hCS, hT⟩
      case rest =>
        obtain ⟨cs1, hC1, hT1⟩ := hcut
        clear hT d0 hk hk1 hkN
        obtain ⟨N, rfl⟩ : ∃ N, N = k := ⟨_, rfl⟩
        have hY0 : ((Y : Int) + 1 == 0) = false := by simp; omega
        have hX0 : ((X : Int) + 1 == 0) = false := by simp; omega
        go_wp2
        go_loopw [13] (fun ag wr => ∃ (b : Bool) (cs : List Int), ag = .bool b ∧ Hid (CostT l x y fr z cs) ∧ Hid (b = false → ∀ k, k < N → ClosedK l x y fr cs k) ∧ Hid (TabW w z a n cap wr cs)) (fun ag wr => 2 * tabSum wr (w.heap.size + 1) + boolN ag)
        case atStart => exact ⟨true, cs1, rfl, hC1, fun h => absurd h (by simp), hT1⟩
        case round =>
          clear hC1 hT1
          obtain ⟨b, cs0, rfl, hC0, hD0, hT0⟩ := hrel
          cases b
          · have HCT : Hid (ClosedT l x y fr cs0) := fun k w' k' hk hl he => hD0.out rfl k (by rw [← HNN.out, ← HN.out, ← HXE.out, ← HYE.out, ← hC0.out.len]; exact hk) hl w' k' he
            clear hD0
            have HB0 : Hid (bstF cs0 l X Y 0 = 1152921504606846976) := rfl
            have HBS : Hid (∀ q, bstF cs0 l X Y (q + 1) = if el cs0 (idx X Y q X Y) ≠ noneI ∧ (el l q).1 ≠ 1000000001 ∧ el cs0 (idx X Y q X Y) + (el l q).1 < bstF cs0 l X Y q then el cs0 (idx X Y q X Y) + (el l q).1 else bstF cs0 l X Y q) := fun q => rfl
            have HFI : Hid (∃ cs, bstF cs0 l X Y n = bstF cs l X Y n ∧ CostT l x y fr z cs ∧ ClosedT l x y fr cs) := ⟨cs0, rfl, hC0.out, HCT.out⟩
            have HRG : Hid (∀ k, k < N → 0 ≤ el cs0 k ∧ el cs0 k ≤ 1152921504606846976) := fun k hk => hC0.out.rng k (by rw [hC0.out.len, HN.out, HXE.out, HYE.out, HNN.out]; exact hk)
            have HLN : Hid (cs0.length = N) := by show _ = _; rw [hC0.out.len, HN.out, HXE.out, HYE.out, HNN.out]
            generalize bstF cs0 l X Y = BB at *
            go_wp2
            obtain ⟨w2, rfl⟩ : ∃ w2, w2 = wr := ⟨_, rfl⟩
            go_loopw [20, 21] (fun bs i wr => ∃ (q : Nat), q ≤ n ∧ bs = .int .i64 (BB q) ∧ i = .int .i64 q ∧ Hid (TabW w z a n cap wr cs0)) (fun _ i _ => n - (intOf i).toNat)
            case atStart => exact ⟨0, Nat.zero_le _, by rw [HB0.out], rfl, hT0⟩
            case round =>
              clear hT0
              obtain ⟨q, hq, rfl, rfl, hT⟩ := hrel
              by_cases hqn : q < n
              · have hq0 : (0 : Int) ≤ (q : Int) := by omega
                have hq1 : (q : Int) < (n : Int) := by omega
                have hIlt : idx X Y q X Y < N := by rw [← HNN.out]; exact idx_lt hqn (Nat.le_refl _) (Nat.le_refl _)
                have hb1 : q * (X + 1) ≤ 780 := Nat.le_trans (Nat.mul_le_mul_right _ (by omega)) hN1
                have hb2 : (q * (X + 1) + X) * (Y + 1) ≤ N := by unfold idx at hIlt; omega
                have mt1 : IntKind.i64.wrap ((q : Int) * ((X : Int) + 1)) = ((q * (X + 1) : Nat) : Int) := by
                  have h9 : (q : Int) * ((X : Int) + 1) = ((q * (X + 1) : Nat) : Int) := by push_cast; rfl
                  rw [h9]; exact wrapI (by omega) (by omega)
                have mt2 : IntKind.i64.wrap (((q * (X + 1) : Nat) : Int) + (X : Int)) = ((q * (X + 1) : Nat) : Int) + (X : Int) := wrapI (by omega) (by omega)
                have mt3 : IntKind.i64.wrap ((((q * (X + 1) : Nat) : Int) + (X : Int)) * ((Y : Int) + 1)) = (((q * (X + 1) + X) * (Y + 1) : Nat) : Int) := by
                  have h9 : (((q * (X + 1) : Nat) : Int) + (X : Int)) * ((Y : Int) + 1) = (((q * (X + 1) + X) * (Y + 1) : Nat) : Int) := by push_cast; rfl
                  rw [h9]; exact wrapI (by omega) (by omega)
                have mt4 : IntKind.i64.wrap ((((q * (X + 1) + X) * (Y + 1) : Nat) : Int) + (Y : Int)) = ((idx X Y q X Y : Nat) : Int) := by
                  rw [← Int.natCast_add]; exact wrapI (by omega) (by show ((idx X Y q X Y : Nat) : Int) ≤ _; omega)
                clear hb1 hb2
                have HBq := hidP (HBS.out q)
                have hrI := HRG.out _ hIlt
                have hfin := HFIN.out q hqn
                obtain ⟨b3, off, va, rfl, hb3, y0, _, _⟩ := HC.out q hqn
                have y0 := (hT.out.2.2.cell (p := ⟨b3, off + q * 2, none⟩) hb3).trans y0
                have c1 := num_cell hT.out.1 (j := idx X Y q X Y) (by rw [HLN.out]; exact hIlt)
                have d1 := hT.out.2.1.cell 1 (v := .slice (some ⟨b3, off, none⟩) n cap) rfl
                generalize q * (X + 1) = T1 at *
                generalize (T1 + X) * (Y + 1) = T2 at *
                generalize idx X Y q X Y = I at *
                have hI0 : (0 : Int) ≤ (I : Int) := by omega
                have hI1 : (I : Int) < (N : Int) := by omega
                generalize el cs0 I = ck at *
                generalize (el l q).1 = fin at *
                by_cases g1 : ck = 1152921504606846976
                · have g1' : (ck != 1152921504606846976) = false := by simpa using g1
                  have HE : Hid (BB (q + 1) = BB q) := by show _ = _; rw [HBq.out, if_neg (fun h => h.1 g1)]
                  clear HBq
                  go_wp2
                  go_roundw
                  case rel => exact ⟨q + 1, by omega, by rw [HE.out], by go_num, hT⟩
                  case measure => simp [intOf]; omega
                · have g1' : (ck != 1152921504606846976) = true := by simpa using g1
                  by_cases g2 : fin = 1000000001
                  · have g2' : (fin != 1000000001) = false := by simpa using g2
                    have HE : Hid (BB (q + 1) = BB q) := by show _ = _; rw [HBq.out, if_neg (fun h => h.2.1 g2)]
                    clear HBq
                    go_wp2
                    go_roundw
                    case rel => exact ⟨q + 1, by omega, by rw [HE.out], by go_num, hT⟩
                    case measure => simp [intOf]; omega
                  · have g2' : (fin != 1000000001) = true := by simpa using g2
                    have hf := hfin g2
                    have hwc : IntKind.i64.wrap (ck + fin) = ck + fin := wrapI (by omega) (by omega)
                    by_cases g3 : ck + fin < BB q
                    · have HE : Hid (BB (q + 1) = ck + fin) := by show _ = _; rw [HBq.out, if_pos ⟨g1, g2, g3⟩]
                      clear HBq hfin
                      go_wp2
                      go_roundw
                      case rel => exact ⟨q + 1, by omega, by rw [HE.out], by go_num, hT⟩
                      case measure => simp [intOf]; omega
                    · have HE : Hid (BB (q + 1) = BB q) := by show _ = _; rw [HBq.out, if_neg (fun h => g3 h.2.2)]
                      clear HBq hfin
                      go_wp2
                      go_roundw
                      case rel => exact ⟨q + 1, by omega, by rw [HE.out], by go_num, hT⟩
                      case measure => simp [intOf]; omega
              · have hq1 : ¬ (q : Int) < (n : Int) := by omega
                obtain rfl : q = n := by omega
                obtain ⟨cs, h1, h2, h3⟩ := HFI.out
                have H1 := hidP h1
                go_wp2
                go_ret
                exact ⟨cs, by rw [← H1.out]; rfl, h2, h3, hT.out.2.2⟩
          · clear hD0
            have HMS : Hid (tabSum wr (w.heap.size + 1) = sumT cs0) := tabSum_of hT0.out.1
            go_wp2
            obtain ⟨w2, rfl⟩ : ∃ w2, w2 = wr := ⟨_, rfl⟩
            go_loopw [13, 14] (fun ag i wr => ∃ (b : Bool) (k : Nat) (cs : List Int), ag = .bool b ∧ i = .int .i64 k ∧ k ≤ N ∧ Hid (CostT l x y fr z cs) ∧ Hid (b = true → sumT cs < sumT cs0) ∧ Hid (b = false → cs = cs0 ∧ ∀ j, j < k → ClosedK l x y fr cs0 j) ∧ Hid (TabW w z a n cap wr cs)) (fun _ i _ => N - (intOf i).toNat)
            case atStart => exact ⟨false, 0, cs0, rfl, rfl, Nat.zero_le _, hC0, fun h => absurd h (by simp), fun _ => ⟨rfl, fun j hj => absurd hj (by omega)⟩, hT0⟩
            case round =>
              clear hT0
              obtain ⟨b, k, cs, rfl, rfl, hk, hC, hlt, hcl, hT⟩ := hrel
              by_cases hkN : k < N
              · have hk1 : (k : Int) < (N : Int) := by omega
                have hk0 : (0 : Int) ≤ (k : Int) := by omega
                have hkl : k < cs.length := by rw [hC.out.len, HN.out, HXE.out, HYE.out, HNN.out]; exact hkN
                have c0 := num_cell hT.out.1 (j := k) hkl
                by_cases hnone : el cs k = noneI
                · have hn' : (el cs k == 1152921504606846976) = true := by simpa [noneI] using hnone
                  have HCK : Hid (b = false → cs = cs0 ∧ ∀ g, g < k + 1 → ClosedK l x y fr cs0 g) := fun hb => by
                    obtain ⟨h1, h2⟩ := hcl.out hb
                    refine ⟨h1, fun g hg => ?_⟩
                    by_cases e : g = k
                    · rw [e]
                      intro hl
                      rw [← h1] at hl
                      omega
                    · exact h2 g (by omega)
                  have hkw : IntKind.i64.wrap ((k : Int) + 1) = (k : Int) + 1 := wrapI (by omega) (by omega)
                  clear hnone
                  go_wp2
                  go_roundw
                  case rel => exact ⟨b, k + 1, cs, rfl, by go_num, by omega, hC, hlt, HCK, hT⟩
                  case measure => simp [intOf]; omega
                · have hn' : (el cs k == 1152921504606846976) = false := by simpa [noneI] using hnone
                  have hle := hC.out.rng k hkl
                  obtain ⟨hq, hi, hj, hki⟩ := idx_of (X := X) (Y := Y) (n := n) (k := k) (by rw [HNN.out]; exact hkN)
                  have hd1 : Int.tdiv (k : Int) ((Y : Int) + 1) = ((k / (Y + 1) : Nat) : Int) := by rw [Int.tdiv_eq_ediv_of_nonneg (by omega)]; push_cast; rfl
                  have hm1 : Int.tmod (k : Int) ((Y : Int) + 1) = ((k % (Y + 1) : Nat) : Int) := by rw [Int.tmod_eq_emod_of_nonneg (by omega)]; push_cast; rfl
                  have hd2 : Int.tdiv ((k / (Y + 1) : Nat) : Int) ((X : Int) + 1) = ((k / (Y + 1) / (X + 1) : Nat) : Int) := by rw [Int.tdiv_eq_ediv_of_nonneg (Int.natCast_nonneg _)]; push_cast; rfl
                  have hm2 : Int.tmod ((k / (Y + 1) : Nat) : Int) ((X : Int) + 1) = ((k / (Y + 1) % (X + 1) : Nat) : Int) := by rw [Int.tmod_eq_emod_of_nonneg (Int.natCast_nonneg _)]; push_cast; rfl
                  have hkd : k / (Y + 1) ≤ 10140 := Nat.le_trans (Nat.div_le_self _ _) (by omega)
                  generalize k / (Y + 1) = kd at *
                  generalize kd / (X + 1) = q at *
                  generalize kd % (X + 1) = i at *
                  generalize k % (Y + 1) = j at *
                  have HKI := hidP hki
                  clear hki
                  have hw1 : IntKind.i64.wrap (kd : Int) = (kd : Int) := wrapI (by omega) (by omega)
                  have hw2 : IntKind.i64.wrap (q : Int) = (q : Int) := wrapI (by omega) (by omega)
                  have hq0 : (0 : Int) ≤ (q : Int) := by omega
                  have hq1 : (q : Int) < (n : Int) := by omega
                  obtain ⟨b3, off, va, rfl, hb3, y0, y1, gA⟩ := HC.out q hq
                  have y1 := (hT.out.2.2.cell (p := ⟨b3, off + q * 2 + 1, none⟩) hb3).trans y1
                  have d1 := hT.out.2.1.cell 1 (v := .slice (some ⟨b3, off, none⟩) n cap) rfl
                  obtain ⟨a2, cap2, hva, hga⟩ := gA.get
                  subst hva
                  have hLb := HARC.out q hq
                  generalize har : (el l q).2 = ar at *
                  have HAR := hidP har
                  clear har
                  generalize hL : ar.length = L at *
                  have HL := hidP hL
                  clear hL
                  have HGA := hidP hga
                  clear hga gA y0
                  have hkn : el cs k < noneI := by have := hle.2; omega
                  have HIJ : Hid (i ≤ X ∧ j ≤ Y) := ⟨hi, hj⟩
                  go_wp2
                  go_quiet (fail)
                  go_wp2
                  obtain ⟨w3, rfl⟩ : ∃ w3, w3 = wr := ⟨_, rfl⟩
                  go_loopw [13, 16] (fun ag s wr => ∃ (b : Bool) (t : Nat) (cs : List Int), ag = .bool b ∧ s = .int .i64 t ∧ t ≤ L ∧ Hid (CostT l x y fr z cs) ∧ Hid (el cs k < noneI) ∧ Hid (b = true → sumT cs < sumT cs0) ∧ Hid (b = false → cs = cs0 ∧ (∀ g, g < k → ClosedK l x y fr cs0 g) ∧ ∀ g, g < t → ClosedA x y fr cs0 k i j (el ar g)) ∧ Hid (TabW w z (some ⟨b3, off, none⟩) n cap wr cs)) (fun _ s _ => L - (intOf s).toNat)
                  case atStart => exact ⟨b, 0, cs, rfl, rfl, Nat.zero_le _, hC, hkn, hlt, fun h => ⟨(hcl.out h).1, (hcl.out h).2, fun g hg => absurd hg (by omega)⟩, hT.out.drewN _⟩
                  case round =>
                    clear hT c0 d1 y1 hn' hnone hle hkn hC hlt hcl hkl
                    obtain ⟨b, t, cs, rfl, rfl, ht, hC, hkn, hlt, hcl, hT⟩ := hrel
                    by_cases htL : t < L
                    · have ht0 : (0 : Int) ≤ (t : Int) := by omega
                      have ht1 : (t : Int) < (L : Int) := by omega
                      obtain ⟨b4, off4, rfl, hb4, hce⟩ := HGA.out t htL
                      have e0 := (hT.out.2.2.cell (p := ⟨b4, off4 + t * 4, none⟩) hb4).trans hce.1
                      have hmem : el ar t ∈ (el l q).2 := by rw [HAR.out]; exact el_mem (by rw [HL.out]; exact htL)
                      have HMEM := hidP hmem
                      have hab : 0 ≤ (el ar t).2.2.1 ∧ (el ar t).2.2.1 ≤ 1000000000 ∧ 0 ≤ (el ar t).2.2.2 ∧ (el ar t).2.2.2 < (n : Int) := by
                        have h1 := HST.out _ (el_mem (l := l) (j := q) (by rw [HN.out]; exact hq))
                        simp only [stB, Bool.and_eq_true, List.all_eq_true] at h1
                        have h2 := h1.2 _ hmem
                        simp only [arcB, inB, Bool.and_eq_true, decide_eq_true_eq] at h2
                        omega
                      have HCL : Hid (b = false → ClosedA x y fr cs0 k i j (el ar t) → cs = cs0 ∧ (∀ g, g < k → ClosedK l x y fr cs0 g) ∧ ∀ g, g < t + 1 → ClosedA x y fr cs0 k i j (el ar g)) := fun hb ha => by
                        obtain ⟨h1, h2, h3⟩ := hcl.out hb
                        refine ⟨h1, h2, fun g hg => ?_⟩
                        by_cases e : g = t
                        · rw [e]; exact ha
                        · exact h3 g (by omega)
                      have HCE : Hid (w.cell? ⟨b4, off4 + t * 4, none⟩ = some (.int .i64 (el ar t).1) ∧ w.cell? ⟨b4, off4 + t * 4 + 1, none⟩ = some (.int .i64 (el ar t).2.1) ∧ w.cell? ⟨b4, off4 + t * 4 + 2, none⟩ = some (.int .i64 (el ar t).2.2.1) ∧ w.cell? ⟨b4, off4 + t * 4 + 3, none⟩ = some (.int .i64 (el ar t).2.2.2)) := hce
                      clear hce
                      generalize el ar t = p at *
                      obtain ⟨p0, p1, p2, p3⟩ := p
                      simp only at e0 HCE hab
                      obtain ⟨hp2, hp2', hp3, hp3'⟩ := hab
                      obtain ⟨tn, rfl⟩ : ∃ tn : Nat, p3 = (tn : Int) := ⟨p3.toNat, by omega⟩
                      have htn : tn < n := by omega
                      have HFX : Hid (∀ q, Calls Try.prog 50 #[.slice ax X cx, .int .i64 (i : Int), .int .i64 p0] (wr.drewN q) fun e w' => e = .returned (.int .i64 (fitI (fitN x i p0))) ∧ w' = wr.drewN q) := fun q => (fits_word _ x i p0 (wr.drewN q) (HNX.out.later (belowDrewN hT.out.2.2 q) (Nat.le_refl _)) (by rw [HXE.out]; exact hX) (by rw [HXE.out]; exact hi)).mono fun e w' ⟨h1, h2⟩ => ⟨h1, h2.symm⟩
                      have hwi : IntKind.i64.wrap (i : Int) = (i : Int) := wrapI (by omega) (by omega)
                      have hwj : IntKind.i64.wrap (j : Int) = (j : Int) := wrapI (by omega) (by omega)
                      go_wp2
                      go_quiet (first | (go_at_call 50; (with_reducible refine Calls.quiet_of_same (HFX.out _))))
                      have HT5 := hidP (hT.out.drewN nq)
                      clear hT e0 HFX
                      generalize wr.drewN nq = w5 at *
                      have HFY : Hid (∀ q, Calls Try.prog 50 #[.slice ay Y cy, .int .i64 (j : Int), .int .i64 p1] (w5.drewN q) fun e w' => e = .returned (.int .i64 (fitI (fitN y j p1))) ∧ w' = w5.drewN q) := fun q => (fits_word _ y j p1 (w5.drewN q) (HNY.out.later (belowDrewN HT5.out.2.2 q) (Nat.le_refl _)) (by rw [HYE.out]; exact hY) (by rw [HYE.out]; exact hj)).mono fun e w' ⟨h1, h2⟩ => ⟨h1, h2.symm⟩
                      have e1 := (HT5.out.2.2.cell (p := ⟨b4, off4 + t * 4 + 1, none⟩) hb4).trans (HCE.out).2.1
                      generalize hoi : fitN x i p0 = oi at *
                      have HOI := hidP hoi
                      clear hoi
                      go_upto_if 107 with fail
                      go_cut [18] (fun s wx => s = .int .i64 (fitI (fitF fr y j p1)) ∧ Hid (TabW w z (some ⟨b3, off, none⟩) n cap wx cs))
                      case first =>
                        cases fr
                        · go_wp2
                          go_quiet (first | (go_at_call 50; (with_reducible refine Calls.quiet_of_same (HFY.out _))))
                          go_wp2
                          go_meet
                          case rel => exact ⟨by simp [fitF], HT5.out.drewN _⟩
                        · go_wp2
                          go_meet
                          case rel => exact ⟨by simp [fitF, fitI], HT5⟩
                      case rest =>
                        obtain ⟨rfl, hT⟩ := hcut
                        clear HT5 HFY e1
                        generalize hoj : fitF fr y j p1 = oj at *
                        have HOJ := hidP hoj
                        clear hoj
                        have htw : IntKind.i64.wrap ((t : Int) + 1) = (t : Int) + 1 := wrapI (by omega) (by omega)
                        cases oi with
                        | none =>
                          have HCA : Hid (ClosedA x y fr cs0 k i j (p0, p1, p2, (tn : Int))) := fun t' i' j' h1 h2 h3 => by
                            have h4 := HOI.out
                            simp only at h2
                            rw [h4] at h2
                            cases h2
                          go_wp2
                          go_roundw
                          case rel => exact ⟨b, t + 1, cs, rfl, by go_num, by omega, hC, hkn, hlt, fun hb => HCL.out hb HCA.out, hT⟩
                          case measure => simp [intOf]; omega
                        | some i2 =>
                          have hi2 : i2 ≤ X := by have := fitN_le HOI.out (by rw [HXE.out]; exact hi); rwa [HXE.out] at this
                          cases oj with
                          | none =>
                            have HCA : Hid (ClosedA x y fr cs0 k i j (p0, p1, p2, (tn : Int))) := fun t' i' j' h1 h2 h3 => by
                              have h4 := HOJ.out
                              simp only at h3
                              rw [h4] at h3
                              cases h3
                            have hnn : ¬ (i2 : Int) < 0 := by omega
                            rw [show fitI (some i2) = (i2 : Int) from rfl, show fitI none = -1 from rfl]
                            go_wp2
                            go_roundw
                            case rel => exact ⟨b, t + 1, cs, rfl, by go_num, by omega, hC, hkn, hlt, fun hb => HCL.out hb HCA.out, hT⟩
                            case measure => simp [intOf]; omega
                          | some j2 =>
                            have hj2 : j2 ≤ Y := by have := fitF_le HOJ.out (by rw [HYE.out]; exact hj); rwa [HYE.out] at this
                            have hnn : ¬ (i2 : Int) < 0 := by omega
                            have hnm : ¬ (j2 : Int) < 0 := by omega
                            rw [show fitI (some i2) = (i2 : Int) from rfl, show fitI (some j2) = (j2 : Int) from rfl]
                            have hIlt : idx X Y tn i2 j2 < N := by rw [← HNN.out]; exact idx_lt htn hi2 hj2
                            have hb1 : tn * (X + 1) ≤ 780 := Nat.le_trans (Nat.mul_le_mul_right _ (by omega)) hN1
                            have hb2 : (tn * (X + 1) + i2) * (Y + 1) ≤ N := by unfold idx at hIlt; omega
                            have mt1 : IntKind.i64.wrap ((tn : Int) * ((X : Int) + 1)) = ((tn * (X + 1) : Nat) : Int) := by
                              have h9 : (tn : Int) * ((X : Int) + 1) = ((tn * (X + 1) : Nat) : Int) := by push_cast; rfl
                              rw [h9]; exact wrapI (by omega) (by omega)
                            have mt2 : IntKind.i64.wrap (((tn * (X + 1) : Nat) : Int) + (i2 : Int)) = ((tn * (X + 1) : Nat) : Int) + (i2 : Int) := wrapI (by omega) (by omega)
                            have mt3 : IntKind.i64.wrap ((((tn * (X + 1) : Nat) : Int) + (i2 : Int)) * ((Y : Int) + 1)) = (((tn * (X + 1) + i2) * (Y + 1) : Nat) : Int) := by
                              have h9 : (((tn * (X + 1) : Nat) : Int) + (i2 : Int)) * ((Y : Int) + 1) = (((tn * (X + 1) + i2) * (Y + 1) : Nat) : Int) := by push_cast; rfl
                              rw [h9]; exact wrapI (by omega) (by omega)
                            have mt4 : IntKind.i64.wrap ((((tn * (X + 1) + i2) * (Y + 1) : Nat) : Int) + (j2 : Int)) = ((idx X Y tn i2 j2 : Nat) : Int) := by
                              rw [← Int.natCast_add]; exact wrapI (by omega) (by show ((idx X Y tn i2 j2 : Nat) : Int) ≤ _; omega)
                            have HEdge : Hid (Pl.Edge l x y fr k p2.toNat (idx X Y tn i2 j2)) := ⟨q, i, j, _, tn, i2, j2, by rw [HN.out]; exact hq, by rw [HXE.out]; exact hi, by rw [HYE.out]; exact hj, HMEM.out, rfl, HOI.out, HOJ.out, by rw [HXE.out, HYE.out]; exact HKI.out, rfl, by rw [HXE.out, HYE.out]⟩
                            have HCA : Hid (el cs (idx X Y tn i2 j2) ≤ el cs k + p2 → cs = cs0 → ClosedA x y fr cs0 k i j (p0, p1, p2, (tn : Int))) := fun hle heq t' i' j' h1 h2 h3 => by
                              have h4 := HOI.out
                              have h5 := HOJ.out
                              simp only at h1 h2 h3 ⊢
                              rw [h4] at h2
                              rw [h5] at h3
                              obtain rfl : i2 = i' := Option.some.inj h2
                              obtain rfl : j2 = j' := Option.some.inj h3
                              obtain rfl : tn = t' := by omega
                              rw [HXE.out, HYE.out, ← heq]
                              omega
                            clear hb1 hb2
                            have hkl : k < cs.length := by rw [hC.out.len, HN.out, HXE.out, HYE.out, HNN.out]; exact hkN
                            have hIl : idx X Y tn i2 j2 < cs.length := by rw [hC.out.len, HN.out, HXE.out, HYE.out, HNN.out]; exact hIlt
                            generalize tn * (X + 1) = T1 at *
                            generalize (T1 + i2) * (Y + 1) = T2 at *
                            generalize idx X Y tn i2 j2 = I at *
                            have hI0 : (0 : Int) ≤ (I : Int) := by omega
                            have hI1 : (I : Int) < (N : Int) := by omega
                            have c1 := num_cell hT.out.1 (j := k) hkl
                            have c2 := num_cell hT.out.1 (j := I) hIl
                            have e2 := (hT.out.2.2.cell (p := ⟨b4, off4 + t * 4 + 2, none⟩) hb4).trans HCE.out.2.2.1
                            have e3 := (hT.out.2.2.cell (p := ⟨b4, off4 + t * 4 + 3, none⟩) hb4).trans HCE.out.2.2.2
                            have hrk := hC.out.rng k hkl
                            have hrI := hC.out.rng I hIl
                            have hnone : noneI = 1152921504606846976 := rfl
                            rw [hnone] at hrk hrI
                            clear hnone
                            have HREL : Hid (el cs k + p2 < el cs I → CostT l x y fr z (cs.set I (el cs k + p2)) ∧ sumT (cs.set I (el cs k + p2)) < sumT cs ∧ el (cs.set I (el cs k + p2)) k < noneI) := fun hl => by
                              have hp : (p2.toNat : Int) = p2 := by omega
                              have h9 := hC.out.relax hkl hkn.out HEdge.out hIl (by rw [hp]; exact hl)
                              rw [hp] at h9
                              refine ⟨h9.1, h9.2, ?_⟩
                              rw [el_setT hIl]
                              split
                              · have := hkn.out; have := hrI.2; unfold noneI; omega
                              · exact hkn.out
                            generalize hck : el cs k = ck at *
                            generalize hcI : el cs I = cI at *
                            have HCK0 := hidP hck
                            clear hck hcI
                            have hwc : IntKind.i64.wrap (ck + p2) = ck + p2 := wrapI (by omega) (by omega)
                            by_cases hlt2 : ck + p2 < cI
                            · obtain ⟨r1, r2, r3⟩ := HREL.out hlt2
                              have HR1 := hidP r1
                              have HR2 := hidP r2
                              have HR3 := hidP r3
                              clear r1 r2 r3 HREL
                              go_wp2
                              go_quiet (fail)
                              have HT6 := hidP (hT.out.drewN nq)
                              clear hT c1 c2 e2 e3
                              generalize wc.drewN nq = w6 at *
                              have c1 := num_cell HT6.out.1 (j := k) hkl
                              have c2 := num_cell HT6.out.1 (j := I) hIl
                              have f2 := HT6.out.1.fz I
                              have e2 := (HT6.out.2.2.cell (p := ⟨b4, off4 + t * 4 + 2, none⟩) hb4).trans HCE.out.2.2.1
                              rw [HCK0.out] at c1
                              have HSS : Hid (sumT (cs.set I (ck + p2)) < sumT cs0) := by
                                have h9 := HR2.out
                                cases b
                                · rw [(hcl.out rfl).1] at h9 ⊢; exact h9
                                · exact Nat.lt_trans h9 (hlt.out rfl)
                              go_wp2
                              go_region
                              go_wp2
                              go_roundw
                              case rel => exact ⟨true, t + 1, cs.set I (ck + p2), rfl, by go_num, by omega, HR1, HR3, fun _ => HSS.out, fun h => absurd h (by simp), (HT6.out.set I _).drew⟩
                              case measure => simp [intOf]; omega
                            · have HLE : Hid (cI ≤ ck + p2) := by show _ ≤ _; omega
                              go_wp2
                              go_quiet (fail)
                              have HT6 := hidP (hT.out.drewN nq)
                              clear hT c1 c2 e2 e3
                              generalize wc.drewN nq = w6 at *
                              go_wp2
                              go_roundw
                              case rel => exact ⟨b, t + 1, cs, rfl, by go_num, by omega, hC, (by show el cs k < noneI; rw [HCK0.out]; exact hkn.out), hlt, fun hb => HCL.out hb (HCA.out HLE.out (hcl.out hb).1), HT6⟩
                              case measure => simp [intOf]; omega
                    · have htn : ¬ (t : Int) < (L : Int) := by omega
                      obtain rfl : t = L := by omega
                      have HCK : Hid (b = false → cs = cs0 ∧ ∀ g, g < k + 1 → ClosedK l x y fr cs0 g) := fun hb => by
                        obtain ⟨h1, h2, h3⟩ := hcl.out hb
                        refine ⟨h1, fun g hg => ?_⟩
                        by_cases e : g = k
                        · rw [e]
                          refine ClosedK.of (q := q) (i := i) (j := j) (by rw [HXE.out, HYE.out]; exact HKI.out) (by rw [HXE.out]; exact hi) (by rw [HYE.out]; exact hj) (fun s hs => ?_)
                          rw [HAR.out] at hs ⊢
                          exact h3 s (by rw [← HL.out]; exact hs)
                        · exact h2 g (by omega)
                      have hkw : IntKind.i64.wrap ((k : Int) + 1) = (k : Int) + 1 := wrapI (by omega) (by omega)
                      go_wp2
                      go_roundw
                      case rel => exact ⟨b, k + 1, cs, rfl, by go_num, by omega, hC, hlt, HCK, hT⟩
                      case measure => simp [intOf]; omega
              · have hk1 : ¬ (k : Int) < (N : Int) := by omega
                obtain rfl : N = k := by omega
                have HSU : Hid (tabSum wr (w.heap.size + 1) = sumT cs) := tabSum_of hT.out.1
                go_wp2
                go_roundw
                case rel => exact ⟨b, cs, rfl, hC, fun hb => by rw [(hcl.out hb).1]; exact (hcl.out hb).2, hT⟩
                case measure =>
                  rw [HSU.out, HMS.out]
                  cases b
                  · rw [(hcl.out rfl).1]; simp [boolN]
                  · have := hlt.out rfl; simp [boolN]; omega
end Go.Proofs.Ytpfcljhbamnghaa.Wt
