/- best.Costs: what the n cheapest paths cost. -/
import Derived.Test.YtobhjhjfannnnaaUan
import Derived.Test.YtobhjhjfannnnaaUav
import Derived.Test.YtobhjhjfannnnaaUau
import Derived.Test.YtobhjhjfannnnaaUaf
import Derived.Deep.RegionHeld
import Derived.Test.YtobhjhjfannnnaaUay
import Derived.Test.YtobhjhjfannnnaaUax
import Derived.BigQuiet
import Derived.Deep.DeepCutAuto
namespace Go.Proofs.Ytobhjhjfannnnaa.Bw
open Go.ChangeShapes Go.WideShapes Go.ChangeAt Go.RowKit
open Go.Proofs.Ytobhjhjfannnnaa.Pl Go.Proofs.Ytobhjhjfannnnaa.Wt
set_option linter.unusedVariables false
set_option linter.unusedSimpArgs false
theorem cost_ans {m : Mc} {n : Nat} (hr : faultM m = 0) (hn : n ≤ 20) {vs : List Int} (hv : DstAns m (EndC m.2) vs 0) {L : List Int} (hL : PthK m.1 m.2 n L) :
  ((∀ x ∈ L, kA x ≤ 1000000000) → CostAns m n (L.map kA) 0) ∧ ((∃ x ∈ L, 1000000000 < kA x) → CostAns m n [] 4) := by
 have hR := RgtM.of hr
 rcases hL with ⟨h0, rfl⟩ | ⟨h0, F, hF, rfl⟩
 ·refine ⟨fun _ => .inr (.inr ⟨hr, by omega, by omega, vs, 0, hv, .inr (.inl ⟨rfl, h0, rfl, rfl⟩)⟩), fun ⟨x, hx, _⟩ => by cases hx⟩
 ·have h1 := hR.hi
  obtain ⟨R, hC, h2, h3⟩ := costs_found hR.rgt (start := m.1.toNat) (by omega) (by have := hR.few; omega) hn hF
  refine ⟨fun h => .inr (.inr ⟨hr, by omega, by omega, vs, 0, hv, .inr (.inr ⟨rfl, h0, R, by rw [Int.toNat_natCast]; exact hC, .inr ⟨?_, (h2 h).symm, rfl⟩⟩)⟩), fun h => .inr (.inr ⟨hr, by omega, by omega, vs, 0, hv, .inr (.inr ⟨rfl, h0, R, by rw [Int.toNat_natCast]; exact hC, .inl ⟨h3 h, rfl, rfl⟩⟩)⟩)⟩
  rw [h2 h]
  intro x hx
  obtain ⟨y, hy, rfl⟩ := List.mem_map.1 hx
  exact h y hy
theorem ckFew {S : List (List Ar)} {n start : Nat} {F : List (List Int)} {H : List Ar} (h : CkI S n start F H) {p : Nat} (hp : p < S.length) : (el F p).length ≤ n := h.key.few p hp
set_option maxRecDepth 100000 in
set_option maxHeartbeats 6400000 in
theorem costP_any (v : Value) (m : Mc) (n : Int) (w : World) (h : Mach w v m) (hok : okM m) :
  Calls Try.prog 14 #[v, .int .i64 n] w fun e w' => LstRes (CostAns m n) w e w' := by
 obtain ⟨z, l⟩ := m
 obtain ⟨i1, hi1, hy0, hy1, hy2⟩ := info_parts infoIntU
 have HM : Hid (Mach w v (z, l)) := h
 obtain ⟨vs, rfl, hS⟩ := h
 obtain ⟨a, cap, rfl⟩ := hS.sl
 generalize hl : l.length = N at *
 have HL := hidP hl
 have HK := hidP hok
 have HX : Hid (∀ W, Below w.heap.size w W → Mach W (.agg #[.int .i64 z, .slice a N cap]) (z, l)) := fun W hW => HM.out.later hW (Nat.le_refl _)
 have HCK : Hid (∀ W, Below w.heap.size w W → Calls Try.prog 32 #[.agg #[.int .i64 z, .slice a N cap]] W fun e w' => e = .returned (.int .i64 (faultM (z, l))) ∧ Below W.heap.size W w') := fun W hW => coreCheck_any _ (z, l) W (HX.out W hW) HK.out _ rfl
 have HEN : Hid (∀ W, Below w.heap.size w W → Calls Try.prog 33 #[.agg #[.int .i64 z, .slice a N cap]] W fun e w' => LstRes (DstAns (z, l) (EndC l)) W e w') := fun W hW => endsP_any _ (z, l) W (HX.out W hW) HK.out
 by_cases hr : faultM (z, l) = 0
 ·have HR := hidP hr
  rw [hr] at HCK
  by_cases hn0 : n < 0
  ·have HA : Hid (CostAns (z, l) n [] 2) := .inr (.inl ⟨hr, by omega, rfl, rfl⟩)
   clear hS hok hr
   go_enter Try.func14, Try.ntmps14
   go_wp2_with (first
    | (go_at_call 32; (with_reducible refine (HCK.out _ (by go_grown)).mono ?_); rintro e w1 ⟨rfl, hb⟩; obtain ⟨s1, b1, hb1⟩ := boxed hb (by simp); have HB1 := hidP hb1; clear hb b1 hb1))
   go_ret2
   exact ⟨_, [], 2, rfl, HA.out, .inl ⟨rfl, rfl⟩, HB1.out⟩
  ·by_cases hn1 : 20 < n
   ·have HA : Hid (CostAns (z, l) n [] 2) := .inr (.inl ⟨hr, by omega, rfl, rfl⟩)
    clear hS hok hr
    go_enter Try.func14, Try.ntmps14
    go_wp2_with (first
     | (go_at_call 32; (with_reducible refine (HCK.out _ (by go_grown)).mono ?_); rintro e w1 ⟨rfl, hb⟩; obtain ⟨s1, b1, hb1⟩ := boxed hb (by simp); have HB1 := hidP hb1; clear hb b1 hb1))
    go_ret2
    exact ⟨_, [], 2, rfl, HA.out, .inl ⟨rfl, rfl⟩, HB1.out⟩
   ·obtain ⟨k, rfl⟩ : ∃ k : Nat, n = (k : Int) := ⟨n.toNat, by omega⟩
    have hk : k ≤ 20 := by omega
    have HRM := hidP (RgtM.of (m := (z, l)) hr)
    have HPA : Hid (∀ W, Below w.heap.size w W → Calls Try.prog 34 #[.agg #[.int .i64 z, .slice a N cap], .int .i64 (k : Int)] W fun e w' => ∃ v L, e = .returned v ∧ Row 2 encT w' v L ∧ PthK z l k L ∧ Below W.heap.size W w') := fun W hW => paths_any z _ l k W (HX.out W hW) HRM.out hk
    have HCA : Hid (∀ vs ec, DstAns (z, l) (EndC l) vs ec → ec ≠ 0 → CostAns (z, l) k [] ec) := fun vs ec hd he => .inr (.inr ⟨HR.out, by omega, by omega, vs, ec, hd, .inl ⟨he, rfl, rfl⟩⟩)
    clear hS hok hr
    go_enter Try.func14, Try.ntmps14
    go_wp2_with (first
     | (go_at_call 32; (with_reducible refine (HCK.out _ (by go_grown)).mono ?_); rintro e w1 ⟨rfl, hb⟩; obtain ⟨s1, b1, hb1⟩ := boxed hb (by simp); have K1 := hidP b1; have HB1 := hidP hb1; have c0 := b1.cell 0 (v := .int .i64 z) rfl; have c1 := b1.cell 1 (v := .slice a N cap) rfl; clear hb b1 hb1)
     | (go_at_call 33; ((with_reducible refine (HEN.out _ HB1.out).mono ?_); rintro e w2 ⟨v2, vs2, ec2, rfl, hA2, hN2, hb⟩; have K2 := hidP (K1.out.below hb K1.out.lt); have HB2 := hidP (HB1.out.trans (hb.mono HB1.out.size)); have HA2 := hidP hA2; have d0 := K2.out.cell 0 (v := .int .i64 z) rfl; have d1 := K2.out.cell 1 (v := .slice a N cap) rfl; clear hb hA2 hN2; by_cases he : ec2 = 0))
     | (go_at_call 34; ((with_reducible refine (HPA.out _ HB2.out).mono ?_); rintro e w3 ⟨v3, L3, rfl, hR3, hP3, hb⟩; have HB3 := hidP (HB2.out.trans (hb.mono HB2.out.size)); have HR3 := hidP hR3; have HP3 := hidP hP3; obtain ⟨a3, cap3, hv3, hg3⟩ := rowT_get hR3; have HG3 := hidP hg3; clear hb hR3 hP3 hg3; subst hv3)))
    ·have HCO := hidP (cost_ans (m := (z, l)) HR.out hk (by have h9 := HA2.out; rw [he] at h9; exact h9) HP3.out)
     have HLN : Hid (L3.length ≤ 1000) := by
      rcases HP3.out with ⟨_, h9⟩ | ⟨_, F, hF, h9⟩
      ·rw [h9]; exact Nat.zero_le _
      ·rw [h9]
       have h8 := ckFew hF (p := l.length) (by rw [onL_len]; omega)
       show _ ≤ _
       omega
     generalize hlen : L3.length = M at *
     have HM3 := hidP hlen
     have hM : M ≤ 1000 := HLN.out
     clear hlen
     go_loopw [9, 35] (fun s9 i wr => ∃ (j : Nat) (vo : Value), j ≤ M ∧ vo = s9 ∧ i = .int .i64 j ∧ Hid (wr.ownsRow w3.heap.size 3 1 vo ((L3.take j).map kA).length (((L3.take j).map kA).flatMap encI1)) ∧ Hid (∀ x ∈ L3.take j, kA x ≤ 1000000000) ∧ Hid (Below w3.heap.size w3 wr)) (fun _ i _ => M - (intOf i).toNat)
     case atStart => exact ⟨0, _, Nat.zero_le _, rfl, rfl, World.ownsRow_nil _ _ _ _, fun x hx => absurd hx (by simp), Below.refl _ _⟩
     case round =>
      obtain ⟨j, vo, hj, rfl, rfl, hown, hle, hb⟩ := hrel
      by_cases hjM : j < M
      ·obtain ⟨b3, off3, rfl, hb3l, e0, e1⟩ := HG3.out j hjM
       have e0 := (hb.out.cell (p := ⟨b3, off3 + j * 2, none⟩) hb3l).trans e0
       have e1 := (hb.out.cell (p := ⟨b3, off3 + j * 2 + 1, none⟩) hb3l).trans e1
       have HTK := hidP (take_el (l := L3) (k := j) (by rw [HM3.out]; exact hjM))
       have HMM := hidP (el_mem (l := L3) (j := j) (by rw [HM3.out]; exact hjM))
       have HTL : Hid (((L3.take j).map kA).length = j) := by show _ = _; rw [List.length_map, List.length_take, HM3.out]; omega
       have hj0 : (0 : Int) ≤ (j : Int) := by omega
       have hj1 : (j : Int) < (M : Int) := by omega
       generalize el L3 j = x at *
       have HXA := hidP (rfl : kA x = kA x)
       generalize hxa : kA x = xa at *
       have HXB := hidP hxa
       generalize kB x = xb at *
       clear hxa HXA
       have HD : Hid ((wr.alloc (.cells #[.int .i64 xa, .int .i64 xb] 68)).ownsRow w3.heap.size 3 1 vo ((L3.take j).map kA).length (((L3.take j).map kA).flatMap encI1)) := hown.out.alloc _
       have HDB : Hid (Below w3.heap.size w3 (wr.alloc (.cells #[.int .i64 xa, .int .i64 xb] 68))) := hb.out.alloc hb.out.size _
       by_cases hov : (1000000000 : Int) < xa
       ·have HOV := hidP (HCO.out.2 ⟨x, HMM.out, by rw [HXB.out]; exact hov⟩)
        go_wp2
        go_ret2
        exact ⟨_, [], 4, rfl, HOV.out, .inl ⟨rfl, rfl⟩, HB3.out.trans (HDB.out.mono HB3.out.size)⟩
       ·have HLE : Hid (∀ y ∈ L3.take (j + 1), kA y ≤ 1000000000) := fun y hy => by
         rw [HTK.out] at hy
         rcases List.mem_append.1 hy with hy | hy
         ·exact hle.out y hy
         ·rw [List.mem_singleton.1 hy, HXB.out]; omega
        have HMP : Hid ((L3.take (j + 1)).map kA = (L3.take j).map kA ++ [xa]) := by show _ = _; rw [HTK.out, List.map_append, List.map_cons, List.map_nil, HXB.out]
        generalize (L3.take j).map kA = ks at *
        have hkl : ks.length = j := HTL.out
        go_wp2_with (first
         | (at_builtin; refine wpList_append_rows encI1_len (by decide) encI1_one rfl _ _ 26 rfl w3.heap.size 3 i1 _ 8 Try.underlying26 hi1 hy0 hy1 hy2 rfl _ ks.length (ks.flatMap encI1) rfl (HD.out.alloc _) _ [xa] rfl (by have h9 := oneRow (enc := encI1) (wr.alloc (.cells #[.int .i64 xa, .int .i64 xb] 68)) xa rfl 3; simp only [World.size_alloc] at h9; exact h9) (by simp; unfold maxLen; omega) (by simp; omega) (by have := HDB.out.size; simp at this ⊢; omega) ?_; intro v4 w4 ho4 hg4; obtain ⟨HO4, HB4, HZ4⟩ := snocFacts HD.out HDB.out.size ho4 hg4; clear ho4 hg4))
        go_roundw
        case rel => exact ⟨j + 1, _, by omega, rfl, by go_num, by rw [HMP.out]; exact HO4, HLE, HDB.out.trans HB4.out⟩
        case measure => simp [intOf]; omega
      ·have hnl : ¬ (j : Int) < (M : Int) := by omega
       have HOK := hidP (HCO.out.1 (by have h9 := hle.out; rw [show j = L3.length by rw [HM3.out]; omega, List.take_length] at h9; exact h9))
       have HOW := hown.out
       rw [show j = L3.length by rw [HM3.out]; omega, List.take_length] at HOW
       have HNU : Hid (Nums wr vo (L3.map kA)) := Row.ofOwn encI1_len HOW rfl
       go_wp2
       go_ret2
       exact ⟨_, _, 0, rfl, HOK.out, HNU.out, HB3.out.trans (hb.out.mono HB3.out.size)⟩
    ·go_ret2
     exact ⟨_, [], ec2, rfl, HCA.out vs2 ec2 HA2.out he, .inl ⟨rfl, rfl⟩, HB2.out⟩
 ·have HA : Hid (CostAns (z, l) n [] (faultM (z, l))) := .inl ⟨hr, rfl, rfl⟩
  generalize faultM (z, l) = r at *
  clear hS hok
  go_enter Try.func14, Try.ntmps14
  go_wp2_with (first
   | (go_at_call 32; (with_reducible refine (HCK.out _ (by go_grown)).mono ?_); rintro e w1 ⟨rfl, hb⟩; obtain ⟨s1, b1, hb1⟩ := boxed hb (by simp); have HB1 := hidP hb1; clear hb b1 hb1))
  go_ret2
  exact ⟨_, [], r, rfl, HA.out, .inl ⟨rfl, rfl⟩, HB1.out⟩
end Go.Proofs.Ytobhjhjfannnnaa.Bw
namespace Go.Proofs.Ytobhjhjfannnnaa.Wt
open Go.ChangeShapes Go.WideShapes Go.ChangeAt Go.RowKit
open Go.Proofs.Ytobhjhjfannnnaa.Pl
set_option linter.unusedVariables false
set_option linter.unusedSimpArgs false
theorem Nums.setS {w : World} {v : Value} {l : List Int} (h : Nums w v l) {G : Nat} {vs : List Value} {t : TypeId} (hG : Blk w G vs.toArray t) (hs : ∀ x ∈ vs, ∃ a n c, x = .slice a n c) (i : Nat) (u : Value) : Nums (w.setCell ⟨G, i, none⟩ u) v l := by
 rcases h with h | ⟨x, cap, hv, hc⟩
 ·exact .inl h
 ·refine .inr ⟨x, cap, hv, fun j hj k y hy => ?_⟩
  have h1 := hc j hj k y hy
  have hy2 : ∃ z, y = .int .i64 z := by
   have := List.mem_of_getElem? hy
   simp only [encI1, List.mem_singleton] at this
   exact ⟨_, this⟩
  obtain ⟨z, rfl⟩ := hy2
  refine (World.cell?_setCell_other w _ _ u fun e => ?_).trans h1
  rw [← e] at h1
  have h2 : i < vs.length := by
   rcases Nat.lt_or_ge i vs.length with g | g
   ·exact g
   ·have h3 : w.cell? ⟨G, i, none⟩ = none := by
     have hG' : w.heap[G]? = some (.cells vs.toArray t (0, 0)) := hG
     simp [World.cell?, hG', Array.getElem?_eq_none (xs := vs.toArray) (i := i) (by simpa using g)]
    rw [h3] at h1; cases h1
  have h4 := hG.cell i (v := vs[i]) (by simp [h2])
  rw [h4] at h1
  obtain ⟨a, n, c, h5⟩ := hs _ (List.getElem_mem h2)
  rw [h5] at h1
  cases h1
structure RowsN (w : World) (G : Nat) (rows : List (List Int)) (vs : List Value) : Prop where
 len : vs.length = rows.length
 blk : Blk w G vs.toArray 26
 sl : ∀ x ∈ vs, ∃ a n c, x = .slice a n c
 row : ∀ j, j < rows.length → Nums w (el vs j) (el rows j)
theorem RowsN.later {w w' : World} {G : Nat} {rows : List (List Int)} {vs : List Value} (h : RowsN w G rows vs) (hb : Below w.heap.size w w') : RowsN w' G rows vs :=
 ⟨h.len, h.blk.below hb h.blk.lt, h.sl, fun j hj => (h.row j hj).later hb (Nat.le_refl _)⟩
theorem RowsN.setO {w : World} {G G2 : Nat} {rows : List (List Int)} {vs us : List Value} {t : TypeId} (h : RowsN w G rows vs) (hne : G ≠ G2) (h2 : Blk w G2 us.toArray t) (hs : ∀ x ∈ us, ∃ a n c, x = .slice a n c) (i : Nat) (u : Value) : RowsN (w.setCell ⟨G2, i, none⟩ u) G rows vs :=
 ⟨h.len, h.blk.setO _ _ hne, h.sl, fun j hj => (h.row j hj).setS h2 hs i u⟩
theorem RowsN.cell {w : World} {G : Nat} {rows : List (List Int)} {vs : List Value} (h : RowsN w G rows vs) {j : Nat} (hj : j < rows.length) : w.cell? ⟨G, j, none⟩ = some (el vs j) := by
 refine h.blk.cell j ?_
 rw [el_get (by rw [h.len]; exact hj)]
 simp [show j < vs.length by rw [h.len]; exact hj]
theorem RowsN.put {w : World} {G : Nat} {rows : List (List Int)} {vs : List Value} (h : RowsN w G rows vs) {i : Nat} (hi : i < rows.length) {v : Value} {L : List Int} (hv : Nums w v L) : RowsN (w.setCell ⟨G, i, none⟩ v) G (rows.set i L) (vs.set i v) := by
 obtain ⟨a, c, e, _⟩ := hv.get
 refine ⟨by rw [List.length_set, List.length_set]; exact h.len, ?_, fun x hx => ?_, fun j hj => ?_⟩
 ·have h9 := h.blk.set i v
  rw [List.setIfInBounds_toArray] at h9
  exact h9
 ·rcases List.mem_or_eq_of_mem_set hx with g | g
  ·exact h.sl x g
  ·exact ⟨a, _, c, by rw [g]; exact e⟩
 ·rw [List.length_set] at hj
  by_cases e : i = j
  ·subst e
   rw [el_get (by rw [List.length_set, h.len]; exact hj), el_get (by rw [List.length_set]; exact hj), List.getElem_set_self, List.getElem_set_self]
   exact hv.setS h.blk h.sl i v
  ·have e1 : el (rows.set i L) j = el rows j := by simp only [el, List.getD_eq_getElem?_getD, List.getElem?_set_ne e]
   have e2 : el (vs.set i v) j = el vs j := by simp only [el, List.getD_eq_getElem?_getD, List.getElem?_set_ne e]
   rw [e1, e2]
   exact (h.row j hj).setS h.blk h.sl i v
theorem RowsN.start {w : World} {G n : Nat} (h : Blk w G (List.replicate n (Value.slice none 0 0)).toArray 26) : RowsN w G (List.replicate n []) (List.replicate n (.slice none 0 0)) := by
 refine ⟨by simp, h, fun x hx => ⟨none, 0, 0, List.eq_of_mem_replicate hx⟩, fun j hj => ?_⟩
 rw [List.length_replicate] at hj
 rw [el_get (by simpa using hj), el_get (by simpa using hj)]
 simp only [List.getElem_replicate]
 exact .inl ⟨rfl, rfl⟩
theorem infoRowX : (Try.prog.info? 26).map (fun i => (i.zero, i.size, i.bytes)) = some (some (.slice none 0 0), 1, 24) := by kernel_rfl
theorem run_rowsX (n : Nat) (hn : n ≤ 1000) (W : World) : (Instr.makeSlice 70 (.int .i64 (n : Int)) (.int .i64 (n : Int))).run Try.prog W = .ok (.slice (some ⟨W.heap.size, 0, none⟩) n n) (W.alloc (.cells (Array.replicate n (Value.slice none 0 0)) 26)) := by
 obtain ⟨i1, hi1, hy0, hy1, hy2⟩ := info_parts infoRowX
 have h := run_make (P := Try.prog) W 70 26 i1 _ Try.underlying70 hi1 hy0 .i64 .i64 n n (by omega) (by omega) (by rw [hy2]; omega) (by omega)
 rw [hy1, Int.toNat_natCast] at h
 have hz : Value.cells (.slice none 0 0) = #[.slice none 0 0] := rfl
 have e : madeCells (Value.cells (.slice none 0 0)) (n * 1) = Array.replicate n (Value.slice none 0 0) := by
  apply Array.ext_getElem?
  intro t
  simp only [madeCells, hz]
  by_cases ht : t < n
  ·simp [ht, Nat.mod_one]
  ·simp [ht]
 rw [e] at h
 exact h
theorem rows_made (w : World) (n : Nat) : RowsN (w.alloc (.cells (Array.replicate n (Value.slice none 0 0)) 26)) w.heap.size (List.replicate n []) (List.replicate n (.slice none 0 0)) := by
 refine RowsN.start ?_
 rw [show (List.replicate n (Value.slice none 0 0)).toArray = Array.replicate n (Value.slice none 0 0) from by simp]
 exact Blk.made _ _ _
theorem costs_lst {m : Mc} {n : Int} {w w' : World} {e : Ending} {v : Value} {L : List Int} {ec : Int} (h : CostAns m n L ec) (he : e = .returned (.tuple #[v, .int .i64 ec])) (hn : Nums w' v L) (hb : Below w.heap.size w w') : LstRes (CostAns m n) w e w' := ⟨v, L, ec, he, h, hn, hb⟩
set_option maxRecDepth 100000 in
set_option maxHeartbeats 1600000 in
theorem costsR_bad (v : Value) (m : Mc) (n : Int) (w : World) (h : Mach w v m) (hok : okM m) (r : Int) (hr : faultM m = r) (h0 : r ≠ 0) :
  Calls Try.prog 15 #[v, .int .i64 n] w fun e w' => LstRes (CostAns m n) w e w' := by
 have HF := hidP (fun W (hW : Below w.heap.size w W) => fault_any v m W (h.later hW (Nat.le_refl _)) hok r hr)
 have HA : Hid (CostAns m n [] r) := .inl ⟨by rw [hr]; exact h0, rfl, hr.symm⟩
 have hn : (r != 0) = true := by simpa using h0
 obtain ⟨z, l⟩ := m
 obtain ⟨vs, rfl, hS⟩ := h
 obtain ⟨a, cap, rfl⟩ := hS.sl
 clear hS hok hr h0
 have HR : Hid (∀ (e : Ending) (w' : World), e = .returned (.tuple #[.slice none 0 0, .int .i64 r]) → Below w.heap.size w w' → LstRes (CostAns (z, l) n) w e w') := fun e w' h1 h2 => costs_lst HA.out h1 (.inl ⟨rfl, rfl⟩) h2
 have HB0 : Hid (Below w.heap.size w (w.alloc (.cells #[.int .i64 z, .slice a l.length cap] 24))) := (Below.refl _ _).alloc (Nat.le_refl _) _
 go_enter Try.func15, Try.ntmps15
 go_wp2_with (first
  | (go_at_call 35; (with_reducible refine (HF.out _ HB0.out).mono ?_); rintro e w1 ⟨rfl, hb⟩; have HB1 : Hid (Below w.heap.size w w1) := (boxed hb (by simp)).2.2; clear hb))
 go_ret2
 exact HR.out _ _ rfl HB1.out
set_option maxRecDepth 100000 in
set_option maxHeartbeats 1600000 in
theorem costsR_rng (v : Value) (m : Mc) (n : Int) (w : World) (h : Mach w v m) (hok : okM m) (hr : faultM m = 0) (h0 : ¬ (0 ≤ n ∧ n ≤ 20)) :
  Calls Try.prog 15 #[v, .int .i64 n] w fun e w' => LstRes (CostAns m n) w e w' := by
 have HF := hidP (fun W (hW : Below w.heap.size w W) => fault_any v m W (h.later hW (Nat.le_refl _)) hok 0 hr)
 have HA : Hid (CostAns m n [] 2) := .inr (.inl ⟨hr, h0, rfl, rfl⟩)
 have HIN := hidP (fun W => refIn n 0 20 false W (by unfold inB; simp; omega))
 obtain ⟨z, l⟩ := m
 obtain ⟨vs, rfl, hS⟩ := h
 obtain ⟨a, cap, rfl⟩ := hS.sl
 clear hS hok hr h0
 have HR : Hid (∀ (e : Ending) (w' : World), e = .returned (.tuple #[.slice none 0 0, .int .i64 2]) → Below w.heap.size w w' → LstRes (CostAns (z, l) n) w e w') := fun e w' h1 h2 => costs_lst HA.out h1 (.inl ⟨rfl, rfl⟩) h2
 have HB0 : Hid (Below w.heap.size w (w.alloc (.cells #[.int .i64 z, .slice a l.length cap] 24))) := (Below.refl _ _).alloc (Nat.le_refl _) _
 go_enter Try.func15, Try.ntmps15
 go_wp2_with (first
  | (go_at_call 35; (with_reducible refine (HF.out _ HB0.out).mono ?_); rintro e w1 ⟨rfl, hb⟩; have HB1 : Hid (Below w.heap.size w w1) := (boxed hb (by simp)).2.2; clear hb)
  | (go_at_call 36; (with_reducible refine (HIN.out _).mono ?_); rintro e w' ⟨rfl, rfl⟩))
 go_ret2
 exact HR.out _ _ rfl HB1.out
end Go.Proofs.Ytobhjhjfannnnaa.Wt
