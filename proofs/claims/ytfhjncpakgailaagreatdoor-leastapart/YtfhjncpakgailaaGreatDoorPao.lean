/- certain.arcsOf: the arcs of a set, what is left put to their weights, in order. -/
import Derived.Test.YtfhjncpakgailaaGreatDoorPak
import Derived.Test.YtfhjncpakgailaaGreatDoorPan
import Derived.Test.YtfhjncpakgailaaGreatDoorPam
import Derived.Test.YtfhjncpakgailaaGreatDoorRows
import Derived.Test.YtfhjncpakgailaaGreatDoorPad
import Derived.WalkKit
import Derived.ProofKit
import Derived.OpenShut
import Derived.Below
import Derived.Lib.Builder
import Derived.Lib.AppendStr
import Derived.Lib.UnsafeStr
import Derived.Laws.Externs
import Derived.Shelf.RegionOpenPlain
import Derived.Lib.ItoaNum
import Derived.Lib.LaidTab
import Derived.WalkSpells
import Derived.WalkLawsBesides
import Derived.Sort.Grow
import Derived.Test.YtfhjncpakgailaaGreatDoorShelf
import Derived.Test.YtfhjncpakgailaaGreatDoorPaj
namespace Go.Proofs.YtfhjncpakgailaaGreatDoor.Wt
open Go.ChangeShapes Go.WideShapes Go.ChangeAt Go.RowKit
open Go.Proofs.YtfhjncpakgailaaGreatDoor.Pl
set_option linter.unusedVariables false
set_option linter.unusedSimpArgs false
theorem arcW_take {l : List St} {ps : List Pa} {k : Nat} (h : k < ps.length) : arcW l (ps.take (k + 1)) = arcW l (ps.take k) ++ (el l (el ps k).1.toNat).2.map (wtA (el ps k).2) := by
 rw [take_el h, arcW_snoc]
theorem arcW_len {l : List St} {ps : List Pa} (h : ∀ q, (el l q).2.length ≤ 400) : (arcW l ps).length ≤ ps.length * 400 := by
  induction ps with
  | nil => simp [arcW]
  | cons p ps ih =>
    have e : arcW l (p :: ps) = (el l p.1.toNat).2.map (wtA p.2) ++ arcW l ps := rfl
    rw [e, List.length_append, List.length_map, List.length_cons]
    have := h p.1.toNat
    omega
theorem slThreeG {v : Value} {n : Nat} (h : ∃ a c, v = .slice a n c) : ∃ a k c, v = .slice a k c := by obtain ⟨a, c, e⟩ := h; exact ⟨a, n, c, e⟩
theorem OwnArcs.pushJ {W : World} {base : Nat} {v : Value} {ar : List Ar} (h : OwnArcs W base v ar) (c : Ar) (hl : ar.length ≤ 100000) (hbase : base ≤ W.heap.size) :
  ∃ v' w', (Builtin.append_ #[54, 54] 54 #[v, .slice (some ⟨W.heap.size, 0, none⟩) 1 1]).run Tryz.prog (W.alloc (.cells #[.int .i64 c.1, .int .i64 c.2.1, .int .i64 c.2.2.1, .int .i64 c.2.2.2] 58)) = .ok v' w' ∧ OwnArcs w' base v' (ar ++ [c]) ∧ Below base W w' ∧ (W.alloc (.cells #[.int .i64 c.1, .int .i64 c.2.1, .int .i64 c.2.2.1, .int .i64 c.2.2.2] 58)).grownBy w' v.ownBlock := by
 obtain ⟨i1, hi1, hy0, hy1, hy2⟩ := info_parts infoArc
 obtain ⟨v4, w4, r4, ho4, hg4, _⟩ := run_append_spot (P := Tryz.prog) (w := W.alloc (.cells (encA c).toArray 58)) encA_len (by decide) encA_one 54 54 base 58 i1 _ 32 Tryz.underlying54 hi1 hy0 hy1 hy2 rfl _ ar.length (ar.flatMap encA) (World.ownsRow.alloc h _) _ [c] (oneRow (enc := encA) W c rfl 58) (by simp; unfold maxLen; omega) (by simp; omega) (by simp; omega)
 exact ⟨v4, w4, r4, by unfold OwnArcs; rw [List.length_append, List.flatMap_append]; exact ho4, ((Below.refl _ _).alloc hbase _).grown hg4 (by simp; omega) (own_geK h), hg4⟩
set_option maxRecDepth 100000 in
set_option maxHeartbeats 6400000 in
theorem setArcs_any (vm : Value) (m : Mc) (base : Nat) (v : Value) (ps : List Pa) (w : World) (hM : Mach w vm m) (hf : faultM m = 0) (h : OwnP w base v ps) (hs : ∀ p ∈ ps, SmP m.2.length 1000000000000 p) (hl : ps.length ≤ 100) :
  Calls Tryz.prog 102 #[vm, v] w fun e w' => ∃ vr, e = .returned vr ∧ OwnArcs w' w.heap.size vr (sortL (arcW m.2 ps)) ∧ Below w.heap.size w w' := by
 obtain ⟨z, l⟩ := m
 simp only at hs ⊢
 obtain ⟨vs, rfl, hSt⟩ := hM
 obtain ⟨a, cap, rfl, hc⟩ := hSt.get
 simp only at hc ⊢
 have HC := hidP hc
 have HAW : Hid (∀ q, q < l.length → ∀ x ∈ (el l q).2, 0 ≤ x.2.2.1 ∧ x.2.2.1 ≤ 1000000000) := fun q hq x hx => by
  have h9 := arc_low hf hq hx
  exact ⟨h9.1, h9.2.1⟩
 have h400 : ∀ q, (el l q).2.length ≤ 400 := fun q => by
  by_cases hq : q < l.length
  ·exact (right_states hf q hq).2.1
  ·rw [show el l q = default by simp [el, List.getElem?_eq_none (Nat.le_of_not_lt hq)]]
   exact Nat.zero_le _
 have H4 := hidP h400
 have HP := hidP h
 have HEL : Hid (∀ k, k < ps.length → SmP l.length 1000000000000 (el ps k)) := fun k hk => hs _ (el_mem hk)
 have HST : Hid (∀ k, k < ps.length → arcW l (ps.take (k + 1)) = arcW l (ps.take k) ++ (el l (el ps k).1.toNat).2.map (wtA (el ps k).2)) := fun k hk => arcW_take hk
 have HLN : Hid (∀ k, (arcW l (ps.take k)).length ≤ 40000) := fun k => by
  have h1 := arcW_len (ps := ps.take k) h400
  have h2 : (ps.take k).length ≤ 100 := by rw [List.length_take]; omega
  show _ ≤ _
  omega
 have HALL : Hid (arcW l (ps.take ps.length) = arcW l ps) := by show _ = _; rw [List.take_length]
 obtain ⟨av, cv, rfl⟩ := h.sl
 have HB0 : Hid (Below w.heap.size w (w.alloc (.cells #[.int .i64 z, .slice a l.length cap] 29))) := (Below.refl _ _).alloc (Nat.le_refl _) _
 have HK0 := hidP (Blk.made w #[.int .i64 z, .slice a l.length cap] 29)
 have HA0 : Hid (OwnArcs (w.alloc (.cells #[.int .i64 z, .slice a l.length cap] 29)) w.heap.size (.slice none 0 0) []) := OwnArcs.nil _ _
 have h60 := (right_size hf).1
 clear h hs hc hSt hf h400
 obtain ⟨n, hn⟩ : ∃ n, ps.length = n := ⟨_, rfl⟩
 rw [hn] at hl HST HALL HEL ⊢
 have HN := hidP hn
 clear hn
 obtain ⟨nl, hnl⟩ : ∃ nl, l.length = nl := ⟨_, rfl⟩
 rw [hnl] at HC HAW HEL HB0 HK0 HA0 h60 ⊢
 clear hnl
 go_enter Tryz.func102, Tryz.ntmps102
 go_wp2
 go_loopw [5, 12] (fun s5 i wr => ∃ (k : Nat) (va : Value), k ≤ n ∧ va = s5 ∧ i = .int .i64 k ∧ Hid (OwnArcs wr w.heap.size va (arcW l (ps.take k))) ∧ Hid (Below w.heap.size w wr) ∧ Hid (Blk wr w.heap.size #[.int .i64 z, .slice a nl cap] 29)) (fun _ i _ => n - (intOf i).toNat)
 case atStart => exact ⟨0, _, Nat.zero_le _, rfl, rfl, HA0, HB0, HK0⟩
 case round =>
  clear HB0 HK0 HA0
  obtain ⟨k, va, hk, rfl, rfl, hA, hW, hK⟩ := hrel
  obtain ⟨w1, hw1⟩ : ∃ w1, w1 = wr := ⟨_, rfl⟩
  subst hw1
  by_cases hlt : k < n
  ·have k0 : (0 : Int) ≤ (k : Int) := Int.natCast_nonneg _
   have k1 : (k : Int) < (n : Int) := by omega
   obtain ⟨b, off, hab, hbl, c0, c1⟩ := HP.out.cell (j := k) (by rw [HN.out]; exact hlt)
   subst hab
   have c0 := (hW.out.cell (p := ⟨b, off + k * 2, none⟩) hbl).trans c0
   have c1 := (hW.out.cell (p := ⟨b, off + k * 2 + 1, none⟩) hbl).trans c1
   have hsm := HEL.out k hlt
   have HSK := hidP (HST.out k hlt)
   have hLk := HLN.out k
   have hLk1 := HLN.out (k + 1)
   obtain ⟨pk, hpk⟩ : ∃ pk, el ps k = pk := ⟨_, rfl⟩
   rw [hpk] at c0 c1 hsm HSK
   clear hpk
   obtain ⟨p0, p1⟩ := pk
   simp only [SmP] at hsm c0 c1 HSK
   obtain ⟨t, rfl⟩ : ∃ t : Nat, p0 = (t : Int) := ⟨p0.toNat, by omega⟩
   have t0 : (0 : Int) ≤ (t : Int) := Int.natCast_nonneg _
   have t1 : (t : Int) < (nl : Int) := hsm.2.1
   obtain ⟨b2, off2, vx, ha2, hb2, _, x1, hXA⟩ := HC.out t (by omega)
   subst ha2
   have x1 := (hW.out.cell (p := ⟨b2, off2 + t * 2 + 1, none⟩) hb2).trans x1
   have HXW := hidP (HAW.out t (by omega))
   have hX4 := H4.out t
   simp only [Int.toNat_natCast] at HSK
   obtain ⟨X, hX⟩ : ∃ X, (el l t).2 = X := ⟨_, rfl⟩
   rw [hX] at hXA HXW HSK hX4
   clear hX
   obtain ⟨ax, cx, hvx⟩ := hXA.sl
   subst hvx
   have HXA := hidP hXA
   have hlW := hW.out.size
   have hlK := hK.out.lt
   have hB1 := (Below.refl w1.heap.size w1).alloc (Nat.le_refl _) (.cells #[.int .i64 (t : Int), .int .i64 p1] 84)
   have W1 := hidP (hW.out.trans (hB1.mono hW.out.size))
   have K1 := hidP (hK.out.alloc (.cells #[.int .i64 (t : Int), .int .i64 p1] 84))
   have A1 := hidP (hA.out.later hB1)
   have P1 := hidP (Blk.made w1 #[.int .i64 (t : Int), .int .i64 p1] 84)
   have d1 := hK.out.cell 1 (v := .slice (some ⟨b2, off2, none⟩) nl cap) rfl
   have hbw : b2 < w1.heap.size := by omega
   have hbw3 : b < w1.heap.size := by omega
   have hPW : w.heap.size ≤ w1.heap.size := hlW
   obtain ⟨nx, hnx⟩ : ∃ nx, X.length = nx := ⟨_, rfl⟩
   rw [hnx] at HXA x1 hX4
   have HNX := hidP hnx
   clear hB1 hA hW hXA hnx
   obtain ⟨A0, hA0⟩ : ∃ A0, arcW l (ps.take k) = A0 := ⟨_, rfl⟩
   rw [hA0] at A1 HSK hLk
   clear hA0
   go_wp2
   clear d1 hlK c0 c1 x1 hK
   obtain ⟨Pb, hPb⟩ : ∃ Pb, Pb = w1.heap.size := ⟨_, rfl⟩
   rw [← hPb] at P1 hPW ⊢
   have HPB := hidP hPb
   have hMP : w.heap.size ≠ Pb := by have := K1.out.lt; have h9 := K1.out; intro e; rw [← e] at P1; unfold Hid at P1 K1; unfold Blk at P1 h9; rw [h9] at P1; exact absurd P1 (by simp)
   clear hPb
   go_loopw [5, 24] (fun s5 i wr => ∃ (j : Nat) (va : Value), j ≤ nx ∧ va = s5 ∧ i = .int .i64 j ∧ Hid (OwnArcs wr w.heap.size va (A0 ++ (X.take j).map (wtA p1))) ∧ Hid (Below w.heap.size w wr) ∧ Hid (Blk wr w.heap.size #[.int .i64 z, .slice (some ⟨b2, off2, none⟩) nl cap] 29) ∧ Hid (Blk wr Pb #[.int .i64 (t : Int), .int .i64 p1] 84)) (fun _ i _ => nx - (intOf i).toNat)
   case atStart => exact ⟨0, _, Nat.zero_le _, rfl, rfl, by simpa using A1, W1, K1, P1⟩
   case round =>
    clear A1 W1 K1 P1
    obtain ⟨j, va2, hj, rfl, rfl, hA, hW, hK, hP⟩ := hrel
    obtain ⟨w2, hw2⟩ : ∃ w2, w2 = wr := ⟨_, rfl⟩
    subst hw2
    by_cases hjl : j < nx
    ·have j0 : (0 : Int) ≤ (j : Int) := Int.natCast_nonneg _
     have j1 : (j : Int) < (nx : Int) := by omega
     obtain ⟨b3, off3, hb3, hb3l, e0, e1, e2, e3⟩ := arcs_at HXA.out (j := j) (by rw [HNX.out]; exact hjl)
     subst hb3
     have e0 := (hW.out.cell (p := ⟨b3, off3 + j * 4, none⟩) hb3l).trans e0
     have e1 := (hW.out.cell (p := ⟨b3, off3 + j * 4 + 1, none⟩) hb3l).trans e1
     have e2 := (hW.out.cell (p := ⟨b3, off3 + j * 4 + 2, none⟩) hb3l).trans e2
     have e3 := (hW.out.cell (p := ⟨b3, off3 + j * 4 + 3, none⟩) hb3l).trans e3
     have hxw := HXW.out (el X j) (el_mem (by rw [HNX.out]; exact hjl))
     have HTK : Hid ((X.take (j + 1)).map (wtA p1) = (X.take j).map (wtA p1) ++ [wtA p1 (el X j)]) := by show _ = _; rw [take_el (by rw [HNX.out]; exact hjl)]; simp
     obtain ⟨x, hx⟩ : ∃ x, el X j = x := ⟨_, rfl⟩
     rw [hx] at e0 e1 e2 e3 hxw HTK
     clear hx
     obtain ⟨q0, q1, q2, q3⟩ := x
     simp only [wtA] at e0 e1 e2 e3 hxw HTK
     have hwr : IntKind.i64.wrap (q2 + p1) = q2 + p1 := wrapI (by omega) (by omega)
     have hp1 := hP.out.cell 1 (v := .int .i64 p1) rfl
     have hsW := hW.out.size
     have hPl := hP.out.lt
     have hb3w : b3 < w2.heap.size := by omega
     have hA2 := (Below.refl w2.heap.size w2).alloc (Nat.le_refl _) (.cells #[.int .i64 q0, .int .i64 q1, .int .i64 (q2 + p1), .int .i64 q3] 58)
     have W3 := hidP (hW.out.trans (hA2.mono hW.out.size))
     have K3 := hidP (hK.out.alloc (.cells #[.int .i64 q0, .int .i64 q1, .int .i64 (q2 + p1), .int .i64 q3] 58))
     have P3 := hidP (hP.out.alloc (.cells #[.int .i64 q0, .int .i64 q1, .int .i64 (q2 + p1), .int .i64 q3] 58))
     have A3 := hidP (hA.out.later hA2)
     have hlen : (A0 ++ (X.take j).map (wtA p1)).length ≤ 100000 := by rw [List.length_append, List.length_map, List.length_take]; omega
     have hs3 : (w2.alloc (.cells #[.int .i64 q0, .int .i64 q1, .int .i64 (q2 + p1), .int .i64 q3] 58)).heap.size = w2.heap.size + 1 := by simp
     obtain ⟨v4, w4, r4, o4, b4, g4⟩ := A3.out.pushJ (q0, q1, q2 + p1, q3) hlen (by rw [hs3]; omega)
     rw [hs3] at r4
     have hA4 := (Below.refl _ (w2.alloc (.cells #[.int .i64 q0, .int .i64 q1, .int .i64 (q2 + p1), .int .i64 q3] 58))).alloc (Nat.le_refl _) (.cells #[.int .i64 q0, .int .i64 q1, .int .i64 (q2 + p1), .int .i64 q3] 58)
     have K4 := hidP ((K3.out.below hA4 K3.out.lt).grown g4 (own_ne (A3.out.later hA4) (K3.out.below hA4 K3.out.lt) (by decide)))
     have P4 := hidP ((P3.out.below hA4 P3.out.lt).grown g4 (own_ne (A3.out.later hA4) (P3.out.below hA4 P3.out.lt) (by decide)))
     have W4 := hidP (W3.out.trans b4)
     have A4 := hidP o4
     rw [List.append_assoc, ← HTK.out] at A4
     have HR4 := hidP r4
     obtain ⟨a4, n4, c4, hv4⟩ := slThreeG o4.sl
     subst hv4
     clear r4 o4 b4 g4 hA2 hA4 W3 K3 P3 A3 hlen hs3 hA hW hK
     go_wp2_with (first | (at_builtin; refine wpListAppendRun rfl _ _ 54 rfl rfl rfl HR4.out ?_))
     go_roundw
     case rel => exact ⟨j + 1, _, by omega, rfl, by go_num, A4, W4, K4, P4⟩
     case measure => simp [intOf]; omega
    ·have hj1 : ¬ (j : Int) < (nx : Int) := by omega
     obtain rfl : j = nx := by omega
     have A4 : Hid (OwnArcs w2 w.heap.size va2 (arcW l (ps.take (k + 1)))) := by
      show OwnArcs _ _ _ _
      rw [HSK.out]
      have h9 := hA.out
      rw [← HNX.out, List.take_length] at h9
      exact h9
     clear hA
     go_wp2
     go_roundw
     case rel => exact ⟨k + 1, _, by omega, rfl, by go_num, A4, hW, hK⟩
     case measure => simp [intOf]; omega
  ·have hk1 : ¬ (k : Int) < (n : Int) := by omega
   obtain rfl : k = n := by omega
   have hLk := HLN.out k
   rw [HALL.out] at hA hLk
   have HSO := hidP (sortC_own w.heap.size va (arcW l ps) w1 hA.out (by omega))
   obtain ⟨a4, n4, c4, hv4⟩ := slThreeG hA.out.sl
   have HGE := hidP (own_geK hA.out)
   subst hv4
   go_wp2_with (first
    | (go_at_call 118; (with_reducible refine HSO.out.mono ?_); rintro e w2 ⟨rfl, ho2, hg2⟩; have O2 : Hid (OwnArcs w2 w.heap.size (.slice a4 n4 c4) (sortL (arcW l ps))) := ho2; have W2 := hidP (hW.out.grown hg2 hW.out.size HGE.out); clear ho2 hg2))
   go_ret
   exact ⟨_, rfl, O2.out, W2.out⟩
end Go.Proofs.YtfhjncpakgailaaGreatDoor.Wt
namespace Go.Proofs.YtfhjncpakgailaaGreatDoor.Wt
open Go.ChangeShapes Go.WideShapes Go.ChangeAt Go.RowKit
open Go.Proofs.YtfhjncpakgailaaGreatDoor.Pl
set_option linter.unusedVariables false
theorem infoBuilder : (Tryz.prog.info? 198).map (·.size) = some 2 := by kernel_rfl
theorem liesBuilderV : liesAt Tryz.prog Tryz.prog.depth 198 (2 / Tryz.prog.cellsOf 198) 0 198 1 = true := by kernel_rfl
theorem infoByte : (Tryz.prog.info? 5).map (fun i => (i.zero, i.size, i.bytes)) = some (some (.int .u8 0), 1, 1) := by kernel_rfl
theorem chk_used (b : Nat) (w : World) (h0 : w.cell? ⟨b, 0, none⟩ = some (.pointer (some ⟨b, 0, none⟩))) :
  Calls Tryz.prog 183 #[.pointer (some ⟨b, 0, none⟩)] w fun e w' => e = .returned (.tuple #[]) ∧ w' = w := by
 obtain ⟨j, hj, _⟩ := Option.map_eq_some_iff.1 infoBuilder
 have hne := Lib.run_neq_ptr_same (P := Tryz.prog) w ⟨b, 0, none⟩ Tryz.underlying195 hj
 go_enter Tryz.func183, Tryz.ntmps183
 go_wp2
 go_end0
 exact ⟨rfl, rfl⟩
theorem noEscape (a : Addr) (w : World) : (callFunc 191 #[.pointer (some a)]).run Tryz.prog w = .ok (.value (.pointer (some a))) w := by
 rw [run_callFunc_extern Tryz.func191 (by kernel_rfl) (by kernel_rfl) (by kernel_rfl) (e := Extern.AbiNoEscape.same) (by kernel_rfl)]
 rfl
theorem chk_fresh (b : Nat) (w : World) (h0 : w.cell? ⟨b, 0, none⟩ = some (.pointer none)) (hsh : w.shape? b = some (198, 2)) (hfz : w.frozen? ⟨b, 0, none⟩ = false) :
  Calls Tryz.prog 183 #[.pointer (some ⟨b, 0, none⟩)] w fun e w' => e = .returned (.tuple #[]) ∧ w' = w.setCell ⟨b, 0, none⟩ (.pointer (some ⟨b, 0, none⟩)) := by
 obtain ⟨j, hj, hjs⟩ := Option.map_eq_some_iff.1 infoBuilder
 have hne := fun w => Lib.run_neq_ptr_same (P := Tryz.prog) w ⟨b, 0, none⟩ Tryz.underlying195 hj
 have hto := Lib.run_to_unsafe (P := Tryz.prog) w ⟨b, 0, none⟩ Tryz.underlying195 Tryz.underlying243 hj (by rw [hjs]; decide) hsh (Nat.zero_lt_succ 1)
 have hfr := Lib.run_from_unsafe (P := Tryz.prog) w ⟨b, 0, none⟩ Tryz.underlying243 Tryz.underlying195 hj hsh liesBuilderV
 have hes := noEscape ⟨b, 0, none⟩ w
 go_enter Tryz.func183, Tryz.ntmps183
 go_wp2
 go_end0
 exact ⟨rfl, rfl⟩
def Oth (w w' : World) : Prop := ∀ (k : Nat) (cs : Array Value) (T : TypeId) (fr : Nat × Nat), w.heap[k]? = some (.cells cs T fr) → T ≠ 198 → T ≠ 5 → w'.heap[k]? = some (.cells cs T fr)
theorem Oth.refl (w : World) : Oth w w := fun _ _ _ _ h _ _ => h
theorem Oth.trans {w w' w2 : World} (h : Oth w w') (h2 : Oth w' w2) : Oth w w2 := fun k cs T fr e a b => h2 k cs T fr (h k cs T fr e a b) a b
theorem Oth.of {w w' : World} (h : Below w.heap.size w w') : Oth w w' := fun k cs T fr e _ _ => (h.block k (lt_of_block e)).trans e
theorem Oth.set {w : World} {b o : Nat} {v : Value} {cs : Array Value} (hb : w.heap[b]? = some (.cells cs 198 (0, 0))) : Oth w (w.setCell ⟨b, o, none⟩ v) := fun k ds T fr e a _ => by
 by_cases hk : k = b
 ·subst hk
  rw [hb] at e
  simp only [Option.some.injEq, Obj.cells.injEq] at e
  exact absurd e.2.1.symm a
 ·rw [Below.heap_setCell _ _ _ _ (fun h => hk h)]; exact e
theorem Oth.grown {w w' : World} {B : Nat} {v : Value} {n : Nat} {xs : List Value} (ho : w.ownsRow B 5 1 v n xs) (hg : w.grownBy w' v.ownBlock) : Oth w w' := fun k ds T fr e _ b => by
 rw [hg.block k (lt_of_block e) (fun h => ?_)]
 ·exact e
 ·rcases ho.2 with ⟨hv, _⟩ | ⟨g, cap, cur, hv, _, hgb, _⟩
  ·rw [hv] at h; simp [Value.ownBlock] at h
  ·rw [hv] at h
   simp only [Value.ownBlock, Option.some.injEq] at h
   subst h
   rw [hgb] at e
   simp only [Option.some.injEq, Obj.cells.injEq] at e
   exact b e.2.1.symm
theorem chk_any (B b : Nat) (bs : List Value) (w : World) (h : Lib.IsBuilder 198 5 B b bs w) :
  Calls Tryz.prog 183 #[.pointer (some ⟨b, 0, none⟩)] w fun e w' => e = .returned (.tuple #[]) ∧ (Lib.BuilderAt 198 5 B b (.pointer (some ⟨b, 0, none⟩)) bs w' ∧ Below B w w' ∧ Oth w w') := by
 rcases h with h | h
 ·refine (chk_fresh b w h.cell0 h.shape h.frozen0).mono ?_
  rintro e w' ⟨rfl, rfl⟩
  exact ⟨rfl, h.used _, (Below.refl B w).setCell (p := ⟨b, 0, none⟩) h.1 _, by obtain ⟨_, _, hb, _⟩ := h; exact Oth.set hb⟩
 ·refine (chk_used b w h.cell0).mono ?_
  rintro e w' ⟨rfl, rfl⟩
  exact ⟨rfl, h, Below.refl B _, Oth.refl _⟩
theorem put_facts {B b : Nat} {v v' : Value} {bs : List Value} {w1 w2 : World} {k : List Value} (hbk : w1.heap[b]? = some (.cells #[.pointer (some ⟨b, 0, none⟩), v] 198 (0, 0))) (hne : v.ownBlock ≠ some b) (hg : w1.grownBy w2 v.ownBlock) :
  w2.heap[b]? = some (.cells #[.pointer (some ⟨b, 0, none⟩), v] 198 (0, 0)) := by
 rw [hg.block b (lt_of_block hbk) (fun e => hne e.symm)]
 exact hbk
theorem own_slice {w : World} {B : Nat} {e : TypeId} {v : Value} {n : Nat} {xs : List Value} (h : w.ownsRow B e 1 v n xs) : ∃ ao n' cap, v = .slice ao n' cap := by
 rcases h.2 with ⟨hv, _⟩ | ⟨g, cap, cur, hv, _⟩
 ·exact ⟨_, _, _, hv⟩
 ·exact ⟨_, _, _, hv⟩
set_option maxHeartbeats 1000000 in
theorem write_any (B b : Nat) (bs : List Value) (s : ByteArray) (w : World) (h : Lib.IsBuilder 198 5 B b bs w) (hlen : bs.length + s.size ≤ 140737488355328) (hBw : B ≤ w.heap.size) :
  Calls Tryz.prog 158 #[.pointer (some ⟨b, 0, none⟩), .string s] w fun e w' => e = .returned (.tuple #[.int .i64 s.size, .nilIface]) ∧ (Lib.IsBuilder 198 5 B b (bs ++ Lib.strCells s) w' ∧ Below B w w' ∧ Oth w w') := by
 obtain ⟨i0, hi, hz0, hz1, hz2⟩ := info_parts infoByte
 have H : Hid (Lib.IsBuilder 198 5 B b bs w) := h
 clear h
 go_enter Tryz.func158, Tryz.ntmps158
 go_wp2_with (go_at_call 183; refine (chk_any B b bs _ H.out).mono ?_)
 rintro e w1 ⟨rfl, h1, hb1, ho1⟩
 have HO1 : Hid (Oth w w1) := ho1
 clear ho1
 obtain ⟨hB, v, hbk, hown, hne⟩ := h1
 have c0 : w1.cell? ⟨b, 0, none⟩ = some (.pointer (some ⟨b, 0, none⟩)) := by simp [World.cell?, hbk]
 have c1 : w1.cell? ⟨b, 1, none⟩ = some v := by simp [World.cell?, hbk]
 have hbs := hb1.size
 go_wp2_with (at_builtin; refine Lib.wpList_append_own_string _ rfl _ _ 196 9 rfl B 5 i0 Tryz.underlying196 Tryz.underlying9 hi hz0 hz1 hz2 _ _ _ rfl hown s rfl (by unfold maxLen; omega) (by omega) (by omega) ?_)
 intro v' w2 hown' hgrow _
 have hb2 := put_facts (v' := v') (bs := bs) (B := B) (k := []) hbk hne hgrow
 have d0 : w2.cell? ⟨b, 0, none⟩ = some (.pointer (some ⟨b, 0, none⟩)) := by simp [World.cell?, hb2]
 have d1 : w2.cell? ⟨b, 1, none⟩ = some v := by simp [World.cell?, hb2]
 have f1 : w2.frozen? ⟨b, 1, none⟩ = false := by simp [World.frozen?, hb2]
 obtain ⟨ao, n', cap, rfl⟩ := own_slice hown'
 go_wp2
 go_ret2
 refine ⟨rfl, .inr ?_, ?_, ?_⟩
 ·exact Lib.BuilderAt.put (T := 198) (e := 5) hB hb2 (bs' := bs ++ Lib.strCells s) (by simpa [Lib.strCells_length] using hown') (by decide)
 ·exact (hb1.grown hgrow (by omega) (fun k hk => (hown.lt k hk).1)).setCell (p := ⟨b, 1, none⟩) hB _
 ·exact (HO1.out.trans (Oth.grown hown hgrow)).trans (Oth.set hb2)
def Bld (B b : Nat) (l : List UInt8) (w : World) : Prop := Lib.IsBuilder 198 5 B b (Lib.byteCells l) w
theorem bat_later {B b : Nat} {p : Value} {bs : List Value} {w w' : World} (h : Lib.BuilderAt 198 5 B b p bs w) (hb : Below w.heap.size w w') : Lib.BuilderAt 198 5 B b p bs w' := by
 obtain ⟨h1, v, h2, h3, h4⟩ := h
 exact ⟨h1, v, (hb.block b (lt_of_block h2)).trans h2, h3.kept (row := none) ⟨hb.os, hb.tape, hb.output, hb.size, fun k hk _ => hb.block k hk⟩ (by
  cases hv : v.ownBlock with
  | none => exact .inl rfl
  | some k => exact .inr (by simp)), h4⟩
theorem Bld.later {B b : Nat} {l : List UInt8} {w w' : World} (h : Bld B b l w) (hb : Below w.heap.size w w') : Bld B b l w' := by
 rcases h with h | h
 ·exact .inl (bat_later h hb)
 ·exact .inr (bat_later h hb)
theorem Bld.made (w : World) : Bld w.heap.size w.heap.size [] (w.alloc (.cells #[.pointer none, .slice none 0 0] 198)) := by
 refine .inl ⟨Nat.le_refl _, .slice none 0 0, ?_, World.ownsRow_nil _ _ _ _, by simp [Value.ownBlock]⟩
 show (w.heap.push _)[w.heap.size]? = _
 simp
theorem write_bytes (B b : Nat) (l : List UInt8) (s : ByteArray) (w : World) (h : Bld B b l w) (hlen : l.length ≤ 1000000) (hs : s.size ≤ 1000000) (hBw : B ≤ w.heap.size) :
  Calls Tryz.prog 158 #[.pointer (some ⟨b, 0, none⟩), .string s] w fun e w' => e = .returned (.tuple #[.int .i64 s.size, .nilIface]) ∧ (Bld B b (l ++ s.data.toList) w' ∧ Below B w w' ∧ Oth w w') := by
 refine (write_any B b (Lib.byteCells l) s w h (by rw [Lib.byteCells_length]; omega) hBw).mono ?_
 rintro e w' ⟨rfl, h1, h2⟩
 exact ⟨rfl, by unfold Bld; rw [Lib.byteCells, List.map_append]; exact h1, h2⟩
theorem hidB {p : Prop} (h : p) : Hid p := h
def encY (x : UInt8) : List Value := [.int .u8 x.toNat]
theorem encY_len (x : UInt8) : (encY x).length = 1 := rfl
theorem encY_one (x : UInt8) : ∀ u ∈ encY x, u.oneCell' = true := by
 intro u hu
 simp [encY] at hu
 subst hu
 rfl
set_option maxHeartbeats 1000000 in
theorem writeByte_any (B b : Nat) (l : List UInt8) (x : UInt8) (c : Int) (w : World) (h : Bld B b l w) (hc : (x.toNat : Int) = c) (hlen : l.length ≤ 1000000) (hBw : B ≤ w.heap.size) :
  Calls Tryz.prog 160 #[.pointer (some ⟨b, 0, none⟩), .int .u8 c] w fun e w' => e = .returned .nilIface ∧ (Bld B b (l ++ [x]) w' ∧ Below B w w' ∧ Oth w w') := by
 obtain ⟨i0, hi, hz0, hz1, hz2⟩ := info_parts infoByte
 have H : Hid (Lib.IsBuilder 198 5 B b (Lib.byteCells l) w) := h
 have HC : Hid ((x.toNat : Int) = c) := hc
 clear h hc
 go_enter Tryz.func160, Tryz.ntmps160
 go_wp2_with (go_at_call 183; refine (chk_any B b (Lib.byteCells l) _ H.out).mono ?_)
 rintro e w1 ⟨rfl, h1, hb1, ho1⟩
 have HO1 : Hid (Oth w w1) := ho1
 clear ho1
 obtain ⟨hB, v, hbk, hown, hne⟩ := h1
 have hbs := hb1.size
 have hA := (Below.refl w1.heap.size w1).alloc (Nat.le_refl _) (.cells #[.int .u8 c] 5)
 have hOA : Hid (Oth w1 (w1.alloc (.cells #[.int .u8 c] 5))) := Oth.of hA
 have hownA := World.ownsRow.alloc hown (.cells #[.int .u8 c] 5)
 have hXr : Row 1 encY (w1.alloc (.cells #[.int .u8 c] 5)) (.slice (some ⟨w1.heap.size, 0, none⟩) 1 1) [x] := by
  rw [← HC.out]
  exact oneRow (enc := encY) w1 x rfl 5
 obtain ⟨v4, w4, r4, ho4, hg4⟩ := run_append_rows (P := Tryz.prog) (w := w1.alloc (.cells #[.int .u8 c] 5)) encY_len (by decide) encY_one 196 196 B 5 i0 _ 1 Tryz.underlying196 hi hz0 hz1 hz2 rfl v _ _ hownA _ [x] hXr (by rw [Lib.byteCells_length]; simp; unfold maxLen; omega) (by rw [Lib.byteCells_length]; simp; omega) (by simp; omega)
 have hbkA : (w1.alloc (.cells #[.int .u8 c] 5)).heap[b]? = some (.cells #[.pointer (some ⟨b, 0, none⟩), v] 198 (0, 0)) := (hA.block b (lt_of_block hbk)).trans hbk
 have hb2 := put_facts (v' := v4) (bs := Lib.byteCells l) (B := B) (k := []) hbkA hne hg4
 have c1 : w1.cell? ⟨b, 1, none⟩ = some v := by simp [World.cell?, hbk]
 have d1 : w4.cell? ⟨b, 1, none⟩ = some v := by simp [World.cell?, hb2]
 have f1 : w4.frozen? ⟨b, 1, none⟩ = false := by simp [World.frozen?, hb2]
 have HO4 : Hid (Oth w w4) := (HO1.out.trans hOA.out).trans (Oth.grown hownA hg4)
 have HB4 : Hid (Below B w w4) := (hb1.alloc (by omega) _).grown hg4 (by simp; omega) (fun k hk => (hownA.lt k hk).1)
 have HOW : Hid (w4.ownsRow B 5 1 v4 (Lib.byteCells (l ++ [x])).length (Lib.byteCells (l ++ [x]))) := by
  have h9 := ho4
  rw [show (Lib.byteCells (l ++ [x])) = Lib.byteCells l ++ [x].flatMap encY by simp [Lib.byteCells, encY], List.length_append]
  exact h9
 have HB2 := hidB hb2
 have HBB := hidB hB
 have HR4 := hidB r4
 obtain ⟨ao, n', cap, rfl⟩ := own_slice ho4
 clear hbk hown hne hA hownA hXr ho4 hg4 hbkA hb2 hB hb1 hOA HO1 hbs r4
 go_wp2_with (at_builtin; refine wpListAppendRun rfl _ _ 196 rfl rfl rfl HR4.out ?_)
 go_ret
 refine ⟨rfl, .inr ?_, ?_, ?_⟩
 ·exact Lib.BuilderAt.put (T := 198) (e := 5) HBB.out HB2.out (bs' := Lib.byteCells (l ++ [x])) (by simpa using HOW.out) (by decide)
 ·exact HB4.out.setCell (p := ⟨b, 1, none⟩) HBB.out _
 ·exact HO4.out.trans (Oth.set HB2.out)
theorem cellsByte : Tryz.prog.cellsOf 5 = 1 := by kernel_rfl
set_option maxHeartbeats 1000000 in
set_option maxRecDepth 100000 in
theorem string_any (B b : Nat) (l : List UInt8) (w : World) (h : Bld B b l w) (h0 : l ≠ []) :
  Calls Tryz.prog 161 #[.pointer (some ⟨b, 0, none⟩)] w fun e w' => e = .returned (.string ⟨l.toArray⟩) ∧ Below B w w' := by
 obtain ⟨p, hB, v, hbk, hown, hne⟩ : ∃ p, Lib.BuilderAt 198 5 B b p (Lib.byteCells l) w := by
  rcases h with h | h
  ·exact ⟨_, h⟩
  ·exact ⟨_, h⟩
 have hl0 : l.length ≠ 0 := by simpa using h0
 rw [Lib.byteCells_length] at hown
 obtain ⟨g, cap, cur, rfl, hbg, hg, hnc, hcm, hcs, htake⟩ : ∃ g cap cur, v = .slice (some ⟨g, 0, none⟩) l.length cap ∧ B ≤ g ∧ w.heap[g]? = some (.cells cur 5 (0, 0)) ∧ l.length ≤ cap ∧ cap ≤ maxLen ∧ cur.size = cap * 1 ∧ cur.toList.take (l.length * 1) = Lib.byteCells l := by
  rcases hown.2 with ⟨_, hz⟩ | ⟨g, cap, cur, hv, r⟩
  ·exact absurd hz hl0
  ·exact ⟨g, cap, cur, hv, r⟩
 have c1 : w.drew.cell? ⟨b, 1, none⟩ = some (.slice (some ⟨g, 0, none⟩) l.length cap) := by
  have : w.drew.heap[b]? = some (.cells #[p, .slice (some ⟨g, 0, none⟩) l.length cap] 198 (0, 0)) := hbk
  rw [Lib.cell_of_heap this]; rfl
 have hSD : (Builtin.unsafeSliceData_ #[196] 234 #[.slice (some ⟨g, 0, none⟩) l.length cap]).run Tryz.prog w.drew = .ok (.pointer (some ⟨g, 0, none⟩)) w.drew :=
  Lib.run_unsafeSliceData_row _ _ _ _ _ _ (by omega)
 have hUS : (Builtin.unsafeString_ #[234, 3] 9 #[.pointer (some ⟨g, 0, none⟩), .int .i64 l.length]).run Tryz.prog w.drew = .ok (.string ⟨l.toArray⟩) (w.drew.freeze ⟨g, 0, none⟩ l.length) := by
  refine Lib.run_unsafeString_row w.drew 234 3 9 5 Tryz.underlying234 cellsByte g cur.size (by have hg' : w.drew.heap[g]? = some (.cells cur 5 (0, 0)) := hg; simp [World.shape?, hg']) l h0 (by omega) (by unfold maxLen at hcm; omega) ?_
  intro j x hx
  have := hown.cells (g := g) rfl j (.int .u8 x.toNat) (by simp [Lib.byteCells, hx])
  exact this
 have mixed : Tryz.prog.follows Departure.mixedOrders = true := by kernel_rfl
 clear hbk hown hne htake hg hcs
 go_enter Tryz.func161, Tryz.ntmps161
 go_wp2
 go_region_o
 all_goals (go_wp2; go_ret; exact ⟨rfl, Lib.below_freeze (Below.drew (Below.refl B w)) (p := ⟨g, 0, none⟩) hbg _⟩)
end Go.Proofs.YtfhjncpakgailaaGreatDoor.Wt
namespace Go.Proofs.YtfhjncpakgailaaGreatDoor.Wt
open Go.ChangeShapes Go.WideShapes Go.ChangeAt Go.RowKit
set_option linter.unusedVariables false
def Tab (w : World) : Prop := Lib.TabIs Tryz.prog w "internal/strconv.uint64pow10" .u64 Lib.pow10Tab
theorem Tab.later {w w' : World} (h : Tab w) (hb : Below w.heap.size w w') : Tab w' := by
  unfold Tab Lib.TabIs at *
  unfold World.var? at h ⊢
  cases hg : Tryz.prog.globalNamed "internal/strconv.uint64pow10" with
  | none => rw [hg] at h; simp at h
  | some g =>
    simp only [hg, Option.bind_some] at h ⊢
    have hlt : g < w.heap.size := by
      rcases Nat.lt_or_ge g w.heap.size with h' | h'
      · exact h'
      · rw [Array.getElem?_eq_none h'] at h; simp at h
    rw [hb.block g hlt]
    exact h
theorem below_grow (w : World) (k : Nat) (os : Array Obj) : Below w.heap.size w (Sort.grow (w.drewN k) os) :=
 ⟨rfl, rfl, rfl, by show w.heap.size ≤ (w.heap ++ os).size; simp, fun i hi => by show (w.heap ++ os)[i]? = _; rw [Array.getElem?_append, if_pos hi]⟩
end Go.Proofs.YtfhjncpakgailaaGreatDoor.Wt
namespace Go.Proofs.YtfhjncpakgailaaGreatDoor.Wt
open Go.ChangeShapes Go.WideShapes Go.ChangeAt Go.RowKit
open Go.Proofs.YtfhjncpakgailaaGreatDoor.Pl
set_option linter.unusedVariables false
set_option linter.unusedSimpArgs false
theorem itoa_dg (n : Int) (w : World) (ht : Tab w) (h0 : 0 ≤ n) (h1 : n ≤ 2000000000000) (s : ByteArray) (hs : ⟨(dgT n).toArray⟩ = s) :
  Calls Tryz.prog 159 #[.int .i64 n] w fun e w' => e = .returned (.string s) ∧ Below w.heap.size w w' := by
 have e : (⟨(Lib.itoa n).toArray⟩ : ByteArray) = s := by rw [← hs, itoa_nat h0]; rfl
 refine (Tryz.strconv_Itoa n (by omega) (by omega) w ht).mono ?_
 rw [e]
 rintro e w' ⟨rfl, k, os, rfl⟩
 exact ⟨rfl, below_grow _ _ _⟩
theorem Oth.blk {w w' : World} (h : Oth w w') {b : Nat} {cs : Array Value} {t : TypeId} (hb : Blk w b cs t) (h1 : t ≠ 198) (h2 : t ≠ 5) : Blk w' b cs t := h b cs t (0, 0) hb h1 h2
end Go.Proofs.YtfhjncpakgailaaGreatDoor.Wt
