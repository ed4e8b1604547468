/- best.Follow: a path arc by arc. -/
import Derived.Test.YtfpibdaedfilaaaEax
import Derived.Test.YtfpibdaedfilaaaEac
import Derived.Test.YtfpibdaedfilaaaEan
namespace Go.Proofs.Ytfpibdaedfilaaa.Bw
open Go.ChangeShapes Go.WideShapes Go.ChangeAt Go.RowKit
open Go.Proofs.Ytfpibdaedfilaaa.Pl Go.Proofs.Ytfpibdaedfilaaa.Wt
set_option linter.unusedVariables false
set_option linter.unusedSimpArgs false
theorem pushN {W : World} {base : Nat} {v : Value} {l : List Int} (h : OwnI W base v l) (x : Int) (hl : l.length ≤ 100000) (hbase : base ≤ W.heap.size) :
  ∃ xa xc a k w', v = .slice xa l.length xc ∧ (Builtin.append_ #[34, 34] 34 #[.slice xa l.length xc, .slice (some ⟨W.heap.size, 0, none⟩) 1 1]).run Try.prog (W.alloc (.cells #[.int .i64 x] 3)) = .ok (.slice a (l.length + 1) k) w' ∧ OwnI w' base (.slice a (l.length + 1) k) (l ++ [x]) ∧ W.grownBy w' v.ownBlock ∧ Near W v.ownBlock (.slice a (l.length + 1) k) := by
 obtain ⟨i1, hi1, hy0, hy1, hy2⟩ := info_parts infoIntX
 have hB : Below W.heap.size W (W.alloc (.cells #[.int .i64 x] 3)) := (Below.refl _ _).alloc (Nat.le_refl _) _
 obtain ⟨v4, w4, r4, h4, g4, n4⟩ := run_append_spot (P := Try.prog) encI1_len (by decide) encI1_one 34 34 base 3 i1 _ 8 Try.underlying34 hi1 hy0 hy1 hy2 rfl _ l.length (l.flatMap encI1) (ownBelow h hB) _ [x] (oneRow (enc := encI1) W x rfl 3) (by simp; unfold maxLen; omega) (by simp; omega) (by simp; omega)
 obtain ⟨xa, xc, hx⟩ := own_slW h
 obtain ⟨a, k, hv⟩ := own_slW h4
 subst hv
 rw [hx] at r4
 refine ⟨xa, xc, a, k, w4, hx, r4, by unfold OwnI; rw [List.length_append, List.flatMap_append]; exact h4, gTrans (gNew hB) g4, ?_⟩
 rcases n4 with e | ⟨b, e, hb⟩
 ·exact .inl e
 ·exact .inr ⟨b, e, by rw [World.size_alloc] at hb; omega⟩
set_option maxRecDepth 100000 in
set_option maxHeartbeats 1600000 in
theorem behind_any {base : Nat} (v : Value) (x : List Int) (b : Int) (w : World) (h : OwnI w base v x) (hb : 0 ≤ b) (hl : x.length ≤ 100000) (hbase : base ≤ w.heap.size) :
  Calls Try.prog 59 #[v, .int .i64 b] w fun e w' => ∃ v', e = .returned v' ∧ OwnI w' base v' (putL x b) ∧ w.grownBy w' v.ownBlock ∧ Near w v.ownBlock v' := by
 by_cases h0 : b = 0
 ·subst h0
  have HO : Hid (OwnI w base v (putL x 0)) := h
  have HG : Hid (w.grownBy w v.ownBlock) := gNew (Below.refl _ _)
  clear h
  go_enter Try.func59, Try.ntmps59
  go_wp2
  go_ret
  exact ⟨_, rfl, HO.out, HG.out, .inl rfl⟩
 ·have h0b : (b == 0) = false := by simpa using h0
  have hp : putL x b = x ++ [b] := by unfold putL; rw [if_pos (by omega)]
  rw [hp]
  obtain ⟨xa, xc, a, k, w', hx, r, o, g, n⟩ := pushN h b hl hbase
  have R := hidP r
  have O := hidP o
  have G := hidP g
  have NN := hidP n
  generalize v.ownBlock = rr at *
  subst hx
  clear h r o g n hp h0
  go_enter Try.func59, Try.ntmps59
  go_wp2_with (first
   | (at_builtin; refine wpListAppendRun rfl _ _ 34 rfl rfl rfl R.out ?_; clear R))
  go_ret
  exact ⟨_, rfl, O.out, G.out, NN.out⟩
structure TwoI (w : World) (base : Nat) (vx vy : Value) (x y : List Int) : Prop where
 hx : OwnI w base vx x
 hy : OwnI w base vy y
 ap : vx.ownBlock = none ∨ vy.ownBlock = none ∨ vx.ownBlock ≠ vy.ownBlock
theorem TwoI.later {w w' : World} {base : Nat} {vx vy : Value} {x y : List Int} (h : TwoI w base vx vy x y) (hb : Below w.heap.size w w') : TwoI w' base vx vy x y := ⟨h.hx.later hb, h.hy.later hb, h.ap⟩
theorem TwoI.keepY {w w' : World} {base : Nat} {vx vy vx' : Value} {x y x' : List Int} (h : TwoI w base vx vy x y) (ho : OwnI w' base vx' x') (hg : w.grownBy w' vx.ownBlock) (hn : Near w vx.ownBlock vx') : TwoI w' base vx' vy x' y := by
 have hk : vy.ownBlock = none ∨ vy.ownBlock ≠ vx.ownBlock := by
  rcases h.ap with e | e | e
  ·rw [e]; rcases vy.ownBlock with _ | b
   ·exact .inl rfl
   ·exact .inr (by simp)
  ·exact .inl e
  ·exact .inr (Ne.symm e)
 refine ⟨ho, World.ownsRow.kept h.hy hg hk, ?_⟩
 rcases hn with e | ⟨b, e, hb⟩
 ·rw [e]; exact h.ap
 ·rcases e2 : vy.ownBlock with _ | c
  ·exact .inr (.inl rfl)
  ·refine .inr (.inr ?_)
   rw [e]
   intro e3
   have := (h.hy.lt c e2).2
   simp at e3
   omega
theorem TwoI.swap {w : World} {base : Nat} {vx vy : Value} {x y : List Int} (h : TwoI w base vx vy x y) : TwoI w base vy vx y x := ⟨h.hy, h.hx, by
 rcases h.ap with e | e | e
 ·exact .inr (.inl e)
 ·exact .inl e
 ·exact .inr (.inr (Ne.symm e))⟩
theorem TwoI.set {w : World} {base : Nat} {vx vy : Value} {x y : List Int} (h : TwoI w base vx vy x y) {b o : Nat} {v : Value} {cs : Array Value} {t : TypeId} (hB : Blk w b cs t) (ht : 3 ≠ t) : TwoI (w.setCell ⟨b, o, none⟩ v) base vx vy x y :=
 ⟨World.ownsRow.kept h.hx (gSet w b o v) (.inr (Ne.symm (own_ne h.hx hB ht))), World.ownsRow.kept h.hy (gSet w b o v) (.inr (Ne.symm (own_ne h.hy hB ht))), h.ap⟩
def FlwO (o : Option (List Int × List Int × Int)) (x y : List Int) (c : Int) (b : Bool) : Prop := (b = false ∧ o = none) ∨ (b = true ∧ o = some (x, y, c))
def FldRes (o : Option (List Int × List Int × Int)) (w : World) (e : Ending) (w' : World) : Prop := ∃ (vx vy : Value) (x y : List Int) (c : Int) (b : Bool), e = .returned (.tuple #[.agg #[vx, vy, .int .i64 c], .bool b]) ∧ Nums w' vx x ∧ Nums w' vy y ∧ FlwO o x y c b ∧ Below w.heap.size w w'
theorem FldRes.no {o : Option (List Int × List Int × Int)} {w w' : World} (ho : o = none) (hb : Below w.heap.size w w') : FldRes o w (.returned (.tuple #[.agg #[.slice none 0 0, .slice none 0 0, .int .i64 0], .bool false])) w' := ⟨_, _, [], [], 0, false, rfl, .inl ⟨rfl, rfl⟩, .inl ⟨rfl, rfl⟩, .inl ⟨rfl, ho⟩, hb⟩
theorem res_flw (tm : Array Value) (W : World) (R : Nat) (b : Bool) (x0 x1 x2 : Value) (hB : Blk W R #[x0, x1, x2] 77) (h2 : tm.getD 4 undef = .pointer (some ⟨R, 0, none⟩)) (h3 : tm.getD 5 undef = .bool b) : (results Try.f34 tm).run Try.prog W = .ok (.tuple #[.agg #[x0, x1, x2], .bool b]) W := by
 have c0 := hB.cell 0 (v := x0) rfl
 have c1 := hB.cell 1 (v := x1) rfl
 have c2 := hB.cell 2 (v := x2) rfl
 simp only [Array.getD_eq_getD_getElem?] at h2 h3
 simp [results, Try.results34, go_sem, h2, h3, c0, c1, c2]
theorem blk_neB {w : World} {a b : Nat} {cs cs' : Array Value} {t t' : TypeId} (h1 : Blk w a cs t) (h2 : Blk w b cs' t') (ht : t ≠ t') : a ≠ b := fun e => by
 subst e
 unfold Blk at h1 h2
 rw [h1] at h2
 simp at h2
 exact ht h2.2
def HeldFm (V : Nat) (vx vy : Value) (c : Int) (S : Nat) (f : Int) (w : World) : Prop := w.cell? ⟨V, 0, none⟩ = some vx ∧ w.cell? ⟨V, 1, none⟩ = some vy ∧ w.cell? ⟨V, 2, none⟩ = some (.int .i64 c) ∧ w.cell? ⟨S, 0, none⟩ = some (.int .i64 f)
def HeldFl (W X : Nat) (vy : Value) (x0 x1 : Int) (w : World) : Prop := w.cell? ⟨W, 1, none⟩ = some vy ∧ w.cell? ⟨X, 0, none⟩ = some (.int .i64 x0) ∧ w.cell? ⟨X, 1, none⟩ = some (.int .i64 x1)
set_option maxRecDepth 100000 in
set_option maxHeartbeats 6400000 in
theorem followed_any (z : Int) (vs : Value) (l : List St) (vk : Value) (ks : List Int) (w : World) (h : Mach w (.agg #[.int .i64 z, vs]) (z, l)) (hR : RgtM z l) (hlab : ∀ q, q < l.length → ∀ a ∈ (el l q).2, 0 ≤ a.1 ∧ 0 ≤ a.2.1) (hk : Nums w vk ks) (hkl : ks.length ≤ 400) :
  Calls Try.prog 34 #[.agg #[.int .i64 z, vs], vk] w fun e w' => FldRes (flwL l ks z) w e w' := by
 obtain ⟨vs', hvs, hS⟩ := h
 simp only [Value.agg.injEq, Array.mk.injEq, List.cons.injEq, and_true, true_and] at hvs
 subst hvs
 obtain ⟨a, cap, rfl, hc⟩ := hS.get
 have HC : Hid (∀ j, j < l.length → ∃ b off va, a = some ⟨b, off, none⟩ ∧ b < w.heap.size ∧ w.cell? ⟨b, off + j * 2, none⟩ = some (.int .i64 (el l j).1) ∧ w.cell? ⟨b, off + j * 2 + 1, none⟩ = some va ∧ Arcs w va (el l j).2) := hc
 have HR := hidP hR
 have HLB := hidP hlab
 obtain ⟨ka, kc, rfl, hkg⟩ := Nums.get hk
 have HKG := hidP hkg
 have hz0 := hR.lo
 have hz1 := hR.hi
 have HF0 := hidP (FlwI.start l ks z)
 by_cases hz : z = -1
 ·subst hz
  have HNO : Hid (flwL l ks (-1) = none) := by
   show _ = _
   cases ks <;> simp [flwL]
  clear hS hc hR hk hkg hz0 hz1 hlab
  generalize l.length = N at *
  generalize ks.length = n at *
  have R0 := hidP ((Blk.made (w.alloc (.cells #[.int .i64 (-1), .slice a N cap] 27)) #[.slice none 0 0, .slice none 0 0, .int .i64 0] 77))
  rw [World.size_alloc] at R0
  have B0 : Hid (Below w.heap.size w ((w.alloc (.cells #[.int .i64 (-1), .slice a N cap] 27)).alloc (.cells #[.slice none 0 0, .slice none 0 0, .int .i64 0] 77))) := ((Below.refl _ _).alloc (Nat.le_refl _) _).alloc (by simp) _
  go_enter Try.func34, Try.ntmps34
  go_wp2
  exact bodyPost_ret (res_flw _ _ (w.heap.size + 1) false (.slice none 0 0) (.slice none 0 0) (.int .i64 0) R0.out rfl rfl) rfl (FldRes.no HNO.out B0.out)
 ·obtain ⟨s, rfl⟩ : ∃ s : Nat, z = (s : Int) := ⟨z.toNat, by omega⟩
  have hsl : s < l.length := by omega
  have hzb : ((s : Int) == -1) = false := by simp
  obtain ⟨b0, off0, va0, rfl, hb0l, g0, g1, gA0⟩ := HC.out s hsl
  obtain ⟨a20, cap20, hva0⟩ := Row.sl gA0
  subst hva0
  have HA0 := hidP gA0
  clear hS hc hR hk hkg hz0 hz1 hz hlab gA0
  generalize hN : l.length = N at *
  have HN := hidP hN
  generalize hn : ks.length = n at *
  have HKN := hidP hn
  have hN60 := HR.out.few
  clear hN hn
  have hs0 : (0 : Int) ≤ (s : Int) := Int.natCast_nonneg _
  have hs1 : (s : Int) < (N : Int) := by omega
  have hbb1 : b0 < w.heap.size + 1 := by omega
  have hbb2 : b0 < w.heap.size + 1 + 1 := by omega
  have M0 := hidP ((((Blk.made w #[.int .i64 (s : Int), .slice (some ⟨b0, off0, none⟩) N cap] 27).alloc (.cells #[.slice none 0 0, .slice none 0 0, .int .i64 0] 77)).alloc (.cells #[.slice none 0 0, .slice none 0 0, .int .i64 0] 77)).alloc (.cells #[.int .i64 (el l s).1, .slice a20 (el l s).2.length cap20] 56))
  have R0 := hidP (((Blk.made (w.alloc (.cells #[.int .i64 (s : Int), .slice (some ⟨b0, off0, none⟩) N cap] 27)) #[.slice none 0 0, .slice none 0 0, .int .i64 0] 77).alloc (.cells #[.slice none 0 0, .slice none 0 0, .int .i64 0] 77)).alloc (.cells #[.int .i64 (el l s).1, .slice a20 (el l s).2.length cap20] 56))
  have V0 := hidP ((Blk.made ((w.alloc (.cells #[.int .i64 (s : Int), .slice (some ⟨b0, off0, none⟩) N cap] 27)).alloc (.cells #[.slice none 0 0, .slice none 0 0, .int .i64 0] 77)) #[.slice none 0 0, .slice none 0 0, .int .i64 0] 77).alloc (.cells #[.int .i64 (el l s).1, .slice a20 (el l s).2.length cap20] 56))
  have S0 := hidP (Blk.made (((w.alloc (.cells #[.int .i64 (s : Int), .slice (some ⟨b0, off0, none⟩) N cap] 27)).alloc (.cells #[.slice none 0 0, .slice none 0 0, .int .i64 0] 77)).alloc (.cells #[.slice none 0 0, .slice none 0 0, .int .i64 0] 77)) #[.int .i64 (el l s).1, .slice a20 (el l s).2.length cap20] 56)
  simp only [World.size_alloc] at R0 V0 S0
  have B0 : Hid (Below w.heap.size w ((((w.alloc (.cells #[.int .i64 (s : Int), .slice (some ⟨b0, off0, none⟩) N cap] 27)).alloc (.cells #[.slice none 0 0, .slice none 0 0, .int .i64 0] 77)).alloc (.cells #[.slice none 0 0, .slice none 0 0, .int .i64 0] 77)).alloc (.cells #[.int .i64 (el l s).1, .slice a20 (el l s).2.length cap20] 56))) := ((((Below.refl _ _).alloc (Nat.le_refl _) _).alloc (by simp) _).alloc (by simp; omega) _).alloc (by simp; omega) _
  go_enter Try.func34, Try.ntmps34
  go_wp2
  generalize (((w.alloc (.cells #[.int .i64 (s : Int), .slice (some ⟨b0, off0, none⟩) N cap] 27)).alloc (.cells #[.slice none 0 0, .slice none 0 0, .int .i64 0] 77)).alloc (.cells #[.slice none 0 0, .slice none 0 0, .int .i64 0] 77)).alloc (.cells #[.int .i64 (el l s).1, .slice a20 (el l s).2.length cap20] 56) = W0 at *
  generalize hB2 : w.heap.size + 1 + 1 + 1 = SB at *
  generalize hB1 : w.heap.size + 1 + 1 = VB at *
  generalize hB0 : w.heap.size + 1 = RB at *
  have HBS : Hid (w.heap.size ≤ RB ∧ w.heap.size ≤ VB ∧ w.heap.size ≤ SB ∧ RB ≠ VB) := by show _ ∧ _; omega
  clear hB2 hB1 hB0 g0 g1
  go_loopw [23] (fun i wr => ∃ (j q : Nat) (x y : List Int) (c : Int) (vx vy : Value) (a2 : Option Addr) (cap2 : Nat), j ≤ n ∧ i = .int .i64 (j : Int) ∧ 0 ≤ c ∧ c ≤ (j : Int) * 1000000000 ∧ q < N ∧ x.length ≤ j ∧ y.length ≤ j ∧ Hid (FlwI l ks s j x y c q) ∧ Hid (TwoI wr w.heap.size vx vy x y) ∧ Hid (Blk wr w.heap.size #[.int .i64 (s : Int), .slice (some ⟨b0, off0, none⟩) N cap] 27 ∧ Blk wr RB #[.slice none 0 0, .slice none 0 0, .int .i64 0] 77) ∧ Hid (Blk wr VB #[vx, vy, .int .i64 c] 77) ∧ Hid (Blk wr SB #[.int .i64 (el l q).1, .slice a2 (el l q).2.length cap2] 56) ∧ Hid (Arcs w (.slice a2 (el l q).2.length cap2) (el l q).2) ∧ Hid (Below w.heap.size w wr)) (fun i _ => n - (intOf i).toNat)
  case atStart => exact ⟨0, s, [], [], 0, _, _, a20, cap20, Nat.zero_le _, rfl, by omega, by omega, by omega, Nat.le_refl _, Nat.le_refl _, HF0, ⟨OwnI.nil _ _, OwnI.nil _ _, .inl rfl⟩, ⟨M0.out, R0.out⟩, V0, S0, HA0, B0⟩
  case round =>
   clear M0 R0 V0 S0 B0 HA0
   obtain ⟨j, q, x, y, c, vx, vy, a2, cap2, hj, rfl, hc0, hc1, hqN, hxl, hyl, hI, hO, hM, hV, hSt, hA, hb⟩ := hrel
   have hqz0 : (0 : Int) ≤ (q : Int) := Int.natCast_nonneg _
   have v0 := hV.out.cell 0 (v := vx) rfl
   have v1 := hV.out.cell 1 (v := vy) rfl
   have v2 := hV.out.cell 2 (v := .int .i64 c) rfl
   have s0 := hSt.out.cell 0 (v := .int .i64 (el l q).1) rfl
   have s1 := hSt.out.cell 1 (v := .slice a2 (el l q).2.length cap2) rfl
   have m0 := hM.out.1.cell 0 (v := .int .i64 (s : Int)) rfl
   have m1 := hM.out.1.cell 1 (v := .slice (some ⟨b0, off0, none⟩) N cap) rfl
   have r0 := hM.out.2.cell 0 (v := .slice none 0 0) rfl
   have r1 := hM.out.2.cell 1 (v := .slice none 0 0) rfl
   have r2 := hM.out.2.cell 2 (v := .int .i64 0) rfl
   have rf0 := hM.out.2.fz 0
   have rf1 := hM.out.2.fz 1
   have rf2 := hM.out.2.fz 2
   have HRR : Hid (Blk (((wr.setCell ⟨RB, 0, none⟩ (.slice none 0 0)).setCell ⟨RB, 1, none⟩ (.slice none 0 0)).setCell ⟨RB, 2, none⟩ (.int .i64 0)) RB #[.slice none 0 0, .slice none 0 0, .int .i64 0] 77) := ((hM.out.2.set 0 (.slice none 0 0)).set 1 (.slice none 0 0)).set 2 (.int .i64 0)
   have HRB : Hid (Below w.heap.size w (((wr.setCell ⟨RB, 0, none⟩ (.slice none 0 0)).setCell ⟨RB, 1, none⟩ (.slice none 0 0)).setCell ⟨RB, 2, none⟩ (.int .i64 0))) := ((hb.out.setCell (p := ⟨RB, 0, none⟩) HBS.out.1 _).setCell (p := ⟨RB, 1, none⟩) HBS.out.1 _).setCell (p := ⟨RB, 2, none⟩) HBS.out.1 _
   by_cases hjn : j < n
   ·obtain ⟨b4, off4, rfl, hb4l, k0⟩ := HKG.out j hjn
    have k0 := (hb.out.cell (p := ⟨b4, off4 + j, none⟩) hb4l).trans k0
    have hj0 : (0 : Int) ≤ (j : Int) := Int.natCast_nonneg _
    have hj1 : (j : Int) < (n : Int) := by omega
    by_cases hneg : el ks j < 0
    ·have HNO := hidP (hI.out.stop (by rw [HKN.out]; exact hjn) (.inr (.inl hneg)))
     generalize el ks j = kk at *
     generalize (el l q).2.length = L at *
     have hd : decide (kk < 0) = true := decide_eq_true hneg
     go_wp2
     exact bodyPost_ret (res_flw _ _ RB false (.slice none 0 0) (.slice none 0 0) (.int .i64 0) HRR.out rfl rfl) rfl (FldRes.no HNO.out HRB.out)
    ·by_cases hge : ((el l q).2.length : Int) ≤ el ks j
     ·have HNO := hidP (hI.out.stop (by rw [HKN.out]; exact hjn) (.inr (.inr (by rw [Int.toNat_natCast]; exact hge))))
      generalize el ks j = kk at *
      generalize (el l q).2.length = L at *
      have hd : decide (kk < 0) = false := decide_eq_false hneg
      have hd2 : decide ((L : Int) ≤ kk) = true := decide_eq_true hge
      go_wp2
      exact bodyPost_ret (res_flw _ _ RB false (.slice none 0 0) (.slice none 0 0) (.int .i64 0) HRR.out rfl rfl) rfl (FldRes.no HNO.out HRB.out)
     ·clear HRR HRB r0 r1 r2 rf0 rf1 rf2 m0
      obtain ⟨k, hk⟩ : ∃ k : Nat, el ks j = (k : Int) := ⟨(el ks j).toNat, by omega⟩
      have hkL : k < (el l q).2.length := by omega
      have HST := hidP (hI.out.step (by rw [HKN.out]; exact hjn) hqz0 (by rw [hk]; omega) (by rw [Int.toNat_natCast]; omega))
      rw [hk, Int.toNat_natCast, Int.toNat_natCast] at HST
      have hma := el_mem hkL
      obtain ⟨w0, w1, u, hu, hun⟩ := HR.out.rgt.arc q (by rw [HN.out]; exact hqN) _ hma
      obtain ⟨la0, la1⟩ := HLB.out q hqN _ hma
      rw [hk] at k0
      obtain ⟨a2', cap2', hv9, hga⟩ := Arcs.get hA.out
      simp only [Value.slice.injEq, true_and] at hv9
      obtain ⟨rfl, rfl⟩ := hv9
      obtain ⟨b3, off3, rfl, hb3l, e0, e1, e2, e3⟩ := hga k hkL
      have e0 := (hb.out.cell (p := ⟨b3, off3 + k * 4, none⟩) hb3l).trans e0
      have e1 := (hb.out.cell (p := ⟨b3, off3 + k * 4 + 1, none⟩) hb3l).trans e1
      have e2 := (hb.out.cell (p := ⟨b3, off3 + k * 4 + 2, none⟩) hb3l).trans e2
      have e3 := (hb.out.cell (p := ⟨b3, off3 + k * 4 + 3, none⟩) hb3l).trans e3
      rw [HN.out] at hun
      rw [hu] at e3 HST
      clear hga hu hma hk
      generalize (el (el l q).2 k).1 = x0 at *
      generalize (el (el l q).2 k).2.1 = x1 at *
      generalize (el (el l q).2 k).2.2.1 = x2 at *
      have hk0 : (0 : Int) ≤ (k : Int) := Int.natCast_nonneg _
      have hk1 : (k : Int) < ((el l q).2.length : Int) := by omega
      have hd : decide ((k : Int) < 0) = false := decide_eq_false (by omega)
      have hd2 : decide (((el l q).2.length : Int) ≤ (k : Int)) = false := decide_eq_false (by omega)
      generalize (el l q).2.length = L at *
      generalize (el l q).1 = fq at *
      have A1 := hidP (Blk.made wr #[.int .i64 x0, .int .i64 x1, .int .i64 x2, .int .i64 (u : Int)] 58)
      have O1 := hidP (hO.out.later ((Below.refl _ _).alloc (Nat.le_refl _) (.cells #[.int .i64 x0, .int .i64 x1, .int .i64 x2, .int .i64 (u : Int)] 58)))
      have M1 := hidP (And.intro (hM.out.1.alloc (.cells #[.int .i64 x0, .int .i64 x1, .int .i64 x2, .int .i64 (u : Int)] 58)) (hM.out.2.alloc (.cells #[.int .i64 x0, .int .i64 x1, .int .i64 x2, .int .i64 (u : Int)] 58)))
      have V1 := hidP (hV.out.alloc (.cells #[.int .i64 x0, .int .i64 x1, .int .i64 x2, .int .i64 (u : Int)] 58))
      have S1 := hidP (hSt.out.alloc (.cells #[.int .i64 x0, .int .i64 x1, .int .i64 x2, .int .i64 (u : Int)] 58))
      have B1 := hidP (hb.out.alloc hb.out.size (.cells #[.int .i64 x0, .int .i64 x1, .int .i64 x2, .int .i64 (u : Int)] 58))
      clear hO hM hV hSt hb hI hneg hge
      go_wp2
      generalize wr.alloc (.cells #[.int .i64 x0, .int .i64 x1, .int .i64 x2, .int .i64 (u : Int)] 58) = W1 at *
      generalize wr.heap.size = X at *
      clear e0 e1 e2 e3 v0 v1 v2 s0 s1 m1 k0
      have O1 := hidP (O1.out.later (w' := W1.drew) ((Below.refl W1.heap.size W1).drew))
      have M1 : Hid (Blk W1.drew w.heap.size #[.int .i64 (s : Int), .slice (some ⟨b0, off0, none⟩) N cap] 27 ∧ Blk W1.drew RB #[.slice none 0 0, .slice none 0 0, .int .i64 0] 77) := ⟨M1.out.1.drew, M1.out.2.drew⟩
      have V1 := hidP V1.out.drew
      have S1 := hidP S1.out.drew
      have A1 := hidP A1.out.drew
      have B1 := hidP B1.out.drew
      have HBX := hidP (behind_any vx x x0 W1.drew O1.out.hx la0 (by omega) B1.out.size)
      have HS : HeldFl VB X vy x0 x1 W1.drew := ⟨V1.out.cell 1 rfl, A1.out.cell 0 rfl, A1.out.cell 1 rfl⟩
      have y0 := V1.out.cell 0 (v := vx) rfl
      refine region_anyL (HeldFl VB X vy x0 x1) 13 (by kernel_rfl) ?_
      refine anyL_tk (i := 0) (v := ?v0_1) aZ0 (by kernel_rfl) ?y0_1 HS ?r0_1
      case y0_1 => intro wx hx; obtain ⟨h0, h1, h2⟩ := hx; go_simp; try (with_reducible rfl)
      simp only [Act.put, List.setIfInBounds_toArray, List.set_cons_zero, List.set_cons_succ]
      refine anyL_tk (i := 2) (v := ?v2_2) aZ2 (by kernel_rfl) ?y2_2 HS ?r2_2
      case y2_2 => intro wx hx; obtain ⟨h0, h1, h2⟩ := hx; go_simp; try (with_reducible rfl)
      simp only [Act.put, List.setIfInBounds_toArray, List.set_cons_zero, List.set_cons_succ]
      refine anyL_tk (i := 3) (v := ?v3_3) aZ3 (by kernel_rfl) ?y3_3 HS ?r3_3
      case y3_3 => intro wx hx; obtain ⟨h0, h1, h2⟩ := hx; go_simp; try (with_reducible rfl)
      simp only [Act.put, List.setIfInBounds_toArray, List.set_cons_zero, List.set_cons_succ]
      refine anyL_tk (i := 5) (v := ?v5_4) aZ5 (by kernel_rfl) ?y5_4 HS ?r5_4
      case y5_4 => intro wx hx; obtain ⟨h0, h1, h2⟩ := hx; go_simp; try (with_reducible rfl)
      simp only [Act.put, List.setIfInBounds_toArray, List.set_cons_zero, List.set_cons_succ]
      refine anyL_tk (i := 6) (v := ?v6_5) aZ6 (by kernel_rfl) ?y6_5 HS ?r6_5
      case y6_5 => intro wx hx; obtain ⟨h0, h1, h2⟩ := hx; go_simp; try (with_reducible rfl)
      simp only [Act.put, List.setIfInBounds_toArray, List.set_cons_zero, List.set_cons_succ]
      refine anyL_tk (i := 7) (v := ?v7_6) aZ7 (by kernel_rfl) ?y7_6 HS ?r7_6
      case y7_6 => intro wx hx; obtain ⟨h0, h1, h2⟩ := hx; go_simp; try (with_reducible rfl)
      simp only [Act.put, List.setIfInBounds_toArray, List.set_cons_zero, List.set_cons_succ]
      refine anyL_tk (i := 8) (v := ?v8_7) aZ8 (by kernel_rfl) ?y8_7 HS ?r8_7
      case y8_7 => intro wx hx; obtain ⟨h0, h1, h2⟩ := hx; go_simp; try (with_reducible rfl)
      simp only [Act.put, List.setIfInBounds_toArray, List.set_cons_zero, List.set_cons_succ]
      refine anyL_one (i := 1) aZ1 (by kernel_rfl) rfl (fun K hK => ?_)
      go_simp
      refine hK _ _ (.inr HS) ?_
      try simp only [Act.put, List.setIfInBounds_toArray, List.set_cons_zero, List.set_cons_succ]
      refine anyL_one (i := 4) aZ4 (by kernel_rfl) rfl (fun K hK => ?_)
      go_simp
      with_reducible refine HBX.out.mono ?_
      rintro e w5 ⟨vx5, rfl, hx5, hg5, hn5⟩
      have O5 := hidP (O1.out.keepY hx5 hg5 hn5)
      have M5 : Hid (Blk w5 w.heap.size #[.int .i64 (s : Int), .slice (some ⟨b0, off0, none⟩) N cap] 27 ∧ Blk w5 RB #[.slice none 0 0, .slice none 0 0, .int .i64 0] 77) := ⟨M1.out.1.grown hg5 (own_ne O1.out.hx M1.out.1 (by decide)), M1.out.2.grown hg5 (own_ne O1.out.hx M1.out.2 (by decide))⟩
      have V5 := hidP (V1.out.grown hg5 (own_ne O1.out.hx V1.out (by decide)))
      have S5 := hidP (S1.out.grown hg5 (own_ne O1.out.hx S1.out (by decide)))
      have A5 := hidP (A1.out.grown hg5 (own_ne O1.out.hx A1.out (by decide)))
      have B5 := hidP (B1.out.trans (gBelow hg5 (fun k hk => (O1.out.hx.lt k hk).1) B1.out.size))
      have HS5 : HeldFl VB X vy x0 x1 w5 := ⟨V5.out.cell 1 rfl, A5.out.cell 0 rfl, A5.out.cell 1 rfl⟩
      have HBY := hidP (behind_any vy y x1 w5 O5.out.hy la1 (by omega) B5.out.size)
      clear hx5 hg5 hn5 HBX
      refine hK _ _ (.inr HS5) ?_
      try simp only [Act.put, List.setIfInBounds_toArray, List.set_cons_zero, List.set_cons_succ]
      refine anyL_tk (i := 10) (v := ?v10_8) aZ10 (by kernel_rfl) ?y10_8 HS5 ?r10_8
      case y10_8 => intro wx hx; obtain ⟨h0, h1, h2⟩ := hx; go_simp; try (with_reducible rfl)
      simp only [Act.put, List.setIfInBounds_toArray, List.set_cons_zero, List.set_cons_succ]
      refine anyL_one (i := 9) aZ9 (by kernel_rfl) rfl (fun K hK => ?_)
      go_simp
      with_reducible refine HBY.out.mono ?_
      rintro e w6 ⟨vy6, rfl, hy6, hg6, hn6⟩
      have O6 := hidP ((O5.out.swap.keepY hy6 hg6 hn6).swap)
      have M6 : Hid (Blk w6 w.heap.size #[.int .i64 (s : Int), .slice (some ⟨b0, off0, none⟩) N cap] 27 ∧ Blk w6 RB #[.slice none 0 0, .slice none 0 0, .int .i64 0] 77) := ⟨M5.out.1.grown hg6 (own_ne O5.out.hy M5.out.1 (by decide)), M5.out.2.grown hg6 (own_ne O5.out.hy M5.out.2 (by decide))⟩
      have V6 := hidP (V5.out.grown hg6 (own_ne O5.out.hy V5.out (by decide)))
      have S6 := hidP (S5.out.grown hg6 (own_ne O5.out.hy S5.out (by decide)))
      have A6 := hidP (A5.out.grown hg6 (own_ne O5.out.hy A5.out (by decide)))
      have B6 := hidP (B5.out.trans (gBelow hg6 (fun k hk => (O5.out.hy.lt k hk).1) B5.out.size))
      have HS6 : HeldFl VB X vy x0 x1 w6 := ⟨V6.out.cell 1 rfl, A6.out.cell 0 rfl, A6.out.cell 1 rfl⟩
      obtain ⟨ax, cx, hvx⟩ := own_slW O6.out.hx
      obtain ⟨ay, cy, hvy⟩ := own_slW O6.out.hy
      clear hy6 hg6 hn6 HBY
      have hXV : X ≠ VB := blk_neB A6.out V6.out (by decide)
      have hSV : SB ≠ VB := blk_neB S6.out V6.out (by decide)
      have hMV : w.heap.size ≠ VB := blk_neB M6.out.1 V6.out (by decide)
      have hRV : RB ≠ VB := HBS.out.2.2.2
      have HLX : Hid ((putL x x0).length ≤ j + 1) := by have := putL_len x x0; show _ ≤ _; omega
      have HLY : Hid ((putL y x1).length ≤ j + 1) := by have := putL_len y x1; show _ ≤ _; omega
      generalize putL x x0 = x' at *
      generalize putL y x1 = y' at *
      subst hvx
      subst hvy
      have V7 := hidP (V6.out.set 0 (.slice ax x'.length cx))
      have HS7 : HeldFl VB X vy x0 x1 (w6.setCell ⟨VB, 0, none⟩ (.slice ax x'.length cx)) := by
       have A7 := A6.out.setO ⟨VB, 0, none⟩ (.slice ax x'.length cx) hXV
       exact ⟨V7.out.cell 1 rfl, A7.cell 0 rfl, A7.cell 1 rfl⟩
      have V8 := hidP (V7.out.set 1 (.slice ay y'.length cy))
      have A8 := hidP ((A6.out.setO ⟨VB, 0, none⟩ (.slice ax x'.length cx) hXV).setO ⟨VB, 1, none⟩ (.slice ay y'.length cy) hXV)
      have S8 := hidP ((S6.out.setO ⟨VB, 0, none⟩ (.slice ax x'.length cx) hSV).setO ⟨VB, 1, none⟩ (.slice ay y'.length cy) hSV)
      have M8 : Hid (Blk ((w6.setCell ⟨VB, 0, none⟩ (.slice ax x'.length cx)).setCell ⟨VB, 1, none⟩ (.slice ay y'.length cy)) w.heap.size #[.int .i64 (s : Int), .slice (some ⟨b0, off0, none⟩) N cap] 27 ∧ Blk ((w6.setCell ⟨VB, 0, none⟩ (.slice ax x'.length cx)).setCell ⟨VB, 1, none⟩ (.slice ay y'.length cy)) RB #[.slice none 0 0, .slice none 0 0, .int .i64 0] 77) := ⟨(M6.out.1.setO _ _ hMV).setO _ _ hMV, (M6.out.2.setO _ _ hRV).setO _ _ hRV⟩
      have O8 := hidP ((O6.out.set (o := 0) (v := .slice ax x'.length cx) V6.out (by decide)).set (o := 1) (v := .slice ay y'.length cy) V7.out (by decide))
      have B8 := hidP ((B6.out.setCell (p := ⟨VB, 0, none⟩) HBS.out.2.1 (.slice ax x'.length cx)).setCell (p := ⟨VB, 1, none⟩) HBS.out.2.1 (.slice ay y'.length cy))
      have c70 := V6.out.cell 0 (v := vx) rfl
      have f70 := V6.out.fz 0
      have c71 := V7.out.cell 1 (v := vy) rfl
      have f71 := V7.out.fz 1
      refine hK _ _ (.inr HS6) ?_
      try simp only [Act.put, List.setIfInBounds_toArray, List.set_cons_zero, List.set_cons_succ]
      refine anyL_one (i := 11) aZ11 (by kernel_rfl) rfl (fun K hK => ?_)
      go_simp
      refine hK _ _ (.inr HS7) ?_
      try simp only [Act.put, List.setIfInBounds_toArray, List.set_cons_zero, List.set_cons_succ]
      refine anyL_tk (i := 12) (v := ?v12_9) aZ12 (by kernel_rfl) ?y12_9 HS7 ?r12_9
      case y12_9 => intro wx hx; obtain ⟨h0, h1, h2⟩ := hx; go_simp; try (with_reducible rfl)
      simp only [Act.put, List.setIfInBounds_toArray, List.set_cons_zero, List.set_cons_succ]
      refine anyL_one (i := 13) aZ13 (by kernel_rfl) rfl (fun K hK => ?_)
      go_simp
      refine hK _ _ (.inl rfl) (anyL_done (by kernel_rfl) (NoPanic.normal ?_))
      try simp only [Act.put, List.setIfInBounds_toArray, List.set_cons_zero, List.set_cons_succ]
      clear HS HS5 HS6 HS7 c70 c71 f70 f71 y0
      generalize (w6.setCell ⟨VB, 0, none⟩ (.slice ax x'.length cx)).setCell ⟨VB, 1, none⟩ (.slice ay y'.length cy) = W8 at *
      obtain ⟨b9, off9, vau, e9, hb9l, gu0, gu1, gAu⟩ := HC.out u hun
      simp only [Option.some.injEq, Addr.mk.injEq, and_true] at e9
      obtain ⟨rfl, rfl⟩ := e9
      obtain ⟨au, capu, hvu⟩ := Row.sl gAu
      subst hvu
      have HAU := hidP gAu
      have gu0 := (B8.out.cell (p := ⟨b0, off0 + u * 2, none⟩) hb9l).trans gu0
      have gu1 := (B8.out.cell (p := ⟨b0, off0 + u * 2 + 1, none⟩) hb9l).trans gu1
      have hu0 : (0 : Int) ≤ (u : Int) := Int.natCast_nonneg _
      have hu1 : (u : Int) < (N : Int) := by omega
      have hbV : b0 ≠ VB := by have := HBS.out.2.1; omega
      have hMS : w.heap.size ≠ SB := blk_neB M8.out.1 S8.out (by decide)
      have hRS : RB ≠ SB := blk_neB M8.out.2 S8.out (by decide)
      have hVS : VB ≠ SB := Ne.symm hSV
      have v2 := V8.out.cell 2 (v := .int .i64 c) rfl
      have vf := V8.out.fz 2
      have q2 := A8.out.cell 2 (v := .int .i64 x2) rfl
      have q3 := A8.out.cell 3 (v := .int .i64 (u : Int)) rfl
      have m1 := M8.out.1.cell 1 (v := .slice (some ⟨b0, off0, none⟩) N cap) rfl
      have t0 := S8.out.cell 0 (v := .int .i64 fq) rfl
      have t1 := S8.out.cell 1 (v := .slice (some ⟨b3, off3, none⟩) L cap2) rfl
      have tf0 := S8.out.fz 0
      have tf1 := S8.out.fz 1
      have HBF := hidP B8.out
      clear gAu
      have hLu : (el l u).2.length = (el l u).2.length := rfl
      generalize hfu : (el l u).1 = fu at *
      generalize hlu : (el l u).2.length = Lu at *
      have HFU := hidP hfu
      have HLU := hidP hlu
      have V9 := hidP (V8.out.set 2 (.int .i64 (c + x2)))
      have S9 := hidP (S8.out.setO ⟨VB, 2, none⟩ (.int .i64 (c + x2)) hSV)
      have M9 : Hid (Blk (W8.setCell ⟨VB, 2, none⟩ (.int .i64 (c + x2))) w.heap.size #[.int .i64 (s : Int), .slice (some ⟨b0, off0, none⟩) N cap] 27 ∧ Blk (W8.setCell ⟨VB, 2, none⟩ (.int .i64 (c + x2))) RB #[.slice none 0 0, .slice none 0 0, .int .i64 0] 77) := ⟨M8.out.1.setO _ _ hMV, M8.out.2.setO _ _ hRV⟩
      have O9 := hidP (O8.out.set (o := 2) (v := .int .i64 (c + x2)) V8.out (by decide))
      have B9 := hidP (B8.out.setCell (p := ⟨VB, 2, none⟩) HBS.out.2.1 (.int .i64 (c + x2)))
      have V11 := hidP ((V9.out.setO ⟨SB, 0, none⟩ (.int .i64 fu) hVS).setO ⟨SB, 1, none⟩ (.slice au Lu capu) hVS)
      have S10 := hidP (S9.out.set 0 (.int .i64 fu))
      have S11 := hidP (S10.out.set 1 (.slice au Lu capu))
      have M11 : Hid (Blk (((W8.setCell ⟨VB, 2, none⟩ (.int .i64 (c + x2))).setCell ⟨SB, 0, none⟩ (.int .i64 fu)).setCell ⟨SB, 1, none⟩ (.slice au Lu capu)) w.heap.size #[.int .i64 (s : Int), .slice (some ⟨b0, off0, none⟩) N cap] 27 ∧ Blk (((W8.setCell ⟨VB, 2, none⟩ (.int .i64 (c + x2))).setCell ⟨SB, 0, none⟩ (.int .i64 fu)).setCell ⟨SB, 1, none⟩ (.slice au Lu capu)) RB #[.slice none 0 0, .slice none 0 0, .int .i64 0] 77) := ⟨(M9.out.1.setO _ _ hMS).setO _ _ hMS, (M9.out.2.setO _ _ hRS).setO _ _ hRS⟩
      have O11 := hidP ((O9.out.set (o := 0) (v := .int .i64 fu) S9.out (by decide)).set (o := 1) (v := .slice au Lu capu) S10.out (by decide))
      have B11 := hidP ((B9.out.setCell (p := ⟨SB, 0, none⟩) HBS.out.2.2.1 (.int .i64 fu)).setCell (p := ⟨SB, 1, none⟩) HBS.out.2.2.1 (.slice au Lu capu))
      have hcs0 : 0 ≤ c + x2 := by omega
      have hcs1 : c + x2 ≤ 401000000000 := by omega
      have hcs2 : c + x2 ≤ ((j + 1 : Nat) : Int) * 1000000000 := by omega
      clear hlu hfu hLu
      go_wp2
      go_roundw
      case rel => exact ⟨j + 1, u, x', y', c + x2, _, _, au, capu, by omega, by go_num, by omega, hcs2, hun, HLX.out, HLY.out, HST, O11, M11, V11, by rw [HFU.out, HLU.out]; exact S11, by rw [HLU.out]; exact HAU, B11⟩
      case measure => simp [intOf]; omega
   ·have hnl : ¬ (j : Int) < (n : Int) := by omega
    obtain rfl : j = n := by omega
    have HFI := hidP (by have h9 := hI.out; rw [← HKN.out] at h9; exact h9.fin)
    have f0 := (HR.out.rgt.fin q (by rw [HN.out]; exact hqN))
    have HV2 := hidP (hV.out.set 2 (.int .i64 (c + (el l q).1)))
    have vf := hV.out.fz 2
    have hSV : SB ≠ VB := blk_neB hSt.out hV.out (by decide)
    have hRV : RB ≠ VB := HBS.out.2.2.2
    have hVR : VB ≠ RB := Ne.symm hRV
    have hSR : SB ≠ RB := blk_neB hSt.out hM.out.2 (by decide)
    have hz : ¬ (((q : Nat) : Int) < 0) := by omega
    have HS2 := hidP (hSt.out.setO ⟨VB, 2, none⟩ (.int .i64 (c + (el l q).1)) hSV)
    have HR2 := hidP (hM.out.2.setO ⟨VB, 2, none⟩ (.int .i64 (c + (el l q).1)) hRV)
    have HO2 := hidP (hO.out.set (o := 2) (v := .int .i64 (c + (el l q).1)) hV.out (by decide))
    have HB2 := hidP (hb.out.setCell (p := ⟨VB, 2, none⟩) HBS.out.2.1 (.int .i64 (c + (el l q).1)))
    rw [Int.toNat_natCast] at HFI
    have hcc0 : 0 ≤ c + (el l q).1 := by omega
    have hcc1 : c + (el l q).1 ≤ 500000000000 := by omega
    obtain ⟨ax, cx, hvx⟩ := own_slW hO.out.hx
    obtain ⟨ay, cy, hvy⟩ := own_slW hO.out.hy
    subst hvx
    subst hvy
    generalize (el l q).2.length = L at *
    generalize (el l q).1 = fq at *
    clear hO hM hV hSt hb hI HRR HRB r0 r1 r2 rf0 rf1 rf2 m0 m1 s1 v0 v1
    go_wp2
    generalize wr.setCell ⟨VB, 2, none⟩ (.int .i64 (c + fq)) = W2 at *
    clear v2 s0 vf
    have HV2 := hidP HV2.out.drew
    have HS2 := hidP HS2.out.drew
    have HR2 := hidP HR2.out.drew
    have HO2 := hidP (HO2.out.later (w' := W2.drew) ((Below.refl W2.heap.size W2).drew))
    have HB2 := hidP HB2.out.drew
    have HS : HeldFm VB (.slice ax x.length cx) (.slice ay y.length cy) (c + fq) SB fq W2.drew := ⟨HV2.out.cell 0 rfl, HV2.out.cell 1 rfl, HV2.out.cell 2 rfl, HS2.out.cell 0 rfl⟩
    have r0 : W2.cell? ⟨RB, 0, none⟩ = some (.slice none 0 0) := HR2.out.cell 0 (v := .slice none 0 0) rfl
    have r1 : W2.cell? ⟨RB, 1, none⟩ = some (.slice none 0 0) := HR2.out.cell 1 (v := .slice none 0 0) rfl
    have r2 : W2.cell? ⟨RB, 2, none⟩ = some (.int .i64 0) := HR2.out.cell 2 (v := .int .i64 0) rfl
    have rf0 : W2.frozen? ⟨RB, 0, none⟩ = false := HR2.out.fz 0
    have rf1 : W2.frozen? ⟨RB, 1, none⟩ = false := HR2.out.fz 1
    have rf2 : W2.frozen? ⟨RB, 2, none⟩ = false := HR2.out.fz 2
    have R5 := hidP (((HR2.out.set 0 (.slice ax x.length cx)).set 1 (.slice ay y.length cy)).set 2 (.int .i64 (c + fq)))
    have V5 := ((HV2.out.setO ⟨RB, 0, none⟩ (.slice ax x.length cx) hVR).setO ⟨RB, 1, none⟩ (.slice ay y.length cy) hVR).setO ⟨RB, 2, none⟩ (.int .i64 (c + fq)) hVR
    have S5 := ((HS2.out.setO ⟨RB, 0, none⟩ (.slice ax x.length cx) hSR).setO ⟨RB, 1, none⟩ (.slice ay y.length cy) hSR).setO ⟨RB, 2, none⟩ (.int .i64 (c + fq)) hSR
    have O5 := hidP (((HO2.out.set (o := 0) (v := .slice ax x.length cx) HR2.out (by decide)).set (o := 1) (v := .slice ay y.length cy) (HR2.out.set 0 _) (by decide)).set (o := 2) (v := .int .i64 (c + fq)) ((HR2.out.set 0 _).set 1 _) (by decide))
    have B5 := hidP (((HB2.out.setCell (p := ⟨RB, 0, none⟩) HBS.out.1 (.slice ax x.length cx)).setCell (p := ⟨RB, 1, none⟩) HBS.out.1 (.slice ay y.length cy)).setCell (p := ⟨RB, 2, none⟩) HBS.out.1 (.int .i64 (c + fq)))
    have HS5 : HeldFm VB (.slice ax x.length cx) (.slice ay y.length cy) (c + fq) SB fq (((W2.drew.setCell ⟨RB, 0, none⟩ (.slice ax x.length cx)).setCell ⟨RB, 1, none⟩ (.slice ay y.length cy)).setCell ⟨RB, 2, none⟩ (.int .i64 (c + fq))) := ⟨V5.cell 0 rfl, V5.cell 1 rfl, V5.cell 2 rfl, S5.cell 0 rfl⟩
    clear V5 S5
    refine region_anyL (HeldFm VB (.slice ax x.length cx) (.slice ay y.length cy) (c + fq) SB fq) 1000 (by kernel_rfl) ?_
    refine anyL_tk (i := 0) (v := ?v0_10) aZ0 (by kernel_rfl) ?y0_10 HS ?r0_10
    case y0_10 => intro wx hx; obtain ⟨h0, h1, h2, h3⟩ := hx; go_simp; try (with_reducible rfl)
    simp only [Act.put, List.setIfInBounds_toArray, List.set_cons_zero, List.set_cons_succ]
    refine anyL_tk (i := 1) (v := ?v1_11) aZ1 (by kernel_rfl) ?y1_11 HS ?r1_11
    case y1_11 => intro wx hx; obtain ⟨h0, h1, h2, h3⟩ := hx; go_simp; try (with_reducible rfl)
    simp only [Act.put, List.setIfInBounds_toArray, List.set_cons_zero, List.set_cons_succ]
    refine anyL_tk (i := 2) (v := ?v2_12) aZ2 (by kernel_rfl) ?y2_12 HS ?r2_12
    case y2_12 => intro wx hx; obtain ⟨h0, h1, h2, h3⟩ := hx; go_simp; try (with_reducible rfl)
    simp only [Act.put, List.setIfInBounds_toArray, List.set_cons_zero, List.set_cons_succ]
    refine anyL_tk (i := 3) (v := ?v3_13) aZ3 (by kernel_rfl) ?y3_13 HS ?r3_13
    case y3_13 => intro wx hx; obtain ⟨h0, h1, h2, h3⟩ := hx; go_simp; try (with_reducible rfl)
    simp only [Act.put, List.setIfInBounds_toArray, List.set_cons_zero, List.set_cons_succ]
    refine anyL_one (i := 4) aZ4 (by kernel_rfl) rfl (fun K hK => ?_)
    go_simp
    refine hK _ _ (.inr HS5) ?_
    try simp only [Act.put, List.setIfInBounds_toArray, List.set_cons_zero, List.set_cons_succ]
    refine anyL_one (i := 5) aZ5 (by kernel_rfl) rfl (fun K hK => ?_)
    go_simp
    refine hK _ _ (.inr HS5) (anyL_done (by kernel_rfl) (NoPanic.normal ?_))
    try simp only [Act.put, List.setIfInBounds_toArray, List.set_cons_zero, List.set_cons_succ]
    have HFO : Hid (FlwO (flwL l ks s) x y (c + fq) (fq != 1000000001)) := by
     show FlwO _ _ _ _ _
     rw [HFI.out]
     by_cases hf : fq = 1000000001
     ·subst hf
      exact .inl ⟨rfl, by rw [if_pos (.inr rfl)]⟩
     ·refine .inr ⟨by simpa using hf, ?_⟩
      rw [if_neg]
      rintro (h9 | h9)
      ·omega
      ·exact hf h9
    clear HS HS5 r0 r1 r2 rf0 rf1 rf2
    go_wp2
    exact bodyPost_ret (res_flw _ _ RB (fq != 1000000001) (.slice ax x.length cx) (.slice ay y.length cy) (.int .i64 (c + fq)) R5.out rfl rfl) rfl ⟨_, _, x, y, c + fq, _, rfl, Row.ofOwn encI1_len O5.out.hx rfl, Row.ofOwn encI1_len O5.out.hy rfl, HFO.out, B5.out⟩
end Go.Proofs.Ytfpibdaedfilaaa.Bw
