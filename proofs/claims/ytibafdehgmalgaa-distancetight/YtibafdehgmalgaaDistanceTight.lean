/- The statement DistanceTight: whatever numbers a machine is made of, no arc is a short cut, and each distance is had along some arc, for every input and without any condition. -/
import Derived.Test.YtibafdehgmalgaaMd
import Derived.Test.YtibafdehgmalgaaKe
import Derived.Test.YtibafdehgmalgaaKj
import Derived.Test.YtibafdehgmalgaaWy
import Derived.Test.YtibafdehgmalgaaKb
import Derived.Test.YtibafdehgmalgaaPlainDg
import Derived.Test.YtibafdehgmalgaaPlainDh
import Derived.Test.YtibafdehgmalgaaRg
import Derived.Test.YtibafdehgmalgaaSq
import Derived.Test.YtibafdehgmalgaaLo
import Derived.Lib.SmallJoins
import Derived.ChangeOld
import Derived.Below
namespace Go.Proofs.Ytibafdehgmalgaa.distanceTight
open Go.ChangeShapes Go.WideShapes Go.ChangeAt Go.RowKit
open Go.Proofs.Ytibafdehgmalgaa.Pl Go.Proofs.Ytibafdehgmalgaa.Wt
set_option linter.unusedVariables false
set_option linter.unusedSimpArgs false

theorem own : ownKnob Try.prog.godebug = none := by kernel_rfl
theorem laidOut : laidOutB Try.prog = true := by kernel_rfl
theorem slice_inj {a a' : Option Addr} {n c c' : Nat} (h : Value.slice a n c = .slice a' n c') : a = a' ∧ c = c' := by
  injection h with h1 _ h2
  exact ⟨h1, h2⟩
theorem rep_at {n j : Nat} (h : j < n) : ((List.replicate n false).map Value.bool).toArray[j]? = some (.bool false) := by
  rw [List.getElem?_toArray, List.getElem?_map, List.getElem?_replicate, if_pos h]; rfl
theorem set_bool {hs : List Bool} {t : Nat} {b : Bool} : (hs.map Value.bool).toArray.setIfInBounds t (.bool b) = ((hs.set t b).map Value.bool).toArray := by simp [List.map_set]
theorem bool_cell {w : World} {g : Nat} {hs : List Bool} {t : TypeId} (h : Blk w g (hs.map Value.bool).toArray t) {j : Nat} (hj : j < hs.length) : w.cell? ⟨g, j, none⟩ = some (.bool (el hs j)) := h.cell j (by rw [List.getElem?_toArray, List.getElem?_map, List.getElem?_eq_getElem hj, el_get hj]; rfl)
theorem rep_set {n t : Nat} : (Array.replicate n (Value.bool false)).setIfInBounds t (.bool true) = (((List.replicate n false).set t true).map Value.bool).toArray := by
  rw [← set_bool]
  congr 1
  simp
theorem made_had (w : World) (n t : Nat) (T : TypeId) : Blk (w.alloc (.cells ((Array.replicate n (Value.bool false)).setIfInBounds t (.bool true)) T)) w.heap.size (((List.replicate n false).set t true).map Value.bool).toArray T := by
  rw [← rep_set]
  exact Blk.made _ _ _
theorem addr_inj {b o b' o' : Nat} (h : some (⟨b, o, none⟩ : Addr) = some ⟨b', o', none⟩) : b = b' ∧ o = o' := by
  injection h with h
  injection h with h1 h2
  exact ⟨h1, h2⟩
def HeldT (b1 o1 : Nat) (x : Int) (ab : Nat) (y : Int) (w : World) : Prop := w.cell? ⟨b1, o1, none⟩ = some (.int .i64 x) ∧ w.cell? ⟨ab, 2, none⟩ = some (.int .i64 y)
set_option maxRecDepth 100000 in
set_option maxHeartbeats 3200000 in
theorem core (vx : Value) (rx : Rw) (w : World) (hx : RawV w vx rx ∧ okR rx ∧ wfR rx) :
    Calls Try.prog 6 #[vx] w fun e w' => e = .returned (.bool true) ∧ Below w.heap.size w w' := by
  obtain ⟨hx, hokx, hwfx⟩ := hx
  have HIx : Hid (RawV w vx rx) := hx
  have HOKx : Hid (okR rx) := hokx
  have HWFx : Hid (wfR rx) := hwfx
  obtain ⟨hfx, hcx, hlx, hax, hpx⟩ := made_facts rx 8 (by omega) (by omega)
  have HEx : Hid (∀ v W, RawV W v rx → okR rx → wfR rx → Calls Try.prog 18 #[v, .int .i64 8, .bool false] W fun e w' => ∃ v', e = .returned v' ∧ Mach w' v' (madeM rx 8 false) ∧ Below W.heap.size W w') := fun v W h1 h2 h3 => made_any v rx 8 false W h1 h2 h3 (by omega) (by omega)
  obtain ⟨vs0x, rfl, hNx⟩ := hx
  obtain ⟨a0x, c0x, rfl, hNxx⟩ := hNx.get
  clear hNx hNxx hokx hwfx
  have hz := made_start rx 8 false (by omega)
  have HCf : Hid (∀ W v, Mach W v (madeM rx 8 false) → Calls Try.prog 10 #[v] W fun e w' => DstRes (madeM rx 8 false) (FarC (madeM rx 8 false).1 (madeM rx 8 false).2) W e w') := fun W v h1 => from_cst v _ W h1 hfx hcx
  have HCa : Hid (∀ W v, Mach W v (madeM rx 8 false) → Calls Try.prog 19 #[v] W fun e w' => ∃ v' bs, e = .returned (.tuple #[v', .int .i64 0]) ∧ Bools w' v' bs ∧ Least (AheadC (madeM rx 8 false).1 (madeM rx 8 false).2) (madeM rx 8 false).2.length bs ∧ Below W.heap.size W w') := fun W v h1 => by
    refine (ahead_any v _ W h1 (right_ok hfx) 0 hfx).mono ?_
    rintro e w' ⟨v', rfl, ⟨bs, h2, h3⟩, h4⟩
    exact ⟨v', bs, rfl, h2, h3, h4⟩
  have HS0 : Hid (∀ n, CstIs (FarC (madeM rx 8 false).1 (madeM rx 8 false).2 (madeM rx 8 false).1.toNat) n → n = 0) := fun n h => tight_start hz h
  have HAH : Hid (∀ bs, Least (AheadC (madeM rx 8 false).1 (madeM rx 8 false).2) (madeM rx 8 false).2.length bs → ∀ q, q < (madeM rx 8 false).2.length → ∀ n, CstIs (FarC (madeM rx 8 false).1 (madeM rx 8 false).2 q) n → el bs q = (n != 1000000001)) := fun bs h q hq n hn => ahead_cst hfx hz h hq hn
  have HTL : Hid (∀ vs : List Int, (∀ q, q < (madeM rx 8 false).2.length → CstIs (FarC (madeM rx 8 false).1 (madeM rx 8 false).2 q) (el vs q)) → ∀ q w j, ArcE (madeM rx 8 false).2 q w j → el vs j ≤ bothI (el vs q) (w : Int)) := fun vs h q w j e => tight_le hfx h e
  have HAL : Hid (∀ vs : List Int, (∀ q, q < (madeM rx 8 false).2.length → CstIs (FarC (madeM rx 8 false).1 (madeM rx 8 false).2 q) (el vs q)) → ∀ hs, HadQ (madeM rx 8 false).2 vs (madeM rx 8 false).1.toNat (madeM rx 8 false).2.length 0 hs → ∀ j, j < (madeM rx 8 false).2.length → el vs j ≠ 1000000001 → el hs j = true) := fun vs h hs hh j hj hn => had_all hfx h hh hj hn
  have HTO : Hid (∀ q, q < (madeM rx 8 false).2.length → ∀ i, i < (el (madeM rx 8 false).2 q).2.length → (∃ t : Nat, (el (el (madeM rx 8 false).2 q).2 i).2.2.2 = (t : Int) ∧ t < (madeM rx 8 false).2.length) ∧ 0 ≤ (el (el (madeM rx 8 false).2 q).2 i).2.2.1 ∧ (el (el (madeM rx 8 false).2 q).2 i).2.2.1 ≤ 1000000001) := fun q hq i hi => by
    have h3 := (right_parts hfx).2 (el (madeM rx 8 false).2 q) (el_mem hq)
    simp only [stB, Bool.and_eq_true, List.all_eq_true] at h3
    have h4 := h3.2 _ (el_mem hi)
    simp only [arcB, inB, Bool.and_eq_true, decide_eq_true_eq] at h4
    exact ⟨⟨(el (el (madeM rx 8 false).2 q).2 i).2.2.2.toNat, by omega, by omega⟩, by omega, by omega⟩
  have HA4 : Hid (∀ q, q < (madeM rx 8 false).2.length → (el (madeM rx 8 false).2 q).2.length ≤ 400) := fun q hq => (right_states hfx q hq).2.1
  have hzl := start_lt hfx
  have HZN : Hid ((madeM rx 8 false).1.toNat < (madeM rx 8 false).2.length) := by show _ < _; omega
  have h8 : (madeM rx 8 false).2.length ≤ 8 := hlx
  clear hfx hcx hax hpx hlx
  generalize madeM rx 8 false = Mx at *
  have hmk := run_boolsS Mx.2.length (by omega)
  have HB0 : Hid (∀ o1, Below w.heap.size w (w.alloc o1)) := fun o1 => (Below.refl _ _).alloc (Nat.le_refl _) _
  go_enter Try.func6, Try.ntmps6
  go_wp2_with (first
    | (go_at_call 18; (with_reducible refine (HEx.out _ _ (HIx.out.later (HB0.out _) (Nat.le_refl _)) HOKx.out HWFx.out).mono ?_); rintro e w1 ⟨v1, rfl, hm, hb⟩; have HMx : Hid (Mach w1 v1 (Mx)) := hm; obtain ⟨vsx, rfl, hSx⟩ := hm; obtain ⟨ax, cx, rfl⟩ := hSx.sl; clear hSx; obtain ⟨s1, bb0, hb1⟩ := boxed hb (by simp); have KX1 := hidP bb0; clear bb0; have HB1 := hidP hb1; have qX0 := (KX1.out.alloc (.cells #[.int .i64 Mx.1, .slice ax Mx.2.length cx] 24)).cell 0 (v := .int .i64 rx.1) rfl; have qX1 := (KX1.out.alloc (.cells #[.int .i64 Mx.1, .slice ax Mx.2.length cx] 24)).cell 1 (v := .slice a0x rx.2.length c0x) rfl; clear hb hb1)
    | (go_at_call 10; (with_reducible refine (HCf.out _ _ (HMx.out.later ((Below.refl _ _).alloc (Nat.le_refl _) _) (Nat.le_refl _))).mono ?_); rintro e w2 ⟨v2, Ll, rfl, hq, hn, hb⟩; have HQl := hidP hq; have HNl : Hid (Nums w2 v2 Ll) := hn; obtain ⟨awl, cwl, hv, _⟩ := hn.get; rw [hq.1] at hv; subst hv; clear hq hn; obtain ⟨s2, bb0, hb2⟩ := boxed hb (by simp); have KVx2 := hidP bb0; clear bb0; have HB2 := hidP (HB1.out.trans (hb2.mono HB1.out.size)); have KX2 := hidP (KX1.out.below hb2 KX1.out.lt); have Hx2 := hidP hb2; have qX0 := KX2.out.cell 0 (v := .int .i64 rx.1) rfl; have qX1 := KX2.out.cell 1 (v := .slice a0x rx.2.length c0x) rfl; have qVx0 := KVx2.out.cell 0 (v := .int .i64 Mx.1) rfl; have qVx1 := KVx2.out.cell 1 (v := .slice ax Mx.2.length cx) rfl; clear hb hb2)
    | (go_at_call 19; (with_reducible refine (HCa.out _ _ (HMx.out.later Hx2.out (Nat.le_refl _))).mono ?_); rintro e w3 ⟨v3, bs, rfl, hbo, hle, hb⟩; have HBS := hidP hbo; have HLE := hidP hle; obtain ⟨awb, cwb, hv, _⟩ := hbo.get; rw [hle.1] at hv; subst hv; clear hbo hle; have hb3 := hb; have HB3 := hidP (HB2.out.trans (hb3.mono HB2.out.size)); have KX3 := hidP (KX2.out.below hb3 KX2.out.lt); have KVx3 := hidP (KVx2.out.below hb3 KVx2.out.lt); have Hx3 := hidP (Hx2.out.trans (hb3.mono Hx2.out.size)); have Hl3 := hidP hb3; have qX0 := KX3.out.cell 0 (v := .int .i64 rx.1) rfl; have qX1 := KX3.out.cell 1 (v := .slice a0x rx.2.length c0x) rfl; have qVx0 := KVx3.out.cell 0 (v := .int .i64 Mx.1) rfl; have qVx1 := KVx3.out.cell 1 (v := .slice ax Mx.2.length cx) rfl; obtain ⟨al2, cl2, e1, g1⟩ := (HNl.out.later Hl3.out (Nat.le_refl _)).get; rw [HQl.out.1] at e1 g1; have e1 := slice_inj e1; obtain ⟨rfl, rfl⟩ := e1; have G1 := hidP g1; obtain ⟨bz, oz, rfl, hbz, cz⟩ := g1 Mx.1.toNat HZN.out; rw [HS0.out _ (HQl.out.2 _ HZN.out)] at cz; have hHb := Blk.made w3 ((List.replicate Mx.2.length false).map Value.bool).toArray 4; have cH := hHb.cell Mx.1.toNat (v := .bool false) (rep_at HZN.out); have fH := hHb.fz Mx.1.toNat; have HHB := hidP (hHb.set Mx.1.toNat (.bool true)); have sV := KVx3.out.lt; clear g1 hHb; clear hb hb3))
  obtain ⟨_, he, hS⟩ := HMx.out.later Hx3.out (Nat.le_refl _)
  simp only [Value.agg.injEq, Array.mk.injEq, List.cons.injEq, and_true, true_and] at he
  subst he
  obtain ⟨_, _, e3, g3⟩ := hS.get
  simp only [Value.slice.injEq, true_and] at e3
  obtain ⟨rfl, rfl⟩ := e3
  obtain ⟨_, _, e4, g4⟩ := HBS.out.get
  rw [HLE.out.1] at e4 g4
  have e4 := slice_inj e4
  obtain ⟨rfl, rfl⟩ := e4
  have G3 := hidP g3
  have HLA := hidP HQl.out.2
  have HAB := hidP (fun q hq => HAH.out bs HLE.out q hq (el Ll q) (HLA.out q hq))
  have HTW := hidP (fun q w j e => HTL.out Ll HLA.out q w j e)
  have HFI := hidP (HAL.out Ll HLA.out)
  have HTN : Hid (∀ q, q < Mx.2.length → ∀ i', i' < (el Mx.2 q).2.length → (el (el Mx.2 q).2 i').2.2.2.toNat < Mx.2.length) := fun q hq i' hi => by
    obtain ⟨⟨t, ht, htl⟩, _⟩ := HTO.out q hq i' hi
    omega
  have hH0 : Hid (HadQ Mx.2 Ll Mx.1.toNat 0 0 ((List.replicate Mx.2.length false).set Mx.1.toNat true)) := had_start Ll HZN.out
  have G4 := hidP g4
  clear HBS HLE g3 g4 hS HHB HAH HTL HAL cH fH
  generalize hn : Mx.2.length = n at *
  have HNN := hidP hn
  clear hn
  go_loopw [9] (fun qv wr => ∃ (k : Nat) (hs : List Bool), k ≤ n ∧ qv = .int .i64 k ∧ Hid (HadQ Mx.2 Ll Mx.1.toNat k 0 hs) ∧ Hid (Blk wr w3.heap.size (hs.map Value.bool).toArray 4) ∧ Hid (Below w3.heap.size w3 wr)) (fun i _ => n - (intOf i).toNat)
  case atStart => exact ⟨0, _, Nat.zero_le _, rfl, hH0, made_had w3 n Mx.1.toNat 4, (Below.refl _ _).alloc (Nat.le_refl _) _⟩
  case round =>
    clear hH0
    obtain ⟨k, hs, hk, rfl, hhq, hhb, hbj⟩ := hrel
    obtain ⟨w4, hw4⟩ : ∃ w4, w4 = wr := ⟨_, rfl⟩
    subst hw4
    have KX := hidP (KVx3.out.below hbj.out KVx3.out.lt)
    by_cases hlt : k < n
    · obtain ⟨b1, o1, hal, hb1, c1⟩ := G1.out k hlt
      have hal := addr_inj hal
      obtain ⟨rfl, rfl⟩ := hal
      obtain ⟨b4, o4, rfl, hb4, c4⟩ := G4.out k hlt
      obtain ⟨b3, o3, va, rfl, hb3, c3, d3, hA3⟩ := G3.out k hlt
      have c1 := (hbj.out.cell (p := ⟨bz, oz + k, none⟩) hb1).trans c1
      have c4 := (hbj.out.cell (p := ⟨b4, o4 + k, none⟩) hb4).trans c4
      rw [HAB.out k hlt] at c4
      have r1 := cst_most (HLA.out k hlt)
      have x1c := KX.out.cell 1 (v := .slice (some ⟨b3, o3, none⟩) n cx) rfl
      have HNX : Hid (HadQ Mx.2 Ll Mx.1.toNat k 0 hs) := hhq
      obtain ⟨av, cv, rfl, g5⟩ := hA3.get
      have G5 := hidP g5
      have HTK := hidP (HTO.out k hlt)
      have h400 := HA4.out k hlt
      have HARC : Hid (∀ i, i < (el Mx.2 k).2.length → ∀ t : Nat, (el (el Mx.2 k).2 i).2.2.2 = (t : Int) → ArcE Mx.2 k (el (el Mx.2 k).2 i).2.2.1.toNat t) := fun i hi t ht => ⟨_, el_mem hi, ht, rfl⟩
      have D3 := hidP d3
      clear g5 hA3 c3 d3
      obtain ⟨x1, hx1⟩ : ∃ x1, el Ll k = x1 := ⟨_, rfl⟩
      have HX1 := hidP hx1
      rw [hx1] at c1 c4 r1
      clear hx1
      have k0 : (0 : Int) ≤ (k : Int) := by omega
      have k1 : (k : Int) < (n : Int) := by omega
      have r2 : ¬ x1 < 0 := by omega
      obtain ⟨bq, hbq⟩ : ∃ bq, (x1 != 1000000001) = bq := ⟨_, rfl⟩
      rw [hbq] at c4
      have hbb : (bq != bq) = false := by simp
      generalize hn1 : (el Mx.2 k).2.length = n1 at *
      have HN1 := hidP hn1
      clear hn1
      go_wp2
      go_quiet (fail)
      go_wp2
      have HB5 := hidP (below_drewN hbj.out nq)
      have HH5 := hidP (hhb.out.drewN nq)
      generalize w4.drewN nq = w5 at *
      clear hbj hhb c1 c4 KX x1c hhq
      go_loopw [10] (fun iv wr => ∃ (i : Nat) (hs : List Bool), i ≤ n1 ∧ iv = .int .i64 i ∧ Hid (HadQ Mx.2 Ll Mx.1.toNat k i hs) ∧ Hid (Blk wr w3.heap.size (hs.map Value.bool).toArray 4) ∧ Hid (Below w3.heap.size w3 wr)) (fun i _ => n1 - (intOf i).toNat)
      case atStart => exact ⟨0, hs, Nat.zero_le _, rfl, HNX, HH5, HB5⟩
      case round =>
        clear HNX HH5 HB5
        obtain ⟨i, hs2, hi, rfl, hhq, hhb, hbi⟩ := hrel
        obtain ⟨w6, hw6⟩ : ∃ w6, w6 = wr := ⟨_, rfl⟩
        subst hw6
        have KX := hidP (KVx3.out.below hbi.out KVx3.out.lt)
        have x1c := KX.out.cell 1 (v := .slice (some ⟨b3, o3, none⟩) n cx) rfl
        have d3 := (hbi.out.cell (p := ⟨b3, o3 + k * 2 + 1, none⟩) hb3).trans D3.out
        by_cases hilt : i < n1
        · obtain ⟨b6, o6, rfl, hb6, p0c, p1c, p2c, p3c⟩ := G5.out i hilt
          have p0c := (hbi.out.cell (p := ⟨b6, o6 + i * 4, none⟩) hb6).trans p0c
          have p1c := (hbi.out.cell (p := ⟨b6, o6 + i * 4 + 1, none⟩) hb6).trans p1c
          have p2c := (hbi.out.cell (p := ⟨b6, o6 + i * 4 + 2, none⟩) hb6).trans p2c
          have p3c := (hbi.out.cell (p := ⟨b6, o6 + i * 4 + 3, none⟩) hb6).trans p3c
          obtain ⟨⟨t0, ht0, htl⟩, hw0, hw1⟩ := HTK.out i hilt
          obtain ⟨b7, o7, hal, hb7, c7⟩ := G1.out t0 htl
          have hal := addr_inj hal
          obtain ⟨rfl, rfl⟩ := hal
          obtain ⟨b8, o8, hal, hb8, c8⟩ := G1.out k hlt
          have hal := addr_inj hal
          obtain ⟨rfl, rfl⟩ := hal
          have hle := HTW.out k _ t0 (HARC.out i hilt t0 ht0)
          rw [Int.toNat_of_nonneg hw0] at hle
          have HSK := hidP (fun h => had_skip hhq.out h)
          have HST := hidP (had_set hhq.out (t := t0) (by rw [HNN.out]; exact htl) (by rw [ht0]; rfl) (by rw [HNN.out]; exact HTN.out) (by rw [HNN.out]; exact HZN.out))
          have hhl : hs2.length = n := by rw [hhq.out.1, HNN.out]
          rw [ht0] at p3c HSK
          rw [HX1.out] at hle HSK c8
          have HBT := hidP (fun W => both_any x1 (el (el Mx.2 k).2 i).2.2.1 W ⟨r1.1, r1.2.1⟩ ⟨hw0, hw1⟩)
          have hy : bothI x1 (el (el Mx.2 k).2 i).2.2.1 = (if x1 = 1000000001 ∨ (el (el Mx.2 k).2 i).2.2.1 = 1000000001 then 1000000001 else x1 + (el (el Mx.2 k).2 i).2.2.1) := rfl
          rw [hy] at hle HSK
          clear hy
          generalize (if x1 = 1000000001 ∨ (el (el Mx.2 k).2 i).2.2.1 = 1000000001 then 1000000001 else x1 + (el (el Mx.2 k).2 i).2.2.1) = y at *
          generalize el (el Mx.2 k).2 i = pp at *
          obtain ⟨p0, p1, p2, p3⟩ := pp
          simp only at p0c p1c p2c p3c HBT
          have hNA : Below w6.heap.size w6 (w6.alloc (.cells #[.int .i64 p0, .int .i64 p1, .int .i64 p2, .int .i64 (t0 : Int)] 46)) := (Below.refl _ _).alloc (Nat.le_refl _) _
          have c7 := ((hbi.out.trans (hNA.mono hbi.out.size)).cell (p := ⟨bz, oz + t0, none⟩) hb7).trans c7
          have c8 := ((hbi.out.trans (hNA.mono hbi.out.size)).cell (p := ⟨bz, oz + k, none⟩) hb8).trans c8
          have kA := Blk.made w6 #[.int .i64 p0, .int .i64 p1, .int .i64 p2, .int .i64 (t0 : Int)] 46
          have HB7 := hidP (hbi.out.trans (hNA.mono hbi.out.size)).drew
          have HH7 := hidP (hhb.out.below hNA hhb.out.lt).drew
          have i0 : (0 : Int) ≤ (i : Int) := by omega
          have i1 : (i : Int) < (n1 : Int) := by omega
          have t1 : (0 : Int) ≤ (t0 : Int) := by omega
          have t2 : (t0 : Int) < (n : Int) := by omega
          obtain ⟨x2, hx2⟩ : ∃ x2, el Ll t0 = x2 := ⟨_, rfl⟩
          have htt : ((t0 : Int)).toNat = t0 := by omega
          rw [htt] at HSK
          rw [hx2] at c7 hle HSK
          clear hx2 htt
          go_wp2
          have HS : HeldT bz (oz + k) x1 w6.heap.size p2 (w6.alloc (.cells #[.int .i64 p0, .int .i64 p1, .int .i64 p2, .int .i64 (t0 : Int)] 46)).drew := ⟨c8, kA.cell 2 rfl⟩
          have kA3 := kA.drew.cell 3 (v := .int .i64 (t0 : Int)) rfl
          have c7 : (w6.alloc (.cells #[.int .i64 p0, .int .i64 p1, .int .i64 p2, .int .i64 (t0 : Int)] 46)).drew.cell? ⟨bz, oz + t0, none⟩ = some (.int .i64 x2) := c7
          refine region_anyL (HeldT bz (oz + k) x1 w6.heap.size p2) 100 (by kernel_rfl) ?_
          refine anyL_take (i := 0) (v := ?v0_1) at0 (by kernel_rfl) (by kernel_rfl) (by kernel_rfl) (by kernel_rfl) (fun _ _ _ h => h) rfl ?y0_1 HS ?r0_1
          case y0_1 => intro wx hx; obtain ⟨h1, h2⟩ := hx; go_simp; try (with_reducible rfl)
          simp only [Act.put, List.setIfInBounds_toArray, List.set_cons_zero, List.set_cons_succ]
          refine anyL_take (i := 1) (v := ?v1_2) (atS at0) (by kernel_rfl) (by kernel_rfl) (by kernel_rfl) (by kernel_rfl) (fun _ _ _ h => h) rfl ?y1_2 HS ?r1_2
          case y1_2 => intro wx hx; obtain ⟨h1, h2⟩ := hx; go_simp; try (with_reducible rfl)
          simp only [Act.put, List.setIfInBounds_toArray, List.set_cons_zero, List.set_cons_succ]
          refine anyL_take (i := 2) (v := ?v2_3) (atS (atS at0)) (by kernel_rfl) (by kernel_rfl) (by kernel_rfl) (by kernel_rfl) (fun _ _ _ h => h) rfl ?y2_3 HS ?r2_3
          case y2_3 => intro wx hx; obtain ⟨h1, h2⟩ := hx; go_simp; try (with_reducible rfl)
          simp only [Act.put, List.setIfInBounds_toArray, List.set_cons_zero, List.set_cons_succ]
          refine anyL_take (i := 3) (v := ?v3_4) (atS (atS (atS at0))) (by kernel_rfl) (by kernel_rfl) (by kernel_rfl) (by kernel_rfl) (fun _ _ _ h => h) rfl ?y3_4 HS ?r3_4
          case y3_4 => intro wx hx; obtain ⟨h1, h2⟩ := hx; go_simp; try (with_reducible rfl)
          simp only [Act.put, List.setIfInBounds_toArray, List.set_cons_zero, List.set_cons_succ]
          refine anyL_take (i := 4) (v := ?v4_5) (atS (atS (atS (atS at0)))) (by kernel_rfl) (by kernel_rfl) (by kernel_rfl) (by kernel_rfl) (fun _ _ _ h => h) rfl ?y4_5 HS ?r4_5
          case y4_5 => intro wx hx; obtain ⟨h1, h2⟩ := hx; go_simp; try (with_reducible rfl)
          simp only [Act.put, List.setIfInBounds_toArray, List.set_cons_zero, List.set_cons_succ]
          refine anyL_take (i := 5) (v := ?v5_6) (atS (atS (atS (atS (atS at0))))) (by kernel_rfl) (by kernel_rfl) (by kernel_rfl) (by kernel_rfl) (fun _ _ _ h => h) rfl ?y5_6 HS ?r5_6
          case y5_6 => intro wx hx; obtain ⟨h1, h2⟩ := hx; go_simp; try (with_reducible rfl)
          simp only [Act.put, List.setIfInBounds_toArray, List.set_cons_zero, List.set_cons_succ]
          refine anyL_one (i := 6) (atS (atS (atS (atS (atS (atS at0)))))) (by kernel_rfl) rfl (fun K hK => ?_)
          go_simp
          refine (HBT.out _).mono ?_
          rintro e w' ⟨rfl, rfl⟩
          refine hK _ _ (.inr HS) ?_
          try simp only [Act.put, List.setIfInBounds_toArray, List.set_cons_zero, List.set_cons_succ]
          refine anyL_one (i := 7) (atS (atS (atS (atS (atS (atS (atS at0))))))) (by kernel_rfl) rfl (fun K hK => ?_)
          go_simp
          refine hK _ _ (.inr HS) (anyL_done (by kernel_rfl) (NoPanic.normal ?_))
          try simp only [Act.put, List.setIfInBounds_toArray, List.set_cons_zero, List.set_cons_succ]
          clear HS c8 kA hNA
          generalize (w6.alloc (.cells #[.int .i64 p0, .int .i64 p1, .int .i64 p2, .int .i64 (t0 : Int)] 46)).drew = w7 at *
          have n1' : ¬ x2 > y := by omega
          have n2' : ¬ y < x2 := by omega
          have eH := bool_cell HH7.out (j := t0) (by rw [hhl]; exact htl)
          have fH := HH7.out.fz t0
          have sH := HH7.out.lt
          by_cases hyi : y = 1000000001
          · have hy' : (y != 1000000001) = false := by simp [hyi]
            have HH := hidP (HSK.out (.inl hyi))
            clear hyi
            go_wp2
            go_roundw
            case rel => exact ⟨i + 1, hs2, by omega, by go_num, HH, HH7, HB7⟩
            case measure => simp [intOf]; omega
          · have hy' : (y != 1000000001) = true := by simpa using hyi
            by_cases hxy : x2 = y
            · have hx' : (x2 == y) = true := by simpa using hxy
              have HH8 := hidP (HH7.out.set t0 (.bool true))
              rw [set_bool] at HH8
              have HB8 := hidP (HB7.out.setCell (p := ⟨w3.heap.size, t0, none⟩) (Nat.le_refl _) (.bool true))
              clear hyi hxy
              go_wp2
              go_roundw
              case rel => exact ⟨i + 1, hs2.set t0 true, by omega, by go_num, HST, HH8, HB8⟩
              case measure => simp [intOf]; omega
            · have hx' : (x2 == y) = false := by simpa using hxy
              have HH := hidP (HSK.out (.inr hxy))
              clear hyi hxy
              go_wp2
              go_roundw
              case rel => exact ⟨i + 1, hs2, by omega, by go_num, HH, HH7, HB7⟩
              case measure => simp [intOf]; omega
        · have hni : ¬ (i : Int) < (n1 : Int) := by omega
          have HH : Hid (HadQ Mx.2 Ll Mx.1.toNat (k + 1) 0 hs2) := had_next (by rw [HN1.out, show n1 = i by omega]; exact hhq.out)
          go_wp2
          go_roundw
          case rel => exact ⟨k + 1, hs2, by omega, by go_num, HH, hhb, hbi⟩
          case measure => simp [intOf]; omega
    · have hnk : ¬ (k : Int) < (n : Int) := by omega
      obtain rfl : n = k := by omega
      have HFA := hidP (HFI.out hs hhq.out)
      have hhl : hs.length = n := by rw [hhq.out.1, HNN.out]
      have x1c := KX.out.cell 1 (v := .slice ax n cx) rfl
      clear hhq
      go_wp2
      clear x1c
      go_loopw [13] (fun jv wr => ∃ j : Nat, j ≤ n ∧ jv = .int .i64 j ∧ Hid (Below w4.heap.size w4 wr)) (fun i _ => n - (intOf i).toNat)
      case atStart => exact ⟨0, Nat.zero_le _, rfl, Below.refl _ _⟩
      case round =>
        obtain ⟨j, hj, rfl, hbw⟩ := hrel
        have x1c := (KX.out.below hbw.out KX.out.lt).cell 1 (v := .slice ax n cx) rfl
        by_cases hjl : j < n
        · obtain ⟨b4, o4, rfl, hb4, c4⟩ := G4.out j hjl
          have c4 := ((hbj.out.trans (hbw.out.mono hbj.out.size)).cell (p := ⟨b4, o4 + j, none⟩) hb4).trans c4
          rw [HAB.out j hjl] at c4
          have e8 := bool_cell (hhb.out.below hbw.out hhb.out.lt) (j := j) (by rw [hhl]; exact hjl)
          have HG := hidP (HFA.out j hjl)
          generalize el Ll j = x1 at *
          generalize el hs j = hb at *
          have k0 : (0 : Int) ≤ (j : Int) := by omega
          have k1 : (j : Int) < (n : Int) := by omega
          by_cases hx : x1 = 1000000001
          · have hx' : (x1 != 1000000001) = false := by simp [hx]
            rw [hx'] at c4
            clear hx hx' HG
            go_wp2
            go_roundw
            case rel => exact ⟨j + 1, by omega, by go_num, hbw⟩
            case measure => simp [intOf]; omega
          · have hx' : (x1 != 1000000001) = true := by simpa using hx
            rw [hx'] at c4
            have hbt : hb = true := HG.out hx
            clear hx hx' HG
            subst hbt
            go_wp2
            go_roundw
            case rel => exact ⟨j + 1, by omega, by go_num, hbw⟩
            case measure => simp [intOf]; omega
        · have hnj : ¬ (j : Int) < (n : Int) := by omega
          go_wp2
          go_ret
          exact ⟨rfl, HB3.out.trans ((hbj.out.trans (hbw.out.mono hbj.out.size)).mono HB3.out.size)⟩
theorem walk (vx : Value) (rx : Rw) (w : World) (hx : RawV w vx rx ∧ okR rx ∧ wfR rx) :
    Calls Try.prog 6 #[vx] w fun e w' => e = .returned (.bool true) ∧ Below w.heap.size w w' := core vx rx w hx

set_option maxRecDepth 100000 in
theorem lifted (os : Os) (started : os.Started) (H : Type) (enc : TypeId × Value → H) :
    ReturnsInHanded {} Try.checked os 6 .any (Rows.distanceTightSpec.pre6 enc Try.prog Try.f6 Rows.distanceTightRow.domain false) (Rows.distanceTightSpec.post enc Try.prog Try.f6 false true false false) := by
  refine returnsInHanded_of_change_sized (C := Try.checked) own started (by kernel_rfl) Try.func6
    (ChangeSpec.witness6 (enc := enc) (C := Try.checked) false ⟨#[], #[.agg #[.int .i64 0, .slice none 0 0]], []⟩ 8 (by kernel_rfl) (by kernel_rfl) (by kernel_rfl) (by kernel_rfl)) ?_
  intro W base args ds gs before hval0 hW hcnd hsz0 _
  have hsz : (DataW.weightsEach Try.prog (Try.f6.params.toList ++ Rows.distanceTightSpec.plain.varTypes Try.prog) (ds ++ gs)).all (· ≤ reachBytes) = true := hsz0
  have hval : ∀ (j : Nat) t v, Try.f6.params[j]? = some t → args[j]? = some v → Value.okWide Try.prog W .any base t v := hval0
  clear hval0 hsz0
  have hW' := hW
  obtain ⟨p, q, hA0, hV, rfl, hfz, hnd⟩ := hW
  have hA : DataW.TrodAll enc Try.prog W 0 (fun _ => true) true Try.f6.params.toList args.toList ds p := hA0
  rw [Try.params6] at hA hval hsz
  obtain ⟨v0, vs0, d0, ds0, p0, q0, hargs, rfl, rfl, h0, r0⟩ := trodAll_cons hA
  obtain ⟨rfl, rfl, rfl⟩ := trodAll_nil r0
  obtain rfl : args = #[v0] := by cases args; simp_all
  obtain ⟨rfl, rfl⟩ := trodVars_none hV
  have k0 := h0
  have lt0 : ∀ x ∈ p0, x.block < W.heap.size := by obtain ⟨m, hm⟩ := k0; exact DataW.trod_lt m _ _ _ hm
  obtain ⟨z0, w0⟩ : ∃ m : Rw, RawV W v0 m ∧ okR m ∧ wfR m := by
    obtain ⟨c0, c1, y0, y1, n, rfl, hd, hp, t0, t1⟩ := Go.Joins.open_agg2 Try.underlying37 (by kernel_rfl) (by kernel_rfl) (hval 0 37 v0 rfl rfl) h0
    subst hd
    exact open_raw t0 t1 ((Fits.arg hsz (j := 0) rfl rfl).field Try.underlying37 (f := 1) rfl rfl)
  refine (walk v0 z0 W w0).mono fun e W' ⟨he, bel⟩ => ?_
  subst he
  exact ⟨_, rfl, _, _, _, [], _, [], hW', trodAll_mk1 (shut_bool Try.underlying4 _), (trodAll_cons_mk (Below.trod laidOut (by kernel_rfl) (of_decide_eq_true (by kernel_rfl)) k0 bel lt0) trodAll_mk0), rfl, bel.frame _, fun h => by cases h⟩
end Go.Proofs.Ytibafdehgmalgaa.distanceTight
namespace Go.Proofs.Ytibafdehgmalgaa
theorem distanceTight_holds : Rows.DistanceTightSaid :=
  OpenClaim.holds_of_wide 6 Try.f6 rfl rfl rfl rfl rfl rfl rfl ⟨rfl, rfl, rfl, rfl, rfl⟩ rfl rfl rfl rfl rfl (by kernel_rfl) Try.func6 (by kernel_rfl)
    (of_decide_eq_true (by kernel_rfl)) (by unfold Func.isWrapper; first | (rw [if_pos (by decide +kernel)]; kernel_rfl) | (rw [if_neg (by decide +kernel)]; exact ⟨rfl, rfl⟩))
    (fun os started H enc _ => distanceTight.lifted os started H enc)
#print axioms distanceTight_holds
end Go.Proofs.Ytibafdehgmalgaa
