/- The statement PushZero: whatever numbers a machine is made of, pushed an end can be had for 0 from each state; pushed again it stays; the total is what the cheapest path costs, for every input and without any condition. -/
import Derived.Test.YteaafghmkkejfaaMd
import Derived.Test.YteaafghmkkejfaaKe
import Derived.Test.YteaafghmkkejfaaKj
import Derived.Test.YteaafghmkkejfaaJ15z
import Derived.Test.YteaafghmkkejfaaPz
import Derived.Test.YteaafghmkkejfaaKd
import Derived.Test.YteaafghmkkejfaaPlainPo
import Derived.Test.YteaafghmkkejfaaLo
import Derived.Lib.SmallJoins
import Derived.ChangeOld
import Derived.Below
namespace Go.Proofs.Yteaafghmkkejfaa.pushZero
open Go.ChangeShapes Go.WideShapes Go.ChangeAt Go.RowKit
open Go.Proofs.Yteaafghmkkejfaa.Pl Go.Proofs.Yteaafghmkkejfaa.Wt
set_option linter.unusedVariables false
set_option linter.unusedSimpArgs false

theorem own : ownKnob Try.prog.godebug = none := by kernel_rfl
theorem laidOut : laidOutB Try.prog = true := by kernel_rfl
set_option maxRecDepth 100000 in
set_option maxHeartbeats 3200000 in
theorem core (vx : Value) (rx : Rw) (w : World) (hx : RawV w vx rx ∧ okR rx ∧ wfR rx) :
    Calls Try.prog 6 #[vx] w fun e w' => e = .returned (.bool true) ∧ Below w.heap.size w w' := by
  obtain ⟨hx, hokx, hwfx⟩ := hx
  have HIx : Hid (RawV w vx rx) := hx
  have HOKx : Hid (okR rx) := hokx
  have HWFx : Hid (wfR rx) := hwfx
  obtain ⟨hfx, hcx, hlx, hax, hpx⟩ := made_facts rx 6 (by omega) (by omega)
  have HEx : Hid (∀ v W, RawV W v rx → okR rx → wfR rx → Calls Try.prog 13 #[v, .int .i64 6, .bool false] W fun e w' => ∃ v', e = .returned v' ∧ Mach w' v' (madeM rx 6 false) ∧ Below W.heap.size W w') := fun v W h1 h2 h3 => made_any v rx 6 false W h1 h2 h3 (by omega) (by omega)
  obtain ⟨vs0x, rfl, hNx⟩ := hx
  obtain ⟨a0x, c0x, rfl, hNxx⟩ := hNx.get
  clear hNx hNxx hokx hwfx
  have hz := made_start rx 6 false (by omega)
  have hzl := start_lt hfx
  obtain ⟨z, hz1⟩ : ∃ z : Nat, (madeM rx 6 false).1 = (z : Int) := ⟨(madeM rx 6 false).1.toNat, by omega⟩
  have HZ1 := hidP hz1
  have HZL : Hid (z < (madeM rx 6 false).2.length) := by show _ < _; omega
  have hM := fun x tt ec (h : PshAns (madeM rx 6 false) x tt ec) => psh_made hfx (made_nine rx 6 false) (by omega) h
  have HPU : Hid (∀ W v, Mach W v (madeM rx 6 false) → Calls Try.prog 8 #[v] W fun e w' => PshRes (PshAns (madeM rx 6 false)) W e w') := fun W v h1 => pushP_any v _ W h1 (right_ok hfx)
  have HPV : Hid (∀ W v x, faultM x = 0 → Mach W v x → Calls Try.prog 8 #[v] W fun e w' => PshRes (PshAns x) W e w') := fun W v x h1 h2 => pushP_any v x W h2 (right_ok h1)
  have HPF : Hid (∀ x tt ec, PshAns (madeM rx 6 false) x tt ec → ec = 0 ∧ faultM x = 0 ∧ CheapL x.2) := fun x tt ec h => by
    obtain ⟨h1, T, vs, h2⟩ := hM x tt ec h
    exact ⟨h1, h2.rightx, h2.cheapx⟩
  have HPA : Hid (∀ x tt ec, PshAns (madeM rx 6 false) x tt ec → ∀ y t g, PshAns x y t g → x = y ∧ t = 0 ∧ g = 0) := fun x tt ec h y t g h' => by
    obtain ⟨h1, T, vs, h2⟩ := hM x tt ec h
    exact ⟨(h2.again h').1.symm, (h2.again h').2⟩
  have HPZ : Hid (∀ x tt ec, PshAns (madeM rx 6 false) x tt ec → ∀ q, q < x.2.length → ∀ n, CstIs (EndC x.2 q) n → n = 0) := fun x tt ec h q hq n hn => by
    obtain ⟨h1, T, vs, h2⟩ := hM x tt ec h
    exact h2.zeros hq hn
  have HPN : Hid (∀ x tt ec, PshAns (madeM rx 6 false) x tt ec → ∀ n, CstIs (EndC (madeM rx 6 false).2 (madeM rx 6 false).1.toNat) n → (n = 1000000001 ∧ x.2.length = 0 ∧ tt = 0) ∨ (n ≠ 1000000001 ∧ tt = n ∧ 0 ≤ x.1)) := fun x tt ec h n hn => by
    obtain ⟨h1, T, vs, h2⟩ := hM x tt ec h
    exact h2.cheapest hz hn
  have hSM : (el (madeM rx 6 false).2 z).1 ≠ 1000000001 → ∀ x tt ec, PshAns (madeM rx 6 false) x tt ec → 0 < x.2.length := fun hn x tt ec h => by
    obtain ⟨h1, T, vs, h2⟩ := hM x tt ec h
    have e : (madeM rx 6 false).1.toNat = z := by omega
    exact h2.some hz (by omega) (by rw [e]; exact hn)
  have HCG : Hid (∀ N : Mc, faultM N = 0 → CheapL N.2 → ∀ W v, Mach W v N → Calls Try.prog 17 #[v] W fun e w' => DstRes N (EndC N.2) W e w') := fun N f1 c1 W v h1 => ends_cst v _ W h1 f1 c1
  have HCn : Hid (∀ W v, Mach W v (madeM rx 6 false) → Calls Try.prog 18 #[v] W fun e w' => ∃ x : Int, e = .returned (.tuple #[.int .i64 x, .int .i64 0]) ∧ CstIs (EndC (madeM rx 6 false).2 (madeM rx 6 false).1.toNat) x ∧ Below W.heap.size W w') := fun W v h1 => least_cst v _ W h1 hfx hcx hz
  have HAU : Hid (∀ W v1 v2 (N : Mc), faultM N = 0 → Mach W v1 N → Mach W v2 N → Calls Try.prog 19 #[v1, v2] W fun e w' => e = .returned (.bool true) ∧ Below W.heap.size W w') := fun W v1 v2 N f1 h1 h2 => keepAlike_any v1 v2 _ W h1 h2 (right_ok f1)
  have HLN : Hid (∀ N : Mc, faultM N = 0 → N.2.length ≤ 1000) := fun N f1 => by
    have := (faultM_zero f1).1
    simp only [sizeB, Bool.and_eq_true, decide_eq_true_eq] at this
    omega
  clear hM hfx hcx hlx hax hpx hz
  generalize madeM rx 6 false = Mx at *
  have z0 : (0 : Int) ≤ (z : Int) := by omega
  have z1 : (z : Int) < (Mx.2.length : Int) := by rw [← hz1]; exact hzl
  clear hz1 hzl
  have HB0 : Hid (∀ o1, Below w.heap.size w (w.alloc o1)) := fun o1 => (Below.refl _ _).alloc (Nat.le_refl _) _
  by_cases hfin : (el Mx.2 z).1 = 1000000001
  · have HFI := hidP hfin
    clear hSM hfin
    go_enter Try.func6, Try.ntmps6
    go_wp2_with (first
      | (go_at_call 13; (with_reducible refine (HEx.out _ _ (HIx.out.later (HB0.out _) (Nat.le_refl _)) HOKx.out HWFx.out).mono ?_); rintro e w1 ⟨v1, rfl, hm, hb⟩; have HMx : Hid (Mach w1 v1 (Mx)) := hm; obtain ⟨vsx, rfl, hSx⟩ := hm; obtain ⟨ax, cx, rfl⟩ := hSx.sl; clear hSx; obtain ⟨s1, bb0, hb1⟩ := boxed hb (by simp); have KX1 := hidP bb0; clear bb0; have HB1 := hidP hb1; have qX0 := (KX1.out.alloc (.cells #[.int .i64 Mx.1, .slice ax Mx.2.length cx] 24)).cell 0 (v := .int .i64 rx.1) rfl; have qX1 := (KX1.out.alloc (.cells #[.int .i64 Mx.1, .slice ax Mx.2.length cx] 24)).cell 1 (v := .slice a0x rx.2.length c0x) rfl; clear hb hb1)
      | (go_at_call 8; (with_reducible refine (HPU.out _ _ (HMx.out.later ((Below.refl _ _).alloc (Nat.le_refl _) _) (Nat.le_refl _))).mono ?_); rintro e w2 ⟨v2, U, tt, ec, rfl, hq, hm, hb⟩; have HMu : Hid (Mach w2 v2 (U)) := hm; obtain ⟨vsu, rfl, hSu⟩ := hm; obtain ⟨au, cu, rfl⟩ := hSu.sl; clear hSu; have HQp := hidP hq; obtain ⟨rfl, hfU, hcU⟩ := HPF.out _ _ _ hq; have HFU := hidP hfU; have HCe := hidP (HCG.out U hfU hcU); have tlen : (((U.2.length : Nat) : Int) != ((U.2.length : Nat) : Int)) = false := (by simp); clear hq hfU hcU; obtain ⟨s2, bb0, hb2⟩ := boxed hb (by simp); have KVx2 := hidP bb0; clear bb0; have HB2 := hidP (HB1.out.trans (hb2.mono HB1.out.size)); have KX2 := hidP (KX1.out.below hb2 KX1.out.lt); have Hx2 := hidP hb2; have qX0 := (KX2.out.alloc (.cells #[.int .i64 U.1, .slice au U.2.length cu] 24)).cell 0 (v := .int .i64 rx.1) rfl; have qX1 := (KX2.out.alloc (.cells #[.int .i64 U.1, .slice au U.2.length cu] 24)).cell 1 (v := .slice a0x rx.2.length c0x) rfl; have qVx0 := (KVx2.out.alloc (.cells #[.int .i64 U.1, .slice au U.2.length cu] 24)).cell 0 (v := .int .i64 Mx.1) rfl; have qVx1 := (KVx2.out.alloc (.cells #[.int .i64 U.1, .slice au U.2.length cu] 24)).cell 1 (v := .slice ax Mx.2.length cx) rfl; clear hb hb2)
      | (go_at_call 17; (with_reducible refine (HCe.out _ _ (HMu.out.later ((Below.refl _ _).alloc (Nat.le_refl _) _) (Nat.le_refl _))).mono ?_); rintro e w3 ⟨v3, Ll, rfl, hq, hn, hb⟩; have HQl := hidP hq; have HNl : Hid (Nums w3 v3 Ll) := hn; obtain ⟨awl, cwl, hv, _⟩ := hn.get; rw [hq.1] at hv; subst hv; clear hq hn; obtain ⟨s3, bb0, hb3⟩ := boxed hb (by simp); have KVu3 := hidP bb0; clear bb0; have HB3 := hidP (HB2.out.trans (hb3.mono HB2.out.size)); have KX3 := hidP (KX2.out.below hb3 KX2.out.lt); have KVx3 := hidP (KVx2.out.below hb3 KVx2.out.lt); have Hx3 := hidP (Hx2.out.trans (hb3.mono Hx2.out.size)); have Hu3 := hidP hb3; have qX0 := KX3.out.cell 0 (v := .int .i64 rx.1) rfl; have qX1 := KX3.out.cell 1 (v := .slice a0x rx.2.length c0x) rfl; have qVx0 := KVx3.out.cell 0 (v := .int .i64 Mx.1) rfl; have qVx1 := KVx3.out.cell 1 (v := .slice ax Mx.2.length cx) rfl; have qVu0 := KVu3.out.cell 0 (v := .int .i64 U.1) rfl; have qVu1 := KVu3.out.cell 1 (v := .slice au U.2.length cu) rfl; clear hb hb3)
      | (go_at_call 8; (with_reducible refine (HPV.out _ _ _ HFU.out (HMu.out.later Hu3.out (Nat.le_refl _))).mono ?_); rintro e w4 ⟨v4, Y, tn, g, rfl, hq, hm, hb⟩; obtain ⟨rfl, rfl, rfl⟩ := HPA.out _ _ _ HQp.out _ _ _ hq; clear hq; have HMy : Hid (Mach w4 v4 (U)) := hm; obtain ⟨vsy, rfl, hSy⟩ := hm; obtain ⟨ay, cy, rfl⟩ := hSy.sl; clear hSy; have hb4 := hb; have HB4 := hidP (HB3.out.trans (hb4.mono HB3.out.size)); have KX4 := hidP (KX3.out.below hb4 KX3.out.lt); have KVx4 := hidP (KVx3.out.below hb4 KVx3.out.lt); have KVu4 := hidP (KVu3.out.below hb4 KVu3.out.lt); have Hx4 := hidP (Hx3.out.trans (hb4.mono Hx3.out.size)); have Hu4 := hidP (Hu3.out.trans (hb4.mono Hu3.out.size)); have Hl4 := hidP hb4; have qX0 := (KX4.out.alloc (.cells #[.int .i64 U.1, .slice ay U.2.length cy] 24)).cell 0 (v := .int .i64 rx.1) rfl; have qX1 := (KX4.out.alloc (.cells #[.int .i64 U.1, .slice ay U.2.length cy] 24)).cell 1 (v := .slice a0x rx.2.length c0x) rfl; have qVx0 := (KVx4.out.alloc (.cells #[.int .i64 U.1, .slice ay U.2.length cy] 24)).cell 0 (v := .int .i64 Mx.1) rfl; have qVx1 := (KVx4.out.alloc (.cells #[.int .i64 U.1, .slice ay U.2.length cy] 24)).cell 1 (v := .slice ax Mx.2.length cx) rfl; have qVu0 := (KVu4.out.alloc (.cells #[.int .i64 U.1, .slice ay U.2.length cy] 24)).cell 0 (v := .int .i64 U.1) rfl; have qVu1 := (KVu4.out.alloc (.cells #[.int .i64 U.1, .slice ay U.2.length cy] 24)).cell 1 (v := .slice au U.2.length cu) rfl; clear hb hb4)
      | (go_at_call 18; (with_reducible refine (HCn.out _ _ (HMx.out.later (Hx4.out.alloc Hx4.out.size _) (Nat.le_refl _))).mono ?_); rintro e w5 ⟨nn, rfl, hq, hb⟩; obtain ⟨s5, bb0, hb5⟩ := boxed hb (by simp); have KVy5 := hidP bb0; clear bb0; have HB5 := hidP (HB4.out.trans (hb5.mono HB4.out.size)); have KX5 := hidP (KX4.out.below hb5 KX4.out.lt); have KVx5 := hidP (KVx4.out.below hb5 KVx4.out.lt); have KVu5 := hidP (KVu4.out.below hb5 KVu4.out.lt); have Hx5 := hidP (Hx4.out.trans (hb5.mono Hx4.out.size)); have Hu5 := hidP (Hu4.out.trans (hb5.mono Hu4.out.size)); have Hl5 := hidP (Hl4.out.trans (hb5.mono Hl4.out.size)); have Hy5 := hidP hb5; have qX0 := KX5.out.cell 0 (v := .int .i64 rx.1) rfl; have qX1 := KX5.out.cell 1 (v := .slice a0x rx.2.length c0x) rfl; have qVx0 := KVx5.out.cell 0 (v := .int .i64 Mx.1) rfl; have qVx1 := KVx5.out.cell 1 (v := .slice ax Mx.2.length cx) rfl; have qVu0 := KVu5.out.cell 0 (v := .int .i64 U.1) rfl; have qVu1 := KVu5.out.cell 1 (v := .slice au U.2.length cu) rfl; have qVy0 := KVy5.out.cell 0 (v := .int .i64 U.1) rfl; have qVy1 := KVy5.out.cell 1 (v := .slice ay U.2.length cy) rfl; have HQn := hidP hq; clear hq; clear hb hb5)
      | (go_at_call 19; (with_reducible refine (HAU.out _ _ _ _ HFU.out (HMu.out.later Hu5.out (Nat.le_refl _)) (HMy.out.later Hy5.out (Nat.le_refl _))).mono ?_); rintro e w6 ⟨rfl, hb⟩; have hb6 := hb; have HB6 := hidP (HB5.out.trans (hb6.mono HB5.out.size)); have KX6 := hidP (KX5.out.below hb6 KX5.out.lt); have KVx6 := hidP (KVx5.out.below hb6 KVx5.out.lt); have KVu6 := hidP (KVu5.out.below hb6 KVu5.out.lt); have KVy6 := hidP (KVy5.out.below hb6 KVy5.out.lt); have Hx6 := hidP (Hx5.out.trans (hb6.mono Hx5.out.size)); have Hu6 := hidP (Hu5.out.trans (hb6.mono Hu5.out.size)); have Hl6 := hidP (Hl5.out.trans (hb6.mono Hl5.out.size)); have Hy6 := hidP (Hy5.out.trans (hb6.mono Hy5.out.size)); have qX0 := KX6.out.cell 0 (v := .int .i64 rx.1) rfl; have qX1 := KX6.out.cell 1 (v := .slice a0x rx.2.length c0x) rfl; have qVx0 := KVx6.out.cell 0 (v := .int .i64 Mx.1) rfl; have qVx1 := KVx6.out.cell 1 (v := .slice ax Mx.2.length cx) rfl; have qVu0 := KVu6.out.cell 0 (v := .int .i64 U.1) rfl; have qVu1 := KVu6.out.cell 1 (v := .slice au U.2.length cu) rfl; have qVy0 := KVy6.out.cell 0 (v := .int .i64 U.1) rfl; have qVy1 := KVy6.out.cell 1 (v := .slice ay U.2.length cy) rfl; obtain ⟨_, he, hS⟩ := HMx.out.later Hx6.out (Nat.le_refl _); simp only [Value.agg.injEq, Array.mk.injEq, List.cons.injEq, and_true, true_and] at he; subst he; obtain ⟨_, _, e3, g3⟩ := hS.get; simp only [Value.slice.injEq, true_and] at e3; obtain ⟨rfl, rfl⟩ := e3; obtain ⟨b3, o3, va, hax, hb3, c3, _, _⟩ := g3 z HZL.out; rw [HZ1.out] at qVx0; rw [hax] at qVx1; rw [HFI.out] at c3; clear g3 hS hax; clear hb hb6))
    have hlen : U.2.length ≤ 1000 := HLN.out _ HFU.out
    have HEQ : Hid (∀ q, q < U.2.length → el Ll q = 0) := fun q hq => HPZ.out _ _ _ HQp.out q hq _ (HQl.out.2 q hq)
    have HNV := hidP (HPN.out _ _ _ HQp.out _ HQn.out)
    obtain ⟨_, _, e1, g1⟩ := (HNl.out.later Hl6.out (Nat.le_refl _)).get
    rw [HQl.out.1] at e1 g1
    simp only [Value.slice.injEq, true_and] at e1
    obtain ⟨rfl, rfl⟩ := e1
    have G1 := hidP g1
    clear g1
    generalize hn : U.2.length = n at *
    have HNN := hidP hn
    clear hn
    go_loopw [14] (fun i wr => ∃ j : Nat, j ≤ n ∧ i = .int .i64 j ∧ Hid (Below w6.heap.size w6 wr)) (fun i _ => n - (intOf i).toNat)
    case atStart => exact ⟨0, Nat.zero_le _, rfl, Below.refl _ _⟩
    case round =>
      obtain ⟨j, hj, rfl, hbj⟩ := hrel
      by_cases hlt : j < n
      · obtain ⟨b1, o1, rfl, hb1, c1⟩ := G1.out j hlt
        have c1 := (hbj.out.cell (p := ⟨b1, o1 + j, none⟩) hb1).trans c1
        rw [HEQ.out j hlt] at c1
        have k0 : (0 : Int) ≤ (j : Int) := by omega
        have k1 : (j : Int) < (n : Int) := by omega
        have k2 : IntKind.i64.wrap ((j : Int) + 1) = (j : Int) + 1 := wrapI (by omega) (by omega)
        go_wp2
        go_roundw
        case rel => exact ⟨j + 1, by omega, by go_num, by first | exact hbj | exact below_drewN hbj.out _⟩
        case measure => simp [intOf]; omega
      · have k1 : ¬ (j : Int) < (n : Int) := by omega
        have KU := hidP (KVu6.out.below hbj.out KVu6.out.lt)
        have y0 := KU.out.cell 0 (v := .int .i64 U.1) rfl
        have y1 := KU.out.cell 1 (v := .slice au n cu) rfl
        rcases HNV.out with ⟨rfl, rfl, rfl⟩ | ⟨hne, rfl, hx0⟩
        · go_wp2
          all_goals
            go_ret
            exact ⟨rfl, HB6.out.trans (hbj.out.mono HB6.out.size)⟩
        · have hne' : (tt == 1000000001) = false := by simpa using hne
          have htt : (tt == tt) = true := by simp
          go_wp2
          go_ret
          exact ⟨rfl, HB6.out.trans (hbj.out.mono HB6.out.size)⟩
  · have HSM := hidP (hSM hfin)
    have hfin' : ((el Mx.2 z).1 == 1000000001) = false := by simpa using hfin
    have hfin2 : ((el Mx.2 z).1 != 1000000001) = true := by simpa using hfin
    obtain ⟨fi, hfi⟩ : ∃ fi, (el Mx.2 z).1 = fi := ⟨_, rfl⟩
    rw [hfi] at hfin' hfin2
    have HFI := hidP hfi
    clear hSM hfin hfi
    go_enter Try.func6, Try.ntmps6
    go_wp2_with (first
      | (go_at_call 13; (with_reducible refine (HEx.out _ _ (HIx.out.later (HB0.out _) (Nat.le_refl _)) HOKx.out HWFx.out).mono ?_); rintro e w1 ⟨v1, rfl, hm, hb⟩; have HMx : Hid (Mach w1 v1 (Mx)) := hm; obtain ⟨vsx, rfl, hSx⟩ := hm; obtain ⟨ax, cx, rfl⟩ := hSx.sl; clear hSx; obtain ⟨s1, bb0, hb1⟩ := boxed hb (by simp); have KX1 := hidP bb0; clear bb0; have HB1 := hidP hb1; have qX0 := (KX1.out.alloc (.cells #[.int .i64 Mx.1, .slice ax Mx.2.length cx] 24)).cell 0 (v := .int .i64 rx.1) rfl; have qX1 := (KX1.out.alloc (.cells #[.int .i64 Mx.1, .slice ax Mx.2.length cx] 24)).cell 1 (v := .slice a0x rx.2.length c0x) rfl; clear hb hb1)
      | (go_at_call 8; (with_reducible refine (HPU.out _ _ (HMx.out.later ((Below.refl _ _).alloc (Nat.le_refl _) _) (Nat.le_refl _))).mono ?_); rintro e w2 ⟨v2, U, tt, ec, rfl, hq, hm, hb⟩; have HMu : Hid (Mach w2 v2 (U)) := hm; obtain ⟨vsu, rfl, hSu⟩ := hm; obtain ⟨au, cu, rfl⟩ := hSu.sl; clear hSu; have HQp := hidP hq; obtain ⟨rfl, hfU, hcU⟩ := HPF.out _ _ _ hq; have HFU := hidP hfU; have HCe := hidP (HCG.out U hfU hcU); have tlen : (((U.2.length : Nat) : Int) != ((U.2.length : Nat) : Int)) = false := (by simp); have tu : ((U.2.length : Int) == 0) = false := (by have := HSM.out _ _ _ hq; simp; intro e; simp [e] at this); clear hq hfU hcU; obtain ⟨s2, bb0, hb2⟩ := boxed hb (by simp); have KVx2 := hidP bb0; clear bb0; have HB2 := hidP (HB1.out.trans (hb2.mono HB1.out.size)); have KX2 := hidP (KX1.out.below hb2 KX1.out.lt); have Hx2 := hidP hb2; have qX0 := (KX2.out.alloc (.cells #[.int .i64 U.1, .slice au U.2.length cu] 24)).cell 0 (v := .int .i64 rx.1) rfl; have qX1 := (KX2.out.alloc (.cells #[.int .i64 U.1, .slice au U.2.length cu] 24)).cell 1 (v := .slice a0x rx.2.length c0x) rfl; have qVx0 := (KVx2.out.alloc (.cells #[.int .i64 U.1, .slice au U.2.length cu] 24)).cell 0 (v := .int .i64 Mx.1) rfl; have qVx1 := (KVx2.out.alloc (.cells #[.int .i64 U.1, .slice au U.2.length cu] 24)).cell 1 (v := .slice ax Mx.2.length cx) rfl; clear hb hb2)
      | (go_at_call 17; (with_reducible refine (HCe.out _ _ (HMu.out.later ((Below.refl _ _).alloc (Nat.le_refl _) _) (Nat.le_refl _))).mono ?_); rintro e w3 ⟨v3, Ll, rfl, hq, hn, hb⟩; have HQl := hidP hq; have HNl : Hid (Nums w3 v3 Ll) := hn; obtain ⟨awl, cwl, hv, _⟩ := hn.get; rw [hq.1] at hv; subst hv; clear hq hn; obtain ⟨s3, bb0, hb3⟩ := boxed hb (by simp); have KVu3 := hidP bb0; clear bb0; have HB3 := hidP (HB2.out.trans (hb3.mono HB2.out.size)); have KX3 := hidP (KX2.out.below hb3 KX2.out.lt); have KVx3 := hidP (KVx2.out.below hb3 KVx2.out.lt); have Hx3 := hidP (Hx2.out.trans (hb3.mono Hx2.out.size)); have Hu3 := hidP hb3; have qX0 := KX3.out.cell 0 (v := .int .i64 rx.1) rfl; have qX1 := KX3.out.cell 1 (v := .slice a0x rx.2.length c0x) rfl; have qVx0 := KVx3.out.cell 0 (v := .int .i64 Mx.1) rfl; have qVx1 := KVx3.out.cell 1 (v := .slice ax Mx.2.length cx) rfl; have qVu0 := KVu3.out.cell 0 (v := .int .i64 U.1) rfl; have qVu1 := KVu3.out.cell 1 (v := .slice au U.2.length cu) rfl; clear hb hb3)
      | (go_at_call 8; (with_reducible refine (HPV.out _ _ _ HFU.out (HMu.out.later Hu3.out (Nat.le_refl _))).mono ?_); rintro e w4 ⟨v4, Y, tn, g, rfl, hq, hm, hb⟩; obtain ⟨rfl, rfl, rfl⟩ := HPA.out _ _ _ HQp.out _ _ _ hq; clear hq; have HMy : Hid (Mach w4 v4 (U)) := hm; obtain ⟨vsy, rfl, hSy⟩ := hm; obtain ⟨ay, cy, rfl⟩ := hSy.sl; clear hSy; have hb4 := hb; have HB4 := hidP (HB3.out.trans (hb4.mono HB3.out.size)); have KX4 := hidP (KX3.out.below hb4 KX3.out.lt); have KVx4 := hidP (KVx3.out.below hb4 KVx3.out.lt); have KVu4 := hidP (KVu3.out.below hb4 KVu3.out.lt); have Hx4 := hidP (Hx3.out.trans (hb4.mono Hx3.out.size)); have Hu4 := hidP (Hu3.out.trans (hb4.mono Hu3.out.size)); have Hl4 := hidP hb4; have qX0 := (KX4.out.alloc (.cells #[.int .i64 U.1, .slice ay U.2.length cy] 24)).cell 0 (v := .int .i64 rx.1) rfl; have qX1 := (KX4.out.alloc (.cells #[.int .i64 U.1, .slice ay U.2.length cy] 24)).cell 1 (v := .slice a0x rx.2.length c0x) rfl; have qVx0 := (KVx4.out.alloc (.cells #[.int .i64 U.1, .slice ay U.2.length cy] 24)).cell 0 (v := .int .i64 Mx.1) rfl; have qVx1 := (KVx4.out.alloc (.cells #[.int .i64 U.1, .slice ay U.2.length cy] 24)).cell 1 (v := .slice ax Mx.2.length cx) rfl; have qVu0 := (KVu4.out.alloc (.cells #[.int .i64 U.1, .slice ay U.2.length cy] 24)).cell 0 (v := .int .i64 U.1) rfl; have qVu1 := (KVu4.out.alloc (.cells #[.int .i64 U.1, .slice ay U.2.length cy] 24)).cell 1 (v := .slice au U.2.length cu) rfl; clear hb hb4)
      | (go_at_call 18; (with_reducible refine (HCn.out _ _ (HMx.out.later (Hx4.out.alloc Hx4.out.size _) (Nat.le_refl _))).mono ?_); rintro e w5 ⟨nn, rfl, hq, hb⟩; obtain ⟨s5, bb0, hb5⟩ := boxed hb (by simp); have KVy5 := hidP bb0; clear bb0; have HB5 := hidP (HB4.out.trans (hb5.mono HB4.out.size)); have KX5 := hidP (KX4.out.below hb5 KX4.out.lt); have KVx5 := hidP (KVx4.out.below hb5 KVx4.out.lt); have KVu5 := hidP (KVu4.out.below hb5 KVu4.out.lt); have Hx5 := hidP (Hx4.out.trans (hb5.mono Hx4.out.size)); have Hu5 := hidP (Hu4.out.trans (hb5.mono Hu4.out.size)); have Hl5 := hidP (Hl4.out.trans (hb5.mono Hl4.out.size)); have Hy5 := hidP hb5; have qX0 := KX5.out.cell 0 (v := .int .i64 rx.1) rfl; have qX1 := KX5.out.cell 1 (v := .slice a0x rx.2.length c0x) rfl; have qVx0 := KVx5.out.cell 0 (v := .int .i64 Mx.1) rfl; have qVx1 := KVx5.out.cell 1 (v := .slice ax Mx.2.length cx) rfl; have qVu0 := KVu5.out.cell 0 (v := .int .i64 U.1) rfl; have qVu1 := KVu5.out.cell 1 (v := .slice au U.2.length cu) rfl; have qVy0 := KVy5.out.cell 0 (v := .int .i64 U.1) rfl; have qVy1 := KVy5.out.cell 1 (v := .slice ay U.2.length cy) rfl; have HQn := hidP hq; clear hq; clear hb hb5)
      | (go_at_call 19; (with_reducible refine (HAU.out _ _ _ _ HFU.out (HMu.out.later Hu5.out (Nat.le_refl _)) (HMy.out.later Hy5.out (Nat.le_refl _))).mono ?_); rintro e w6 ⟨rfl, hb⟩; have hb6 := hb; have HB6 := hidP (HB5.out.trans (hb6.mono HB5.out.size)); have KX6 := hidP (KX5.out.below hb6 KX5.out.lt); have KVx6 := hidP (KVx5.out.below hb6 KVx5.out.lt); have KVu6 := hidP (KVu5.out.below hb6 KVu5.out.lt); have KVy6 := hidP (KVy5.out.below hb6 KVy5.out.lt); have Hx6 := hidP (Hx5.out.trans (hb6.mono Hx5.out.size)); have Hu6 := hidP (Hu5.out.trans (hb6.mono Hu5.out.size)); have Hl6 := hidP (Hl5.out.trans (hb6.mono Hl5.out.size)); have Hy6 := hidP (Hy5.out.trans (hb6.mono Hy5.out.size)); have qX0 := KX6.out.cell 0 (v := .int .i64 rx.1) rfl; have qX1 := KX6.out.cell 1 (v := .slice a0x rx.2.length c0x) rfl; have qVx0 := KVx6.out.cell 0 (v := .int .i64 Mx.1) rfl; have qVx1 := KVx6.out.cell 1 (v := .slice ax Mx.2.length cx) rfl; have qVu0 := KVu6.out.cell 0 (v := .int .i64 U.1) rfl; have qVu1 := KVu6.out.cell 1 (v := .slice au U.2.length cu) rfl; have qVy0 := KVy6.out.cell 0 (v := .int .i64 U.1) rfl; have qVy1 := KVy6.out.cell 1 (v := .slice ay U.2.length cy) rfl; obtain ⟨_, he, hS⟩ := HMx.out.later Hx6.out (Nat.le_refl _); simp only [Value.agg.injEq, Array.mk.injEq, List.cons.injEq, and_true, true_and] at he; subst he; obtain ⟨_, _, e3, g3⟩ := hS.get; simp only [Value.slice.injEq, true_and] at e3; obtain ⟨rfl, rfl⟩ := e3; obtain ⟨b3, o3, va, hax, hb3, c3, _, _⟩ := g3 z HZL.out; rw [HZ1.out] at qVx0; rw [hax] at qVx1; rw [HFI.out] at c3; clear g3 hS hax; clear hb hb6))
    have hlen : U.2.length ≤ 1000 := HLN.out _ HFU.out
    have HEQ : Hid (∀ q, q < U.2.length → el Ll q = 0) := fun q hq => HPZ.out _ _ _ HQp.out q hq _ (HQl.out.2 q hq)
    have HNV := hidP (HPN.out _ _ _ HQp.out _ HQn.out)
    obtain ⟨_, _, e1, g1⟩ := (HNl.out.later Hl6.out (Nat.le_refl _)).get
    rw [HQl.out.1] at e1 g1
    simp only [Value.slice.injEq, true_and] at e1
    obtain ⟨rfl, rfl⟩ := e1
    have G1 := hidP g1
    clear g1
    generalize hn : U.2.length = n at *
    have HNN := hidP hn
    clear hn
    go_loopw [14] (fun i wr => ∃ j : Nat, j ≤ n ∧ i = .int .i64 j ∧ Hid (Below w6.heap.size w6 wr)) (fun i _ => n - (intOf i).toNat)
    case atStart => exact ⟨0, Nat.zero_le _, rfl, Below.refl _ _⟩
    case round =>
      obtain ⟨j, hj, rfl, hbj⟩ := hrel
      by_cases hlt : j < n
      · obtain ⟨b1, o1, rfl, hb1, c1⟩ := G1.out j hlt
        have c1 := (hbj.out.cell (p := ⟨b1, o1 + j, none⟩) hb1).trans c1
        rw [HEQ.out j hlt] at c1
        have k0 : (0 : Int) ≤ (j : Int) := by omega
        have k1 : (j : Int) < (n : Int) := by omega
        have k2 : IntKind.i64.wrap ((j : Int) + 1) = (j : Int) + 1 := wrapI (by omega) (by omega)
        go_wp2
        go_roundw
        case rel => exact ⟨j + 1, by omega, by go_num, by first | exact hbj | exact below_drewN hbj.out _⟩
        case measure => simp [intOf]; omega
      · have k1 : ¬ (j : Int) < (n : Int) := by omega
        have KU := hidP (KVu6.out.below hbj.out KVu6.out.lt)
        have y0 := KU.out.cell 0 (v := .int .i64 U.1) rfl
        have y1 := KU.out.cell 1 (v := .slice au n cu) rfl
        rcases HNV.out with ⟨rfl, rfl, rfl⟩ | ⟨hne, rfl, hx0⟩
        · go_wp2
          all_goals
            go_ret
            exact ⟨rfl, HB6.out.trans (hbj.out.mono HB6.out.size)⟩
        · have hne' : (tt == 1000000001) = false := by simpa using hne
          have htt : (tt == tt) = true := by simp
          go_wp2
          go_ret
          exact ⟨rfl, HB6.out.trans (hbj.out.mono HB6.out.size)⟩
theorem walk (vx : Value) (rx : Rw) (w : World) (hx : RawV w vx rx ∧ okR rx ∧ wfR rx) :
    Calls Try.prog 6 #[vx] w fun e w' => e = .returned (.bool true) ∧ Below w.heap.size w w' := core vx rx w hx

set_option maxRecDepth 100000 in
theorem lifted (os : Os) (started : os.Started) (H : Type) (enc : TypeId × Value → H) :
    ReturnsInHanded {} Try.checked os 6 .any (Rows.pushZeroSpec.pre6 enc Try.prog Try.f6 Rows.pushZeroRow.domain false) (Rows.pushZeroSpec.post enc Try.prog Try.f6 false true false false) := by
  refine returnsInHanded_of_change_sized (C := Try.checked) own started (by kernel_rfl) Try.func6
    (ChangeSpec.witness6 (enc := enc) (C := Try.checked) false ⟨#[], #[.agg #[.int .i64 0, .slice none 0 0]], []⟩ 8 (by kernel_rfl) (by kernel_rfl) (by kernel_rfl) (by kernel_rfl)) ?_
  intro W base args ds gs before hval0 hW hcnd hsz0 _
  have hsz : (DataW.weightsEach Try.prog (Try.f6.params.toList ++ Rows.pushZeroSpec.plain.varTypes Try.prog) (ds ++ gs)).all (· ≤ reachBytes) = true := hsz0
  have hval : ∀ (j : Nat) t v, Try.f6.params[j]? = some t → args[j]? = some v → Value.okWide Try.prog W .any base t v := hval0
  clear hval0 hsz0
  have hW' := hW
  obtain ⟨p, q, hA0, hV, rfl, hfz, hnd⟩ := hW
  have hA : DataW.TrodAll enc Try.prog W 0 (fun _ => true) true Try.f6.params.toList args.toList ds p := hA0
  rw [Try.params6] at hA hval hsz
  obtain ⟨v0, vs0, d0, ds0, p0, q0, hargs, rfl, rfl, h0, r0⟩ := trodAll_cons hA
  obtain ⟨rfl, rfl, rfl⟩ := trodAll_nil r0
  obtain rfl : args = #[v0] := by cases args; simp_all
  obtain ⟨rfl, rfl⟩ := trodVars_none hV
  have k0 := h0
  have lt0 : ∀ x ∈ p0, x.block < W.heap.size := by obtain ⟨m, hm⟩ := k0; exact DataW.trod_lt m _ _ _ hm
  obtain ⟨z0, w0⟩ : ∃ m : Rw, RawV W v0 m ∧ okR m ∧ wfR m := by
    obtain ⟨c0, c1, y0, y1, n, rfl, hd, hp, t0, t1⟩ := Go.Joins.open_agg2 Try.underlying36 (by kernel_rfl) (by kernel_rfl) (hval 0 36 v0 rfl rfl) h0
    subst hd
    exact open_raw t0 t1 ((Fits.arg hsz (j := 0) rfl rfl).field Try.underlying36 (f := 1) rfl rfl)
  refine (walk v0 z0 W w0).mono fun e W' ⟨he, bel⟩ => ?_
  subst he
  exact ⟨_, rfl, _, _, _, [], _, [], hW', trodAll_mk1 (shut_bool Try.underlying4 _), (trodAll_cons_mk (Below.trod laidOut (by kernel_rfl) (of_decide_eq_true (by kernel_rfl)) k0 bel lt0) trodAll_mk0), rfl, bel.frame _, fun h => by cases h⟩
end Go.Proofs.Yteaafghmkkejfaa.pushZero
namespace Go.Proofs.Yteaafghmkkejfaa
theorem pushZero_holds : Rows.PushZeroSaid :=
  OpenClaim.holds_of_wide 6 Try.f6 rfl rfl rfl rfl rfl rfl rfl ⟨rfl, rfl, rfl, rfl, rfl⟩ rfl rfl rfl rfl rfl (by kernel_rfl) Try.func6 (by kernel_rfl)
    (of_decide_eq_true (by kernel_rfl)) (by unfold Func.isWrapper; first | (rw [if_pos (by decide +kernel)]; kernel_rfl) | (rw [if_neg (by decide +kernel)]; exact ⟨rfl, rfl⟩))
    (fun os started H enc _ => pushZero.lifted os started H enc)
#print axioms pushZero_holds
end Go.Proofs.Yteaafghmkkejfaa
