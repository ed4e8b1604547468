/- The statement WeighStar: whatever numbers a machine and two words are made of, again and again costs what the best cuts cost, and nothing costs 0, for every input and without any condition. -/
import Derived.Test.YtpfcljhbamnghaaMd
import Derived.Test.YtpfcljhbamnghaaKi
import Derived.Test.YtpfcljhbamnghaaKj
import Derived.Test.YtpfcljhbamnghaaWy
import Derived.Test.YtpfcljhbamnghaaJ12g
import Derived.Test.YtpfcljhbamnghaaKk
import Derived.Test.YtpfcljhbamnghaaPlainWp
import Derived.Test.YtpfcljhbamnghaaLo
import Derived.Lib.SmallJoins
import Derived.ChangeOld
import Derived.Below
namespace Go.Proofs.Ytpfcljhbamnghaa.weighStar
open Go.ChangeShapes Go.WideShapes Go.ChangeAt Go.RowKit
open Go.Proofs.Ytpfcljhbamnghaa.Pl Go.Proofs.Ytpfcljhbamnghaa.Wt
set_option linter.unusedVariables false
set_option linter.unusedSimpArgs false

theorem own : ownKnob Try.prog.godebug = none := by kernel_rfl
theorem laidOut : laidOutB Try.prog = true := by kernel_rfl
def HeldV (bx bu : Nat) (zx : Int) (vx : Value) (zu : Int) (vu : Value) (w : World) : Prop := w.cell? ⟨bx, 0, none⟩ = some (.int .i64 zx) ∧ w.cell? ⟨bx, 1, none⟩ = some vx ∧ w.cell? ⟨bu, 0, none⟩ = some (.int .i64 zu) ∧ w.cell? ⟨bu, 1, none⟩ = some vu
theorem HeldV.mk' {W : World} {bx bu : Nat} {zx zu : Int} {vx vu : Value} (h1 : Blk W bx #[.int .i64 zx, vx] 26) (h2 : Blk W bu #[.int .i64 zu, vu] 26) : HeldV bx bu zx vx zu vu W := ⟨h1.cell 0 rfl, h1.cell 1 rfl, h2.cell 0 rfl, h2.cell 1 rfl⟩
theorem wrd_take {l : List Int} (h : wrdE l = 0) (i : Nat) : wrdE (l.take i) = 0 := by
  obtain ⟨h1, h2⟩ := wrd_parts h
  refine wrd_12 (by rw [List.length_take]; omega) fun n hn => ?_
  obtain ⟨j, hj, e⟩ := List.getElem_of_mem (List.mem_of_mem_take hn)
  have := h2 j hj
  rw [el_get hj, e] at this
  exact this
theorem wrd_drop {l : List Int} (h : wrdE l = 0) (i : Nat) : wrdE (l.drop i) = 0 := by
  obtain ⟨h1, h2⟩ := wrd_parts h
  refine wrd_12 (by rw [List.length_drop]; omega) fun n hn => ?_
  obtain ⟨j, hj, e⟩ := List.getElem_of_mem (List.mem_of_mem_drop hn)
  have := h2 j hj
  rw [el_get hj, e] at this
  exact this
set_option maxRecDepth 100000 in
set_option maxHeartbeats 1600000 in
theorem core (vx : Value) (rx : Rw) (vv : Value) (zv : List Int) (vt : Value) (zt : List Int) (w : World) (hx : RawV w vx rx ∧ okR rx ∧ wfR rx) (hzv : Nums w vv zv) (hwv : ∀ n ∈ zv, (Lit.int .i64 n).wf = true) (hzt : Nums w vt zt) (hwt : ∀ n ∈ zt, (Lit.int .i64 n).wf = true) :
    Calls Try.prog 8 #[vx, vv, vt] w fun e w' => e = .returned (.bool true) ∧ Below w.heap.size w w' := by
  obtain ⟨hx, hokx, hwfx⟩ := hx
  have HIx : Hid (RawV w vx rx) := hx
  have HOKx : Hid (okR rx) := hokx
  have HWFx : Hid (wfR rx) := hwfx
  obtain ⟨hfx, hcx, hlx, hax, hpx⟩ := made_facts rx 4 (by omega) (by omega)
  have HEx : Hid (∀ v W, RawV W v rx → okR rx → wfR rx → Calls Try.prog 20 #[v, .int .i64 4, .bool false] W fun e w' => ∃ v', e = .returned v' ∧ Mach w' v' (madeM rx 4 false) ∧ Below W.heap.size W w') := fun v W h1 h2 h3 => made_any v rx 4 false W h1 h2 h3 (by omega) (by omega)
  obtain ⟨vs0x, rfl, hNx⟩ := hx
  obtain ⟨a0x, c0x, rfl, hNxx⟩ := hNx.get
  clear hNx hNxx hokx hwfx
  have HZv := hidP hzv
  have HWDv : Hid (∀ v W, Nums W v zv → Calls Try.prog 22 #[v, .int .i64 2] W fun e w' => ∃ v', e = .returned v' ∧ (Nums w' v' (wdL zv 2) ∧ ∃ n, w'.ownsRow W.heap.size 3 1 v' n ((wdL zv 2).flatMap encI1)) ∧ Below W.heap.size W w') := fun v W h1 => word_own v zv 2 W h1 hwv (by omega)
  have ewv : wrdE (wdL zv 2) = 0 := wdL_wrd (by omega)
  have lwv := wdL_len zv 2
  clear hzv hwv
  have HZt := hidP hzt
  have HWDt : Hid (∀ v W, Nums W v zt → Calls Try.prog 22 #[v, .int .i64 2] W fun e w' => ∃ v', e = .returned v' ∧ (Nums w' v' (wdL zt 2) ∧ ∃ n, w'.ownsRow W.heap.size 3 1 v' n ((wdL zt 2).flatMap encI1)) ∧ Below W.heap.size W w') := fun v W h1 => word_own v zt 2 W h1 hwt (by omega)
  have ewt : wrdE (wdL zt 2) = 0 := wdL_wrd (by omega)
  have lwt := wdL_len zt 2
  clear hzt hwt
  obtain ⟨u1, u2, u3⟩ := one_sta hfx (by omega) (by omega)
  have hUl := staM_len (madeM rx 4 false)
  have HUC : Hid (∀ W v, Mach W v (madeM rx 4 false) → Calls Try.prog 24 #[v] W fun e w' => RatRes (staM (madeM rx 4 false)) 0 W e w') := fun W v h1 => by
    have := starP_any v _ W h1 (right_ok hfx)
    rw [u1, u2] at this
    exact this
  have hcu := sta_cheap hcx
  have HCu : Hid (∀ W v s t, Mach W v (staM (madeM rx 4 false)) → Nums W s (wdL zv 2) → Nums W t (wdL zt 2) → Calls Try.prog 23 #[v, s, t] W fun e w' => ∃ n : Int, e = .returned (.int .i64 n) ∧ CstIs (Costs (staM (madeM rx 4 false)) (wdL zv 2) (wdL zt 2)) n ∧ Below W.heap.size W w') := fun W v s t h1 h2 h3 => cost_any v s t _ _ _ W h1 (right_ok u3) u3 hcu h2 h3 ewv ewt
  have HC0 : Hid (∀ W v, Mach W v (staM (madeM rx 4 false)) → Calls Try.prog 23 #[v, .slice none 0 0, .slice none 0 0] W fun e w' => e = .returned (.int .i64 0) ∧ Below W.heap.size W w') := fun W v h1 => (cost_any v (.slice none 0 0) (.slice none 0 0) _ [] [] W h1 (right_ok u3) u3 hcu (.inl ⟨rfl, rfl⟩) (.inl ⟨rfl, rfl⟩) rfl rfl).mono fun e w' ⟨n, he, hc, hb⟩ => by
    have h0 := star_nil (right_ToIn hfx) (start_lt hfx) hc
    subst h0
    exact ⟨he, hb⟩
  obtain ⟨A, hA⟩ : ∃ A : Nat → Nat → Int, ∀ i j, CstIs (Costs (madeM rx 4 false) ((wdL zv 2).take i) ((wdL zt 2).take j)) (A i j) := by
    have h9 := fun i j => cst_exists (costs_bound (x := (wdL zv 2).take i) (y := (wdL zt 2).take j) hfx hcx (wrd_parts (wrd_take ewv i)).1 (wrd_parts (wrd_take ewt j)).1)
    exact ⟨fun i j => Classical.choose (h9 i j), fun i j => Classical.choose_spec (h9 i j)⟩
  obtain ⟨B, hB⟩ : ∃ B : Nat → Nat → Int, ∀ i j, CstIs (Costs (staM (madeM rx 4 false)) ((wdL zv 2).drop i) ((wdL zt 2).drop j)) (B i j) := by
    have h9 := fun i j => cst_exists (costs_bound (x := (wdL zv 2).drop i) (y := (wdL zt 2).drop j) u3 hcu (wrd_parts (wrd_drop ewv i)).1 (wrd_parts (wrd_drop ewt j)).1)
    exact ⟨fun i j => Classical.choose (h9 i j), fun i j => Classical.choose_spec (h9 i j)⟩
  have HCA : Hid (∀ i j W v s t, Mach W v (madeM rx 4 false) → Nums W s ((wdL zv 2).take i) → Nums W t ((wdL zt 2).take j) → Calls Try.prog 23 #[v, s, t] W fun e w' => e = .returned (.int .i64 (A i j)) ∧ Below W.heap.size W w') := fun i j W v s t h1 h2 h3 => (cost_any v s t _ _ _ W h1 (right_ok hfx) hfx hcx h2 h3 (wrd_take ewv i) (wrd_take ewt j)).mono fun e w' ⟨n, he, hc, hb⟩ => by
    have h0 := hc.eq (hA i j) (fun _ => Iff.rfl)
    subst h0
    exact ⟨he, hb⟩
  have HCB : Hid (∀ i j W v s t, Mach W v (staM (madeM rx 4 false)) → Nums W s ((wdL zv 2).drop i) → Nums W t ((wdL zt 2).drop j) → Calls Try.prog 23 #[v, s, t] W fun e w' => e = .returned (.int .i64 (B i j)) ∧ Below W.heap.size W w') := fun i j W v s t h1 h2 h3 => (cost_any v s t _ _ _ W h1 (right_ok u3) u3 hcu h2 h3 (wrd_drop ewv i) (wrd_drop ewt j)).mono fun e w' ⟨n, he, hc, hb⟩ => by
    have h0 := hc.eq (hB i j) (fun _ => Iff.rfl)
    subst h0
    exact ⟨he, hb⟩
  have HBO : Hid (∀ i j W, Calls Try.prog 25 #[.int .i64 (A i j), .int .i64 (B i j)] W fun e w' => e = .returned (.int .i64 (bothI (A i j) (B i j))) ∧ W = w') := fun i j W => both_any _ _ W (hA i j).range (hB i j).range
  have HRG : Hid (∀ i j, 0 ≤ bothI (A i j) (B i j) ∧ bothI (A i j) (B i j) ≤ 2000000002) := fun i j => by
    have r1 := (hA i j).range
    have r2 := (hB i j).range
    unfold bothI
    split <;> omega
  have HEND : Hid (∀ n v, CstIs (Costs (staM (madeM rx 4 false)) (wdL zv 2) (wdL zt 2)) n → (0 < (wdL zv 2).length + (wdL zt 2).length → MinOf (fun i j => (i ≤ (wdL zv 2).length ∧ j ≤ (wdL zt 2).length) ∧ 0 < i + j) (fun i j => bothI (A i j) (B i j)) v → n = v) ∧ ((wdL zv 2).length + (wdL zt 2).length = 0 → n = 0)) := fun n v hn => ⟨fun h0 hv => best_cut (fun i j _ => hA i j) (fun i j _ => hB i j) (cut_star (right_ToIn hfx) (start_lt hfx) _ _ h0).1 (cut_star (right_ToIn hfx) (start_lt hfx) _ _ h0).2 hn hv, fun h0 => by
    have e1 : wdL zv 2 = [] := List.eq_nil_of_length_eq_zero (by omega)
    have e2 : wdL zt 2 = [] := List.eq_nil_of_length_eq_zero (by omega)
    rw [e1, e2] at hn
    exact star_nil (right_ToIn hfx) (start_lt hfx) hn⟩
  clear hA hB hfx hcx hcu u1 u2 u3 ewv ewt hlx hax
  generalize staM (madeM rx 4 false) = U at *
  generalize (madeM rx 4 false) = Mx at *
  generalize wdL zv 2 = Xv at *
  generalize wdL zt 2 = Xt at *
  obtain ⟨avz, cvz, rfl, _⟩ := HZv.out.get
  obtain ⟨atz, ctz, rfl, _⟩ := HZt.out.get
  have t4 : ¬ (U.2.length : Int) < 2 := by omega
  have HB0 : Hid (∀ o1, Below w.heap.size w (w.alloc o1)) := fun o1 => (Below.refl _ _).alloc (Nat.le_refl _) _
  clear hUl hpx
  obtain ⟨G, hG⟩ : ∃ G : Nat → Nat → Int, ∀ i j, bothI (A i j) (B i j) = G i j := ⟨_, fun _ _ => rfl⟩
  simp only [hG] at HBO HRG HEND
  clear hG
  go_enter Try.func8, Try.ntmps8
  go_wp2_with (first
    | (go_at_call 20; (with_reducible refine (HEx.out _ _ (HIx.out.later (HB0.out _) (Nat.le_refl _)) HOKx.out HWFx.out).mono ?_); rintro e w1 ⟨v1, rfl, hm, hb⟩; have HMx : Hid (Mach w1 v1 (Mx)) := hm; obtain ⟨vsx, rfl, hSx⟩ := hm; obtain ⟨ax, cx, rfl⟩ := hSx.sl; clear hSx; obtain ⟨s1, bb0, hb1⟩ := boxed hb (by simp); have KX1 := hidP bb0; clear bb0; have HB1 := hidP hb1; have qX0 := (KX1.out.alloc (.cells #[.int .i64 Mx.1, .slice ax Mx.2.length cx] 26)).cell 0 (v := .int .i64 rx.1) rfl; have qX1 := (KX1.out.alloc (.cells #[.int .i64 Mx.1, .slice ax Mx.2.length cx] 26)).cell 1 (v := .slice a0x rx.2.length c0x) rfl; clear hb hb1)
    | (go_at_call 24; (with_reducible refine (HUC.out _ _ (HMx.out.later ((Below.refl _ _).alloc (Nat.le_refl _) _) (Nat.le_refl _))).mono ?_); rintro e w2 ⟨v2, rfl, hm, hb⟩; have HMu : Hid (Mach w2 v2 (U)) := hm; obtain ⟨vsu, rfl, hSu⟩ := hm; obtain ⟨au, cu, rfl⟩ := hSu.sl; clear hSu; obtain ⟨s2, bb0, hb2⟩ := boxed hb (by simp); have KVx2 := hidP bb0; clear bb0; have HB2 := hidP (HB1.out.trans (hb2.mono HB1.out.size)); have KX2 := hidP (KX1.out.below hb2 KX1.out.lt); have Hx2 := hidP hb2; have qX0 := (KX2.out.alloc (.cells #[.int .i64 U.1, .slice au U.2.length cu] 26)).cell 0 (v := .int .i64 rx.1) rfl; have qX1 := (KX2.out.alloc (.cells #[.int .i64 U.1, .slice au U.2.length cu] 26)).cell 1 (v := .slice a0x rx.2.length c0x) rfl; have qVx0 := (KVx2.out.alloc (.cells #[.int .i64 U.1, .slice au U.2.length cu] 26)).cell 0 (v := .int .i64 Mx.1) rfl; have qVx1 := (KVx2.out.alloc (.cells #[.int .i64 U.1, .slice au U.2.length cu] 26)).cell 1 (v := .slice ax Mx.2.length cx) rfl; clear hb hb2)
    | (go_at_call 22; (with_reducible refine (HWDv.out _ _ (HZv.out.later (HB2.out.alloc HB2.out.size _) (Nat.le_refl _))).mono ?_); rintro e w3 ⟨v3, rfl, hno, hb⟩; obtain ⟨hn, nnv, ho⟩ := hno; have HNv : Hid (Nums w3 v3 (Xv)) := hn; obtain ⟨awv, cwv, rfl, _⟩ := hn.get; have hcapv := own_cap ho; clear ho; obtain ⟨s3, bb0, hb3⟩ := boxed hb (by simp); have KVu3 := hidP bb0; clear bb0; have HB3 := hidP (HB2.out.trans (hb3.mono HB2.out.size)); have KX3 := hidP (KX2.out.below hb3 KX2.out.lt); have KVx3 := hidP (KVx2.out.below hb3 KVx2.out.lt); have Hx3 := hidP (Hx2.out.trans (hb3.mono Hx2.out.size)); have Hu3 := hidP hb3; have qX0 := KX3.out.cell 0 (v := .int .i64 rx.1) rfl; have qX1 := KX3.out.cell 1 (v := .slice a0x rx.2.length c0x) rfl; have qVx0 := KVx3.out.cell 0 (v := .int .i64 Mx.1) rfl; have qVx1 := KVx3.out.cell 1 (v := .slice ax Mx.2.length cx) rfl; have qVu0 := KVu3.out.cell 0 (v := .int .i64 U.1) rfl; have qVu1 := KVu3.out.cell 1 (v := .slice au U.2.length cu) rfl; clear hb hb3)
    | (go_at_call 22; (with_reducible refine (HWDt.out _ _ (HZt.out.later HB3.out (Nat.le_refl _))).mono ?_); rintro e w4 ⟨v4, rfl, hno, hb⟩; obtain ⟨hn, nnt, ho⟩ := hno; have HNt : Hid (Nums w4 v4 (Xt)) := hn; obtain ⟨awt, cwt, rfl, _⟩ := hn.get; have hcapt := own_cap ho; clear ho; have hb4 := hb; have HB4 := hidP (HB3.out.trans (hb4.mono HB3.out.size)); have KX4 := hidP (KX3.out.below hb4 KX3.out.lt); have KVx4 := hidP (KVx3.out.below hb4 KVx3.out.lt); have KVu4 := hidP (KVu3.out.below hb4 KVu3.out.lt); have Hx4 := hidP (Hx3.out.trans (hb4.mono Hx3.out.size)); have Hu4 := hidP (Hu3.out.trans (hb4.mono Hu3.out.size)); have Hv4 := hidP hb4; have qX0 := KX4.out.cell 0 (v := .int .i64 rx.1) rfl; have qX1 := KX4.out.cell 1 (v := .slice a0x rx.2.length c0x) rfl; have qVx0 := KVx4.out.cell 0 (v := .int .i64 Mx.1) rfl; have qVx1 := KVx4.out.cell 1 (v := .slice ax Mx.2.length cx) rfl; have qVu0 := KVu4.out.cell 0 (v := .int .i64 U.1) rfl; have qVu1 := KVu4.out.cell 1 (v := .slice au U.2.length cu) rfl; clear hb hb4)
    | (go_at_call 23; (with_reducible refine (HCu.out _ _ _ _ (HMu.out.later Hu4.out (Nat.le_refl _)) (HNv.out.later Hv4.out (Nat.le_refl _)) (HNt.out.later (Below.refl _ _) (Nat.le_refl _))).mono ?_); rintro e w5 ⟨nu, rfl, hq, hb⟩; have hb5 := hb; have HB5 := hidP (HB4.out.trans (hb5.mono HB4.out.size)); have KX5 := hidP (KX4.out.below hb5 KX4.out.lt); have KVx5 := hidP (KVx4.out.below hb5 KVx4.out.lt); have KVu5 := hidP (KVu4.out.below hb5 KVu4.out.lt); have Hx5 := hidP (Hx4.out.trans (hb5.mono Hx4.out.size)); have Hu5 := hidP (Hu4.out.trans (hb5.mono Hu4.out.size)); have Hv5 := hidP (Hv4.out.trans (hb5.mono Hv4.out.size)); have Ht5 := hidP hb5; have qX0 := KX5.out.cell 0 (v := .int .i64 rx.1) rfl; have qX1 := KX5.out.cell 1 (v := .slice a0x rx.2.length c0x) rfl; have qVx0 := KVx5.out.cell 0 (v := .int .i64 Mx.1) rfl; have qVx1 := KVx5.out.cell 1 (v := .slice ax Mx.2.length cx) rfl; have qVu0 := KVu5.out.cell 0 (v := .int .i64 U.1) rfl; have qVu1 := KVu5.out.cell 1 (v := .slice au U.2.length cu) rfl; have HQu := hidP hq; have nnu := hq.nonneg; clear hq; clear hb hb5)
    | (go_at_call 23; (with_reducible refine (HC0.out _ _ (HMu.out.later Hu5.out (Nat.le_refl _))).mono ?_); rintro e w6 ⟨rfl, hb⟩; have hb6 := hb; have HB6 := hidP (HB5.out.trans (hb6.mono HB5.out.size)); have KX6 := hidP (KX5.out.below hb6 KX5.out.lt); have KVx6 := hidP (KVx5.out.below hb6 KVx5.out.lt); have KVu6 := hidP (KVu5.out.below hb6 KVu5.out.lt); have Hx6 := hidP (Hx5.out.trans (hb6.mono Hx5.out.size)); have Hu6 := hidP (Hu5.out.trans (hb6.mono Hu5.out.size)); have Hv6 := hidP (Hv5.out.trans (hb6.mono Hv5.out.size)); have Ht6 := hidP (Ht5.out.trans (hb6.mono Ht5.out.size)); have qX0 := KX6.out.cell 0 (v := .int .i64 rx.1) rfl; have qX1 := KX6.out.cell 1 (v := .slice a0x rx.2.length c0x) rfl; have qVx0 := KVx6.out.cell 0 (v := .int .i64 Mx.1) rfl; have qVx1 := KVx6.out.cell 1 (v := .slice ax Mx.2.length cx) rfl; have qVu0 := KVu6.out.cell 0 (v := .int .i64 U.1) rfl; have qVu1 := KVu6.out.cell 1 (v := .slice au U.2.length cu) rfl; clear hb hb6))
  have HM0 : Hid (MinOf (fun i j => Upto Xt.length 0 0 i j ∧ 0 < i + j) G 1000000001) := MinOf.none (fun i j h => by unfold Upto at h; omega)
  go_loopw [13, 14] (fun on i wr => ∃ (k : Nat) (v : Int), k ≤ Xv.length + 1 ∧ on = .int .i64 v ∧ i = .int .i64 k ∧ Hid (MinOf (fun i j => Upto Xt.length k 0 i j ∧ 0 < i + j) G v) ∧ Hid (Below w6.heap.size w6 wr)) (fun _ i _ => Xv.length + 1 - (intOf i).toNat)
  case atStart => exact ⟨0, _, Nat.zero_le _, rfl, rfl, HM0, Below.refl _ _⟩
  case round =>
    clear HM0 qX0 qX1 qVx0 qVx1 qVu0 qVu1
    obtain ⟨k, v, hk, rfl, rfl, hmin, hb⟩ := hrel
    by_cases hkX : k ≤ Xv.length
    · have hk1 : (k : Int) ≤ (Xv.length : Int) := by omega
      have hk0 : (0 : Int) ≤ (k : Int) := by omega
      obtain ⟨sv1, r1, n1⟩ := cut_head HNv.out hcapv hkX
      obtain ⟨sv2, r2, n2⟩ := cut_tail HNv.out hcapv hkX
      have HR1 := hidP r1
      have HR2 := hidP r2
      have HN1 := hidP n1
      have HN2 := hidP n2
      clear r1 r2 n1 n2
      go_wp2
      obtain ⟨w7, rfl⟩ : ∃ w7, w7 = wr := ⟨_, rfl⟩
      go_loopw [13, 15] (fun on j wr => ∃ (l : Nat) (v : Int), l ≤ Xt.length + 1 ∧ on = .int .i64 v ∧ j = .int .i64 l ∧ Hid (MinOf (fun i j => Upto Xt.length k l i j ∧ 0 < i + j) G v) ∧ Hid (Below w6.heap.size w6 wr)) (fun _ j _ => Xt.length + 1 - (intOf j).toNat)
      case atStart => exact ⟨0, _, Nat.zero_le _, rfl, rfl, hmin, hb⟩
      case round =>
        clear hmin hb
        obtain ⟨l, v, hl, rfl, rfl, hmin, hb⟩ := hrel
        by_cases hlY : l ≤ Xt.length
        · have hl1 : (l : Int) ≤ (Xt.length : Int) := by omega
          have hl0 : (0 : Int) ≤ (l : Int) := by omega
          have hwl : IntKind.i64.wrap ((l : Int) + 1) = (l : Int) + 1 := wrapI (by have := lwt; omega) (by have := lwt; omega)
          have hwkl : IntKind.i64.wrap ((k : Int) + (l : Int)) = (k : Int) + (l : Int) := wrapI (by have := lwt; omega) (by have := lwv; omega)
          by_cases hkl : k + l = 0
          · have hkl' : ((k : Int) + (l : Int) == 0) = true := by simp; omega
            have HM1 : Hid (MinOf (fun i j => Upto Xt.length k (l + 1) i j ∧ 0 < i + j) G v) := hmin.out.same (fun i j => by unfold Upto; omega)
            go_wp2
            go_roundw
            case rel => exact ⟨l + 1, v, by omega, rfl, by go_num, HM1, hb⟩
            case measure => simp [intOf]; omega
          · have hkl' : ((k : Int) + (l : Int) == 0) = false := by simp; omega
            obtain ⟨sv3, r3, n3⟩ := cut_head HNt.out hcapt hlY
            obtain ⟨sv4, r4, n4⟩ := cut_tail HNt.out hcapt hlY
            have HR3 := hidP r3
            have HR4 := hidP r4
            have HN3 := hidP n3
            have HN4 := hidP n4
            clear r3 r4 n3 n4
            have HMIN : Hid (MinOf (fun i j => Upto Xt.length k (l + 1) i j ∧ 0 < i + j) G (if G k l < v then G k l else v)) := by
              have h9 := hmin.out.more (T := fun i j => Upto Xt.length k (l + 1) i j ∧ 0 < i + j) (i := k) (j := l) (fun i' j' => by unfold Upto; omega)
              have h8 : (if G k l < v then G k l else v) = min v (G k l) := by split <;> omega
              show MinOf _ _ _
              rw [h8]
              exact h9
            have HCAk := hidP (HCA.out k l)
            have HCBk := hidP (HCB.out k l)
            have HBOk := hidP (HBO.out k l)
            generalize A k l = gA at *
            generalize B k l = gB at *
            generalize G k l = gG at *
            have KX := hidP (KVx6.out.below hb.out KVx6.out.lt)
            have KU := hidP (KVu6.out.below hb.out KVu6.out.lt)
            have HS := HeldV.mk' KX.out.drew KU.out.drew
            go_wp2
            refine region_anyL (HeldV w1.heap.size w2.heap.size Mx.1 (.slice ax Mx.2.length cx) U.1 (.slice au U.2.length cu)) 100 (by kernel_rfl) ?_
            refine anyL_take (i := 0) (v := ?v0_1) at0 (by kernel_rfl) (by kernel_rfl) (by kernel_rfl) (by kernel_rfl) (fun _ _ _ h => h) rfl ?y0_1 HS ?r0_1
            case y0_1 => intro wx hx; obtain ⟨h0, h1, h2, h3⟩ := hx; go_simp; try (with_reducible rfl)
            simp only [Act.put, List.setIfInBounds_toArray, List.set_cons_zero, List.set_cons_succ]
            refine anyL_take (i := 1) (v := ?v1_2) (atS at0) (by kernel_rfl) (by kernel_rfl) (by kernel_rfl) (by kernel_rfl) (fun _ _ _ h => h) rfl ?y1_2 HS ?r1_2
            case y1_2 => intro wx hx; obtain ⟨h0, h1, h2, h3⟩ := hx; go_simp; try (with_reducible rfl)
            simp only [Act.put, List.setIfInBounds_toArray, List.set_cons_zero, List.set_cons_succ]
            refine anyL_take (i := 2) (v := ?v2_3) (atS (atS at0)) (by kernel_rfl) (by kernel_rfl) (by kernel_rfl) (by kernel_rfl) (fun _ _ _ h => h) rfl ?y2_3 HS ?r2_3
            case y2_3 => intro wx hx; obtain ⟨h0, h1, h2, h3⟩ := hx; go_simp; try (with_reducible rfl)
            simp only [Act.put, List.setIfInBounds_toArray, List.set_cons_zero, List.set_cons_succ]
            refine anyL_take (i := 3) (v := ?v3_4) (atS (atS (atS at0))) (by kernel_rfl) (by kernel_rfl) (by kernel_rfl) (by kernel_rfl) (fun _ _ _ h => h) rfl ?y3_4 HS ?r3_4
            case y3_4 => intro wx hx; obtain ⟨h0, h1, h2, h3⟩ := hx; go_simp; try (with_reducible rfl)
            simp only [Act.put, List.setIfInBounds_toArray, List.set_cons_zero, List.set_cons_succ]
            refine anyL_take (i := 4) (v := ?v4_5) (atS (atS (atS (atS at0)))) (by kernel_rfl) (by kernel_rfl) (by kernel_rfl) (by kernel_rfl) (fun _ _ _ h => h) rfl ?y4_5 HS ?r4_5
            case y4_5 => intro wx hx; obtain ⟨h0, h1, h2, h3⟩ := hx; go_simp; try (with_reducible rfl)
            simp only [Act.put, List.setIfInBounds_toArray, List.set_cons_zero, List.set_cons_succ]
            refine anyL_take (i := 5) (v := sv1) (atS (atS (atS (atS (atS at0))))) (by kernel_rfl) (by kernel_rfl) (by kernel_rfl) (by kernel_rfl) (fun _ _ _ h => h) rfl ?y5_15 HS ?r5_15
            case y5_15 => intro wx hx; exact run_exec_slice rfl (HR1.out wx)
            simp only [Act.put, List.setIfInBounds_toArray, List.set_cons_zero, List.set_cons_succ]
            refine anyL_take (i := 6) (v := ?v6_6) (atS (atS (atS (atS (atS (atS at0)))))) (by kernel_rfl) (by kernel_rfl) (by kernel_rfl) (by kernel_rfl) (fun _ _ _ h => h) rfl ?y6_6 HS ?r6_6
            case y6_6 => intro wx hx; obtain ⟨h0, h1, h2, h3⟩ := hx; go_simp; try (with_reducible rfl)
            simp only [Act.put, List.setIfInBounds_toArray, List.set_cons_zero, List.set_cons_succ]
            refine anyL_take (i := 7) (v := ?v7_7) (atS (atS (atS (atS (atS (atS (atS at0))))))) (by kernel_rfl) (by kernel_rfl) (by kernel_rfl) (by kernel_rfl) (fun _ _ _ h => h) rfl ?y7_7 HS ?r7_7
            case y7_7 => intro wx hx; obtain ⟨h0, h1, h2, h3⟩ := hx; go_simp; try (with_reducible rfl)
            simp only [Act.put, List.setIfInBounds_toArray, List.set_cons_zero, List.set_cons_succ]
            refine anyL_take (i := 8) (v := ?v8_8) (atS (atS (atS (atS (atS (atS (atS (atS at0)))))))) (by kernel_rfl) (by kernel_rfl) (by kernel_rfl) (by kernel_rfl) (fun _ _ _ h => h) rfl ?y8_8 HS ?r8_8
            case y8_8 => intro wx hx; obtain ⟨h0, h1, h2, h3⟩ := hx; go_simp; try (with_reducible rfl)
            simp only [Act.put, List.setIfInBounds_toArray, List.set_cons_zero, List.set_cons_succ]
            refine anyL_take (i := 9) (v := sv3) (atS (atS (atS (atS (atS (atS (atS (atS (atS at0))))))))) (by kernel_rfl) (by kernel_rfl) (by kernel_rfl) (by kernel_rfl) (fun _ _ _ h => h) rfl ?y9_16 HS ?r9_16
            case y9_16 => intro wx hx; exact run_exec_slice rfl (HR3.out wx)
            simp only [Act.put, List.setIfInBounds_toArray, List.set_cons_zero, List.set_cons_succ]
            refine anyL_take (i := 11) (v := ?v11_9) (atS (atS (atS (atS (atS (atS (atS (atS (atS (atS (atS at0))))))))))) (by kernel_rfl) (by kernel_rfl) (by kernel_rfl) (by kernel_rfl) (fun _ _ _ h => h) rfl ?y11_9 HS ?r11_9
            case y11_9 => intro wx hx; obtain ⟨h0, h1, h2, h3⟩ := hx; go_simp; try (with_reducible rfl)
            simp only [Act.put, List.setIfInBounds_toArray, List.set_cons_zero, List.set_cons_succ]
            refine anyL_take (i := 12) (v := ?v12_10) (atS (atS (atS (atS (atS (atS (atS (atS (atS (atS (atS (atS at0)))))))))))) (by kernel_rfl) (by kernel_rfl) (by kernel_rfl) (by kernel_rfl) (fun _ _ _ h => h) rfl ?y12_10 HS ?r12_10
            case y12_10 => intro wx hx; obtain ⟨h0, h1, h2, h3⟩ := hx; go_simp; try (with_reducible rfl)
            simp only [Act.put, List.setIfInBounds_toArray, List.set_cons_zero, List.set_cons_succ]
            refine anyL_take (i := 13) (v := ?v13_11) (atS (atS (atS (atS (atS (atS (atS (atS (atS (atS (atS (atS (atS at0))))))))))))) (by kernel_rfl) (by kernel_rfl) (by kernel_rfl) (by kernel_rfl) (fun _ _ _ h => h) rfl ?y13_11 HS ?r13_11
            case y13_11 => intro wx hx; obtain ⟨h0, h1, h2, h3⟩ := hx; go_simp; try (with_reducible rfl)
            simp only [Act.put, List.setIfInBounds_toArray, List.set_cons_zero, List.set_cons_succ]
            refine anyL_take (i := 14) (v := sv2) (atS (atS (atS (atS (atS (atS (atS (atS (atS (atS (atS (atS (atS (atS at0)))))))))))))) (by kernel_rfl) (by kernel_rfl) (by kernel_rfl) (by kernel_rfl) (fun _ _ _ h => h) rfl ?y14_17 HS ?r14_17
            case y14_17 => intro wx hx; exact run_exec_slice rfl (HR2.out wx)
            simp only [Act.put, List.setIfInBounds_toArray, List.set_cons_zero, List.set_cons_succ]
            refine anyL_take (i := 15) (v := ?v15_12) (atS (atS (atS (atS (atS (atS (atS (atS (atS (atS (atS (atS (atS (atS (atS at0))))))))))))))) (by kernel_rfl) (by kernel_rfl) (by kernel_rfl) (by kernel_rfl) (fun _ _ _ h => h) rfl ?y15_12 HS ?r15_12
            case y15_12 => intro wx hx; obtain ⟨h0, h1, h2, h3⟩ := hx; go_simp; try (with_reducible rfl)
            simp only [Act.put, List.setIfInBounds_toArray, List.set_cons_zero, List.set_cons_succ]
            refine anyL_take (i := 16) (v := ?v16_13) (atS (atS (atS (atS (atS (atS (atS (atS (atS (atS (atS (atS (atS (atS (atS (atS at0)))))))))))))))) (by kernel_rfl) (by kernel_rfl) (by kernel_rfl) (by kernel_rfl) (fun _ _ _ h => h) rfl ?y16_13 HS ?r16_13
            case y16_13 => intro wx hx; obtain ⟨h0, h1, h2, h3⟩ := hx; go_simp; try (with_reducible rfl)
            simp only [Act.put, List.setIfInBounds_toArray, List.set_cons_zero, List.set_cons_succ]
            refine anyL_take (i := 17) (v := sv4) (atS (atS (atS (atS (atS (atS (atS (atS (atS (atS (atS (atS (atS (atS (atS (atS (atS at0))))))))))))))))) (by kernel_rfl) (by kernel_rfl) (by kernel_rfl) (by kernel_rfl) (fun _ _ _ h => h) rfl ?y17_18 HS ?r17_18
            case y17_18 => intro wx hx; exact run_exec_slice rfl (HR4.out wx)
            simp only [Act.put, List.setIfInBounds_toArray, List.set_cons_zero, List.set_cons_succ]
            refine anyL_one (i := 10) (atS (atS (atS (atS (atS (atS (atS (atS (atS (atS at0)))))))))) (by kernel_rfl) rfl (fun K hK => ?_)
            go_simp
            with_reducible refine (HCAk.out _ _ _ _ (HMx.out.later (Hx6.out.trans (hb.out.drew.mono Hx6.out.size)) (Nat.le_refl _)) (HN1.out.later (Hv6.out.trans (hb.out.drew.mono Hv6.out.size)) (Nat.le_refl _)) (HN3.out.later (Ht6.out.trans (hb.out.drew.mono Ht6.out.size)) (Nat.le_refl _))).mono ?_
            rintro e w8 ⟨rfl, hb8⟩
            have HB8 : Hid (Below w6.heap.size w6 w8) := hb.out.drew.trans (hb8.mono hb.out.size)
            have HS8 := HeldV.mk' (KVx6.out.below HB8.out KVx6.out.lt) (KVu6.out.below HB8.out KVu6.out.lt)
            clear hb8
            refine hK _ _ (.inr HS8) ?_
            try simp only [Act.put, List.setIfInBounds_toArray, List.set_cons_zero, List.set_cons_succ]
            refine anyL_one (i := 18) (atS (atS (atS (atS (atS (atS (atS (atS (atS (atS (atS (atS (atS (atS (atS (atS (atS (atS at0)))))))))))))))))) (by kernel_rfl) rfl (fun K hK => ?_)
            go_simp
            with_reducible refine (HCBk.out _ _ _ _ (HMu.out.later (Hu6.out.trans (HB8.out.mono Hu6.out.size)) (Nat.le_refl _)) (HN2.out.later (Hv6.out.trans (HB8.out.mono Hv6.out.size)) (Nat.le_refl _)) (HN4.out.later (Ht6.out.trans (HB8.out.mono Ht6.out.size)) (Nat.le_refl _))).mono ?_
            rintro e w9 ⟨rfl, hb9⟩
            have HB9 : Hid (Below w6.heap.size w6 w9) := HB8.out.trans (hb9.mono HB8.out.size)
            have HS9 := HeldV.mk' (KVx6.out.below HB9.out KVx6.out.lt) (KVu6.out.below HB9.out KVu6.out.lt)
            clear hb9
            refine hK _ _ (.inr HS9) ?_
            try simp only [Act.put, List.setIfInBounds_toArray, List.set_cons_zero, List.set_cons_succ]
            refine anyL_one (i := 19) (atS (atS (atS (atS (atS (atS (atS (atS (atS (atS (atS (atS (atS (atS (atS (atS (atS (atS (atS at0))))))))))))))))))) (by kernel_rfl) rfl (fun K hK => ?_)
            go_simp
            with_reducible refine (HBOk.out _).mono ?_
            rintro e w10 ⟨rfl, rfl⟩
            refine hK _ _ (.inr HS9) ?_
            try simp only [Act.put, List.setIfInBounds_toArray, List.set_cons_zero, List.set_cons_succ]
            refine anyL_take (i := 20) (v := ?v20_14) (atS (atS (atS (atS (atS (atS (atS (atS (atS (atS (atS (atS (atS (atS (atS (atS (atS (atS (atS (atS at0)))))))))))))))))))) (by kernel_rfl) (by kernel_rfl) (by kernel_rfl) (by kernel_rfl) (fun _ _ _ h => h) rfl ?y20_14 HS9 ?r20_14
            case y20_14 => intro wx hx; obtain ⟨h0, h1, h2, h3⟩ := hx; go_simp; try (with_reducible rfl)
            simp only [Act.put, List.setIfInBounds_toArray, List.set_cons_zero, List.set_cons_succ]
            refine anyL_one (i := 21) (atS (atS (atS (atS (atS (atS (atS (atS (atS (atS (atS (atS (atS (atS (atS (atS (atS (atS (atS (atS (atS at0))))))))))))))))))))) (by kernel_rfl) rfl (fun K hK => ?_)
            go_simp
            refine hK _ _ (.inr HS9) (anyL_done (by kernel_rfl) (NoPanic.normal ?_))
            try simp only [Act.put, List.setIfInBounds_toArray, List.set_cons_zero, List.set_cons_succ]
            clear HS HS8 HS9
            go_wp2
            go_roundw
            case rel => exact ⟨l + 1, _, by omega, rfl, by go_num, HMIN, HB9⟩
            case measure => simp [intOf]; omega
        · have hl1 : ¬ (l : Int) ≤ (Xt.length : Int) := by omega
          obtain rfl : l = Xt.length + 1 := by omega
          have hwk : IntKind.i64.wrap ((k : Int) + 1) = (k : Int) + 1 := wrapI (by omega) (by have := lwv; omega)
          have HM1 : Hid (MinOf (fun i j => Upto Xt.length (k + 1) 0 i j ∧ 0 < i + j) G v) := hmin.out.same (fun i j => by rw [upto_row])
          go_wp2
          go_roundw
          case rel => exact ⟨k + 1, v, by omega, rfl, by go_num, HM1, hb⟩
          case measure => simp [intOf]; omega
    · have hk1 : ¬ (k : Int) ≤ (Xv.length : Int) := by omega
      obtain rfl : k = Xv.length + 1 := by omega
      have hend := HEND.out nu v HQu.out
      have hws : IntKind.i64.wrap ((Xv.length : Int) + (Xt.length : Int)) = (Xv.length : Int) + (Xt.length : Int) := wrapI (by omega) (by have := lwv; have := lwt; omega)
      by_cases h0 : Xv.length + Xt.length = 0
      · have h0' : ((Xv.length : Int) + (Xt.length : Int) == 0) = true := by simp; omega
        have t5 : (nu == 0) = true := by simpa using hend.2 h0
        clear hend
        go_wp2
        go_ret
        exact ⟨rfl, HB6.out.trans (hb.out.mono HB6.out.size)⟩
      · have h0' : ((Xv.length : Int) + (Xt.length : Int) == 0) = false := by simp; omega
        have t5 : (nu == v) = true := by simpa using hend.1 (by omega) (hmin.out.same (fun i j => by unfold Upto; omega))
        clear hend
        go_wp2
        go_ret
        exact ⟨rfl, HB6.out.trans (hb.out.mono HB6.out.size)⟩
theorem walk (vx : Value) (rx : Rw) (a1 : Option Addr) (len1 cap1 : Nat) (z1 : List Int) (a2 : Option Addr) (len2 cap2 : Nat) (z2 : List Int) (w : World) (hx : RawV w vx rx ∧ okR rx ∧ wfR rx) (w1 : IsRow .i64 w a1 len1 cap1 z1 ∧ cap1 * 8 ≤ 140737488351232) (w2 : IsRow .i64 w a2 len2 cap2 z2 ∧ cap2 * 8 ≤ 140737488351232) :
    Calls Try.prog 8 #[vx, .slice a1 len1 cap1, .slice a2 len2 cap2] w fun e w' => e = .returned (.bool true) ∧ Below w.heap.size w w' := by
  obtain ⟨p1, _, _⟩ := row_nums w1.1
  obtain ⟨p2, _, _⟩ := row_nums w2.1
  exact core vx rx _ _ _ _ w hx p1 (row_wf w1.1) p2 (row_wf w2.1)

set_option maxRecDepth 100000 in
theorem lifted (os : Os) (started : os.Started) (H : Type) (enc : TypeId × Value → H) :
    ReturnsInHanded {} Try.checked os 8 .any (Rows.weighStarSpec.pre6 enc Try.prog Try.f8 Rows.weighStarRow.domain false) (Rows.weighStarSpec.post enc Try.prog Try.f8 false true false false) := by
  refine returnsInHanded_of_change_sized (C := Try.checked) own started (by kernel_rfl) Try.func8
    (ChangeSpec.witness6 (enc := enc) (C := Try.checked) false ⟨#[], #[.agg #[.int .i64 0, .slice none 0 0], .slice none 0 0, .slice none 0 0], []⟩ 8 (by kernel_rfl) (by kernel_rfl) (by kernel_rfl) (by kernel_rfl)) ?_
  intro W base args ds gs before hval0 hW hcnd hsz0 _
  have hsz : (DataW.weightsEach Try.prog (Try.f8.params.toList ++ Rows.weighStarSpec.plain.varTypes Try.prog) (ds ++ gs)).all (· ≤ reachBytes) = true := hsz0
  have hval : ∀ (j : Nat) t v, Try.f8.params[j]? = some t → args[j]? = some v → Value.okWide Try.prog W .any base t v := hval0
  clear hval0 hsz0
  have hW' := hW
  obtain ⟨p, q, hA0, hV, rfl, hfz, hnd⟩ := hW
  have hA : DataW.TrodAll enc Try.prog W 0 (fun _ => true) true Try.f8.params.toList args.toList ds p := hA0
  rw [Try.params8] at hA hval hsz
  obtain ⟨v0, vs0, d0, ds0, p0, q0, hargs, rfl, rfl, h0, r0⟩ := trodAll_cons hA
  obtain ⟨v1, vs1, d1, ds1, p1, q1, rfl, rfl, rfl, h1, r1⟩ := trodAll_cons r0
  obtain ⟨v2, vs2, d2, ds2, p2, q2, rfl, rfl, rfl, h2, r2⟩ := trodAll_cons r1
  obtain ⟨rfl, rfl, rfl⟩ := trodAll_nil r2
  obtain rfl : args = #[v0, v1, v2] := by cases args; simp_all
  obtain ⟨rfl, rfl⟩ := trodVars_none hV
  have k0 := h0
  have lt0 : ∀ x ∈ p0, x.block < W.heap.size := by obtain ⟨m, hm⟩ := k0; exact DataW.trod_lt m _ _ _ hm
  obtain ⟨z0, w0⟩ : ∃ m : Rw, RawV W v0 m ∧ okR m ∧ wfR m := by
    obtain ⟨c0, c1, y0, y1, n, rfl, hd, hp, t0, t1⟩ := Go.Joins.open_agg2 Try.underlying42 (by kernel_rfl) (by kernel_rfl) (hval 0 42 v0 rfl rfl) h0
    subst hd
    exact open_raw t0 t1 ((Fits.arg hsz (j := 0) rfl rfl).field Try.underlying42 (f := 1) rfl rfl)
  obtain ⟨a1, len1, cap1, rfl⟩ := okWide_slice Try.underlying22 (hval 1 22 v1 rfl rfl)
  have k1 := h1
  have lt1 : ∀ x ∈ p1, x.block < W.heap.size := by obtain ⟨m, hm⟩ := k1; exact DataW.trod_lt m _ _ _ hm
  obtain ⟨z1, w1⟩ : ∃ zs, IsRow .i64 W a1 len1 cap1 zs ∧ cap1 * 8 ≤ 140737488351232 := by
    obtain ⟨fuel, hf⟩ := h1
    rcases open_ints Try.underlying22 Try.underlying3 (by kernel_rfl) hf with ⟨hcs, _⟩ | ⟨x, l, c, zs, hcs, _, hl, hm, hz, hx, hcell, hwz⟩
    · simp [Value.cells] at hcs
      obtain ⟨rfl, rfl, rfl⟩ := hcs
      exact ⟨[], .inl ⟨rfl, rfl, rfl, rfl⟩, by omega⟩
    · have hd := congrArg Prod.fst hx
      have hsw := sized_slice hsz (j := 1) (t := 22) (e := 3) rfl (congrArg some hd) Try.underlying22
      have hby : Try.prog.bytesOf 3 = 8 := by kernel_rfl
      rw [hby] at hsw
      simp [Value.cells] at hcs
      obtain ⟨rfl, rfl, rfl⟩ := hcs
      have hz' : zs.length = cap1 := by simpa using hz
      simp only [lits, List.length_map, List.length_take, List.length_drop, reachBytes] at hsw
      exact ⟨zs, .inr ⟨_, rfl, hl, hm, hz', hcell, hwz⟩, by omega⟩
  obtain ⟨a2, len2, cap2, rfl⟩ := okWide_slice Try.underlying22 (hval 2 22 v2 rfl rfl)
  have k2 := h2
  have lt2 : ∀ x ∈ p2, x.block < W.heap.size := by obtain ⟨m, hm⟩ := k2; exact DataW.trod_lt m _ _ _ hm
  obtain ⟨z2, w2⟩ : ∃ zs, IsRow .i64 W a2 len2 cap2 zs ∧ cap2 * 8 ≤ 140737488351232 := by
    obtain ⟨fuel, hf⟩ := h2
    rcases open_ints Try.underlying22 Try.underlying3 (by kernel_rfl) hf with ⟨hcs, _⟩ | ⟨x, l, c, zs, hcs, _, hl, hm, hz, hx, hcell, hwz⟩
    · simp [Value.cells] at hcs
      obtain ⟨rfl, rfl, rfl⟩ := hcs
      exact ⟨[], .inl ⟨rfl, rfl, rfl, rfl⟩, by omega⟩
    · have hd := congrArg Prod.fst hx
      have hsw := sized_slice hsz (j := 2) (t := 22) (e := 3) rfl (congrArg some hd) Try.underlying22
      have hby : Try.prog.bytesOf 3 = 8 := by kernel_rfl
      rw [hby] at hsw
      simp [Value.cells] at hcs
      obtain ⟨rfl, rfl, rfl⟩ := hcs
      have hz' : zs.length = cap2 := by simpa using hz
      simp only [lits, List.length_map, List.length_take, List.length_drop, reachBytes] at hsw
      exact ⟨zs, .inr ⟨_, rfl, hl, hm, hz', hcell, hwz⟩, by omega⟩
  refine (walk v0 z0 a1 len1 cap1 z1 a2 len2 cap2 z2 W w0 w1 w2).mono fun e W' ⟨he, bel⟩ => ?_
  subst he
  exact ⟨_, rfl, _, _, _, [], _, [], hW', trodAll_mk1 (shut_bool Try.underlying4 _), (trodAll_cons_mk (Below.trod laidOut (by kernel_rfl) (of_decide_eq_true (by kernel_rfl)) k0 bel lt0) (trodAll_cons_mk (Below.trod laidOut (by kernel_rfl) (of_decide_eq_true (by kernel_rfl)) k1 bel lt1) (trodAll_cons_mk (Below.trod laidOut (by kernel_rfl) (of_decide_eq_true (by kernel_rfl)) k2 bel lt2) trodAll_mk0))), rfl, bel.frame _, fun h => by cases h⟩
end Go.Proofs.Ytpfcljhbamnghaa.weighStar
namespace Go.Proofs.Ytpfcljhbamnghaa
theorem weighStar_holds : Rows.WeighStarSaid :=
  OpenClaim.holds_of_wide 8 Try.f8 rfl rfl rfl rfl rfl rfl rfl ⟨rfl, rfl, rfl, rfl, rfl⟩ rfl rfl rfl rfl rfl (by kernel_rfl) Try.func8 (by kernel_rfl)
    (of_decide_eq_true (by kernel_rfl)) (by unfold Func.isWrapper; first | (rw [if_pos (by decide +kernel)]; kernel_rfl) | (rw [if_neg (by decide +kernel)]; exact ⟨rfl, rfl⟩))
    (fun os started H enc _ => weighStar.lifted os started H enc)
#print axioms weighStar_holds
end Go.Proofs.Ytpfcljhbamnghaa
