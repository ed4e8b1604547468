/- The program's push: a list of arcs, an end, the total. -/
import Derived.Test.YteaafghmkkejfaaPy
import Derived.Test.YteaafghmkkejfaaJ15w
import Derived.Test.YteaafghmkkejfaaJ15n
import Derived.RegionTactic
import Derived.ChangeAlike
namespace Go.Proofs.Yteaafghmkkejfaa.Wt
open Go.ChangeShapes Go.WideShapes Go.ChangeAt Go.RowKit
open Go.Proofs.Yteaafghmkkejfaa.Pl
set_option linter.unusedVariables false
set_option linter.unusedSimpArgs false
/-- What is made of an arc of a state that ends for own. -/
def psdA (vs : List Int) (own : Int) (a : Ar) : Ar := (a.1, a.2.1, a.2.2.1 + (el vs a.2.2.2.toNat - own), a.2.2.2)
theorem psdA_psh (vs : List Int) (q : Nat) : psdA vs (el vs q) = pshA vs q := by
  funext a
  unfold psdA pshA
  rw [Int.add_sub_assoc]
/-- What pushed answers: it is too dear, or the arcs. -/
def PsdRes (r : Bool) (x : List Ar) (w : World) (e : Ending) (w' : World) : Prop :=
  (r = true ∧ e = .returned (.tuple #[.slice none 0 0, .int .i64 4]) ∧ Below w.heap.size w w') ∨
  (r = false ∧ ∃ v', e = .returned (.tuple #[v', .int .i64 0]) ∧ OwnArcs w' w.heap.size v' x ∧ Below w.heap.size w w')
set_option maxRecDepth 100000 in
set_option maxHeartbeats 3200000 in
theorem psd_any (va vn : Value) (ar : List Ar) (vs : List Int) (n : Nat) (own : Int) (w : World) (hA : Arcs w va ar) (hL4 : ar.length ≤ 400) (hN : Nums w vn vs) (hl : vs.length = n) (hvs : ∀ j, j < n → 0 ≤ el vs j ∧ el vs j ≤ 1000000001) (hto : ∀ a ∈ ar, ∃ t : Nat, a.2.2.2 = (t : Int) ∧ t < n) (hwt : ∀ a ∈ ar, 0 ≤ a.2.2.1 ∧ a.2.2.1 ≤ 1000000000) (ho0 : 0 ≤ own) (ho1 : own ≤ 1000000001) (r : Bool) (hr : (ar.any fun a => decide (1000000000 < (psdA vs own a).2.2.1)) = r) :
    Calls Try.prog 21 #[va, vn, .int .i64 own] w fun e w' => PsdRes r (ar.map (psdA vs own)) w e w' := by
  obtain ⟨a2, cap2, rfl, hga⟩ := hA.get
  obtain ⟨xn, cn, rfl, hcn⟩ := hN.get
  rw [hl] at hcn ⊢
  have HGA := hidP hga
  have HCN := hidP hcn
  have HVS := hidP hvs
  have HTO := hidP hto
  have HWT := hidP hwt
  have HRY : Hid (∀ j, j < ar.length → 1000000000 < (psdA vs own (el ar j)).2.2.1 → r = true) := fun j hj h => by
    rw [← hr, List.any_eq_true]
    exact ⟨_, el_mem hj, by simpa using h⟩
  have HRN : Hid ((∀ j, j < ar.length → (psdA vs own (el ar j)).2.2.1 ≤ 1000000000) → r = false) := fun h => by
    rw [← hr, List.any_eq_false]
    intro a ha
    obtain ⟨s, hs, e⟩ := List.getElem_of_mem ha
    have := h s hs
    rw [el_get hs, e] at this
    simpa using this
  clear hA hN hga hcn hvs hto hwt hl hr
  obtain ⟨G, hG⟩ : ∃ G : Ar → Ar, psdA vs own = G := ⟨_, rfl⟩
  have HG := hidP hG
  rw [hG] at HRY HRN ⊢
  clear hG
  generalize hL : ar.length = L at *
  have HL := hidP hL
  clear hL
  have hmk := run_arcs L (by omega)
  go_enter Try.func21, Try.ntmps21
  go_wp2
  clear hmk
  go_loopw [16] (fun i wi => ∃ (k : Nat) (xs : List Ar), k ≤ L ∧ i = .int .i64 k ∧ Hid (xs.length = L) ∧ Hid (Blk wi w.heap.size (xs.flatMap encA).toArray 56) ∧ Hid (∀ j, j < k → el xs j = G (el ar j)) ∧ Hid (∀ j, j < k → (G (el ar j)).2.2.1 ≤ 1000000000) ∧ Hid (Below w.heap.size w wi)) (fun i _ => L - (intOf i).toNat)
  case atStart => exact ⟨0, List.replicate L ((0, 0, 0, 0) : Ar), Nat.zero_le _, rfl, by show _ = _; simp, Blk.made _ _ _, fun j hj => absurd hj (Nat.not_lt_zero _), fun j hj => absurd hj (Nat.not_lt_zero _), (Below.refl _ _).alloc (Nat.le_refl _) _⟩
  case round =>
    obtain ⟨k, xs, hk, rfl, hxl, hbx, hold, hlow, hb⟩ := hrel
    obtain ⟨w3, hw3⟩ : ∃ w3, w3 = wr := ⟨_, rfl⟩
    subst hw3
    by_cases hlt : k < L
    · obtain ⟨b3, off3, rfl, hb3l, q0, q1, q2, q3⟩ := HGA.out k hlt
      have q0 := (hb.out.cell (p := ⟨b3, off3 + k * 4, none⟩) hb3l).trans q0
      have q1 := (hb.out.cell (p := ⟨b3, off3 + k * 4 + 1, none⟩) hb3l).trans q1
      have q2 := (hb.out.cell (p := ⟨b3, off3 + k * 4 + 2, none⟩) hb3l).trans q2
      have q3 := (hb.out.cell (p := ⟨b3, off3 + k * 4 + 3, none⟩) hb3l).trans q3
      obtain ⟨t, ht, htn⟩ := HTO.out (el ar k) (el_mem (by rw [HL.out]; exact hlt))
      obtain ⟨g0, g1⟩ := HWT.out (el ar k) (el_mem (by rw [HL.out]; exact hlt))
      have k0 : (0 : Int) ≤ (k : Int) := by omega
      have k1 : (k : Int) < (L : Int) := by omega
      have t0 : (0 : Int) ≤ (t : Int) := by omega
      have t1 : (t : Int) < (n : Int) := by omega
      obtain ⟨bn, on, rfl, hbnl, m0⟩ := HCN.out t htn
      have m0 := (hb.out.cell (p := ⟨bn, on + t, none⟩) hbnl).trans m0
      obtain ⟨v0, v1⟩ := HVS.out t htn
      have HGE : Hid (G (el ar k) = ((el ar k).1, (el ar k).2.1, (el ar k).2.2.1 + (el vs t - own), (t : Int))) := by
        show _ = _
        rw [← HG.out]
        unfold psdA
        simp only [ht, Int.toNat_natCast]
      have HR1 := hidP (HRY.out k hlt)
      rw [HGE.out] at HR1
      rw [ht] at q3
      obtain ⟨p, hp⟩ : ∃ p : Ar, el ar k = p := ⟨_, rfl⟩
      have HP := hidP hp
      rw [hp] at q0 q1 q2 g0 g1 HGE HR1
      clear hp ht
      obtain ⟨p0, p1, p2, p3⟩ := p
      simp only at q0 q1 q2 g0 g1 HGE HR1
      generalize el vs t = y at *
      have hsz := hb.out.size
      have hbl := hbx.out.lt
      have hbl2 : w.heap.size ≠ w3.heap.size := by omega
      have hbw : bn < w3.heap.size := by omega
      have hbw2 : bn ≠ w3.heap.size := by omega
      have hx0 := hxl.out
      have e0 := hbx.out.cell (k * 4) (v := .int .i64 (el xs k).1) (by rw [List.getElem?_toArray]; exact flat_at encA_len xs k (by omega) 0 (by omega))
      have e1 := hbx.out.cell (k * 4 + 1) (v := .int .i64 (el xs k).2.1) (by rw [List.getElem?_toArray]; exact flat_at encA_len xs k (by omega) 1 (by omega))
      have e2 := hbx.out.cell (k * 4 + 2) (v := .int .i64 (el xs k).2.2.1) (by rw [List.getElem?_toArray]; exact flat_at encA_len xs k (by omega) 2 (by omega))
      have e3 := hbx.out.cell (k * 4 + 3) (v := .int .i64 (el xs k).2.2.2) (by rw [List.getElem?_toArray]; exact flat_at encA_len xs k (by omega) 3 (by omega))
      have f0 := hbx.out.fz (k * 4)
      have f1 := hbx.out.fz (k * 4 + 1)
      have f2 := hbx.out.fz (k * 4 + 2)
      have f3 := hbx.out.fz (k * 4 + 3)
      clear hx0
      by_cases hov : 1000000000 < p2 + (y - own)
      · have HE := hidP (HR1.out hov)
        go_wp2
        go_region
        go_wp2
        exact bodyPost_ret (v := .tuple #[.slice none 0 0, .int .i64 4]) (by simp [results, Try.results21, go_sem]) rfl (.inl ⟨HE.out, rfl, (hb.out.alloc hb.out.size _).drew⟩)
      · go_wp2
        go_region
        go_wp2
        go_roundw
        case rel =>
          refine ⟨k + 1, xs.set k (p0, p1, p2 + (y - own), (t : Int)), by omega, by go_num, ?_, ?_, ?_, ?_, ?_⟩
          · show _ = _
            simp
            exact hxl.out
          · have h := (((hbx.out.set (k * 4) (.int .i64 p0)).set (k * 4 + 1) (.int .i64 p1)).set (k * 4 + 2) (.int .i64 (p2 + (y - own)))).set (k * 4 + 3) (.int .i64 (t : Int))
            rw [set_arc (by rw [hxl.out]; omega) (p0, p1, p2 + (y - own), (t : Int))] at h
            exact h.alloc _
          · intro j hj
            rw [el_setS (by rw [hxl.out]; omega)]
            by_cases hjk : j = k
            · subst hjk
              rw [if_pos rfl, HP.out, HGE.out]
            · rw [if_neg hjk]
              exact hold.out j (by omega)
          · intro j hj
            by_cases hjk : j = k
            · subst hjk
              rw [HP.out, HGE.out]
              simp only
              omega
            · exact hlow.out j (by omega)
          · have h := hb.out
            show Below _ _ _
            go_grown
        case measure => simp [intOf]; omega
    · have hke : k = L := by omega
      have hnl : ¬ (k : Int) < (L : Int) := by omega
      have hxe : xs = ar.map G := by
        refine el_ext (by rw [List.length_map, HL.out]; exact hxl.out) fun j hj => ?_
        rw [hold.out j (by rw [hxl.out] at hj; omega), el_map (by rw [HL.out]; rw [hxl.out] at hj; omega)]
      have HE := hidP (HRN.out fun j hj => hlow.out j (by omega))
      have HOW := hidP (arcs_block (B := w.heap.size) hbx.out (Nat.le_refl _) (by rw [hxl.out]; omega))
      rw [hxe, List.length_map, HL.out] at HOW
      clear hxe
      go_wp2
      exact bodyPost_ret (v := .tuple #[.slice (some ⟨w.heap.size, 0, none⟩) L L, .int .i64 0]) (by simp [results, Try.results21, go_sem]) rfl (.inr ⟨HE.out, _, rfl, by unfold OwnArcs; rw [List.length_map, HL.out]; exact HOW.out, hb.out⟩)
set_option maxRecDepth 100000 in
theorem less_any (f o : Int) (w : World) (hf0 : 0 ≤ f) (hf1 : f ≤ 1000000001) (ho0 : 0 ≤ o) (ho1 : o ≤ 1000000001) (r : Int) (hr : (if f = 1000000001 then 1000000001 else f - o) = r) :
    Calls Try.prog 22 #[.int .i64 f, .int .i64 o] w fun e w' => e = .returned (.int .i64 r) ∧ Below w.heap.size w w' := by
  by_cases h : f = 1000000001
  · rw [if_pos h] at hr
    subst hr
    subst h
    go_enter Try.func22, Try.ntmps22
    go_wp2
    go_ret
    exact ⟨rfl, Below.refl _ _⟩
  · rw [if_neg h] at hr
    subst hr
    have h1 : (f == 1000000001) = false := by simpa using h
    go_enter Try.func22, Try.ntmps22
    go_wp2
    go_ret
    exact ⟨rfl, Below.refl _ _⟩
set_option maxRecDepth 100000 in
theorem totalOf_any (z : Int) (vn : Value) (vs : List Int) (w : World) (hN : Nums w vn vs) (hz : z < vs.length) (r : Int) (hr : (if z < 0 then 0 else el vs z.toNat) = r) :
    Calls Try.prog 23 #[.int .i64 z, vn] w fun e w' => e = .returned (.int .i64 r) ∧ Below w.heap.size w w' := by
  obtain ⟨xn, cn, rfl, hcn⟩ := hN.get
  by_cases h : z < 0
  · rw [if_pos h] at hr
    subst hr
    clear hcn hN
    go_enter Try.func23, Try.ntmps23
    go_wp2
    go_ret
    exact ⟨rfl, Below.refl _ _⟩
  · rw [if_neg h] at hr
    obtain ⟨t, rfl⟩ : ∃ t : Nat, z = (t : Int) := ⟨z.toNat, by omega⟩
    rw [Int.toNat_natCast] at hr
    obtain ⟨b, o, rfl, hb, m0⟩ := hcn t (by omega)
    rw [hr] at m0
    clear hcn hN hr
    generalize vs.length = n at *
    have t0 : (0 : Int) ≤ (t : Int) := by omega
    go_enter Try.func23, Try.ntmps23
    go_wp2
    go_ret
    exact ⟨rfl, Below.refl _ _⟩
/-- What more answers. -/
def morR (f total : Int) : Int × Int := if f = 1000000001 then (1000000001, 0) else if 1000000000 < f + total then (0, 4) else (f + total, 0)
set_option maxRecDepth 100000 in
theorem more_any (f o : Int) (w : World) (hf0 : 0 ≤ f) (hf1 : f ≤ 1000000001) (ho0 : 0 ≤ o) (ho1 : o ≤ 1000000000) (r x : Int) (hr : morR f o = (r, x)) :
    Calls Try.prog 27 #[.int .i64 f, .int .i64 o] w fun e w' => e = .returned (.tuple #[.int .i64 r, .int .i64 x]) ∧ Below w.heap.size w w' := by
  unfold morR at hr
  by_cases h : f = 1000000001
  · rw [if_pos h] at hr
    injection hr with h1 h2
    subst h1 h2 h
    go_enter Try.func27, Try.ntmps27
    go_wp2
    exact bodyPost_ret (v := .tuple #[.int .i64 1000000001, .int .i64 0]) (by simp [results, Try.results27, go_sem]) rfl ⟨rfl, Below.refl _ _⟩
  · rw [if_neg h] at hr
    have h0 : (f == 1000000001) = false := by simpa using h
    by_cases hg : 1000000000 < f + o
    · rw [if_pos hg] at hr
      injection hr with h1 h2
      subst h1 h2
      go_enter Try.func27, Try.ntmps27
      go_wp2
      exact bodyPost_ret (v := .tuple #[.int .i64 0, .int .i64 4]) (by simp [results, Try.results27, go_sem]) rfl ⟨rfl, Below.refl _ _⟩
    · rw [if_neg hg] at hr
      injection hr with h1 h2
      subst h1 h2
      go_enter Try.func27, Try.ntmps27
      go_wp2
      exact bodyPost_ret (v := .tuple #[.int .i64 (f + o), .int .i64 0]) (by simp [results, Try.results27, go_sem]) rfl ⟨rfl, Below.refl _ _⟩
end Go.Proofs.Yteaafghmkkejfaa.Wt
