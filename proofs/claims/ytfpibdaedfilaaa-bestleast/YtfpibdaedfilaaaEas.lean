/- weigh.cheapest, cost: the cheapest path for two words. -/
import Derived.Test.YtfpibdaedfilaaaEar
import Derived.Test.YtfpibdaedfilaaaEao
import Derived.Test.YtfpibdaedfilaaaEab
import Derived.Test.YtfpibdaedfilaaaEan
import Derived.Test.YtfpibdaedfilaaaEae
import Derived.Test.YtfpibdaedfilaaaEad
namespace Go.Proofs.Ytfpibdaedfilaaa.Wt
open Go.ChangeShapes Go.WideShapes Go.ChangeAt Go.RowKit
open Go.Proofs.Ytfpibdaedfilaaa.Pl
set_option linter.unusedVariables false
set_option linter.unusedSimpArgs false
set_option maxRecDepth 100000 in
set_option maxHeartbeats 1600000 in
theorem places_none (vs vx vy : Value) (w : World) (hvs : ∃ a n cap, vs = .slice a n cap) :
  Calls Try.prog 93 #[.agg #[.int .i64 (-1), vs], vx, vy] w fun e w' => ∃ (mb : Nat), e = .returned (.map (some mb)) ∧ DoneM w' mb [] ∧ Below w.heap.size w w' ∧ w.heap.size ≤ mb := by
 obtain ⟨a, n, cap, rfl⟩ := hvs
 have T0 : Hid (PlcAt w (((w.alloc (.cells #[.int .i64 (-1), .slice a n cap] 27)).alloc (.map #[] 0)).alloc (.cells #[.slice none 0 0] 162)) (w.heap.size + 1) (w.heap.size + 1 + 1) #[.int .i64 (-1), .slice a n cap] (.slice none 0 0) [] []) := by
  have k1 := DoneM.made (w.alloc (.cells #[.int .i64 (-1), .slice a n cap] 27))
  have k2 := Blk.made ((w.alloc (.cells #[.int .i64 (-1), .slice a n cap] 27)).alloc (.map #[] 0)) #[.slice none 0 0] 162
  simp only [World.size_alloc] at k1 k2
  exact ⟨((Blk.made w _ _).alloc _).alloc _, k1.alloc _, k2, World.ownsRow_nil _ _ _ _, (((Below.refl _ _).alloc (Nat.le_refl _) _).alloc (by simp) _).alloc (by simp; omega) _, by omega, by omega, by simp⟩
 have hmm : ∀ W : World, (Instr.makeMap 156 none).run Try.prog W = .ok (.map (some W.heap.size)) (W.alloc (.map #[] 0)) := fun W => rfl
 go_enter Try.func93, Try.ntmps93
 go_wp2
 clear hmm
 generalize hB : w.heap.size + 1 + 1 = B at *
 generalize hM : w.heap.size + 1 = M at *
 have HMB : Hid (w.heap.size ≤ M) := by show _ ≤ _; omega
 clear hM hB
 go_loopw [] (fun wr => Hid (PlcAt w wr M B #[.int .i64 (-1), .slice a n cap] (.slice none 0 0) [] [])) (fun wr => 0)
 case atStart => exact T0
 case round =>
  have cB := hrel.out.var.cell 0 (v := .slice none 0 0) rfl
  clear T0
  go_wp2_with (first
   | (go_at_call 96; (with_reducible refine (wLen_any _ _ _ _).mono ?_); rintro e w3 ⟨rfl, rfl⟩))
  go_ret
  exact ⟨M, rfl, hrel.out.map, hrel.out.below, HMB.out⟩
def BstRes (P : Nat → Prop) (w : World) (e : Ending) (w' : World) : Prop := ∃ (n : Int) (f : Bool), e = .returned (.tuple #[.int .i64 n, .bool f]) ∧ BstA P n f ∧ Below w.heap.size w w'
theorem placesP_any (v vx vy : Value) (m : Mc) (x y : List Int) (w : World) (h : Mach w v m) (hr : faultM m = 0) (nx : Nums w vx x) (ny : Nums w vy y) (hx : x.length ≤ 12) (hy : y.length ≤ 12) :
  Calls Try.prog 93 #[v, vx, vy] w fun e w' => ∃ (mb : Nat) (ds : List (Pt × Nat)), e = .returned (.map (some mb)) ∧ DoneM w' mb ds ∧ PlT m x y ds ∧ (ds.map Prod.fst).Nodup ∧ Below w.heap.size w w' := by
 obtain ⟨z, l⟩ := m
 have h1 := (faultM_zero hr).2
 simp only [rangeB, Bool.and_eq_true, inB, decide_eq_true_eq] at h1
 by_cases hz : z = -1
 ·subst hz
  obtain ⟨vs, rfl, hS⟩ := h
  obtain ⟨a, cap, rfl⟩ := hS.sl
  refine (places_none _ vx vy w ⟨_, _, _, rfl⟩).mono ?_
  rintro e w' ⟨mb, rfl, h2, h3, h4⟩
  exact ⟨mb, [], rfl, h2, PlT.none (by simp), List.nodup_nil, h3⟩
 ·obtain ⟨z0, rfl⟩ : ∃ z0 : Nat, z = (z0 : Int) := ⟨z.toNat, by omega⟩
  have hM := h
  obtain ⟨vs, rfl, hS⟩ := h
  refine (places_any z0 vs vx vy l x y w hM hr nx ny hx hy).mono ?_
  rintro e w' ⟨mb, ds, b, rfl, h2, h3, h4, h5⟩
  exact ⟨mb, ds, rfl, h2, PlT.dij (z := z0) rfl (by simp; omega) (right_toL hr) h3 (right_size hr).1 hx hy, h3.nd, h4⟩
set_option maxRecDepth 100000 in
set_option maxHeartbeats 3200000 in
theorem cheapestP_any (v vx vy : Value) (m : Mc) (x y : List Int) (w : World) (h : Mach w v m) (hr : faultM m = 0) (nx : Nums w vx x) (ny : Nums w vy y) (hx : x.length ≤ 12) (hy : y.length ≤ 12) :
  Calls Try.prog 83 #[v, vx, vy] w fun e w' => BstRes (Costs m x y) w e w' := by
 obtain ⟨z, l⟩ := m
 have HM : Hid (Mach w v (z, l)) := h
 obtain ⟨vs, rfl, hS⟩ := h
 obtain ⟨a, cap, rfl, hc⟩ := hS.get
 have HC : Hid (∀ j, j < l.length → ∃ b off va, a = some ⟨b, off, none⟩ ∧ b < w.heap.size ∧ w.cell? ⟨b, off + j * 2, none⟩ = some (.int .i64 (el l j).1) ∧ w.cell? ⟨b, off + j * 2 + 1, none⟩ = some va ∧ Arcs w va (el l j).2) := hc
 have HPC : Hid (∀ W, Below w.heap.size w W → Calls Try.prog 93 #[.agg #[.int .i64 z, .slice a l.length cap], vx, vy] W fun e w' => ∃ (mb : Nat) (ds : List (Pt × Nat)), e = .returned (.map (some mb)) ∧ DoneM w' mb ds ∧ PlT (z, l) x y ds ∧ (ds.map Prod.fst).Nodup ∧ Below W.heap.size W w') := fun W hW => placesP_any _ vx vy (z, l) x y W (HM.out.later hW (Nat.le_refl _)) hr (nx.later hW (Nat.le_refl _)) (ny.later hW (Nat.le_refl _)) hx hy
 have HF : Hid (∀ j, j < l.length → finB (el l j).1 = true) := fun j hj => (right_st hr hj).1
 have H60 : Hid (l.length ≤ 60) := (right_size hr).1
 obtain ⟨ax, cx, rfl, _⟩ := nx.get
 obtain ⟨ay, cy, rfl, _⟩ := ny.get
 have HEND : Hid (∀ c, CstN (RW (z, l) x y) l l.length c ↔ Costs (z, l) x y c) := cstN_all (z, l) x y
 clear hS hc hr nx ny
 generalize hR : RW (z, l) x y = R at *
 generalize hX : x.length = X at *
 generalize hY : y.length = Y at *
 have HXY : Hid (x.length = X ∧ y.length = Y ∧ RW (z, l) x y = R) := ⟨hX, hY, hR⟩
 clear hX hY hR
 generalize hn : l.length = n at *
 have HN : Hid (l.length = n) := hn
 clear hn
 have hnot : ∀ (x : Bool) (w : World), (Op.unary .not (.bool x)).run Try.prog w = .ok (.bool (!x)) w := fun _ _ => rfl
 go_enter Try.func83, Try.ntmps83
 go_wp2_with (first
  | (go_at_call 93; (with_reducible refine (HPC.out _ (by go_grown)).mono ?_); rintro e w1 ⟨mb, ds, rfl, hdm, hpt, hnd, hb⟩; have HNDP := hidP hnd; clear hnd; obtain ⟨s1, b1, hb1⟩ := boxed hb (by simp); have HB1 := hidP hb1; have K0 := hidP b1; have HDM := hidP hdm; have HPT : Hid (∀ q, q < n → (∃ d, ((q, X, Y), d) ∈ ds ∧ d ≤ 20000000000000 ∧ LeastP (R q) d) ∨ ((∀ d, ((q, X, Y), d) ∉ ds) ∧ ∀ d, ¬ R q d)) := (by have h9 := hpt; unfold PlT at h9; simp only at h9; rw [HXY.out.1, HXY.out.2.1, HXY.out.2.2, HN.out] at h9; exact h9); have bx1 := b1.cell 1 (v := .slice a n cap) rfl; clear hdm hpt hb hb1 s1 b1))
 clear bx1 HPC
 go_loopw [9, 10, 22] (fun s9 s10 s22 wr => ∃ (k : Nat) (ls : Int) (f : Bool), k ≤ n ∧ s22 = .int .i64 (k : Int) ∧ s9 = .int .i64 ls ∧ s10 = .bool f ∧ Hid (BstA (CstN R l k) ls f) ∧ Hid (DoneM wr mb ds) ∧ Hid (Below w.heap.size w wr)) (fun _ _ s22 _ => n - (intOf s22).toNat)
 case atStart => exact ⟨0, 0, false, Nat.zero_le _, rfl, rfl, rfl, BstA.start R l, HDM, HB1⟩
 case round =>
  clear HDM HB1
  obtain ⟨k, ls, f, hk, rfl, rfl, rfl, hI, hD, hB⟩ := hrel
  obtain ⟨w2, hw2⟩ : ∃ w2, w2 = wr := ⟨_, rfl⟩
  subst hw2
  by_cases hlt : k < n
  ·have j0 : (0 : Int) ≤ (k : Int) := Int.natCast_nonneg _
   have j1 : (k : Int) < (n : Int) := by omega
   obtain ⟨b2, off2, va, ha2, hb2l, g0, g1, gA⟩ := HC.out k hlt
   subst ha2
   obtain ⟨a3, cap3, hva⟩ := gA.sl
   have g0 := (hB.out.cell (p := ⟨b2, off2 + k * 2, none⟩) hb2l).trans g0
   have g1 := (hB.out.cell (p := ⟨b2, off2 + k * 2 + 1, none⟩) hb2l).trans g1
   have HF2 := hidP (HF.out k hlt)
   have HT := HPT.out k hlt
   have HSK : Hid (((∀ d, ¬ R k d) ∨ (el l k).1 = 1000000001) → BstA (CstN R l (k + 1)) ls f) := fun h => hI.out.skip h
   have HTK : Hid (∀ e, LeastP (R k) e → (el l k).1 ≠ 1000000001 → 0 ≤ (el l k).1 → (f = false ∨ (e : Int) + (el l k).1 < ls) → BstA (CstN R l (k + 1)) ((e : Int) + (el l k).1) true) := fun e => hI.out.take
   have HSY : Hid (∀ e, f = true → LeastP (R k) e → 0 ≤ (el l k).1 → ¬ (e : Int) + (el l k).1 < ls → BstA (CstN R l (k + 1)) ls f) := fun e hf => by subst hf; exact hI.out.stay
   have h60 := H60.out
   have hlk := (hD.out.alloc (.cells #[.int .i64 (el l k).1, va] 56)).look (p := (k, X, Y)) ⟨by simp; omega, by simp; omega, by simp; omega⟩
   generalize (el l k).2.length = n3 at *
   generalize (el l k).1 = fi at *
   subst hva
   clear gA
   rcases HT with ⟨d, hd, hdb, hle⟩ | ⟨hno, hnw⟩
   ·rcases hlk with ⟨d', hd', hlk⟩ | ⟨hno, _⟩
    ·have hdd := hidP (show LeastP (R k) d ∧ d ≤ 20000000000000 from ⟨hle, hdb⟩)
     have hdd2 := nodup_one HNDP.out hd hd'
     subst hdd2
     have HRK := hidP hdd.out.1
     clear hle hd hd'
     by_cases hfi : fi = 1000000001
     ·subst hfi
      have HR := hidP (HSK.out (.inr rfl))
      clear HSK HTK HSY
      go_wp2
      go_roundw
      case rel => exact ⟨k + 1, ls, f, by omega, by go_num, rfl, rfl, HR, hD.out.alloc _, hB.out.alloc hB.out.size _⟩
      case measure => simp [intOf]; omega
     ·have hfb : 0 ≤ fi ∧ fi ≤ 1000000000 := by
       have h9 := HF2.out
       simp [finB, inB] at h9
       omega
      have hsum : IntKind.i64.wrap ((d : Int) + fi) = (d : Int) + fi := wrapI (by omega) (by omega)
      cases f
      ·have HR := hidP (HTK.out d HRK.out hfi hfb.1 (.inl rfl))
       clear HSK HTK HSY
       go_wp2
       go_roundw
       case rel => exact ⟨k + 1, (d : Int) + fi, true, by omega, by go_num, rfl, rfl, HR, hD.out.alloc _, hB.out.alloc hB.out.size _⟩
       case measure => simp [intOf]; omega
      ·by_cases hls : (d : Int) + fi < ls
       ·have HR := hidP (HTK.out d HRK.out hfi hfb.1 (.inr hls))
        clear HSK HTK HSY
        go_wp2
        go_roundw
        case rel => exact ⟨k + 1, (d : Int) + fi, true, by omega, by go_num, rfl, rfl, HR, hD.out.alloc _, hB.out.alloc hB.out.size _⟩
        case measure => simp [intOf]; omega
       ·have HR := hidP (HSY.out d rfl HRK.out hfb.1 hls)
        clear HSK HTK HSY
        go_wp2
        go_roundw
        case rel => exact ⟨k + 1, ls, true, by omega, by go_num, rfl, rfl, HR, hD.out.alloc _, hB.out.alloc hB.out.size _⟩
        case measure => simp [intOf]; omega
    ·exact absurd hd (hno d)
   ·rcases hlk with ⟨d', hd', hlk⟩ | ⟨_, d', hlk⟩
    ·exact absurd hd' (hno d')
    ·have HR := hidP (HSK.out (.inl hnw))
     clear hno hnw HSK HTK HSY
     go_wp2
     go_roundw
     case rel => exact ⟨k + 1, ls, f, by omega, by go_num, rfl, rfl, HR, hD.out.alloc _, hB.out.alloc hB.out.size _⟩
     case measure => simp [intOf]; omega
  ·have hke : k = n := by omega
   have hnl : ¬ (k : Int) < (n : Int) := by omega
   have HR : Hid (BstA (Costs (z, l) x y) ls f) := by have h9 := hI.out; rw [hke] at h9; exact h9.congr HEND.out
   go_wp2
   exact bodyPost_ret (v := .tuple #[.int .i64 ls, .bool f]) (by simp [results, Try.results83, go_sem, *]) rfl ⟨ls, f, rfl, HR.out, hB.out⟩
set_option maxRecDepth 100000 in
set_option maxHeartbeats 1600000 in
theorem costP_any (v vx vy : Value) (m : Mc) (x y : List Int) (w : World) (h : Mach w v m) (hr : faultM m = 0) (nx : Nums w vx x) (ny : Nums w vy y) (hx : x.length ≤ 12) (hy : y.length ≤ 12) :
  Calls Try.prog 61 #[v, vx, vy] w fun e w' => ∃ n ec : Int, e = .returned (.tuple #[.int .i64 n, .int .i64 ec]) ∧ WghAns (Costs m x y) n ec ∧ Below w.heap.size w w' := by
 obtain ⟨z, l⟩ := m
 have HM : Hid (Mach w v (z, l)) := h
 have HCH : Hid (∀ W, Below w.heap.size w W → Calls Try.prog 83 #[v, vx, vy] W fun e w' => BstRes (Costs (z, l) x y) W e w') := fun W hW => cheapestP_any v vx vy (z, l) x y W (HM.out.later hW (Nat.le_refl _)) hr (nx.later hW (Nat.le_refl _)) (ny.later hW (Nat.le_refl _)) hx hy
 obtain ⟨vs, rfl, hS⟩ := h
 obtain ⟨a, cap, rfl⟩ := hS.sl
 clear hS hr nx ny
 generalize l.length = n at *
 generalize Costs (z, l) x y = P at *
 have hnot : ∀ (x : Bool) (w : World), (Op.unary .not (.bool x)).run Try.prog w = .ok (.bool (!x)) w := fun _ _ => rfl
 go_enter Try.func61, Try.ntmps61
 go_wp2_with (first
  | (go_at_call 83; (with_reducible refine (HCH.out _ (by go_grown)).mono ?_); rintro e w1 ⟨ls, f, rfl, hans, hb⟩; obtain ⟨s1, b1, hb1⟩ := boxed hb (by simp); have HB1 := hidP hb1; have HW := hidP hans.wgh; clear hans hb hb1 b1; cases f; case' true => (by_cases hls : (1000000000 : Int) < ls)))
 ·exact bodyPost_ret (v := .tuple #[.int .i64 0, .int .i64 4]) (by simp [results, Try.results61, go_sem, *]) rfl ⟨0, 4, rfl, (by have h9 := HW.out; simp [hls] at h9; exact h9), HB1.out⟩
 ·exact bodyPost_ret (v := .tuple #[.int .i64 ls, .int .i64 0]) (by simp [results, Try.results61, go_sem, *]) rfl ⟨ls, 0, rfl, (by have h9 := HW.out; simp at h9; rw [if_neg (by omega), if_neg (by omega)] at h9; exact h9), HB1.out⟩
 ·exact bodyPost_ret (v := .tuple #[.int .i64 1000000001, .int .i64 0]) (by simp [results, Try.results61, go_sem, *]) rfl ⟨1000000001, 0, rfl, (by have h9 := HW.out; simp at h9; exact h9), HB1.out⟩
end Go.Proofs.Ytfpibdaedfilaaa.Wt
namespace Go.Proofs.Ytfpibdaedfilaaa.Pl
set_option linter.unusedVariables false
set_option linter.unusedSimpArgs false
def wdsE : List (List Int) → Int
 | [] => 0
 | x :: r => if wrdE x ≠ 0 then wrdE x else wdsE r
theorem wds_one (x : List Int) : wdsE [x] = wrdE x := by
 unfold wdsE wdsE
 split
 ·rfl
 ·rename_i h; simp at h; exact h.symm
theorem wds_two (x y : List Int) : wdsE [x, y] = croE x y := by
 unfold wdsE croE
 rw [wds_one]
theorem wds_at : ∀ {ws : List (List Int)} {k : Nat}, k < ws.length → (∀ j, j < k → wrdE (el ws j) = 0) → wrdE (el ws k) ≠ 0 → wdsE ws = wrdE (el ws k)
  | [], k, h, _, _ => absurd h (by simp)
  | x :: r, 0, _, _, h => by rw [el_zero] at h ⊢; unfold wdsE; rw [if_pos h]
  | x :: r, k + 1, hk, hz, h => by
    have h0 := hz 0 (by omega)
    rw [el_zero] at h0
    rw [el_succ] at h ⊢
    unfold wdsE
    rw [if_neg (by simp [h0])]
    exact wds_at (by simpa using hk) (fun j hj => by have := hz (j + 1) (by omega); rwa [el_succ] at this) h
theorem wds_all : ∀ {ws : List (List Int)}, (∀ j, j < ws.length → wrdE (el ws j) = 0) → wdsE ws = 0
  | [], _ => rfl
  | x :: r, h => by
    have h0 := h 0 (by simp)
    rw [el_zero] at h0
    unfold wdsE
    rw [if_neg (by simp [h0])]
    exact wds_all (fun j hj => by have := h (j + 1) (by simpa using hj); rwa [el_succ] at this)
def labsB (l : List Int) : Bool := l.all (fun b => inB b 1 1000)
theorem wrd_labs {l : List Int} (h : ¬ 12 < l.length) : wrdE l = if labsB l = true then 0 else 2 := by
 unfold wrdE labsB
 rw [if_neg h]
end Go.Proofs.Ytfpibdaedfilaaa.Pl
namespace Go.Proofs.Ytfpibdaedfilaaa.Wt
open Go.ChangeShapes Go.WideShapes Go.ChangeAt Go.RowKit
open Go.Proofs.Ytfpibdaedfilaaa.Pl
set_option linter.unusedVariables false
set_option linter.unusedSimpArgs false
set_option maxRecDepth 100000 in
theorem areLabels_any (v : Value) (l : List Int) (w : World) (h : Nums w v l) (hl : ¬ 12 < l.length) :
  Calls Try.prog 92 #[v] w fun e w' => e = .returned (.bool (labsB l)) ∧ w = w' := by
 obtain ⟨a, cap, rfl, hc⟩ := h.get
 have HC : Hid (∀ j, j < l.length → ∃ b off, a = some ⟨b, off, none⟩ ∧ b < w.heap.size ∧ w.cell? ⟨b, off + j, none⟩ = some (.int .i64 (el l j))) := hc
 have HR : Hid (∀ i, i < l.length → inB (el l i) 1 1000 = false → labsB l = false) := fun i hi hb => all_false_el hi hb
 have HZ : Hid ((∀ i, i < l.length → inB (el l i) 1 1000 = true) → labsB l = true) := fun ha => by
  show l.all _ = true
  rw [List.all_eq_true]
  intro b hb
  obtain ⟨j, hj, rfl⟩ := mem_el hb
  exact ha j hj
 clear h hc
 generalize labsB l = r at *
 generalize l.length = n at *
 go_enter Try.func92, Try.ntmps92
 go_wp2
 go_loop [7] (fun i => ∃ k : Nat, k ≤ n ∧ i = .int .i64 k ∧ Hid (∀ j, j < k → inB (el l j) 1 1000 = true)) (fun i => n - (intOf i).toNat)
 case atStart => exact ⟨0, Nat.zero_le _, rfl, fun j hj => absurd hj (by omega)⟩
 case round =>
  obtain ⟨k, hk, rfl, hall⟩ := hrel
  by_cases hlt : k < n
  ·have hlt' : (k : Int) < (n : Int) := by omega
   have hk0 : (0 : Int) ≤ (k : Int) := by omega
   obtain ⟨b, off, rfl, hb, g0⟩ := HC.out k hlt
   have HRk := hidP (HR.out k hlt)
   have HS : Hid (inB (el l k) 1 1000 = true → ∀ j, j < k + 1 → inB (el l j) 1 1000 = true) := fun g j hj => by
    by_cases e : j = k
    ·rw [e]; exact g
    ·exact hall.out j (by omega)
   generalize el l k = p at *
   have ways : p < 1 ∨ (¬ p < 1 ∧ (1000 : Int) < p) ∨ (¬ p < 1 ∧ ¬ (1000 : Int) < p) := by omega
   rcases ways with h1 | ⟨h1, h2⟩ | ⟨h1, h2⟩
   ·have hr : r = false := HRk.out (by simp [inB]; omega)
    subst hr
    clear HS HRk HR HZ
    go_wp2
    go_ret
    exact ⟨rfl, rfl⟩
   ·have hr : r = false := HRk.out (by simp [inB]; omega)
    subst hr
    clear HS HRk HR HZ
    go_wp2
    go_ret
    exact ⟨rfl, rfl⟩
   ·have HS' := hidP (HS.out (by simp [inB]; omega))
    clear HS HRk
    go_wp2
    go_round
    case rel => exact ⟨k + 1, by omega, by go_num, HS'⟩
    case measure => simp [intOf]; omega
  ·have hnl : ¬ (k : Int) < (n : Int) := by omega
   have hr : r = true := HZ.out (fun i hi => hall.out i (by omega))
   subst hr
   clear HR HZ
   go_wp2
   go_ret
   exact ⟨rfl, rfl⟩
def WdsAt (w : World) (b : Nat) (vws : List Value) (ws : List (List Int)) : Prop := Blk w b vws.toArray 34 ∧ vws.length = ws.length ∧ ∀ j, j < ws.length → Nums w (el vws j) (el ws j)
theorem WdsAt.later {w w' : World} {b B : Nat} {vws : List Value} {ws : List (List Int)} (h : WdsAt w b vws ws) (hb : Below B w w') (hB : w.heap.size ≤ B) : WdsAt w' b vws ws :=
 ⟨h.1.below hb (Nat.lt_of_lt_of_le h.1.lt hB), h.2.1, fun j hj => (h.2.2 j hj).later hb hB⟩
set_option maxRecDepth 100000 in
set_option maxHeartbeats 1600000 in
theorem checkWords_any (b : Nat) (vws : List Value) (ws : List (List Int)) (n : Nat) (w : World) (h : WdsAt w b vws ws) (hn : ws.length = n) (hn2 : n ≤ 10) :
  Calls Try.prog 82 #[.slice (some ⟨b, 0, none⟩) n n] w fun e w' => e = .returned (.int .i64 (wdsE ws)) ∧ w = w' := by
 obtain ⟨hB, hl, hN⟩ := h
 have HB := hidP hB
 have HN : Hid (∀ j, j < n → Nums w (el vws j) (el ws j)) := fun j hj => hN j (by omega)
 have HL := hidP (hl.trans hn)
 have HA : Hid (∀ k, k < n → (∀ j, j < k → wrdE (el ws j) = 0) → wrdE (el ws k) ≠ 0 → wdsE ws = wrdE (el ws k)) := fun k hk => wds_at (by omega)
 have HZ : Hid ((∀ j, j < n → wrdE (el ws j) = 0) → wdsE ws = 0) := fun h => wds_all (fun j hj => h j (by omega))
 clear hB hl hN hn
 generalize wdsE ws = r at *
 have hnot : ∀ (x : Bool) (w : World), (Op.unary .not (.bool x)).run Try.prog w = .ok (.bool (!x)) w := fun _ _ => rfl
 go_enter Try.func82, Try.ntmps82
 go_wp2
 go_loop [7] (fun i => ∃ k : Nat, k ≤ n ∧ i = .int .i64 k ∧ Hid (∀ j, j < k → wrdE (el ws j) = 0)) (fun i => n - (intOf i).toNat)
 case atStart => exact ⟨0, Nat.zero_le _, rfl, fun j hj => absurd hj (by omega)⟩
 case round =>
  obtain ⟨k, hk, rfl, hall⟩ := hrel
  by_cases hlt : k < n
  ·have hlt' : (k : Int) < (n : Int) := by omega
   have hk0 : (0 : Int) ≤ (k : Int) := by omega
   have c0 := HB.out.cell k (v := el vws k) (by rw [List.getElem?_toArray, el_get (by rw [HL.out]; exact hlt)]; exact List.getElem?_eq_getElem _)
   have HNk := hidP (HN.out k hlt)
   have HAk := hidP (HA.out k hlt hall.out)
   have HS : Hid (wrdE (el ws k) = 0 → ∀ j, j < k + 1 → wrdE (el ws j) = 0) := fun g j hj => by
    by_cases e : j = k
    ·rw [e]; exact g
    ·exact hall.out j (by omega)
   generalize el ws k = x at *
   generalize el vws k = vx at *
   obtain ⟨ax, cx, hvx, _⟩ := HNk.out.get
   subst hvx
   by_cases h12 : 12 < x.length
   ·have hr : r = 1 := by have h9 := wrd_long h12; rw [h9] at HAk; exact HAk.out (by decide)
    have h12' : (12 : Int) < (x.length : Int) := by omega
    subst hr
    clear HAk HS HNk HA HZ
    generalize x.length = X at *
    go_wp2
    go_ret
    exact ⟨rfl, rfl⟩
   ·have h12' : ¬ (12 : Int) < (x.length : Int) := by omega
    have HL2 : Hid (Calls Try.prog 92 #[.slice ax x.length cx] w fun e w' => e = .returned (.bool (labsB x)) ∧ w = w') := areLabels_any _ x w HNk.out h12
    have hw := wrd_labs h12
    generalize x.length = X at *
    rcases bool_cases' (labsB x) with hb | hb
    ·rw [if_pos hb] at hw
     rw [hb] at HL2
     have HS' := hidP (HS.out hw)
     clear HS HAk HNk hw hb
     go_wp2_with (first | (go_at_call 92; (with_reducible refine HL2.out.mono ?_); rintro e w' ⟨rfl, rfl⟩))
     go_round
     case rel => exact ⟨k + 1, by omega, by go_num, HS'⟩
     case measure => simp [intOf]; omega
    ·rw [if_neg (by simp [hb])] at hw
     rw [hb] at HL2
     have hr : r = 2 := by rw [hw] at HAk; exact HAk.out (by decide)
     subst hr
     clear HS HAk HNk hw hb HA HZ
     go_wp2_with (first | (go_at_call 92; (with_reducible refine HL2.out.mono ?_); rintro e w' ⟨rfl, rfl⟩))
     go_ret
     exact ⟨rfl, rfl⟩
  ·have hnl : ¬ (k : Int) < (n : Int) := by omega
   have hr : r = 0 := HZ.out (fun i hi => hall.out i (by omega))
   subst hr
   clear HA HZ
   go_wp2
   go_ret
   exact ⟨rfl, rfl⟩
def allE (m : Mc) (ws : List (List Int)) : Int := if faultM m ≠ 0 then faultM m else wdsE ws
set_option maxRecDepth 100000 in
set_option maxHeartbeats 1600000 in
theorem checkAll_any (v : Value) (m : Mc) (b : Nat) (vws : List Value) (ws : List (List Int)) (n : Nat) (w : World) (h : Mach w v m) (hok : okM m) (hw : WdsAt w b vws ws) (hn : ws.length = n) (hn2 : n ≤ 10) (r : Int) (hr : allE m ws = r) :
  Calls Try.prog 60 #[v, .slice (some ⟨b, 0, none⟩) n n] w fun e w' => e = .returned (.int .i64 r) ∧ Below w.heap.size w w' := by
 obtain ⟨z, l⟩ := m
 have HM : Hid (Mach w v (z, l)) := h
 obtain ⟨vs, rfl, hS⟩ := h
 obtain ⟨a, cap, rfl⟩ := hS.sl
 have HCK : Hid (∀ W, Below w.heap.size w W → Calls Try.prog 30 #[.agg #[.int .i64 z, .slice a l.length cap]] W fun e w' => e = .returned (.int .i64 (faultM (z, l))) ∧ Below W.heap.size W w') := fun W hW => coreCheck_any _ (z, l) W (HM.out.later hW (Nat.le_refl _)) hok _ rfl
 have HCW : Hid (∀ W, Below w.heap.size w W → Calls Try.prog 82 #[.slice (some ⟨b, 0, none⟩) n n] W fun e w' => e = .returned (.int .i64 (wdsE ws)) ∧ W = w') := fun W hW => checkWords_any b vws ws n W (hw.later hW (Nat.le_refl _)) hn hn2
 unfold allE at hr
 clear hS hok hw hn HM
 generalize l.length = ln at *
 generalize faultM (z, l) = f at *
 generalize wdsE ws = e at *
 by_cases hf : f = 0
 ·rw [if_neg (by simp [hf])] at hr
  subst hr
  subst hf
  go_enter Try.func60, Try.ntmps60
  go_wp2_with (first
   | (go_at_call 30; (with_reducible refine (HCK.out _ (by go_grown)).mono ?_); rintro e1 w1 ⟨rfl, hb⟩; obtain ⟨s1, b1, hb1⟩ := boxed hb (by simp); have HB1 := hidP hb1; clear hb b1 hb1)
   | (go_at_call 82; (with_reducible refine (HCW.out _ HB1.out).mono ?_); rintro e1 w2 ⟨rfl, rfl⟩))
  go_ret
  exact ⟨rfl, HB1.out⟩
 ·rw [if_pos hf] at hr
  subst hr
  go_enter Try.func60, Try.ntmps60
  go_wp2_with (first
   | (go_at_call 30; (with_reducible refine (HCK.out _ (by go_grown)).mono ?_); rintro e1 w1 ⟨rfl, hb⟩; obtain ⟨s1, b1, hb1⟩ := boxed hb (by simp); have HB1 := hidP hb1; clear hb b1 hb1))
  go_ret
  exact ⟨rfl, HB1.out⟩
theorem words2 {w : World} {vx vy : Value} {x y : List Int} {b : Nat} (hb : Blk w b #[vx, vy] 34) (nx : Nums w vx x) (ny : Nums w vy y) : WdsAt w b [vx, vy] [x, y] := by
 refine ⟨hb, rfl, fun j hj => ?_⟩
 have : j = 0 ∨ j = 1 := by simp at hj; omega
 rcases this with rfl | rfl
 ·exact nx
 ·exact ny
theorem cro_short {x y : List Int} (h : croE x y = 0) : x.length ≤ 12 ∧ y.length ≤ 12 := by
 have hx0 : wrdE x = 0 := by
  by_cases g : wrdE x = 0
  ·exact g
  ·unfold croE at h; rw [if_pos g] at h; exact h
 have hy0 : wrdE y = 0 := by unfold croE at h; rw [if_neg (by simp [hx0])] at h; exact h
 exact ⟨(wrd_parts hx0).1, (wrd_parts hy0).1⟩
set_option maxRecDepth 100000 in
set_option maxHeartbeats 1600000 in
theorem weighP_any (v vx vy : Value) (m : Mc) (x y : List Int) (w : World) (h : Mach w v m) (hok : okM m) (nx : Nums w vx x) (ny : Nums w vy y) :
  Calls Try.prog 36 #[v, vx, vy] w fun e w' => ∃ n ec : Int, e = .returned (.tuple #[.int .i64 n, .int .i64 ec]) ∧ WgR (Costs m x y) (wghE2 m x y) n ec ∧ Below w.heap.size w w' := by
 obtain ⟨z, l⟩ := m
 have HM : Hid (Mach w v (z, l)) := h
 obtain ⟨vs, rfl, hS⟩ := h
 obtain ⟨a, cap, rfl⟩ := hS.sl
 obtain ⟨ax, cx, hvx, _⟩ := nx.get
 obtain ⟨ay, cy, hvy, _⟩ := ny.get
 have HCA : Hid (∀ W b, Below w.heap.size w W → Blk W b #[vx, vy] 34 → Calls Try.prog 60 #[.agg #[.int .i64 z, .slice a l.length cap], .slice (some ⟨b, 0, none⟩) 2 2] W fun e w' => e = .returned (.int .i64 (wghE2 (z, l) x y)) ∧ Below W.heap.size W w') := fun W b hW hb => checkAll_any _ (z, l) b [vx, vy] [x, y] 2 W (HM.out.later hW (Nat.le_refl _)) hok (words2 hb (nx.later hW (Nat.le_refl _)) (ny.later hW (Nat.le_refl _))) rfl (by omega) _ (by unfold allE wghE2; rw [wds_two])
 have HCO : Hid (wghE2 (z, l) x y = 0 → ∀ W, Below w.heap.size w W → Calls Try.prog 61 #[.agg #[.int .i64 z, .slice a l.length cap], vx, vy] W fun e w' => ∃ n ec : Int, e = .returned (.tuple #[.int .i64 n, .int .i64 ec]) ∧ WghAns (Costs (z, l) x y) n ec ∧ Below W.heap.size W w') := fun h0 W hW => by
  unfold wghE2 at h0
  have hf : faultM (z, l) = 0 := by
   by_cases g : faultM (z, l) = 0
   ·exact g
   ·rw [if_pos g] at h0; exact h0
  rw [if_neg (by simp [hf])] at h0
  obtain ⟨q1, q2⟩ := cro_short h0
  exact costP_any _ vx vy (z, l) x y W (HM.out.later hW (Nat.le_refl _)) hf (nx.later hW (Nat.le_refl _)) (ny.later hW (Nat.le_refl _)) q1 q2
 have k1 := Blk.made (w.alloc (.cells #[.int .i64 z, .slice a l.length cap] 27)) #[vx, vy] 34
 have k2 : Below w.heap.size w ((w.alloc (.cells #[.int .i64 z, .slice a l.length cap] 27)).alloc (.cells #[vx, vy] 34)) := ((Below.refl w.heap.size w).alloc (Nat.le_refl _) _).alloc (by simp) _
 simp only [World.size_alloc] at k1
 have HC0 := hidP (HCA.out _ _ k2 k1)
 clear hS hok nx ny HM k1 k2 HCA
 generalize l.length = ln at *
 unfold WgR
 simp only
 generalize wghE2 (z, l) x y = r at *
 generalize Costs (z, l) x y = P at *
 subst hvx
 subst hvy
 by_cases hr : r = 0
 ·subst hr
  have HCO2 := hidP (HCO.out rfl)
  simp only [if_true]
  clear HCO
  go_enter Try.func36, Try.ntmps36
  go_wp2_with (first
   | (go_at_call 60; (with_reducible refine HC0.out.mono ?_); rintro e1 w1 ⟨rfl, hb⟩; obtain ⟨s1, b1, _, hb1⟩ := boxedTwo hb (by simp); have HB1 := hidP hb1; have c0 := b1.cell 0 (v := .int .i64 z) rfl; have c1 := b1.cell 1 (v := .slice a ln cap) rfl; clear hb b1 hb1)
   | (go_at_call 61; (with_reducible refine (HCO2.out _ HB1.out).mono ?_); rintro e1 w2 ⟨n, ec, rfl, ha, hb2⟩; have HA := hidP ha; have HB2 := hidP (HB1.out.trans (hb2.mono HB1.out.size)); clear ha hb2))
  exact bodyPost_ret (v := .tuple #[.int .i64 n, .int .i64 ec]) (by simp [results, Try.results36, go_sem, *]) rfl ⟨n, ec, rfl, HA.out, HB2.out⟩
 ·simp only [if_neg hr]
  clear HCO
  go_enter Try.func36, Try.ntmps36
  go_wp2_with (first
   | (go_at_call 60; (with_reducible refine HC0.out.mono ?_); rintro e1 w1 ⟨rfl, hb⟩; obtain ⟨s1, b1, _, hb1⟩ := boxedTwo hb (by simp); have HB1 := hidP hb1; clear hb b1 hb1))
  exact bodyPost_ret (v := .tuple #[.int .i64 0, .int .i64 r]) (by simp [results, Try.results36, go_sem, *]) rfl ⟨0, r, rfl, ⟨rfl, rfl⟩, HB1.out⟩
theorem cost_any (v vx vy : Value) (m : Mc) (x y : List Int) (w : World) (h : Mach w v m) (hok : okM m) (hr : faultM m = 0) (hc : CheapL m.2) (nx : Nums w vx x) (ny : Nums w vy y) (ex : wrdE x = 0) (ey : wrdE y = 0) :
  Calls Try.prog 17 #[v, vx, vy] w fun e w' => ∃ n : Int, e = .returned (.int .i64 n) ∧ CstIs (Costs m x y) n ∧ Below w.heap.size w w' := by
 have HW : Hid (∀ W, Below w.heap.size w W → Calls Try.prog 36 #[v, vx, vy] W fun e w' => ∃ n : Int, e = .returned (.tuple #[.int .i64 n, .int .i64 0]) ∧ CstIs (Costs m x y) n ∧ Below W.heap.size W w') := fun W hW => (weighP_any v vx vy m x y W (h.later hW (Nat.le_refl _)) hok (nx.later hW (Nat.le_refl _)) (ny.later hW (Nat.le_refl _))).mono fun e w' ⟨n, ec, he, ha, hb⟩ => by
  have hE : wghE2 m x y = 0 := by unfold wghE2; rw [if_neg (by simp [hr])]; unfold croE; rw [if_neg (by simp [ex])]; exact ey
  unfold WgR at ha
  rw [if_pos hE] at ha
  obtain ⟨h1, h2⟩ := cst_of ha (costs_bound hr hc (wrd_parts ex).1 (wrd_parts ey).1)
  subst h1
  exact ⟨n, he, h2, hb⟩
 obtain ⟨z, l⟩ := m
 obtain ⟨vs, rfl, hS⟩ := h
 obtain ⟨a, cap, rfl⟩ := hS.sl
 obtain ⟨ax, cx, rfl, _⟩ := nx.get
 obtain ⟨ay, cy, rfl, _⟩ := ny.get
 clear hS hok hr hc nx ny ex ey
 generalize (fun n => CstIs (Costs (z, l) x y) n) = Q at *
 go_enter Try.func17, Try.ntmps17
 go_wp2_with (first
  | (go_at_call 36; (with_reducible refine (HW.out _ (by go_grown)).mono ?_); rintro e w1 ⟨n, rfl, hq, hb⟩; have HQ := hidP hq; have HB1 : Hid (Below w.heap.size w w1) := (boxed hb (by simp)).2.2; clear hq hb))
 go_ret
 exact ⟨n, rfl, HQ.out, HB1.out⟩
end Go.Proofs.Ytfpibdaedfilaaa.Wt
namespace Go.Proofs.Ytfpibdaedfilaaa.Pl
set_option linter.unusedVariables false
def infW (a b : Int) : Bool := a == 1000000001 && b == 1000000001
def fnW (a : Int) : Bool := decide (0 ≤ a) && decide (a ≤ 1000000000)
def mayW (a b : Int) : Bool := infW a b || fnW a && fnW b
def lsW (a b c d : Int) : Bool := decide (a < c) || a == c && decide (b < d)
theorem mayW_iff {a b : Int} : mayW a b = true ↔ (a = 1000000001 ∧ b = 1000000001) ∨ ((0 ≤ a ∧ a ≤ 1000000000) ∧ (0 ≤ b ∧ b ≤ 1000000000)) := by
 simp [mayW, infW, fnW]
def thnW (a b c d : Int) : Int × Int × Int := if (infW a b || infW c d) = true then (1000000001, 1000000001, 0) else if 1000000000 < a + c ∨ 1000000000 < b + d then (0, 0, 4) else (a + c, b + d, 0)
theorem lsW_key (x y : Int) : lsW (kA x) (kB x) (kA y) (kB y) = decide (x < y) := by
 have h := key_less x y
 unfold lsW
 by_cases g : x < y
 ·rw [decide_eq_true g]
  rcases h.1 g with k | ⟨k1, k2⟩
  ·simp [k]
  ·simp [k1, k2]
 ·rw [decide_eq_false g]
  have h1 : ¬ kA x < kA y := fun k => g (h.2 (.inl k))
  have h2 : kA x = kA y → ¬ kB x < kB y := fun k1 k2 => g (h.2 (.inr ⟨k1, k2⟩))
  by_cases e : kA x = kA y
  ·simp [e, h2 e]
  ·simp [e, h1]
theorem keyOk_may {x : Int} (h : KeyOk x) : mayW (kA x) (kB x) = true := mayW_iff.2 (by
 rcases h with rfl | h
 ·exact .inl noK_parts
 ·exact .inr ⟨⟨h.1, h.2.1⟩, h.2.2⟩)
def timW (a b c d : Int) : Int × Int × Int := if (mayW a b && mayW c d) = true then thnW a b c d else (0, 0, 2)
theorem infW_key {x : Int} : infW (kA x) (kB x) = true ↔ x = noK := by
 unfold infW
 rw [Bool.and_eq_true, beq_iff_eq, beq_iff_eq, key_eq x noK, noK_parts.1, noK_parts.2]
theorem timW_key {x y : Int} (hx : KeyOk x) (hy : KeyOk y) : ((timW (kA x) (kB x) (kA y) (kB y)).2.2 = 0 ∧ (timW (kA x) (kB x) (kA y) (kB y)).1 = kA (bothK x y) ∧ (timW (kA x) (kB x) (kA y) (kB y)).2.1 = kB (bothK x y)) ∨ ((timW (kA x) (kB x) (kA y) (kB y)).2.2 = 4 ∧ bothK x y = noK) := by
 unfold timW
 rw [keyOk_may hx, keyOk_may hy, if_pos (by rfl)]
 unfold thnW
 by_cases h : (infW (kA x) (kB x) || infW (kA y) (kB y)) = true
 ·rw [if_pos h]
  left
  have e : bothK x y = noK := by
   rw [Bool.or_eq_true, infW_key, infW_key] at h
   unfold bothK
   refine if_neg ?_
   unfold KeyOk at hx hy
   rcases h with rfl | rfl
   ·rw [noK_parts.1]
    rcases hy with rfl | hy
    ·rw [noK_parts.1]; omega
    ·omega
   ·rw [noK_parts.1]
    rcases hx with rfl | hx
    ·rw [noK_parts.1]; omega
    ·omega
  rw [e]
  exact ⟨rfl, noK_parts.1.symm, noK_parts.2.symm⟩
 ·rw [if_neg h]
  rw [Bool.or_eq_true, infW_key, infW_key] at h
  have hx2 := hx.resolve_left fun g => h (.inl g)
  have hy2 := hy.resolve_left fun g => h (.inr g)
  unfold bothK
  by_cases g : kA x + kA y ≤ 1000000000 ∧ kB x + kB y ≤ 1000000000
  ·left
   rw [if_neg (by omega), if_pos g]
   unfold kA kB at *
   refine ⟨rfl, ?_, ?_⟩ <;> simp only <;> omega
  ·right
   rw [if_pos (by omega), if_neg g]
   exact ⟨rfl, rfl⟩
end Go.Proofs.Ytfpibdaedfilaaa.Pl
