/- The program's push: a list of arcs, an end, the total. -/
import Derived.Test.YtfpibdaedfilaaaGam
import Derived.Test.YtfpibdaedfilaaaGai
import Derived.RegionTactic
import Derived.ChangeAlike
import Derived.Test.YtfpibdaedfilaaaGah
import Derived.Shelf.Abstract
import Derived.Deep.DeepCutAuto
import Derived.Test.YtfpibdaedfilaaaGal
import Derived.Test.YtfpibdaedfilaaaGab
namespace Go.Proofs.Ytfpibdaedfilaaa.Wt
open Go.ChangeShapes Go.WideShapes Go.ChangeAt Go.RowKit
open Go.Proofs.Ytfpibdaedfilaaa.Pl
set_option linter.unusedVariables false
set_option linter.unusedSimpArgs false
def psdA (vs : List Int) (own : Int) (a : Ar) : Ar := (a.1, a.2.1, a.2.2.1 + (el vs a.2.2.2.toNat - own), a.2.2.2)
theorem psdA_psh (vs : List Int) (q : Nat) : psdA vs (el vs q) = pshA vs q := by
 funext a
 unfold psdA pshA
 rw [Int.add_sub_assoc]
def PsdRes (r : Bool) (x : List Ar) (w : World) (e : Ending) (w' : World) : Prop :=
 (r = true ∧ e = .returned (.tuple #[.slice none 0 0, .int .i64 4]) ∧ Below w.heap.size w w') ∨
 (r = false ∧ ∃ v', e = .returned (.tuple #[v', .int .i64 0]) ∧ OwnArcs w' w.heap.size v' x ∧ Below w.heap.size w w')
set_option maxRecDepth 100000 in
set_option maxHeartbeats 3200000 in
theorem psd_any (va vn : Value) (ar : List Ar) (vs : List Int) (n : Nat) (own : Int) (w : World) (hA : Arcs w va ar) (hL4 : ar.length ≤ 400) (hN : Nums w vn vs) (hl : vs.length = n) (hvs : ∀ j, j < n → 0 ≤ el vs j ∧ el vs j ≤ 1000000001) (hto : ∀ a ∈ ar, ∃ t : Nat, a.2.2.2 = (t : Int) ∧ t < n) (hwt : ∀ a ∈ ar, 0 ≤ a.2.2.1 ∧ a.2.2.1 ≤ 1000000000) (ho0 : 0 ≤ own) (ho1 : own ≤ 1000000001) (r : Bool) (hr : (ar.any fun a => decide (1000000000 < (psdA vs own a).2.2.1)) = r) :
  Calls Try.prog 23 #[va, vn, .int .i64 own] w fun e w' => PsdRes r (ar.map (psdA vs own)) w e w' := by
 obtain ⟨a2, cap2, rfl, hga⟩ := hA.get
 obtain ⟨xn, cn, rfl, hcn⟩ := hN.get
 rw [hl] at hcn ⊢
 have HGA := hidP hga
 have HCN := hidP hcn
 have HVS := hidP hvs
 have HTO := hidP hto
 have HWT := hidP hwt
 have HRY : Hid (∀ j, j < ar.length → 1000000000 < (psdA vs own (el ar j)).2.2.1 → r = true) := fun j hj h => by
  rw [← hr, List.any_eq_true]
  exact ⟨_, el_mem hj, by simpa using h⟩
 have HRN : Hid ((∀ j, j < ar.length → (psdA vs own (el ar j)).2.2.1 ≤ 1000000000) → r = false) := fun h => by
  rw [← hr, List.any_eq_false]
  intro a ha
  obtain ⟨s, hs, e⟩ := List.getElem_of_mem ha
  have := h s hs
  rw [el_get hs, e] at this
  simpa using this
 clear hA hN hga hcn hvs hto hwt hl hr
 obtain ⟨G, hG⟩ : ∃ G : Ar → Ar, psdA vs own = G := ⟨_, rfl⟩
 have HG := hidP hG
 rw [hG] at HRY HRN ⊢
 clear hG
 generalize hL : ar.length = L at *
 have HL := hidP hL
 clear hL
 have hmk := run_arcs L (by omega)
 go_enter Try.func23, Try.ntmps23
 go_wp2
 clear hmk
 go_loopw [16] (fun i wi => ∃ (k : Nat) (xs : List Ar), k ≤ L ∧ i = .int .i64 k ∧ Hid (xs.length = L) ∧ Hid (Blk wi w.heap.size (xs.flatMap encA).toArray 58) ∧ Hid (∀ j, j < k → el xs j = G (el ar j)) ∧ Hid (∀ j, j < k → (G (el ar j)).2.2.1 ≤ 1000000000) ∧ Hid (Below w.heap.size w wi)) (fun i _ => L - (intOf i).toNat)
 case atStart => exact ⟨0, List.replicate L ((0, 0, 0, 0) : Ar), Nat.zero_le _, rfl, by show _ = _; simp, Blk.made _ _ _, fun j hj => absurd hj (Nat.not_lt_zero _), fun j hj => absurd hj (Nat.not_lt_zero _), (Below.refl _ _).alloc (Nat.le_refl _) _⟩
 case round =>
  obtain ⟨k, xs, hk, rfl, hxl, hbx, hold, hlow, hb⟩ := hrel
  obtain ⟨w3, hw3⟩ : ∃ w3, w3 = wr := ⟨_, rfl⟩
  subst hw3
  by_cases hlt : k < L
  ·obtain ⟨b3, off3, rfl, hb3l, q0, q1, q2, q3⟩ := HGA.out k hlt
   have q0 := (hb.out.cell (p := ⟨b3, off3 + k * 4, none⟩) hb3l).trans q0
   have q1 := (hb.out.cell (p := ⟨b3, off3 + k * 4 + 1, none⟩) hb3l).trans q1
   have q2 := (hb.out.cell (p := ⟨b3, off3 + k * 4 + 2, none⟩) hb3l).trans q2
   have q3 := (hb.out.cell (p := ⟨b3, off3 + k * 4 + 3, none⟩) hb3l).trans q3
   obtain ⟨t, ht, htn⟩ := HTO.out (el ar k) (el_mem (by rw [HL.out]; exact hlt))
   obtain ⟨g0, g1⟩ := HWT.out (el ar k) (el_mem (by rw [HL.out]; exact hlt))
   have k0 : (0 : Int) ≤ (k : Int) := by omega
   have k1 : (k : Int) < (L : Int) := by omega
   have t0 : (0 : Int) ≤ (t : Int) := by omega
   have t1 : (t : Int) < (n : Int) := by omega
   obtain ⟨bn, on, rfl, hbnl, m0⟩ := HCN.out t htn
   have m0 := (hb.out.cell (p := ⟨bn, on + t, none⟩) hbnl).trans m0
   obtain ⟨v0, v1⟩ := HVS.out t htn
   have HGE : Hid (G (el ar k) = ((el ar k).1, (el ar k).2.1, (el ar k).2.2.1 + (el vs t - own), (t : Int))) := by
    show _ = _
    rw [← HG.out]
    unfold psdA
    simp only [ht, Int.toNat_natCast]
   have HR1 := hidP (HRY.out k hlt)
   rw [HGE.out] at HR1
   rw [ht] at q3
   obtain ⟨p, hp⟩ : ∃ p : Ar, el ar k = p := ⟨_, rfl⟩
   have HP := hidP hp
   rw [hp] at q0 q1 q2 g0 g1 HGE HR1
   clear hp ht
   obtain ⟨p0, p1, p2, p3⟩ := p
   simp only at q0 q1 q2 g0 g1 HGE HR1
   generalize el vs t = y at *
   have hsz := hb.out.size
   have hbl := hbx.out.lt
   have hbl2 : w.heap.size ≠ w3.heap.size := by omega
   have hbw : bn < w3.heap.size := by omega
   have hbw2 : bn ≠ w3.heap.size := by omega
   have hx0 := hxl.out
   have e0 := hbx.out.cell (k * 4) (v := .int .i64 (el xs k).1) (by rw [List.getElem?_toArray]; exact flat_at encA_len xs k (by omega) 0 (by omega))
   have e1 := hbx.out.cell (k * 4 + 1) (v := .int .i64 (el xs k).2.1) (by rw [List.getElem?_toArray]; exact flat_at encA_len xs k (by omega) 1 (by omega))
   have e2 := hbx.out.cell (k * 4 + 2) (v := .int .i64 (el xs k).2.2.1) (by rw [List.getElem?_toArray]; exact flat_at encA_len xs k (by omega) 2 (by omega))
   have e3 := hbx.out.cell (k * 4 + 3) (v := .int .i64 (el xs k).2.2.2) (by rw [List.getElem?_toArray]; exact flat_at encA_len xs k (by omega) 3 (by omega))
   have f0 := hbx.out.fz (k * 4)
   have f1 := hbx.out.fz (k * 4 + 1)
   have f2 := hbx.out.fz (k * 4 + 2)
   have f3 := hbx.out.fz (k * 4 + 3)
   clear hx0
   by_cases hov : 1000000000 < p2 + (y - own)
   ·have HE := hidP (HR1.out hov)
    go_wp2
    go_region
    go_wp2
    exact bodyPost_ret (v := .tuple #[.slice none 0 0, .int .i64 4]) (by simp [results, Try.results23, go_sem]) rfl (.inl ⟨HE.out, rfl, (hb.out.alloc hb.out.size _).drew⟩)
   ·go_wp2
    go_region
    go_wp2
    go_roundw
    case rel =>
     refine ⟨k + 1, xs.set k (p0, p1, p2 + (y - own), (t : Int)), by omega, by go_num, ?_, ?_, ?_, ?_, ?_⟩
     ·show _ = _
      simp
      exact hxl.out
     ·have h := (((hbx.out.set (k * 4) (.int .i64 p0)).set (k * 4 + 1) (.int .i64 p1)).set (k * 4 + 2) (.int .i64 (p2 + (y - own)))).set (k * 4 + 3) (.int .i64 (t : Int))
      rw [set_arc (by rw [hxl.out]; omega) (p0, p1, p2 + (y - own), (t : Int))] at h
      exact h.alloc _
     ·intro j hj
      rw [el_setS (by rw [hxl.out]; omega)]
      by_cases hjk : j = k
      ·subst hjk
       rw [if_pos rfl, HP.out, HGE.out]
      ·rw [if_neg hjk]
       exact hold.out j (by omega)
     ·intro j hj
      by_cases hjk : j = k
      ·subst hjk
       rw [HP.out, HGE.out]
       simp only
       omega
      ·exact hlow.out j (by omega)
     ·have h := hb.out
      show Below _ _ _
      go_grown
    case measure => simp [intOf]; omega
  ·have hke : k = L := by omega
   have hnl : ¬ (k : Int) < (L : Int) := by omega
   have hxe : xs = ar.map G := by
    refine el_ext (by rw [List.length_map, HL.out]; exact hxl.out) fun j hj => ?_
    rw [hold.out j (by rw [hxl.out] at hj; omega), el_map (by rw [HL.out]; rw [hxl.out] at hj; omega)]
   have HE := hidP (HRN.out fun j hj => hlow.out j (by omega))
   have HOW := hidP (arcs_block (B := w.heap.size) hbx.out (Nat.le_refl _) (by rw [hxl.out]; omega))
   rw [hxe, List.length_map, HL.out] at HOW
   clear hxe
   go_wp2
   exact bodyPost_ret (v := .tuple #[.slice (some ⟨w.heap.size, 0, none⟩) L L, .int .i64 0]) (by simp [results, Try.results23, go_sem]) rfl (.inr ⟨HE.out, _, rfl, by unfold OwnArcs; rw [List.length_map, HL.out]; exact HOW.out, hb.out⟩)
set_option maxRecDepth 100000 in
theorem less_any (f o : Int) (w : World) (hf0 : 0 ≤ f) (hf1 : f ≤ 1000000001) (ho0 : 0 ≤ o) (ho1 : o ≤ 1000000001) (r : Int) (hr : (if f = 1000000001 then 1000000001 else f - o) = r) :
  Calls Try.prog 24 #[.int .i64 f, .int .i64 o] w fun e w' => e = .returned (.int .i64 r) ∧ Below w.heap.size w w' := by
 by_cases h : f = 1000000001
 ·rw [if_pos h] at hr
  subst hr
  subst h
  go_enter Try.func24, Try.ntmps24
  go_wp2
  go_ret
  exact ⟨rfl, Below.refl _ _⟩
 ·rw [if_neg h] at hr
  subst hr
  have h1 : (f == 1000000001) = false := by simpa using h
  go_enter Try.func24, Try.ntmps24
  go_wp2
  go_ret
  exact ⟨rfl, Below.refl _ _⟩
set_option maxRecDepth 100000 in
theorem totalOf_any (z : Int) (vn : Value) (vs : List Int) (w : World) (hN : Nums w vn vs) (hz : z < vs.length) (r : Int) (hr : (if z < 0 then 0 else el vs z.toNat) = r) :
  Calls Try.prog 25 #[.int .i64 z, vn] w fun e w' => e = .returned (.int .i64 r) ∧ Below w.heap.size w w' := by
 obtain ⟨xn, cn, rfl, hcn⟩ := hN.get
 by_cases h : z < 0
 ·rw [if_pos h] at hr
  subst hr
  clear hcn hN
  go_enter Try.func25, Try.ntmps25
  go_wp2
  go_ret
  exact ⟨rfl, Below.refl _ _⟩
 ·rw [if_neg h] at hr
  obtain ⟨t, rfl⟩ : ∃ t : Nat, z = (t : Int) := ⟨z.toNat, by omega⟩
  rw [Int.toNat_natCast] at hr
  obtain ⟨b, o, rfl, hb, m0⟩ := hcn t (by omega)
  rw [hr] at m0
  clear hcn hN hr
  generalize vs.length = n at *
  have t0 : (0 : Int) ≤ (t : Int) := by omega
  go_enter Try.func25, Try.ntmps25
  go_wp2
  go_ret
  exact ⟨rfl, Below.refl _ _⟩
theorem infoIntS : (Try.prog.info? 3).map (fun i => (i.zero, i.size, i.bytes)) = some (some (.int .i64 0), 1, 8) := by kernel_rfl
theorem run_boolsS (n : Nat) (hn : n ≤ 1000) (W : World) : (Instr.makeSlice 89 (.int .i64 (n : Int)) (.int .i64 (n : Int))).run Try.prog W = .ok (.slice (some ⟨W.heap.size, 0, none⟩) n n) (W.alloc (.cells ((List.replicate n false).map Value.bool).toArray 4)) := by
 obtain ⟨i1, hi1, hy0, hy1, hy2⟩ := info_parts infoBool
 have h := run_make (P := Try.prog) W 89 4 i1 _ Try.underlying89 hi1 hy0 .i64 .i64 n n (by omega) (by omega) (by rw [hy2]; omega) (by omega)
 rw [hy1, Int.toNat_natCast, made_bools] at h
 exact h
def AskL (g : Nat) (lb : Array Value) (L : Nat → List Int) (n : Nat) (w : World) (r : Option Nat) : Prop :=
 (∀ ar W, (callFunc g ar).run Try.prog W = .ok (.enter g ar) W) ∧
 ∀ q, q < n → ∀ W : World, w.grownBy W r → Calls Try.prog g (#[.int .i64 (q : Int)] ++ lb) W fun e w' => ∃ v', e = .returned v' ∧ Nums w' v' (L q) ∧ Below W.heap.size W w'
set_option maxRecDepth 100000 in
set_option maxHeartbeats 3200000 in
theorem spread_any (n : Nat) (v : Value) (F : List Int) (g : Nat) (lb : Array Value) (L : Nat → List Int) (base : Nat) (w : World) (hF : w.ownsRow base 3 1 v F.length (F.flatMap encI1)) (hbase : base ≤ w.heap.size) (h60 : n ≤ 60) (hFn : ∀ x ∈ F, 0 ≤ x ∧ x < (n : Int)) (hFl : F.length ≤ 60) (hg : AskL g lb L n w v.ownBlock) (hLn : ∀ q, q < n → ∀ y ∈ L q, 0 ≤ y ∧ y < (n : Int)) (hLl : ∀ q, q < n → (L q).length ≤ 400) :
  Calls Try.prog 63 #[.int .i64 (n : Int), v, .func (.func g) #[] lb] w fun e w' => ∃ v', e = .returned v' ∧ (∃ bs, Bools w' v' bs ∧ Least (SpreadC n F L) n bs) ∧ w.grownBy w' v.ownBlock := by
 obtain ⟨i1, hi1, hy0, hy1, hy2⟩ := info_parts infoIntS
 obtain ⟨eg, hg⟩ := hg
 have HG : Hid (∀ q, q < n → ∀ W : World, w.grownBy W v.ownBlock → Calls Try.prog g (#[.int .i64 (q : Int)] ++ lb) W fun e w' => ∃ v', e = .returned v' ∧ Nums w' v' (L q) ∧ Below W.heap.size W w') := hg
 have HLN : Hid (∀ q, q < n → ∀ y ∈ L q, 0 ≤ y ∧ y < (n : Int)) := hLn
 have HLL : Hid (∀ q, q < n → (L q).length ≤ 400) := hLl
 have HF : Hid (w.ownsRow base 3 1 v F.length (F.flatMap encI1)) := hF
 have HD0 : Hid (Dfs n 400 30000 F L (List.replicate n false) F) := Dfs.start hFn (by omega)
 have hmk := run_boolsS n (by omega)
 have hnot : ∀ (x : Bool) (w : World), (Op.unary .not (.bool x)).run Try.prog w = .ok (.bool (!x)) w := fun _ _ => rfl
 clear hF hg hLn hLl hFn
 generalize hr : v.ownBlock = r at *
 have HNR : Hid (Near w r v) := .inl hr
 clear hr
 go_enter Try.func63, Try.ntmps63
 go_wp2
 go_loopw [8] (fun s8 wr => ∃ (bs : List Bool) (ws : List Int) (vo : Value), vo = s8 ∧ Hid (Dfs n 400 30000 F L bs ws) ∧ Hid (wr.ownsRow base 3 1 vo ws.length (ws.flatMap encI1)) ∧ Hid (Near w r vo) ∧ Hid (Blk wr w.heap.size (bs.map Value.bool).toArray 4) ∧ Hid (w.grownBy wr r)) (fun s8 wr => falses wr w.heap.size * 401 + lenV s8)
 case atStart => exact ⟨_, F, v, rfl, HD0, HF.out.alloc _, HNR, by (show Blk _ _ _ _); rw [show (List.map Value.bool (List.replicate n false)).toArray = Array.replicate n (Value.bool false) from by simp]; exact Blk.made _ _ _, gNew ((Below.refl _ _).alloc (Nat.le_refl _) _)⟩
 case round =>
  obtain ⟨bs, ws, vo, rfl, hd, hown, hnear, hblk, hgr⟩ := hrel
  obtain ⟨a, cap, hvo⟩ := own_sl hown.out
  subst hvo
  by_cases hz : ws.length = 0
  ·have hwz : ws = [] := List.eq_nil_of_length_eq_zero hz
   have HLS : Hid (Least (SpreadC n F L) n bs) := by have h9 := hd.out; rw [hwz] at h9; exact h9.done
   have HBL : Hid (Bools wr (.slice (some ⟨w.heap.size, 0, none⟩) n n) bs) := by have h9 := bools_block (cap := n) hblk.out; rw [hd.out.len] at h9; exact h9
   have hz' : ((ws.length : Nat) : Int) = 0 := by omega
   clear hwz
   go_wp2
   go_ret
   exact ⟨_, rfl, ⟨bs, HBL.out, HLS.out⟩, hgr.out⟩
  ·obtain ⟨k, hk⟩ : ∃ k, ws.length = k + 1 := ⟨ws.length - 1, by omega⟩
   obtain ⟨gb, hga, hnc, hcut⟩ := own_cut (k := k) hown.out (by omega)
   subst hga
   have hin := hd.out.inn (el ws k) (el_mem (by omega))
   have c0 := own_num hown.out (j := k) (by omega)
   obtain ⟨q, hq⟩ : ∃ q : Nat, el ws k = (q : Int) := ⟨(el ws k).toNat, by omega⟩
   rw [hq] at hin c0
   have hqn : q < n := by omega
   have hroom := hd.out.room
   rw [hk] at hroom
   have HCUT : Hid (wr.ownsRow base 3 1 (.slice (some ⟨gb, 0, none⟩) k cap) k ((ws.take k).flatMap encI1)) := hcut
   have HNC : Hid (Near w r (.slice (some ⟨gb, 0, none⟩) k cap)) := hnear.out
   have HFL : Hid (falses wr w.heap.size = bs.count false) := falses_blk hblk.out
   have HTK : Hid ((ws.take k).length = k) := by show _ = _; rw [List.length_take]; omega
   have y0 := bool_cell hblk.out (j := q) (by rw [hd.out.len]; exact hqn)
   have y1 := hblk.out.fz q
   have k1 : (0 : Int) < (k : Int) + 1 := by omega
   have k2 : (0 : Int) ≤ (k : Int) := by omega
   have k3 : (k : Int) < (k : Int) + 1 := by omega
   have k4 : (k : Int) ≤ (cap : Int) := by omega
   have k5 : IntKind.i64.wrap (k : Int) = (k : Int) := wrapI (by omega) (by omega)
   have q0 : (0 : Int) ≤ (q : Int) := by omega
   have q1 : (q : Int) < (n : Int) := by omega
   rcases bool_cases' (el bs q) with hf | hf
   ·have HD2 : Hid (Dfs n 400 30000 F L bs (ws.take k)) := hd.out.skip hk (by rw [hq]; exact hf)
    rw [hf] at y0
    rw [hk]
    clear hf hown hnear hcut hd hroom hz
    go_wp2
    go_roundw
    case rel => exact ⟨bs, ws.take k, _, rfl, HD2, by rw [HTK.out]; exact HCUT, HNC, hblk, hgr⟩
    case measure => simp [lenV]
   ·have HD2 : Hid (Dfs n 400 30000 F L (bs.set q true) (ws.take k ++ L q)) := hd.out.step hk hq hf (HLN.out q hqn) (HLL.out q hqn)
    have HCS : Hid ((bs.set q true).count false + 1 = bs.count false) := count_set (by rw [hd.out.len]; exact hqn) hf
    rw [hf] at y0
    rw [hk]
    have hgne : some w.heap.size ≠ Value.ownBlock (.slice (some ⟨gb, 0, none⟩) k cap) := own_ne hcut hblk.out (by decide)
    have HB2 : Hid (Blk (wr.setCell ⟨w.heap.size, q, none⟩ (.bool true)) w.heap.size ((bs.set q true).map Value.bool).toArray 4) := by have h9 := hblk.out.set q (.bool true); rw [set_bool] at h9; exact h9
    have HG2 : Hid (w.grownBy (wr.setCell ⟨w.heap.size, q, none⟩ (.bool true)) r) := gSetNew hgr.out (Nat.le_refl _) q _
    have HO2 : Hid ((wr.setCell ⟨w.heap.size, q, none⟩ (.bool true)).ownsRow base 3 1 (.slice (some ⟨gb, 0, none⟩) k cap) k ((ws.take k).flatMap encI1)) := hcut.kept (gSet wr w.heap.size q _) (.inr (Ne.symm hgne))
    have hL4 := HLL.out q hqn
    have HC1 : Hid (Calls Try.prog g (#[.int .i64 (q : Int)] ++ lb) (wr.setCell ⟨w.heap.size, q, none⟩ (.bool true)) fun e w' => ∃ v', e = .returned v' ∧ Nums w' v' (L q) ∧ Below (wr.setCell ⟨w.heap.size, q, none⟩ (.bool true)).heap.size (wr.setCell ⟨w.heap.size, q, none⟩ (.bool true)) w') := HG.out q hqn _ HG2.out
    clear hf hown hnear hcut hd hblk hgr hz
    go_wp2_with (first
     | (go_at_fn g; refine HC1.out.mono ?_; rintro e w' ⟨v', rfl, hnum, hb'⟩; have HNUM : Hid (Nums w' v' (L q)) := hnum; have HB3 : Hid (Below _ _ w') := hb'; clear hnum hb'; have HO3 : Hid (w'.ownsRow base 3 1 (.slice (some ⟨gb, 0, none⟩) k cap) k ((ws.take k).flatMap encI1)) := ownBelow HO2.out HB3.out; have HG3 : Hid (w.grownBy w' r) := gTrans HG2.out (gNew HB3.out); have HBK3 : Hid (Blk w' w.heap.size ((bs.set q true).map Value.bool).toArray 4) := HB2.out.below HB3.out HB2.out.lt)
     | (at_builtin; refine wpList_append_spot encI1_len (by decide) encI1_one rfl _ _ 34 rfl base 3 i1 _ 8 Try.underlying34 hi1 hy0 hy1 hy2 rfl _ k ((ws.take k).flatMap encI1) rfl HO3.out _ (L q) rfl HNUM.out (by unfold maxLen; omega) (by omega) (Nat.le_trans hbase HG3.out.size) ?_; intro v4 w4 ho4 hg4 hn4; have HO4 : Hid (w4.ownsRow base 3 1 v4 (ws.take k ++ L q).length ((ws.take k ++ L q).flatMap encI1)) := (by show World.ownsRow _ _ _ _ _ _ _; rw [List.length_append, HTK.out, List.flatMap_append]; exact ho4); have HN4 : Hid (Near w r v4) := HNC.out.next HG3.out hn4; have HG4 : Hid (w.grownBy w4 r) := HNC.out.grown HG3.out hg4; have HB4 : Hid (Blk w4 w.heap.size ((bs.set q true).map Value.bool).toArray 4) := HBK3.out.grown hg4 hgne; have hlv : lenV v4 = k + (L q).length := (by obtain ⟨a9, c9, h9⟩ := own_sl ho4; rw [h9]; rfl); clear ho4 hg4 hn4))
    go_roundw
    case rel => exact ⟨bs.set q true, ws.take k ++ L q, _, rfl, HD2, HO4, HN4, HB4, HG4⟩
    case measure =>
     have h1 := falses_blk HB4.out
     have h2 := HCS.out
     have h3 := HFL.out
     rw [h1, h3, ← h2]
     simp [hlv]
     simp only [lenV]
     omega
theorem own_num1 (w : World) (x : Int) (base : Nat) (hb : base ≤ w.heap.size) (e : TypeId) : (w.alloc (.cells #[.int .i64 x] e)).ownsRow base e 1 (.slice (some ⟨w.heap.size, 0, none⟩) 1 1) [x].length ([x].flatMap encI1) := by
 refine ⟨rfl, .inr ⟨w.heap.size, 1, #[.int .i64 x], rfl, hb, Blk.made _ _ _, by simp, by unfold maxLen; omega, rfl, rfl⟩⟩
theorem startL_neg {z : Int} (h : z < 0) : startL z = [] := by unfold startL; rw [if_pos h]
theorem startL_pos {z : Int} (h : ¬ z < 0) : startL z = [z] := by unfold startL; rw [if_neg h]
theorem starts_any (z : Int) (vs : Value) (w : World) :
  Calls Try.prog 64 #[.agg #[.int .i64 z, vs]] w fun e w' => ∃ v', e = .returned v' ∧ w'.ownsRow w.heap.size 3 1 v' (startL z).length ((startL z).flatMap encI1) ∧ Below w.heap.size w w' := by
 by_cases hz : z < 0
 ·have HE : Hid (startL z = []) := startL_neg hz
  go_enter Try.func64, Try.ntmps64
  go_wp2
  go_ret
  exact ⟨_, rfl, by rw [HE.out]; exact World.ownsRow_nil _ _ _ _, by go_grown⟩
 ·have HE : Hid (startL z = [z]) := startL_pos hz
  go_enter Try.func64, Try.ntmps64
  go_wp2
  go_ret
  refine ⟨_, rfl, ?_, by go_grown⟩
  rw [HE.out]
  have h := own_num1 (w.alloc (.cells #[.int .i64 z, vs] 27)) z w.heap.size (by simp) 3
  simp only [World.size_alloc] at h
  exact h
theorem followed_any (z : Int) (vs : Value) (w : World) :
  Calls Try.prog 65 #[.agg #[.int .i64 z, vs]] w fun e w' => e = .returned (.func (.func 84) #[] #[.pointer (some ⟨w.heap.size, 0, none⟩)]) ∧ Blk w' w.heap.size #[.int .i64 z, vs] 27 ∧ Below w.heap.size w w' := by
 go_enter Try.func65, Try.ntmps65
 go_wp2
 go_ret
 exact ⟨rfl, Blk.made _ _ _, by go_grown⟩
theorem toL_take {ar : List Ar} {j : Nat} (h : j < ar.length) : (ar.take (j + 1)).map (fun a => a.2.2.2) = (ar.take j).map (fun a => a.2.2.2) ++ [(el ar j).2.2.2] := by rw [take_el h]; simp
set_option maxRecDepth 100000 in
set_option maxHeartbeats 1600000 in
theorem leads_any (z : Int) (vs : Value) (l : List St) (w : World) (h : Mach w (.agg #[.int .i64 z, vs]) (z, l)) (hok : okM (z, l)) (B : Nat) (hB : Blk w B #[.int .i64 z, vs] 27) (q : Nat) (hq : q < l.length) :
  Calls Try.prog 84 #[.int .i64 (q : Int), .pointer (some ⟨B, 0, none⟩)] w fun e w' => ∃ v', e = .returned v' ∧ Nums w' v' (toL l q) ∧ Below w.heap.size w w' := by
 obtain ⟨i1, hi1, hy0, hy1, hy2⟩ := info_parts infoIntS
 obtain ⟨vs', hvs, hS⟩ := h
 simp only [Value.agg.injEq, Array.mk.injEq, List.cons.injEq, and_true, true_and] at hvs
 subst hvs
 obtain ⟨a, cap, rfl, hc⟩ := hS.get
 obtain ⟨b, off, va, rfl, hbl, g0, g1, gA⟩ := hc q hq
 obtain ⟨a2, cap2, rfl, hga⟩ := gA.get
 have hL32 := hok.2 q hq
 have HGA : Hid (∀ j, j < (el l q).2.length → ∃ b off, a2 = some ⟨b, off, none⟩ ∧ b < w.heap.size ∧ w.cell? ⟨b, off + j * 4, none⟩ = some (.int .i64 (el (el l q).2 j).1) ∧ w.cell? ⟨b, off + j * 4 + 1, none⟩ = some (.int .i64 (el (el l q).2 j).2.1) ∧ w.cell? ⟨b, off + j * 4 + 2, none⟩ = some (.int .i64 (el (el l q).2 j).2.2.1) ∧ w.cell? ⟨b, off + j * 4 + 3, none⟩ = some (.int .i64 (el (el l q).2 j).2.2.2)) := hga
 have c1 := hB.cell 1 (v := .slice (some ⟨b, off, none⟩) l.length cap) rfl
 have q0 : (0 : Int) ≤ (q : Int) := by omega
 have q1 : (q : Int) < (l.length : Int) := by omega
 have HTL : Hid (toL l q = (el l q).2.map (fun a => a.2.2.2)) := rfl
 clear hS hc gA hga hB g0 hok
 simp only at hL32
 generalize l.length = n at *
 generalize (el l q).2 = ar at *
 generalize hL : ar.length = L at *
 have HL : Hid (ar.length = L) := hL
 clear hL
 go_enter Try.func84, Try.ntmps84
 go_wp2
 go_loopw [4, 14] (fun s4 i wr => ∃ (j : Nat) (vo : Value), j ≤ L ∧ vo = s4 ∧ i = .int .i64 j ∧ Hid (wr.ownsRow w.heap.size 3 1 vo ((ar.take j).map (fun a => a.2.2.2)).length (((ar.take j).map (fun a => a.2.2.2)).flatMap encI1)) ∧ Hid (Below w.heap.size w wr)) (fun _ i _ => L - (intOf i).toNat)
 case atStart => exact ⟨0, _, Nat.zero_le _, rfl, rfl, World.ownsRow_nil _ _ _ _, Below.refl _ _⟩
 case round =>
  obtain ⟨j, vo, hj, rfl, rfl, hown, hb⟩ := hrel
  by_cases hjL : j < L
  ·obtain ⟨b3, off3, rfl, hb3l, e0, e1, e2, e3⟩ := HGA.out j hjL
   have e0 := (hb.out.cell (p := ⟨b3, off3 + j * 4, none⟩) hb3l).trans e0
   have e1 := (hb.out.cell (p := ⟨b3, off3 + j * 4 + 1, none⟩) hb3l).trans e1
   have e2 := (hb.out.cell (p := ⟨b3, off3 + j * 4 + 2, none⟩) hb3l).trans e2
   have e3 := (hb.out.cell (p := ⟨b3, off3 + j * 4 + 3, none⟩) hb3l).trans e3
   have HT : Hid ((ar.take (j + 1)).map (fun a => a.2.2.2) = (ar.take j).map (fun a => a.2.2.2) ++ [(el ar j).2.2.2]) := toL_take (by rw [HL.out]; exact hjL)
   have hkl : ((ar.take j).map (fun a => a.2.2.2)).length ≤ L := by rw [List.length_map, List.length_take]; omega
   generalize (ar.take j).map (fun a => a.2.2.2) = ks at *
   generalize el ar j = c at *
   have hj0 : (0 : Int) ≤ (j : Int) := by omega
   have hj1 : (j : Int) < (L : Int) := by omega
   have HD : Hid ((wr.alloc (.cells #[.int .i64 c.1, .int .i64 c.2.1, .int .i64 c.2.2.1, .int .i64 c.2.2.2] 58)).ownsRow w.heap.size 3 1 vo ks.length (ks.flatMap encI1)) := hown.out.alloc _
   have HDB : Hid (Below w.heap.size w (wr.alloc (.cells #[.int .i64 c.1, .int .i64 c.2.1, .int .i64 c.2.2.1, .int .i64 c.2.2.2] 58))) := hb.out.alloc hb.out.size _
   go_wp2_with (first
    | (at_builtin; refine wpList_append_rows encI1_len (by decide) encI1_one rfl _ _ 34 rfl w.heap.size 3 i1 _ 8 Try.underlying34 hi1 hy0 hy1 hy2 rfl _ ks.length (ks.flatMap encI1) rfl (HD.out.alloc _) _ [c.2.2.2] rfl (by have h9 := oneRow (enc := encI1) (wr.alloc (.cells #[.int .i64 c.1, .int .i64 c.2.1, .int .i64 c.2.2.1, .int .i64 c.2.2.2] 58)) c.2.2.2 rfl 3; simp only [World.size_alloc] at h9; exact h9) (by simp; unfold maxLen; omega) (by simp; omega) (by have := HDB.out.size; simp at this ⊢; omega) ?_; intro v4 w4 ho4 hg4; obtain ⟨HO4, HB4, HZ4⟩ := snocFacts HD.out HDB.out.size ho4 hg4; clear ho4 hg4))
   go_roundw
   case rel => exact ⟨j + 1, _, by omega, rfl, by go_num, by rw [HT.out]; exact HO4, HDB.out.trans HB4.out⟩
   case measure => simp [intOf]; omega
  ·have hnl : ¬ (j : Int) < (L : Int) := by omega
   have HO : Hid (Nums wr vo (ar.map (fun a => a.2.2.2))) := by
    have h9 := hown.out
    rw [show j = ar.length by rw [HL.out]; omega, List.take_length] at h9
    exact Row.ofOwn encI1_len h9 rfl
   go_wp2
   go_ret
   exact ⟨_, rfl, by rw [HTL.out]; exact HO.out, hb.out⟩
theorem below_undrewS {B : Nat} {w w' : World} (h : Below B w.drew w') : Below B w w' := ⟨h.os, h.tape, h.output, h.size, h.block⟩
theorem st_arcs {l : List St} {j : Nat} (h : j < l.length) : (el l j).2.length ≤ arcN l := by
 have h1 := arcN_take h
 have h2 : arcN (l.take (j + 1)) ≤ arcN l := by
  conv => rhs; rw [← List.take_append_drop (j + 1) l, arcN_append]
  omega
 omega
def HeldB (B : Nat) (z : Int) (v : Value) (w : World) : Prop := Blk w B #[.int .i64 z, v] 27
theorem HeldB.two {B : Nat} {z : Int} {v : Value} {w : World} (h : HeldB B z v w) : w.cell? ⟨B, 0, none⟩ = some (.int .i64 z) ∧ w.cell? ⟨B, 1, none⟩ = some v := ⟨h.cell 0 rfl, h.cell 1 rfl⟩
set_option maxRecDepth 100000 in
set_option maxHeartbeats 1600000 in
theorem ahead_ok (v : Value) (m : Mc) (w : World) (h : Mach w v m) (hok : okM m) (hr : faultM m = 0) :
  Calls Try.prog 42 #[v] w fun e w' => ∃ v', e = .returned (.tuple #[v', .int .i64 0]) ∧ (∃ bs, Bools w' v' bs ∧ Least (AheadC m.1 m.2) m.2.length bs) ∧ Below w.heap.size w w' := by
 obtain ⟨z, l⟩ := m
 obtain ⟨vs, rfl, hS⟩ := h
 obtain ⟨a, cap, rfl⟩ := hS.sl
 have HM : Hid (Mach w (.agg #[.int .i64 z, .slice a l.length cap]) (z, l)) := ⟨_, rfl, hS⟩
 have HK : Hid (okM (z, l)) := hok
 have HR : Hid (faultM (z, l) = 0) := hr
 have hz := (faultM_zero hr).2
 simp only [rangeB, Bool.and_eq_true, inB, decide_eq_true_eq] at hz
 have HZ : Hid (-1 ≤ z ∧ z < (l.length : Int)) := ⟨hz.1.1, by show z < _; omega⟩
 clear hS hok hr hz
 simp only
 have hent := enters_of Try.func84 (by kernel_rfl) rfl
 generalize hn : l.length = n at *
 have HN : Hid (l.length = n) := hn
 clear hn
 go_enter Try.func42, Try.ntmps42
 go_wp2_with (first
  | (go_at_call 30; (with_reducible refine (coreCheck_any _ (z, l) _ (HM.out.later (B := w.heap.size) (by go_grown) (Nat.le_refl _)) HK.out 0 HR.out).mono ?_); rintro e w1 ⟨rfl, hb⟩; obtain ⟨s1, b1, hb1⟩ := boxed hb (by simp); have K0 : HeldB w.heap.size z (.slice a n cap) w1 := b1; have HB1 : Hid (Below w.heap.size w w1) := hb1; clear b1 hb1 hb))
 have K1 : HeldB w.heap.size z (.slice a n cap) w1.drew := K0.drew
 refine region_anyL (HeldB w.heap.size z (.slice a n cap)) 1000 (by kernel_rfl) ?_
 refine anyL_tk (i := 0) (v := ?v0_1) aZ0 (by kernel_rfl) ?y0_1 K1 ?r0_1
 case y0_1 => intro wx hx; obtain ⟨x0, x1⟩ := hx.two; go_simp; try (with_reducible rfl)
 simp only [Act.put, List.setIfInBounds_toArray, List.set_cons_zero, List.set_cons_succ]
 refine anyL_tk (i := 1) (v := ?v1_2) aZ1 (by kernel_rfl) ?y1_2 K1 ?r1_2
 case y1_2 => intro wx hx; obtain ⟨x0, x1⟩ := hx.two; go_simp; try (with_reducible rfl)
 simp only [Act.put, List.setIfInBounds_toArray, List.set_cons_zero, List.set_cons_succ]
 refine anyL_tk (i := 2) (v := ?v2_3) aZ2 (by kernel_rfl) ?y2_3 K1 ?r2_3
 case y2_3 => intro wx hx; obtain ⟨x0, x1⟩ := hx.two; go_simp; try (with_reducible rfl)
 simp only [Act.put, List.setIfInBounds_toArray, List.set_cons_zero, List.set_cons_succ]
 refine anyL_tk (i := 3) (v := ?v3_4) aZ3 (by kernel_rfl) ?y3_4 K1 ?r3_4
 case y3_4 => intro wx hx; obtain ⟨x0, x1⟩ := hx.two; go_simp; try (with_reducible rfl)
 simp only [Act.put, List.setIfInBounds_toArray, List.set_cons_zero, List.set_cons_succ]
 refine anyL_tk (i := 5) (v := ?v5_5) aZ5 (by kernel_rfl) ?y5_5 K1 ?r5_5
 case y5_5 => intro wx hx; obtain ⟨x0, x1⟩ := hx.two; go_simp; try (with_reducible rfl)
 simp only [Act.put, List.setIfInBounds_toArray, List.set_cons_zero, List.set_cons_succ]
 refine anyL_one (i := 4) aZ4 (by kernel_rfl) rfl (fun K hK => ?_)
 go_simp
 refine (starts_any _ _ _).mono ?_
 rintro e w2 ⟨v2, rfl, ho2, hb2⟩
 have K2 : HeldB w.heap.size z (.slice a n cap) w2 := K1.below hb2 s1
 have HB2 : Hid (Below w.heap.size w w2) := HB1.out.trans ((below_undrewS hb2).mono HB1.out.size)
 have HO2 : Hid (w2.ownsRow w1.heap.size 3 1 v2 (startL z).length ((startL z).flatMap encI1)) := ho2
 have s2 : w1.heap.size ≤ w2.heap.size := hb2.size
 refine hK _ _ (.inr K2) ?_
 try simp only [Act.put, List.setIfInBounds_toArray, List.set_cons_zero, List.set_cons_succ]
 clear hb2 ho2 K0 K1
 refine anyL_one (i := 6) aZ6 (by kernel_rfl) rfl (fun K hK => ?_)
 go_simp
 refine (followed_any _ _ _).mono ?_
 rintro e w3 ⟨rfl, b3, hb3⟩
 have K3 : HeldB w.heap.size z (.slice a n cap) w3 := K2.below hb3 (by omega)
 have HB3 : Hid (Below w.heap.size w w3) := HB2.out.trans (hb3.mono HB2.out.size)
 have HO3 : Hid (w3.ownsRow w1.heap.size 3 1 v2 (startL z).length ((startL z).flatMap encI1)) := ownBelow HO2.out hb3
 have s3 : w2.heap.size ≤ w3.heap.size := hb3.size
 have HASK : Hid (AskL 84 #[.pointer (some ⟨w2.heap.size, 0, none⟩)] (toL l) n w3 v2.ownBlock) := by
  refine ⟨hent, fun q hq W hW => ?_⟩
  have hBW : Below w.heap.size w W := HB3.out.trans (gBelow hW (fun k hk => Nat.le_trans (by omega) (HO2.out.lt k hk).1) HB3.out.size)
  have hne : some w2.heap.size ≠ v2.ownBlock := fun e9 => by have h9 := (HO2.out.lt _ e9.symm).2; omega
  exact leads_any z _ l W (HM.out.later hBW (Nat.le_refl _)) HK.out _ (b3.grown hW hne) q (by rw [HN.out]; exact hq)
 refine hK _ _ (.inr K3) ?_
 try simp only [Act.put, List.setIfInBounds_toArray, List.set_cons_zero, List.set_cons_succ]
 clear hb3 b3 K2
 refine anyL_one (i := 7) aZ7 (by kernel_rfl) rfl (fun K hK => ?_)
 go_simp
 refine (spread_any n v2 (startL z) _ _ (toL l) w1.heap.size w3 HO3.out (by omega) (by have h9 := (right_size HR.out).1; rw [HN.out] at h9; exact h9) (fun x hx => by
   unfold startL at hx
   have h9 := HZ.out
   split at hx
   ·simp at hx
   ·simp at hx; subst hx; omega) (by unfold startL; split <;> simp) HASK.out (fun q hq y hy => by
   obtain ⟨c, hc, rfl⟩ := List.mem_map.1 hy
   have h9 := List.all_eq_true.1 (right_st HR.out (j := q) (by rw [HN.out]; exact hq)).2 c hc
   rw [HN.out] at h9
   simp only [arcB, inB, Bool.and_eq_true, decide_eq_true_eq] at h9
   omega) (fun q hq => by
   have h8 := (right_size HR.out).2
   have h9 := st_arcs (l := l) (j := q) (by rw [HN.out]; exact hq)
   unfold toL
   rw [List.length_map]
   omega)).mono ?_
 rintro e w4 ⟨v4, rfl, ⟨bs, hB4, hL4⟩, hg4⟩
 have K4 : HeldB w.heap.size z (.slice a n cap) w4 := K3.grown hg4 (fun e9 => by have h9 := (HO2.out.lt _ e9.symm).1; omega)
 have HB4 : Hid (Below w.heap.size w w4) := HB3.out.trans (gBelow hg4 (fun k hk => Nat.le_trans (by omega) (HO2.out.lt k hk).1) HB3.out.size)
 have HL4 : Hid (Least (AheadC z l) n bs) := hL4.iff (fun T => by have h9 := ahead_spread (z := z) (l := l) (by rw [HN.out]; exact HZ.out.2) T; rw [HN.out] at h9; exact h9)
 have HBB : Hid (Bools w4 v4 bs) := hB4
 refine hK _ _ (.inr K4) ?_
 try simp only [Act.put, List.setIfInBounds_toArray, List.set_cons_zero, List.set_cons_succ]
 clear hB4 hL4 hg4 K3
 refine anyL_one (i := 8) aZ8 (by kernel_rfl) rfl (fun K hK => ?_)
 go_simp
 refine hK _ _ (.inr K4) ?_
 try simp only [Act.put, List.setIfInBounds_toArray, List.set_cons_zero, List.set_cons_succ]
 refine anyL_one (i := 9) aZ9 (by kernel_rfl) rfl (fun K hK => ?_)
 go_simp
 refine hK _ _ (.inr K4) (anyL_done (by kernel_rfl) (NoPanic.normal ?_))
 try simp only [Act.put, List.setIfInBounds_toArray, List.set_cons_zero, List.set_cons_succ]
 clear K4
 go_wp2
 exact bodyPost_ret (v := .tuple #[v4, .int .i64 0]) (by simp [results, Try.results42, go_sem]) rfl ⟨_, rfl, ⟨bs, HBB.out, HL4.out⟩, HB4.out⟩
set_option maxRecDepth 100000 in
theorem ahead_bad (v : Value) (m : Mc) (w : World) (h : Mach w v m) (hok : okM m) (r : Int) (hr : faultM m = r) (h0 : ¬ r = 0) :
  Calls Try.prog 42 #[v] w fun e w' => e = .returned (.tuple #[.slice none 0 0, .int .i64 r]) ∧ Below w.heap.size w w' := by
 obtain ⟨z, l⟩ := m
 obtain ⟨vs, rfl, hS⟩ := h
 obtain ⟨a, cap, rfl⟩ := hS.sl
 have HM : Hid (Mach w (.agg #[.int .i64 z, .slice a l.length cap]) (z, l)) := ⟨_, rfl, hS⟩
 have HK : Hid (okM (z, l)) := hok
 have HR : Hid (faultM (z, l) = r) := hr
 clear hS hok hr
 simp only
 have hne : (r != 0) = true := by simpa using h0
 generalize l.length = n at *
 go_enter Try.func42, Try.ntmps42
 go_wp2_with (first
  | (go_at_call 30; (with_reducible refine (coreCheck_any _ (z, l) _ (HM.out.later (B := w.heap.size) (by go_grown) (Nat.le_refl _)) HK.out _ HR.out).mono ?_); rintro e w1 ⟨rfl, hb⟩; obtain ⟨s1, b1, hb1⟩ := boxed hb (by simp); have HB1 : Hid (Below w.heap.size w w1) := hb1; clear b1 hb1 hb))
 exact bodyPost_ret (v := .tuple #[.slice none 0 0, .int .i64 r]) (by simp [results, Try.results42, go_sem]) rfl ⟨rfl, HB1.out⟩
end Go.Proofs.Ytfpibdaedfilaaa.Wt
