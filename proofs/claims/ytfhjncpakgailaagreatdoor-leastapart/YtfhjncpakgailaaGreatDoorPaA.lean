/- The program's push: a list of arcs, an end, the total. -/
import Derived.Test.YtfhjncpakgailaaGreatDoorPau
import Derived.Test.YtfhjncpakgailaaGreatDoorPaw
import Derived.Test.YtfhjncpakgailaaGreatDoorPad
import Derived.RegionTactic
import Derived.ChangeAlike
import Derived.Test.YtfhjncpakgailaaGreatDoorPaa
import Derived.Test.YtfhjncpakgailaaGreatDoorPab
import Derived.Test.YtfhjncpakgailaaGreatDoorPai
import Derived.Laws.MakeOwn
import Derived.Shelf.Abstract
import Derived.Deep.DeepCutAuto
namespace Go.Proofs.YtfhjncpakgailaaGreatDoor.Wt
open Go.ChangeShapes Go.WideShapes Go.ChangeAt Go.RowKit
open Go.Proofs.YtfhjncpakgailaaGreatDoor.Pl
set_option linter.unusedVariables false
set_option linter.unusedSimpArgs false
def psdA (vs : List Int) (own : Int) (a : Ar) : Ar := (a.1, a.2.1, a.2.2.1 + (el vs a.2.2.2.toNat - own), a.2.2.2)
theorem psdA_psh (vs : List Int) (q : Nat) : psdA vs (el vs q) = pshA vs q := by
 funext a
 unfold psdA pshA
 rw [Int.add_sub_assoc]
def PsdRes (r : Bool) (x : List Ar) (w : World) (e : Ending) (w' : World) : Prop :=
 (r = true ∧ e = .returned (.tuple #[.slice none 0 0, .int .i64 4]) ∧ Below w.heap.size w w') ∨
 (r = false ∧ ∃ v', e = .returned (.tuple #[v', .int .i64 0]) ∧ OwnArcs w' w.heap.size v' x ∧ Below w.heap.size w w')
set_option maxRecDepth 100000 in
set_option maxHeartbeats 3200000 in
theorem psd_any (va vn : Value) (ar : List Ar) (vs : List Int) (n : Nat) (own : Int) (w : World) (hA : Arcs w va ar) (hL4 : ar.length ≤ 400) (hN : Nums w vn vs) (hl : vs.length = n) (hvs : ∀ j, j < n → 0 ≤ el vs j ∧ el vs j ≤ 1000000001) (hto : ∀ a ∈ ar, ∃ t : Nat, a.2.2.2 = (t : Int) ∧ t < n) (hwt : ∀ a ∈ ar, 0 ≤ a.2.2.1 ∧ a.2.2.1 ≤ 1000000000) (ho0 : 0 ≤ own) (ho1 : own ≤ 1000000001) (r : Bool) (hr : (ar.any fun a => decide (1000000000 < (psdA vs own a).2.2.1)) = r) :
  Calls Tryz.prog 65 #[va, vn, .int .i64 own] w fun e w' => PsdRes r (ar.map (psdA vs own)) w e w' := by
 obtain ⟨a2, cap2, rfl, hga⟩ := hA.get
 obtain ⟨xn, cn, rfl, hcn⟩ := hN.get
 rw [hl] at hcn ⊢
 have HGA := hidP hga
 have HCN := hidP hcn
 have HVS := hidP hvs
 have HTO := hidP hto
 have HWT := hidP hwt
 have HRY : Hid (∀ j, j < ar.length → 1000000000 < (psdA vs own (el ar j)).2.2.1 → r = true) := fun j hj h => by
  rw [← hr, List.any_eq_true]
  exact ⟨_, el_mem hj, by simpa using h⟩
 have HRN : Hid ((∀ j, j < ar.length → (psdA vs own (el ar j)).2.2.1 ≤ 1000000000) → r = false) := fun h => by
  rw [← hr, List.any_eq_false]
  intro a ha
  obtain ⟨s, hs, e⟩ := List.getElem_of_mem ha
  have := h s hs
  rw [el_get hs, e] at this
  simpa using this
 clear hA hN hga hcn hvs hto hwt hl hr
 obtain ⟨G, hG⟩ : ∃ G : Ar → Ar, psdA vs own = G := ⟨_, rfl⟩
 have HG := hidP hG
 rw [hG] at HRY HRN ⊢
 clear hG
 generalize hL : ar.length = L at *
 have HL := hidP hL
 clear hL
 have hmk := run_arcs L (by omega)
 go_enter Tryz.func65, Tryz.ntmps65
 go_wp2
 clear hmk
 go_loopw [16] (fun i wi => ∃ (k : Nat) (xs : List Ar), k ≤ L ∧ i = .int .i64 k ∧ Hid (xs.length = L) ∧ Hid (Blk wi w.heap.size (xs.flatMap encA).toArray 58) ∧ Hid (∀ j, j < k → el xs j = G (el ar j)) ∧ Hid (∀ j, j < k → (G (el ar j)).2.2.1 ≤ 1000000000) ∧ Hid (Below w.heap.size w wi)) (fun i _ => L - (intOf i).toNat)
 case atStart => exact ⟨0, List.replicate L ((0, 0, 0, 0) : Ar), Nat.zero_le _, rfl, by show _ = _; simp, Blk.made _ _ _, fun j hj => absurd hj (Nat.not_lt_zero _), fun j hj => absurd hj (Nat.not_lt_zero _), (Below.refl _ _).alloc (Nat.le_refl _) _⟩
 case round =>
  obtain ⟨k, xs, hk, rfl, hxl, hbx, hold, hlow, hb⟩ := hrel
  obtain ⟨w3, hw3⟩ : ∃ w3, w3 = wr := ⟨_, rfl⟩
  subst hw3
  by_cases hlt : k < L
  ·obtain ⟨b3, off3, rfl, hb3l, q0, q1, q2, q3⟩ := HGA.out k hlt
   have q0 := (hb.out.cell (p := ⟨b3, off3 + k * 4, none⟩) hb3l).trans q0
   have q1 := (hb.out.cell (p := ⟨b3, off3 + k * 4 + 1, none⟩) hb3l).trans q1
   have q2 := (hb.out.cell (p := ⟨b3, off3 + k * 4 + 2, none⟩) hb3l).trans q2
   have q3 := (hb.out.cell (p := ⟨b3, off3 + k * 4 + 3, none⟩) hb3l).trans q3
   obtain ⟨t, ht, htn⟩ := HTO.out (el ar k) (el_mem (by rw [HL.out]; exact hlt))
   obtain ⟨g0, g1⟩ := HWT.out (el ar k) (el_mem (by rw [HL.out]; exact hlt))
   have k0 : (0 : Int) ≤ (k : Int) := by omega
   have k1 : (k : Int) < (L : Int) := by omega
   have t0 : (0 : Int) ≤ (t : Int) := by omega
   have t1 : (t : Int) < (n : Int) := by omega
   obtain ⟨bn, on, rfl, hbnl, m0⟩ := HCN.out t htn
   have m0 := (hb.out.cell (p := ⟨bn, on + t, none⟩) hbnl).trans m0
   obtain ⟨v0, v1⟩ := HVS.out t htn
   have HGE : Hid (G (el ar k) = ((el ar k).1, (el ar k).2.1, (el ar k).2.2.1 + (el vs t - own), (t : Int))) := by
    show _ = _
    rw [← HG.out]
    unfold psdA
    simp only [ht, Int.toNat_natCast]
   have HR1 := hidP (HRY.out k hlt)
   rw [HGE.out] at HR1
   rw [ht] at q3
   obtain ⟨p, hp⟩ : ∃ p : Ar, el ar k = p := ⟨_, rfl⟩
   have HP := hidP hp
   rw [hp] at q0 q1 q2 g0 g1 HGE HR1
   clear hp ht
   obtain ⟨p0, p1, p2, p3⟩ := p
   simp only at q0 q1 q2 g0 g1 HGE HR1
   generalize el vs t = y at *
   have hsz := hb.out.size
   have hbl := hbx.out.lt
   have hbl2 : w.heap.size ≠ w3.heap.size := by omega
   have hbw : bn < w3.heap.size := by omega
   have hbw2 : bn ≠ w3.heap.size := by omega
   have hx0 := hxl.out
   have e0 := hbx.out.cell (k * 4) (v := .int .i64 (el xs k).1) (by rw [List.getElem?_toArray]; exact flat_at encA_len xs k (by omega) 0 (by omega))
   have e1 := hbx.out.cell (k * 4 + 1) (v := .int .i64 (el xs k).2.1) (by rw [List.getElem?_toArray]; exact flat_at encA_len xs k (by omega) 1 (by omega))
   have e2 := hbx.out.cell (k * 4 + 2) (v := .int .i64 (el xs k).2.2.1) (by rw [List.getElem?_toArray]; exact flat_at encA_len xs k (by omega) 2 (by omega))
   have e3 := hbx.out.cell (k * 4 + 3) (v := .int .i64 (el xs k).2.2.2) (by rw [List.getElem?_toArray]; exact flat_at encA_len xs k (by omega) 3 (by omega))
   have f0 := hbx.out.fz (k * 4)
   have f1 := hbx.out.fz (k * 4 + 1)
   have f2 := hbx.out.fz (k * 4 + 2)
   have f3 := hbx.out.fz (k * 4 + 3)
   clear hx0
   by_cases hov : 1000000000 < p2 + (y - own)
   ·have HE := hidP (HR1.out hov)
    go_wp2
    go_region
    go_wp2
    exact bodyPost_ret (v := .tuple #[.slice none 0 0, .int .i64 4]) (by simp [results, Tryz.results65, go_sem]) rfl (.inl ⟨HE.out, rfl, (hb.out.alloc hb.out.size _).drew⟩)
   ·go_wp2
    go_region
    go_wp2
    go_roundw
    case rel =>
     refine ⟨k + 1, xs.set k (p0, p1, p2 + (y - own), (t : Int)), by omega, by go_num, ?_, ?_, ?_, ?_, ?_⟩
     ·show _ = _
      simp
      exact hxl.out
     ·have h := (((hbx.out.set (k * 4) (.int .i64 p0)).set (k * 4 + 1) (.int .i64 p1)).set (k * 4 + 2) (.int .i64 (p2 + (y - own)))).set (k * 4 + 3) (.int .i64 (t : Int))
      rw [set_arc (by rw [hxl.out]; omega) (p0, p1, p2 + (y - own), (t : Int))] at h
      exact h.alloc _
     ·intro j hj
      rw [el_setS (by rw [hxl.out]; omega)]
      by_cases hjk : j = k
      ·subst hjk
       rw [if_pos rfl, HP.out, HGE.out]
      ·rw [if_neg hjk]
       exact hold.out j (by omega)
     ·intro j hj
      by_cases hjk : j = k
      ·subst hjk
       rw [HP.out, HGE.out]
       simp only
       omega
      ·exact hlow.out j (by omega)
     ·have h := hb.out
      show Below _ _ _
      go_grown
    case measure => simp [intOf]; omega
  ·have hke : k = L := by omega
   have hnl : ¬ (k : Int) < (L : Int) := by omega
   have hxe : xs = ar.map G := by
    refine el_ext (by rw [List.length_map, HL.out]; exact hxl.out) fun j hj => ?_
    rw [hold.out j (by rw [hxl.out] at hj; omega), el_map (by rw [HL.out]; rw [hxl.out] at hj; omega)]
   have HE := hidP (HRN.out fun j hj => hlow.out j (by omega))
   have HOW := hidP (arcs_block (B := w.heap.size) hbx.out (Nat.le_refl _) (by rw [hxl.out]; omega))
   rw [hxe, List.length_map, HL.out] at HOW
   clear hxe
   go_wp2
   exact bodyPost_ret (v := .tuple #[.slice (some ⟨w.heap.size, 0, none⟩) L L, .int .i64 0]) (by simp [results, Tryz.results65, go_sem]) rfl (.inr ⟨HE.out, _, rfl, by unfold OwnArcs; rw [List.length_map, HL.out]; exact HOW.out, hb.out⟩)
set_option maxRecDepth 100000 in
theorem less_any (f o : Int) (w : World) (hf0 : 0 ≤ f) (hf1 : f ≤ 1000000001) (ho0 : 0 ≤ o) (ho1 : o ≤ 1000000001) (r : Int) (hr : (if f = 1000000001 then 1000000001 else f - o) = r) :
  Calls Tryz.prog 66 #[.int .i64 f, .int .i64 o] w fun e w' => e = .returned (.int .i64 r) ∧ Below w.heap.size w w' := by
 by_cases h : f = 1000000001
 ·rw [if_pos h] at hr
  subst hr
  subst h
  go_enter Tryz.func66, Tryz.ntmps66
  go_wp2
  go_ret
  exact ⟨rfl, Below.refl _ _⟩
 ·rw [if_neg h] at hr
  subst hr
  have h1 : (f == 1000000001) = false := by simpa using h
  go_enter Tryz.func66, Tryz.ntmps66
  go_wp2
  go_ret
  exact ⟨rfl, Below.refl _ _⟩
set_option maxRecDepth 100000 in
theorem totalOf_any (z : Int) (vn : Value) (vs : List Int) (w : World) (hN : Nums w vn vs) (hz : z < vs.length) (r : Int) (hr : (if z < 0 then 0 else el vs z.toNat) = r) :
  Calls Tryz.prog 67 #[.int .i64 z, vn] w fun e w' => e = .returned (.int .i64 r) ∧ Below w.heap.size w w' := by
 obtain ⟨xn, cn, rfl, hcn⟩ := hN.get
 by_cases h : z < 0
 ·rw [if_pos h] at hr
  subst hr
  clear hcn hN
  go_enter Tryz.func67, Tryz.ntmps67
  go_wp2
  go_ret
  exact ⟨rfl, Below.refl _ _⟩
 ·rw [if_neg h] at hr
  obtain ⟨t, rfl⟩ : ∃ t : Nat, z = (t : Int) := ⟨z.toNat, by omega⟩
  rw [Int.toNat_natCast] at hr
  obtain ⟨b, o, rfl, hb, m0⟩ := hcn t (by omega)
  rw [hr] at m0
  clear hcn hN hr
  generalize vs.length = n at *
  have t0 : (0 : Int) ≤ (t : Int) := by omega
  go_enter Tryz.func67, Tryz.ntmps67
  go_wp2
  go_ret
  exact ⟨rfl, Below.refl _ _⟩
def encB (b : Bool) : List Value := [.bool b]
def Bools (w : World) (v : Value) (bs : List Bool) : Prop := Row 1 encB w v bs
theorem Bools.later {w w' : World} {v : Value} {bs : List Bool} (h : Bools w v bs) {B : Nat} (hb : Below B w w') (hB : w.heap.size ≤ B) : Bools w' v bs := Row.later h hb hB
theorem Bools.get {w : World} {v : Value} {bs : List Bool} (h : Bools w v bs) : ∃ a cap, v = .slice a bs.length cap ∧ ∀ j, j < bs.length → ∃ b off, a = some ⟨b, off, none⟩ ∧ b < w.heap.size ∧ w.cell? ⟨b, off + j, none⟩ = some (.bool (el bs j)) := by
 by_cases hz : 0 < bs.length
 ·obtain ⟨b, off, cap, hv, hb, hc⟩ := Row.plain h (fun x => by simp [encB]) hz
  refine ⟨_, cap, hv, fun j hj => ⟨b, off, rfl, hb, ?_⟩⟩
  have := hc j hj 0 _ rfl
  rwa [Nat.mul_one, Nat.add_zero] at this
 ·obtain ⟨a, cap, hv⟩ := Row.sl h
  exact ⟨a, cap, hv, fun j hj => by omega⟩
theorem bools_block {w : World} {g cap : Nat} {bs : List Bool} {t : TypeId} (h : Blk w g (bs.map Value.bool).toArray t) : Bools w (.slice (some ⟨g, 0, none⟩) bs.length cap) bs := by
  refine .inr ⟨⟨g, 0, none⟩, cap, rfl, fun j hj i u hu => ?_⟩
  cases i with
  | zero =>
    rw [Addr.add_lit, Nat.zero_add, Nat.mul_one, Nat.add_zero]
    refine h.cell _ ?_
    simp [encB] at hu
    subst hu
    simp [hj, el]
  | succ i => simp [encB] at hu
theorem made_bools (n : Nat) : madeCells (Value.cells (.bool false)) (n * 1) = ((List.replicate n false).map Value.bool).toArray := by
 have hz : Value.cells (.bool false) = #[.bool false] := rfl
 apply Array.ext_getElem?
 intro t
 simp only [madeCells, hz, Array.getElem?_map, List.map_replicate]
 by_cases ht : t < n
 ·simp [ht, Nat.mod_one]
 ·simp [ht]
theorem set_bool {bs : List Bool} {q : Nat} : (bs.map Value.bool).toArray.setIfInBounds q (.bool true) = ((bs.set q true).map Value.bool).toArray := by simp [List.map_set]
theorem bool_cell {w : World} {g : Nat} {bs : List Bool} {t : TypeId} (h : Blk w g (bs.map Value.bool).toArray t) {j : Nat} (hj : j < bs.length) : w.cell? ⟨g, j, none⟩ = some (.bool (el bs j)) := by
 refine h.cell _ ?_
 simp [hj, el]
theorem infoBool : (Tryz.prog.info? 4).map (fun i => (i.zero, i.size, i.bytes)) = some (some (.bool false), 1, 1) := by kernel_rfl
end Go.Proofs.YtfhjncpakgailaaGreatDoor.Wt
namespace Go.Proofs.YtfhjncpakgailaaGreatDoor.Wt
open Go.ChangeShapes Go.WideShapes Go.ChangeAt Go.RowKit
open Go.Proofs.YtfhjncpakgailaaGreatDoor.Pl
set_option linter.unusedVariables false
theorem own_cut {w : World} {base : Nat} {e : TypeId} {a : Option Addr} {n cap k : Nat} {ws : List Int} (h : w.ownsRow base e 1 (.slice a n cap) n (ws.flatMap encI1)) (hk : k < n) :
  ∃ g, a = some ⟨g, 0, none⟩ ∧ n ≤ cap ∧ w.ownsRow base e 1 (.slice (some ⟨g, 0, none⟩) k cap) k ((ws.take k).flatMap encI1) := by
 have hlen := h.1
 rw [flat_length encI1_len] at hlen
 rcases h.2 with ⟨hv, hn0⟩ | ⟨g, cap', cur, hv, hbg, hg, hnc, hcm, hcs, htake⟩
 ·omega
 ·simp only [Value.slice.injEq, true_and] at hv
  obtain ⟨rfl, rfl⟩ := hv
  refine ⟨g, rfl, hnc, ?_, .inr ⟨g, cap, cur, rfl, hbg, hg, by omega, hcm, hcs, ?_⟩⟩
  ·rw [flat_length encI1_len, List.length_take]; omega
  ·have h1 : cur.toList.take (k * 1) = (cur.toList.take (n * 1)).take (k * 1) := by rw [List.take_take]; congr 1; omega
   rw [h1, htake]
   have h2 : ∀ l : List Int, l.flatMap encI1 = l.map (Value.int .i64) := fun l => by
    induction l with
    | nil => rfl
    | cons x l ih => rw [List.flatMap_cons, ih]; rfl
   rw [h2, h2, List.map_take, Nat.mul_one]
theorem own_num {w : World} {base : Nat} {e : TypeId} {g n cap j : Nat} {ws : List Int} (h : w.ownsRow base e 1 (.slice (some ⟨g, 0, none⟩) n cap) n (ws.flatMap encI1)) (hj : j < ws.length) : w.cell? ⟨g, j, none⟩ = some (.int .i64 (el ws j)) := by
 have hc := h.cells (g := g) rfl j (.int .i64 (el ws j)) (by
  have := flat_at encI1_len ws j hj 0 (by omega)
  rw [Nat.mul_one, Nat.add_zero] at this
  rw [this]; rfl)
 rw [Addr.add_lit, Nat.zero_add] at hc
 exact hc
def falses (w : World) (b : Nat) : Nat := match w.heap[b]? with
 | some (.cells cs _ _) => cs.toList.countP fun v => match v with | .bool false => true | _ => false
 | _ => 0
theorem falses_blk {w : World} {b : Nat} {bs : List Bool} {t : TypeId} (h : Blk w b (bs.map Value.bool).toArray t) : falses w b = bs.count false := by
 unfold Blk at h
 unfold falses
 rw [h]
 simp only
 rw [List.countP_map]
 unfold List.count
 refine List.countP_congr fun x _ => ?_
 cases x <;> simp
def lenV : Value → Nat
 | .slice _ n _ => n
 | _ => 0
end Go.Proofs.YtfhjncpakgailaaGreatDoor.Wt
namespace Go.Proofs.YtfhjncpakgailaaGreatDoor.Pl
def SpreadC (n : Nat) (F : List Int) (L : Nat → List Int) (T : Nat → Prop) : Prop := (∀ x ∈ F, T x.toNat) ∧ ∀ q, q < n → T q → ∀ y ∈ L q, T y.toNat
structure Dfs (n M K : Nat) (F : List Int) (L : Nat → List Int) (bs : List Bool) (ws : List Int) : Prop where
 len : bs.length = n
 inn : ∀ x ∈ ws, 0 ≤ x ∧ x < n
 sound : ∀ T, SpreadC n F L T → (∀ q, q < n → el bs q = true → T q) ∧ ∀ x ∈ ws, T x.toNat
 first : ∀ x ∈ F, el bs x.toNat = true ∨ x ∈ ws
 next : ∀ q, q < n → el bs q = true → ∀ y ∈ L q, el bs y.toNat = true ∨ y ∈ ws
 room : bs.count false * (M + 1) + ws.length ≤ K
section
variable {n M K : Nat} {F : List Int} {L : Nat → List Int} {bs : List Bool} {ws : List Int}
theorem Dfs.start (hF : ∀ x ∈ F, 0 ≤ x ∧ x < (n : Int)) (hK : n * (M + 1) + F.length ≤ K) : Dfs n M K F L (List.replicate n false) F :=
 ⟨by simp, hF, fun T hT => ⟨fun q _ e => absurd e (by rw [el_false]; simp), hT.1⟩, fun x hx => .inr hx, fun q _ e => absurd e (by rw [el_false]; simp), by rw [List.count_replicate]; simpa using hK⟩
theorem mem_last {k : Nat} {x : Int} (hk : ws.length = k + 1) : x ∈ ws ↔ x ∈ ws.take k ∨ x = el ws k := by
 have h := take_el (l := ws) (k := k) (by omega)
 rw [← hk, List.take_length] at h
 conv => lhs; rw [h]
 simp
theorem Dfs.skip (h : Dfs n M K F L bs ws) {k : Nat} (hk : ws.length = k + 1) (hf : el bs (el ws k).toNat = true) : Dfs n M K F L bs (ws.take k) := by
 refine ⟨h.len, fun x hx => h.inn x ((mem_last hk).2 (.inl hx)), fun T hT => ⟨(h.sound T hT).1, fun x hx => (h.sound T hT).2 x ((mem_last hk).2 (.inl hx))⟩, fun x hx => ?_, fun q hq e y hy => ?_, ?_⟩
 ·rcases h.first x hx with h1 | h1
  ·exact .inl h1
  ·rcases (mem_last hk).1 h1 with h2 | h2
   ·exact .inr h2
   ·exact .inl (by rw [h2]; exact hf)
 ·rcases h.next q hq e y hy with h1 | h1
  ·exact .inl h1
  ·rcases (mem_last hk).1 h1 with h2 | h2
   ·exact .inr h2
   ·exact .inl (by rw [h2]; exact hf)
 ·have := h.room
  rw [List.length_take]
  omega
theorem count_set {q : Nat} (hq : q < bs.length) (hf : el bs q = false) : (bs.set q true).count false + 1 = bs.count false := by
  induction bs generalizing q with
  | nil => simp at hq
  | cons b l ih =>
    cases q with
    | zero =>
      rw [el_zero] at hf
      subst hf
      simp
    | succ q =>
      rw [el_succ] at hf
      have := ih (q := q) (by simpa using hq) hf
      rw [List.set_cons_succ, List.count_cons, List.count_cons]
      omega
theorem Dfs.step (h : Dfs n M K F L bs ws) {k q : Nat} (hk : ws.length = k + 1) (hx : el ws k = (q : Int)) (hf : el bs q = false) (hL : ∀ y ∈ L q, 0 ≤ y ∧ y < (n : Int)) (hM : (L q).length ≤ M) : Dfs n M K F L (bs.set q true) (ws.take k ++ L q) := by
 have hin := h.inn (el ws k) (el_mem (by omega))
 have hq : q < n := by omega
 have hqb : q < bs.length := by rw [h.len]; exact hq
 refine ⟨by simpa using h.len, fun x hx' => ?_, fun T hT => ?_, fun x hx' => ?_, fun p hp e y hy => ?_, ?_⟩
 ·rcases List.mem_append.1 hx' with h1 | h1
  ·exact h.inn x ((mem_last hk).2 (.inl h1))
  ·exact hL x h1
 ·have hTq : T q := by
   have := (h.sound T hT).2 (el ws k) (el_mem (by omega))
   rw [hx] at this
   simpa using this
  refine ⟨fun p hp e => ?_, fun x hx' => ?_⟩
  ·rw [el_setB hqb] at e
   split at e
   ·rename_i e9; subst e9; exact hTq
   ·exact (h.sound T hT).1 p hp e
  ·rcases List.mem_append.1 hx' with h1 | h1
   ·exact (h.sound T hT).2 x ((mem_last hk).2 (.inl h1))
   ·exact hT.2 q hq hTq x h1
 ·rw [el_setB hqb]
  split
  ·exact .inl rfl
  ·rename_i e9
   rcases h.first x hx' with h1 | h1
   ·exact .inl h1
   ·rcases (mem_last hk).1 h1 with h2 | h2
    ·exact .inr (List.mem_append.2 (.inl h2))
    ·exact absurd (by rw [h2, hx]; simp) e9
 ·rw [el_setB hqb] at e ⊢
  split
  ·exact .inl rfl
  ·rename_i e9
   split at e
   ·rename_i e8; subst e8; exact .inr (List.mem_append.2 (.inr hy))
   ·rcases h.next p hp e y hy with h1 | h1
    ·exact .inl h1
    ·rcases (mem_last hk).1 h1 with h2 | h2
     ·exact .inr (List.mem_append.2 (.inl h2))
     ·exact absurd (by rw [h2, hx]; simp) e9
 ·have h1 := h.room
  have h2 := count_set hqb hf
  rw [← h2] at h1
  rw [List.length_append, List.length_take]
  rw [Nat.add_mul] at h1
  omega
theorem Dfs.done (h : Dfs n M K F L bs []) : Least (SpreadC n F L) n bs := by
 refine ⟨h.len, ⟨fun x hx => ?_, fun q hq e y hy => ?_⟩, fun T hT => (h.sound T hT).1⟩
 ·rcases h.first x hx with h1 | h1
  ·exact h1
  ·simp at h1
 ·rcases h.next q hq e y hy with h1 | h1
  ·exact h1
  ·simp at h1
theorem Least.iff {C D : (Nat → Prop) → Prop} {bs : List Bool} (h : Least C n bs) (hCD : ∀ T, C T ↔ D T) : Least D n bs := ⟨h.1, (hCD _).1 h.2.1, fun T hT => h.2.2 T ((hCD T).2 hT)⟩
end
def toL (l : List St) (q : Nat) : List Int := (el l q).2.map fun a => a.2.2.2
def startL (z : Int) : List Int := if z < 0 then [] else [z]
theorem ahead_spread {z : Int} {l : List St} (hz : z < l.length) (T : Nat → Prop) : SpreadC l.length (startL z) (toL l) T ↔ AheadC z l T := by
 unfold SpreadC AheadC startL toL
 constructor
 ·rintro ⟨h1, h2⟩
  refine ⟨fun q hq e => ?_, fun q hq e a ha => h2 q hq e _ (List.mem_map.2 ⟨a, ha, rfl⟩)⟩
  have := h1 z (by rw [if_neg (by omega)]; simp)
  rw [← e] at this
  simpa using this
 ·rintro ⟨h1, h2⟩
  refine ⟨fun x hx => ?_, fun q hq e y hy => ?_⟩
  ·split at hx
   ·simp at hx
   ·simp at hx
    subst hx
    exact h1 _ (by omega) (by omega)
  ·obtain ⟨a, ha, rfl⟩ := List.mem_map.1 hy
   exact h2 q hq e a ha
def endL (l : List St) (n : Nat) : List Int := ((List.range n).filter fun q => decide ((el l q).1 ≠ 1000000001)).map fun q : Nat => (q : Int)
theorem endL_succ (l : List St) (n : Nat) : endL l (n + 1) = endL l n ++ (if (el l n).1 ≠ 1000000001 then [(n : Int)] else []) := by
 unfold endL
 rw [List.range_succ, List.filter_append, List.map_append]
 by_cases h : (el l n).1 = 1000000001 <;> simp [h]
theorem endL_le (l : List St) (n : Nat) : (endL l n).length ≤ n := by
 unfold endL
 rw [List.length_map]
 exact Nat.le_trans (List.length_filter_le _ _) (by simp)
theorem endL_mem {l : List St} {n : Nat} {x : Int} : x ∈ endL l n ↔ ∃ q : Nat, x = (q : Int) ∧ q < n ∧ (el l q).1 ≠ 1000000001 := by
 unfold endL
 simp only [List.mem_map, List.mem_filter, List.mem_range, decide_eq_true_eq]
 constructor
 ·rintro ⟨q, ⟨h1, h2⟩, rfl⟩; exact ⟨q, rfl, h1, h2⟩
 ·rintro ⟨q, rfl, h1, h2⟩; exact ⟨q, ⟨h1, h2⟩, rfl⟩
def putT (t q : Nat) (f : Nat → List Int) : Nat → List Int := fun p => if p = t then f p ++ [(q : Int)] else f p
def fillA (q : Nat) (ar : List Ar) (f : Nat → List Int) : Nat → List Int := ar.foldl (fun f a => putT a.2.2.2.toNat q f) f
def fillS (l : List St) (n : Nat) : Nat → List Int := (List.range n).foldl (fun f q => fillA q (el l q).2 f) (fun _ => [])
theorem fillS_succ (l : List St) (n : Nat) : fillS l (n + 1) = fillA n (el l n).2 (fillS l n) := by
 unfold fillS
 rw [List.range_succ, List.foldl_append]
 rfl
theorem fillA_take (q : Nat) {ar : List Ar} {k : Nat} (h : k < ar.length) (f : Nat → List Int) : fillA q (ar.take (k + 1)) f = putT (el ar k).2.2.2.toNat q (fillA q (ar.take k) f) := by
 unfold fillA
 rw [take_el h, List.foldl_append]
 rfl
theorem fillA_mem {q : Nat} {ar : List Ar} {f : Nat → List Int} {p : Nat} {x : Int} : x ∈ fillA q ar f p ↔ x ∈ f p ∨ (x = (q : Int) ∧ ∃ a ∈ ar, a.2.2.2.toNat = p) := by
  induction ar generalizing f with
  | nil => simp [fillA]
  | cons a ar ih =>
    have : fillA q (a :: ar) f = fillA q ar (putT a.2.2.2.toNat q f) := rfl
    rw [this, ih]
    unfold putT
    by_cases e : p = a.2.2.2.toNat
    · rw [if_pos e]
      simp only [List.mem_append, List.mem_cons, List.not_mem_nil, or_false]
      constructor
      · rintro ((h | h) | ⟨h1, b, hb, h2⟩)
        · exact .inl h
        · exact .inr ⟨h, a, .inl rfl, e.symm⟩
        · exact .inr ⟨h1, b, .inr hb, h2⟩
      · rintro (h | ⟨h1, b, hb | hb, h2⟩)
        · exact .inl (.inl h)
        · exact .inl (.inr h1)
        · exact .inr ⟨h1, b, hb, h2⟩
    · rw [if_neg e]
      simp only [List.mem_cons]
      constructor
      · rintro (h | ⟨h1, b, hb, h2⟩)
        · exact .inl h
        · exact .inr ⟨h1, b, .inr hb, h2⟩
      · rintro (h | ⟨h1, b, hb | hb, h2⟩)
        · exact .inl h
        · subst hb; exact absurd h2.symm e
        · exact .inr ⟨h1, b, hb, h2⟩
theorem fillS_mem {l : List St} {n p : Nat} {x : Int} : x ∈ fillS l n p ↔ ∃ q : Nat, x = (q : Int) ∧ q < n ∧ ∃ a ∈ (el l q).2, a.2.2.2.toNat = p := by
  induction n with
  | zero => simp [fillS]
  | succ n ih =>
    rw [fillS_succ, fillA_mem, ih]
    constructor
    · rintro (⟨q, h1, h2, h3⟩ | ⟨h1, h2⟩)
      · exact ⟨q, h1, by omega, h3⟩
      · exact ⟨n, h1, by omega, h2⟩
    · rintro ⟨q, h1, h2, h3⟩
      by_cases e : q = n
      · subst e; exact .inr ⟨h1, h3⟩
      · exact .inl ⟨q, h1, by omega, h3⟩
theorem fillA_len (q : Nat) (ar : List Ar) (f : Nat → List Int) (p : Nat) : (fillA q ar f p).length ≤ (f p).length + ar.length := by
  induction ar generalizing f with
  | nil => simp [fillA]
  | cons a ar ih =>
    have : fillA q (a :: ar) f = fillA q ar (putT a.2.2.2.toNat q f) := rfl
    rw [this]
    have := ih (f := putT a.2.2.2.toNat q f)
    unfold putT at this ⊢
    simp only [List.length_cons]
    split at this <;> simp at this ⊢ <;> omega
theorem fillS_len (l : List St) (n p : Nat) (hn : n ≤ l.length) : (fillS l n p).length ≤ arcN (l.take n) := by
  induction n with
  | zero => simp [fillS]
  | succ n ih =>
    rw [fillS_succ, arcN_take (by omega)]
    have := fillA_len n (el l n).2 (fillS l n) p
    have := ih (by omega)
    omega
theorem back_spread {l : List St} (ht : ∀ q, q < l.length → ∀ a ∈ (el l q).2, ∃ t : Nat, a.2.2.2 = (t : Int) ∧ t < l.length) (T : Nat → Prop) : SpreadC l.length (endL l l.length) (fillS l l.length) T ↔ BackC l T := by
 unfold SpreadC BackC
 constructor
 ·rintro ⟨h1, h2⟩
  refine ⟨fun q hq e => ?_, fun q hq a ha e => ?_⟩
  ·simpa using h1 (q : Int) (endL_mem.2 ⟨q, rfl, hq, e⟩)
  ·obtain ⟨t, h3, h4⟩ := ht q hq a ha
   rw [h3] at e
   simp only [Int.toNat_natCast] at e
   simpa using h2 t h4 e (q : Int) (fillS_mem.2 ⟨q, rfl, hq, a, ha, by rw [h3]; simp⟩)
 ·rintro ⟨h1, h2⟩
  refine ⟨fun x hx => ?_, fun p hp e y hy => ?_⟩
  ·obtain ⟨q, rfl, hq, e⟩ := endL_mem.1 hx
   simpa using h1 q hq e
  ·obtain ⟨q, rfl, hq, a, ha, h3⟩ := fillS_mem.1 hy
   simpa using h2 q hq a ha (by rw [h3]; exact e)
end Go.Proofs.YtfhjncpakgailaaGreatDoor.Pl
namespace Go.Proofs.YtfhjncpakgailaaGreatDoor.Wt
open Go.ChangeShapes Go.WideShapes Go.ChangeAt Go.RowKit
open Go.Proofs.YtfhjncpakgailaaGreatDoor.Pl
set_option linter.unusedVariables false
set_option linter.unusedSimpArgs false
theorem infoIntS : (Tryz.prog.info? 3).map (fun i => (i.zero, i.size, i.bytes)) = some (some (.int .i64 0), 1, 8) := by kernel_rfl
theorem run_boolsS (n : Nat) (hn : n ≤ 1000) (W : World) : (Instr.makeSlice 53 (.int .i64 (n : Int)) (.int .i64 (n : Int))).run Tryz.prog W = .ok (.slice (some ⟨W.heap.size, 0, none⟩) n n) (W.alloc (.cells ((List.replicate n false).map Value.bool).toArray 4)) := by
 obtain ⟨i1, hi1, hy0, hy1, hy2⟩ := info_parts infoBool
 have h := run_make (P := Tryz.prog) W 53 4 i1 _ Tryz.underlying53 hi1 hy0 .i64 .i64 n n (by omega) (by omega) (by rw [hy2]; omega) (by omega)
 rw [hy1, Int.toNat_natCast, made_bools] at h
 exact h
def AskL (g : Nat) (lb : Array Value) (L : Nat → List Int) (n : Nat) (w : World) (r : Option Nat) : Prop :=
 (∀ ar W, (callFunc g ar).run Tryz.prog W = .ok (.enter g ar) W) ∧
 ∀ q, q < n → ∀ W : World, w.grownBy W r → Calls Tryz.prog g (#[.int .i64 (q : Int)] ++ lb) W fun e w' => ∃ v', e = .returned v' ∧ Nums w' v' (L q) ∧ Below W.heap.size W w'
set_option maxRecDepth 100000 in
set_option maxHeartbeats 3200000 in
theorem spread_any (n : Nat) (v : Value) (F : List Int) (g : Nat) (lb : Array Value) (L : Nat → List Int) (base : Nat) (w : World) (hF : w.ownsRow base 3 1 v F.length (F.flatMap encI1)) (hbase : base ≤ w.heap.size) (h60 : n ≤ 60) (hFn : ∀ x ∈ F, 0 ≤ x ∧ x < (n : Int)) (hFl : F.length ≤ 60) (hg : AskL g lb L n w v.ownBlock) (hLn : ∀ q, q < n → ∀ y ∈ L q, 0 ≤ y ∧ y < (n : Int)) (hLl : ∀ q, q < n → (L q).length ≤ 400) :
  Calls Tryz.prog 145 #[.int .i64 (n : Int), v, .func (.func g) #[] lb] w fun e w' => ∃ v', e = .returned v' ∧ (∃ bs, Bools w' v' bs ∧ Least (SpreadC n F L) n bs) ∧ w.grownBy w' v.ownBlock := by
 obtain ⟨i1, hi1, hy0, hy1, hy2⟩ := info_parts infoIntS
 obtain ⟨eg, hg⟩ := hg
 have HG : Hid (∀ q, q < n → ∀ W : World, w.grownBy W v.ownBlock → Calls Tryz.prog g (#[.int .i64 (q : Int)] ++ lb) W fun e w' => ∃ v', e = .returned v' ∧ Nums w' v' (L q) ∧ Below W.heap.size W w') := hg
 have HLN : Hid (∀ q, q < n → ∀ y ∈ L q, 0 ≤ y ∧ y < (n : Int)) := hLn
 have HLL : Hid (∀ q, q < n → (L q).length ≤ 400) := hLl
 have HF : Hid (w.ownsRow base 3 1 v F.length (F.flatMap encI1)) := hF
 have HD0 : Hid (Dfs n 400 30000 F L (List.replicate n false) F) := Dfs.start hFn (by omega)
 have hmk := run_boolsS n (by omega)
 have hnot : ∀ (x : Bool) (w : World), (Op.unary .not (.bool x)).run Tryz.prog w = .ok (.bool (!x)) w := fun _ _ => rfl
 clear hF hg hLn hLl hFn
 generalize hr : v.ownBlock = r at *
 have HNR : Hid (Near w r v) := .inl hr
 clear hr
 go_enter Tryz.func145, Tryz.ntmps145
 go_wp2
 go_loopw [8] (fun s8 wr => ∃ (bs : List Bool) (ws : List Int) (vo : Value), vo = s8 ∧ Hid (Dfs n 400 30000 F L bs ws) ∧ Hid (wr.ownsRow base 3 1 vo ws.length (ws.flatMap encI1)) ∧ Hid (Near w r vo) ∧ Hid (Blk wr w.heap.size (bs.map Value.bool).toArray 4) ∧ Hid (w.grownBy wr r)) (fun s8 wr => falses wr w.heap.size * 401 + lenV s8)
 case atStart => exact ⟨_, F, v, rfl, HD0, HF.out.alloc _, HNR, by (show Blk _ _ _ _); rw [show (List.map Value.bool (List.replicate n false)).toArray = Array.replicate n (Value.bool false) from by simp]; exact Blk.made _ _ _, gNew ((Below.refl _ _).alloc (Nat.le_refl _) _)⟩
 case round =>
  obtain ⟨bs, ws, vo, rfl, hd, hown, hnear, hblk, hgr⟩ := hrel
  obtain ⟨a, cap, hvo⟩ := own_sl hown.out
  subst hvo
  by_cases hz : ws.length = 0
  ·have hwz : ws = [] := List.eq_nil_of_length_eq_zero hz
   have HLS : Hid (Least (SpreadC n F L) n bs) := by have h9 := hd.out; rw [hwz] at h9; exact h9.done
   have HBL : Hid (Bools wr (.slice (some ⟨w.heap.size, 0, none⟩) n n) bs) := by have h9 := bools_block (cap := n) hblk.out; rw [hd.out.len] at h9; exact h9
   have hz' : ((ws.length : Nat) : Int) = 0 := by omega
   clear hwz
   go_wp2
   go_ret
   exact ⟨_, rfl, ⟨bs, HBL.out, HLS.out⟩, hgr.out⟩
  ·obtain ⟨k, hk⟩ : ∃ k, ws.length = k + 1 := ⟨ws.length - 1, by omega⟩
   obtain ⟨gb, hga, hnc, hcut⟩ := own_cut (k := k) hown.out (by omega)
   subst hga
   have hin := hd.out.inn (el ws k) (el_mem (by omega))
   have c0 := own_num hown.out (j := k) (by omega)
   obtain ⟨q, hq⟩ : ∃ q : Nat, el ws k = (q : Int) := ⟨(el ws k).toNat, by omega⟩
   rw [hq] at hin c0
   have hqn : q < n := by omega
   have hroom := hd.out.room
   rw [hk] at hroom
   have HCUT : Hid (wr.ownsRow base 3 1 (.slice (some ⟨gb, 0, none⟩) k cap) k ((ws.take k).flatMap encI1)) := hcut
   have HNC : Hid (Near w r (.slice (some ⟨gb, 0, none⟩) k cap)) := hnear.out
   have HFL : Hid (falses wr w.heap.size = bs.count false) := falses_blk hblk.out
   have HTK : Hid ((ws.take k).length = k) := by show _ = _; rw [List.length_take]; omega
   have y0 := bool_cell hblk.out (j := q) (by rw [hd.out.len]; exact hqn)
   have y1 := hblk.out.fz q
   have k1 : (0 : Int) < (k : Int) + 1 := by omega
   have k2 : (0 : Int) ≤ (k : Int) := by omega
   have k3 : (k : Int) < (k : Int) + 1 := by omega
   have k4 : (k : Int) ≤ (cap : Int) := by omega
   have k5 : IntKind.i64.wrap (k : Int) = (k : Int) := wrapI (by omega) (by omega)
   have q0 : (0 : Int) ≤ (q : Int) := by omega
   have q1 : (q : Int) < (n : Int) := by omega
   rcases bool_cases' (el bs q) with hf | hf
   ·have HD2 : Hid (Dfs n 400 30000 F L bs (ws.take k)) := hd.out.skip hk (by rw [hq]; exact hf)
    rw [hf] at y0
    rw [hk]
    clear hf hown hnear hcut hd hroom hz
    go_wp2
    go_roundw
    case rel => exact ⟨bs, ws.take k, _, rfl, HD2, by rw [HTK.out]; exact HCUT, HNC, hblk, hgr⟩
    case measure => simp [lenV]
   ·have HD2 : Hid (Dfs n 400 30000 F L (bs.set q true) (ws.take k ++ L q)) := hd.out.step hk hq hf (HLN.out q hqn) (HLL.out q hqn)
    have HCS : Hid ((bs.set q true).count false + 1 = bs.count false) := count_set (by rw [hd.out.len]; exact hqn) hf
    rw [hf] at y0
    rw [hk]
    have hgne : some w.heap.size ≠ Value.ownBlock (.slice (some ⟨gb, 0, none⟩) k cap) := own_ne hcut hblk.out (by decide)
    have HB2 : Hid (Blk (wr.setCell ⟨w.heap.size, q, none⟩ (.bool true)) w.heap.size ((bs.set q true).map Value.bool).toArray 4) := by have h9 := hblk.out.set q (.bool true); rw [set_bool] at h9; exact h9
    have HG2 : Hid (w.grownBy (wr.setCell ⟨w.heap.size, q, none⟩ (.bool true)) r) := gSetNew hgr.out (Nat.le_refl _) q _
    have HO2 : Hid ((wr.setCell ⟨w.heap.size, q, none⟩ (.bool true)).ownsRow base 3 1 (.slice (some ⟨gb, 0, none⟩) k cap) k ((ws.take k).flatMap encI1)) := hcut.kept (gSet wr w.heap.size q _) (.inr (Ne.symm hgne))
    have hL4 := HLL.out q hqn
    have HC1 : Hid (Calls Tryz.prog g (#[.int .i64 (q : Int)] ++ lb) (wr.setCell ⟨w.heap.size, q, none⟩ (.bool true)) fun e w' => ∃ v', e = .returned v' ∧ Nums w' v' (L q) ∧ Below (wr.setCell ⟨w.heap.size, q, none⟩ (.bool true)).heap.size (wr.setCell ⟨w.heap.size, q, none⟩ (.bool true)) w') := HG.out q hqn _ HG2.out
    clear hf hown hnear hcut hd hblk hgr hz
    go_wp2_with (first
     | (go_at_fn g; refine HC1.out.mono ?_; rintro e w' ⟨v', rfl, hnum, hb'⟩; have HNUM : Hid (Nums w' v' (L q)) := hnum; have HB3 : Hid (Below _ _ w') := hb'; clear hnum hb'; have HO3 : Hid (w'.ownsRow base 3 1 (.slice (some ⟨gb, 0, none⟩) k cap) k ((ws.take k).flatMap encI1)) := ownBelow HO2.out HB3.out; have HG3 : Hid (w.grownBy w' r) := gTrans HG2.out (gNew HB3.out); have HBK3 : Hid (Blk w' w.heap.size ((bs.set q true).map Value.bool).toArray 4) := HB2.out.below HB3.out HB2.out.lt)
     | (at_builtin; refine wpList_append_spot encI1_len (by decide) encI1_one rfl _ _ 25 rfl base 3 i1 _ 8 Tryz.underlying25 hi1 hy0 hy1 hy2 rfl _ k ((ws.take k).flatMap encI1) rfl HO3.out _ (L q) rfl HNUM.out (by unfold maxLen; omega) (by omega) (Nat.le_trans hbase HG3.out.size) ?_; intro v4 w4 ho4 hg4 hn4; have HO4 : Hid (w4.ownsRow base 3 1 v4 (ws.take k ++ L q).length ((ws.take k ++ L q).flatMap encI1)) := (by show World.ownsRow _ _ _ _ _ _ _; rw [List.length_append, HTK.out, List.flatMap_append]; exact ho4); have HN4 : Hid (Near w r v4) := HNC.out.next HG3.out hn4; have HG4 : Hid (w.grownBy w4 r) := HNC.out.grown HG3.out hg4; have HB4 : Hid (Blk w4 w.heap.size ((bs.set q true).map Value.bool).toArray 4) := HBK3.out.grown hg4 hgne; have hlv : lenV v4 = k + (L q).length := (by obtain ⟨a9, c9, h9⟩ := own_sl ho4; rw [h9]; rfl); clear ho4 hg4 hn4))
    go_roundw
    case rel => exact ⟨bs.set q true, ws.take k ++ L q, _, rfl, HD2, HO4, HN4, HB4, HG4⟩
    case measure =>
     have h1 := falses_blk HB4.out
     have h2 := HCS.out
     have h3 := HFL.out
     rw [h1, h3, ← h2]
     simp [hlv]
     simp only [lenV]
     omega
end Go.Proofs.YtfhjncpakgailaaGreatDoor.Wt
