/- A heap of numbers, the least one first: what goes up, what goes down (no program in sight). -/
import Derived.Test.YtfpibdaedfilaaaGaa
import Derived.Test.YtfpibdaedfilaaaGai
import Derived.Test.YtfpibdaedfilaaaGab
import Derived.Deep.QuietTactic
import Derived.BigQuiet
import Derived.RegionTactic
import Derived.BigRegion
import Derived.Test.YtfpibdaedfilaaaGag
namespace Go.Proofs.Ytfpibdaedfilaaa.Pl
def swpL (l : List Int) (i j : Nat) : List Int := (l.set i (el l j)).set j (el l i)
theorem swp_length (l : List Int) (i j : Nat) : (swpL l i j).length = l.length := by simp [swpL]
theorem el_setZ {l : List Int} {q j : Nat} (hq : q < l.length) (x : Int) : el (l.set q x) j = if j = q then x else el l j := by
 by_cases h : j = q
 ·subst h; rw [if_pos rfl, el_get (by simpa using hq)]; simp
 ·rw [if_neg h]; simp [el, List.getElem?_set_ne (Ne.symm h)]
theorem el_swp {l : List Int} {i j : Nat} (hi : i < l.length) (hj : j < l.length) (k : Nat) : el (swpL l i j) k = if k = j then el l i else if k = i then el l j else el l k := by
 unfold swpL
 rw [el_setZ (by simpa using hj), el_setZ hi]
theorem swp_perm {l : List Int} {i j : Nat} (hi : i < l.length) (hj : j < l.length) : (swpL l i j).Perm l := by
 have h := Array.swap_perm (xs := l.toArray) (i := i) (j := j) (by simpa using hi) (by simpa using hj)
 rw [Array.perm_iff_toList_perm] at h
 have e : (l.toArray.swap i j (by simpa using hi) (by simpa using hj)).toList = swpL l i j := by
  unfold swpL
  rw [el_get hi, el_get hj]
  simp [Array.swap]
 rw [e] at h
 exact h
theorem swp_drop {l : List Int} {i j n : Nat} (hi : i < n) (hj : j < n) : (swpL l i j).drop n = l.drop n := by
 unfold swpL
 rw [List.drop_set_of_lt (by omega), List.drop_set_of_lt (by omega)]
def HeapL (l : List Int) (n : Nat) : Prop := ∀ k, 0 < k → k < n → el l ((k - 1) / 2) ≤ el l k
theorem HeapL.nil : HeapL [] 0 := fun _ _ h => absurd h (Nat.not_lt_zero _)
theorem HeapL.root {l : List Int} {n : Nat} (h : HeapL l n) : ∀ k, k < n → el l 0 ≤ el l k := by
  intro k
  induction k using Nat.strongRecOn with
  | ind k ih =>
    intro hk
    by_cases e : k = 0
    · subst e; exact Int.le_refl _
    · have h1 := h k (by omega) hk
      have h2 := ih ((k - 1) / 2) (by omega) (by omega)
      omega
def UpL (l : List Int) (j : Nat) : Prop := ∀ k, 0 < k → k < l.length → (k ≠ j → el l ((k - 1) / 2) ≤ el l k) ∧ (0 < j → (k - 1) / 2 = j → el l ((j - 1) / 2) ≤ el l k)
theorem UpL.start {l : List Int} (h : HeapL l l.length) (x : Int) : UpL (l ++ [x]) l.length := by
 intro k h0 hk
 have hk' : k < l.length + 1 := by simpa using hk
 constructor
 ·intro hne
  rw [el_left (by omega), el_left (by omega)]
  exact h k h0 (by omega)
 ·intro h1 h2; omega
theorem UpL.swap {l : List Int} {j : Nat} (h : UpL l j) (h0 : 0 < j) (hj : j < l.length) (hlt : el l j < el l ((j - 1) / 2)) : UpL (swpL l ((j - 1) / 2) j) ((j - 1) / 2) := by
 generalize hi : (j - 1) / 2 = i at *
 have hij : i < j := by omega
 intro k hk0 hk
 rw [swp_length] at hk
 have hjj := h j h0 hj
 have hkk := h k hk0 hk
 have e := fun p => el_swp (l := l) (i := i) (j := j) (by omega) hj p
 constructor
 ·intro hki
  rw [e k, if_neg hki, e ((k - 1) / 2)]
  by_cases c1 : k = j
  ·subst c1
   rw [if_pos rfl, hi, if_neg (by omega), if_pos rfl]
   omega
  ·rw [if_neg c1]
   have h1 := hkk.1 c1
   by_cases c2 : (k - 1) / 2 = j
   ·rw [if_pos c2]
    have := hkk.2 h0 c2
    rw [hi] at this
    exact this
   ·rw [if_neg c2]
    by_cases c3 : (k - 1) / 2 = i
    ·rw [if_pos c3]
     rw [c3] at h1
     omega
    ·rw [if_neg c3]; exact h1
 ·intro hi0 hki
  have hpi : (i - 1) / 2 < i := by omega
  rw [e ((i - 1) / 2), if_neg (by omega), if_neg (by omega), e k]
  have h1 := (h i hi0 (by omega)).1 (by omega)
  by_cases c1 : k = j
  ·rw [if_pos c1]; exact h1
  ·rw [if_neg c1, if_neg (by omega)]
   have h2 := hkk.1 c1
   rw [hki] at h2
   omega
theorem UpL.top {l : List Int} (h : UpL l 0) : HeapL l l.length := fun k h0 hk => (h k h0 hk).1 (by omega)
theorem UpL.stop {l : List Int} {j : Nat} (h : UpL l j) (hle : ¬ el l j < el l ((j - 1) / 2)) : HeapL l l.length := by
 intro k h0 hk
 by_cases c : k = j
 ·subst c; omega
 ·exact (h k h0 hk).1 c
def DownL (l : List Int) (i n : Nat) : Prop := ∀ k, 0 < k → k < n → ((k - 1) / 2 ≠ i → el l ((k - 1) / 2) ≤ el l k) ∧ (0 < i → (k - 1) / 2 = i → el l ((i - 1) / 2) ≤ el l k)
theorem DownL.start {l : List Int} {n : Nat} (h : HeapL l l.length) (hn : l.length = n + 1) : DownL (swpL l 0 n) 0 n := by
 intro k h0 hk
 have e := fun p => el_swp (l := l) (i := 0) (j := n) (by omega) (by omega) p
 constructor
 ·intro hne
  rw [e, e k, if_neg (by omega), if_neg (by omega), if_neg (by omega), if_neg (by omega)]
  exact h k h0 (by omega)
 ·intro h1; omega
def LowC (l : List Int) (i n c : Nat) : Prop := c < n ∧ 0 < c ∧ (c - 1) / 2 = i ∧ ∀ k, 0 < k → k < n → (k - 1) / 2 = i → el l c ≤ el l k
theorem LowC.left {l : List Int} {i n : Nat} (h1 : 2 * i + 1 < n) (h2 : 2 * i + 1 + 1 < n → ¬ el l (2 * i + 1 + 1) < el l (2 * i + 1)) : LowC l i n (2 * i + 1) := by
 refine ⟨h1, by omega, by omega, fun k k0 hk hp => ?_⟩
 have : k = 2 * i + 1 ∨ k = 2 * i + 1 + 1 := by omega
 rcases this with rfl | rfl
 ·exact Int.le_refl _
 ·have := h2 hk; omega
theorem LowC.right {l : List Int} {i n : Nat} (h1 : 2 * i + 1 + 1 < n) (h2 : el l (2 * i + 1 + 1) < el l (2 * i + 1)) : LowC l i n (2 * i + 1 + 1) := by
 refine ⟨h1, by omega, by omega, fun k k0 hk hp => ?_⟩
 have : k = 2 * i + 1 ∨ k = 2 * i + 1 + 1 := by omega
 rcases this with rfl | rfl
 ·omega
 ·exact Int.le_refl _
theorem DownL.swap {l : List Int} {i n c : Nat} (h : DownL l i n) (hn : n ≤ l.length) (hc : LowC l i n c) (hlt : el l c < el l i) : DownL (swpL l i c) c n := by
 obtain ⟨hcn, hc0, hci, hmin⟩ := hc
 have hic : i < c := by omega
 intro k hk0 hk
 have e := fun p => el_swp (l := l) (i := i) (j := c) (by omega) (by omega) p
 constructor
 ·intro hkc
  rw [e ((k - 1) / 2), if_neg hkc, e k]
  by_cases c3 : (k - 1) / 2 = i
  ·rw [if_pos c3]
   by_cases c1 : k = c
   ·rw [if_pos c1]; omega
   ·rw [if_neg c1, if_neg (by omega)]
    exact hmin k hk0 hk c3
  ·rw [if_neg c3]
   have h1 := (h k hk0 hk).1 c3
   by_cases c1 : k = c
   ·subst c1; exact absurd hci c3
   ·rw [if_neg c1]
    by_cases c2 : k = i
    ·subst c2
     rw [if_pos rfl]
     exact (h c hc0 hcn).2 hk0 hci
    ·rw [if_neg c2]; exact h1
 ·intro _ hkc
  rw [hci, e i, if_neg (by omega), if_pos rfl, e k, if_neg (by omega), if_neg (by omega)]
  have h1 := (h k hk0 hk).1 (by omega)
  rw [hkc] at h1
  exact h1
theorem DownL.leaf {l : List Int} {i n : Nat} (h : DownL l i n) (hl : n ≤ 2 * i + 1) : HeapL l n := fun k h0 hk => (h k h0 hk).1 (by omega)
theorem DownL.stop {l : List Int} {i n c : Nat} (h : DownL l i n) (hc : LowC l i n c) (hle : ¬ el l c < el l i) : HeapL l n := by
 intro k h0 hk
 by_cases e : (k - 1) / 2 = i
 ·have := hc.2.2.2 k h0 hk e
  rw [e]; omega
 ·exact (h k h0 hk).1 e
theorem pop_facts {l m : List Int} {n : Nat} (h : HeapL l l.length) (hn : l.length = n + 1) (hp : m.Perm (swpL l 0 n)) (hd : m.drop n = (swpL l 0 n).drop n) (hm : HeapL m n) :
  el m n = el l 0 ∧ HeapL (m.take n) n ∧ (el l 0 :: m.take n).Perm l ∧ ∀ y ∈ m.take n, el l 0 ≤ y := by
 have hml : m.length = n + 1 := by rw [hp.length_eq, swp_length, hn]
 have h1 : el m n = el l 0 := by
  have e1 : el (m.drop n) 0 = el m n := by simp [el]
  have e2 : el ((swpL l 0 n).drop n) 0 = el (swpL l 0 n) n := by simp [el]
  rw [← e1, hd, e2, el_swp (by omega) (by omega), if_pos rfl]
 have h2 : m = m.take n ++ [el l 0] := by
  have := take_el (l := m) (k := n) (by omega)
  rw [List.take_of_length_le (by omega), h1] at this
  exact this
 have h3 : (el l 0 :: m.take n).Perm l := by
  have h4 : m.Perm l := hp.trans (swp_perm (by omega) (by omega))
  rw [h2] at h4
  exact (List.perm_append_singleton _ _).symm.trans h4
 refine ⟨h1, ?_, h3, fun y hy => ?_⟩
 ·intro k h0 hk
  rw [el_take (by omega), el_take hk]
  exact hm k h0 hk
 ·have : y ∈ l := h3.mem_iff.1 (List.mem_cons_of_mem _ hy)
  obtain ⟨k, hk, rfl⟩ := mem_el this
  exact h.root k hk
end Go.Proofs.Ytfpibdaedfilaaa.Pl
namespace Go.Proofs.Ytfpibdaedfilaaa.Wt
open Go.ChangeShapes Go.WideShapes Go.ChangeAt Go.RowKit
open Go.Proofs.Ytfpibdaedfilaaa.Pl
set_option linter.unusedVariables false
set_option linter.unusedSimpArgs false
theorem load_ready (B : Nat) (w : World) {v : Value} (h : w.cell? ⟨B, 0, none⟩ = some v) : (loadVar 125 ⟨B, 0, none⟩).run Try.prog w = .ok v w := by
 simp [loadVar, isAgg, underlying, Try.underlying125, h, Result.andThen]
theorem meth_push (B : Nat) (w : World) : Sem.run Try.prog (method 287 126 (.pointer (some ⟨B, 0, none⟩)) "Push") w = .ok (124, .pointer (some ⟨B, 0, none⟩)) w := by kernel_rfl
theorem meth_pop (B : Nat) (w : World) : Sem.run Try.prog (method 287 126 (.pointer (some ⟨B, 0, none⟩)) "Pop") w = .ok (123, .pointer (some ⟨B, 0, none⟩)) w := by kernel_rfl
theorem meth_len0 (B : Nat) (w : World) : Sem.run Try.prog (method 287 126 (.pointer (some ⟨B, 0, none⟩)) "Len") w = Sem.run Try.prog (do let v ← loadVar 125 ⟨B, 0, none⟩; pure (74, v)) w := by kernel_rfl
theorem meth_less0 (B : Nat) (w : World) : Sem.run Try.prog (method 287 126 (.pointer (some ⟨B, 0, none⟩)) "Less") w = Sem.run Try.prog (do let v ← loadVar 125 ⟨B, 0, none⟩; pure (121, v)) w := by kernel_rfl
theorem meth_swap0 (B : Nat) (w : World) : Sem.run Try.prog (method 287 126 (.pointer (some ⟨B, 0, none⟩)) "Swap") w = Sem.run Try.prog (do let v ← loadVar 125 ⟨B, 0, none⟩; pure (122, v)) w := by kernel_rfl
theorem meth_len {B : Nat} {w : World} {v : Value} (h : w.cell? ⟨B, 0, none⟩ = some v) : Sem.run Try.prog (method 287 126 (.pointer (some ⟨B, 0, none⟩)) "Len") w = .ok (74, v) w := by
 rw [meth_len0]; simp [load_ready B w h, Sem.run_bind]
theorem meth_less {B : Nat} {w : World} {v : Value} (h : w.cell? ⟨B, 0, none⟩ = some v) : Sem.run Try.prog (method 287 126 (.pointer (some ⟨B, 0, none⟩)) "Less") w = .ok (121, v) w := by
 rw [meth_less0]; simp [load_ready B w h, Sem.run_bind]
theorem meth_swap {B : Nat} {w : World} {v : Value} (h : w.cell? ⟨B, 0, none⟩ = some v) : Sem.run Try.prog (method 287 126 (.pointer (some ⟨B, 0, none⟩)) "Swap") w = .ok (122, v) w := by
 rw [meth_swap0]; simp [load_ready B w h, Sem.run_bind]
theorem flatI (l : List Int) : l.flatMap encI1 = l.map (Value.int .i64) := by
 induction l with
 | nil => rfl
 | cons x l ih => rw [List.flatMap_cons, ih]; rfl
theorem own_set {w : World} {base : Nat} {e : TypeId} {g n cap j : Nat} {ws : List Int} (h : w.ownsRow base e 1 (.slice (some ⟨g, 0, none⟩) n cap) n (ws.flatMap encI1)) (hj : j < n) (x : Int) :
  (w.setCell ⟨g, j, none⟩ (.int .i64 x)).ownsRow base e 1 (.slice (some ⟨g, 0, none⟩) n cap) n ((ws.set j x).flatMap encI1) := by
 have hlen := h.1
 rw [flat_length encI1_len] at hlen
 rcases h.2 with ⟨hv, hn0⟩ | ⟨g', cap', cur, hv, hbg, hg, hnc, hcm, hcs, htake⟩
 ·omega
 ·simp only [Value.slice.injEq, Option.some.injEq, Addr.mk.injEq, and_true, true_and] at hv
  obtain ⟨rfl, rfl⟩ := hv
  refine ⟨by rw [flat_length encI1_len, List.length_set]; exact hlen, .inr ⟨g, cap, cur.setIfInBounds j (.int .i64 x), rfl, hbg, ?_, hnc, hcm, by simpa using hcs, ?_⟩⟩
  ·have := Blk.set (w := w) (b := g) (cs := cur) (t := e) hg j (.int .i64 x)
   exact this
  ·rw [flatI] at htake ⊢
   rw [Array.toList_setIfInBounds, List.take_set, htake, List.map_set]
theorem own_fz {w : World} {base : Nat} {e : TypeId} {g n cap : Nat} {ws : List Value} (h : w.ownsRow base e 1 (.slice (some ⟨g, 0, none⟩) n cap) n ws) (j : Nat) : w.frozen? ⟨g, j, none⟩ = false := by
 rcases h.2 with ⟨hv, hn0⟩ | ⟨g', cap', cur, hv, hbg, hg, _⟩
 ·simp at hv
 ·simp only [Value.slice.injEq, Option.some.injEq, Addr.mk.injEq, and_true, true_and] at hv
  obtain ⟨rfl, rfl⟩ := hv
  exact Blk.fz (t := e) hg j
theorem own_some {w : World} {base : Nat} {e : TypeId} {v : Value} {n : Nat} {ws : List Value} (h : w.ownsRow base e 1 v n ws) (hn : 0 < n) : ∃ g cap, v = .slice (some ⟨g, 0, none⟩) n cap ∧ g < w.heap.size ∧ n ≤ cap ∧ base ≤ g := by
 rcases h.2 with ⟨hv, hn0⟩ | ⟨g, cap, cur, rfl, hbg, hg, hnc, _⟩
 ·omega
 ·exact ⟨g, cap, rfl, Blk.lt (t := e) hg, hnc, hbg⟩
set_option maxRecDepth 100000 in
theorem rLen_any (a : Option Addr) (n cap : Nat) (w : World) :
  Calls Try.prog 74 #[.slice a n cap] w fun e w' => e = .returned (.int .i64 (n : Int)) ∧ w' = w := by
 go_enter Try.func74, Try.ntmps74
 go_wp2
 go_ret
 exact ⟨rfl, rfl⟩
set_option maxRecDepth 100000 in
set_option maxHeartbeats 2000000 in
theorem rLess_any (g n cap : Nat) (w : World) (x y : Int) (i j : Nat) (hi : i < n) (hj : j < n) (hn : n ≤ 1000) (ci : w.cell? ⟨g, i, none⟩ = some (.int .i64 x)) (cj : w.cell? ⟨g, j, none⟩ = some (.int .i64 y)) :
  Calls Try.prog 121 #[.slice (some ⟨g, 0, none⟩) n cap, .int .i64 (i : Int), .int .i64 (j : Int)] w fun e w' => e = .returned (.bool (decide (x < y))) ∧ ∃ q, w' = w.drewN q := by
 go_enter Try.func121, Try.ntmps121
 go_wp2
 go_quiet (fail)
 go_wp2
 go_ret
 exact ⟨rfl, _, rfl⟩
set_option maxRecDepth 100000 in
set_option maxHeartbeats 2000000 in
theorem rSwap_any (g n cap : Nat) (w : World) (x y : Int) (i j : Nat) (hi : i < n) (hj : j < n) (hn : n ≤ 1000) (ci : w.cell? ⟨g, i, none⟩ = some (.int .i64 x)) (cj : w.cell? ⟨g, j, none⟩ = some (.int .i64 y)) (fi : w.frozen? ⟨g, i, none⟩ = false) (fj : w.frozen? ⟨g, j, none⟩ = false) :
  Calls Try.prog 122 #[.slice (some ⟨g, 0, none⟩) n cap, .int .i64 (i : Int), .int .i64 (j : Int)] w fun e w' => e = .returned (.tuple #[]) ∧ ∃ q, w' = ((w.setCell ⟨g, i, none⟩ (.int .i64 y)).setCell ⟨g, j, none⟩ (.int .i64 x)).drewN q := by
 obtain ⟨v', hy'⟩ := cell?_setCell_some (w := w) (p := ⟨g, i, none⟩) (x := .int .i64 y) (q := ⟨g, j, none⟩) cj
 go_enter Try.func122, Try.ntmps122
 go_wp2
 go_region
 all_goals (try go_wp2)
 all_goals go_end0
 all_goals exact ⟨rfl, 1, rfl⟩
theorem infoIntH : (Try.prog.info? 3).map (fun i => (i.zero, i.size, i.bytes)) = some (some (.int .i64 0), 1, 8) := by kernel_rfl
theorem assert_int (x : Int) (w : World) : (Instr.typeAssert (.iface 3 (.int .i64 x)) 20 3 false).run Try.prog w = .ok (.int .i64 x) w := by kernel_rfl
def HeldR (B : Nat) (v : Value) (w : World) : Prop := w.cell? ⟨B, 0, none⟩ = some v ∧ w.frozen? ⟨B, 0, none⟩ = false
set_option maxRecDepth 100000 in
set_option maxHeartbeats 2000000 in
theorem rPop_any (B base : Nat) (v : Value) (hs : List Int) (n : Nat) (w : World) (hB : Blk w B #[v] 125) (hown : w.ownsRow base 3 1 v hs.length (hs.flatMap encI1)) (hl : hs.length = n + 1) (hn : n ≤ 1000) :
  Calls Try.prog 123 #[.pointer (some ⟨B, 0, none⟩)] w fun e w' => e = .returned (.iface 3 (.int .i64 (el hs n))) ∧ ∃ v', Blk w' B #[v'] 125 ∧ w'.ownsRow base 3 1 v' n ((hs.take n).flatMap encI1) ∧ v'.ownBlock = v.ownBlock ∧ Turn2 w w' B v.ownBlock := by
 obtain ⟨a, cap, hv⟩ := own_sl hown
 subst hv
 rw [hl] at hown hB
 obtain ⟨g, hga, hnc, hcut⟩ := own_cut (k := n) hown (by omega)
 subst hga
 have c0 := own_num hown (j := n) (by omega)
 have cB := hB.cell 0 (v := .slice (some ⟨g, 0, none⟩) (n + 1) cap) rfl
 have fB := hB.fz 0
 have hne : some B ≠ Value.ownBlock (.slice (some ⟨g, 0, none⟩) n cap) := own_ne hcut hB (by decide)
 have k1 : (0 : Int) ≤ (n : Int) := by omega
 have k2 : (n : Int) < (n : Int) + 1 := by omega
 have k3 : (n : Int) ≤ (cap : Int) := by omega
 have k5 : IntKind.i64.wrap (n : Int) = (n : Int) := wrapI (by omega) (by omega)
 have HO : Hid ((w.setCell ⟨B, 0, none⟩ (.slice (some ⟨g, 0, none⟩) n cap)).ownsRow base 3 1 (.slice (some ⟨g, 0, none⟩) n cap) n ((hs.take n).flatMap encI1)) := hcut.kept (gSet w B 0 _) (.inr (Ne.symm hne))
 have HB : Hid (Blk (w.setCell ⟨B, 0, none⟩ (.slice (some ⟨g, 0, none⟩) n cap)) B #[.slice (some ⟨g, 0, none⟩) n cap] 125) := by have h9 := hB.set 0 (.slice (some ⟨g, 0, none⟩) n cap); exact h9
 have HT : Hid (Turn2 w (w.setCell ⟨B, 0, none⟩ (.slice (some ⟨g, 0, none⟩) n cap)) B (Value.ownBlock (.slice (some ⟨g, 0, none⟩) (n + 1) cap))) := Turn2.set (Turn2.grown (gNew (Below.refl _ _)) B) 0 _
 generalize el hs n = x at *
 rw [hl]
 clear hown hB hcut hne
 go_enter Try.func123, Try.ntmps123
 go_wp2
 go_ret
 exact ⟨rfl, _, HB.out, HO.out, rfl, HT.out⟩
set_option maxRecDepth 100000 in
set_option maxHeartbeats 2000000 in
theorem rPush_any (B base : Nat) (v : Value) (hs : List Int) (q : Int) (w : World) (hB : Blk w B #[v] 125) (hown : w.ownsRow base 3 1 v hs.length (hs.flatMap encI1)) (hbase : base ≤ w.heap.size) (hn : hs.length ≤ 1000) :
  Calls Try.prog 124 #[.pointer (some ⟨B, 0, none⟩), .iface 3 (.int .i64 q)] w fun e w' => e = .returned (.tuple #[]) ∧ ∃ v', Blk w' B #[v'] 125 ∧ w'.ownsRow base 3 1 v' (hs ++ [q]).length ((hs ++ [q]).flatMap encI1) ∧ Near w v.ownBlock v' ∧ Turn2 w w' B v.ownBlock := by
 obtain ⟨i1, hi1, hy0, hy1, hy2⟩ := info_parts infoIntH
 obtain ⟨a, cap, hv⟩ := own_sl hown
 have HV : Hid (v = .slice a hs.length cap) := hv
 have O2 : Hid ((w.drew.alloc (.cells #[.int .i64 q] 3)).ownsRow base 3 1 v hs.length (hs.flatMap encI1)) := World.ownsRow.alloc (w := w.drew) hown _
 have B2 : Hid (Blk (w.drew.alloc (.cells #[.int .i64 q] 3)) B #[v] 125) := hB.drew.alloc _
 obtain ⟨v4, w4, r4, ho4, hg4, hn4⟩ := run_append_spot (P := Try.prog) (w := w.drew.alloc (.cells #[.int .i64 q] 3)) encI1_len (by decide) encI1_one 125 125 base 3 i1 _ 8 Try.underlying125 hi1 hy0 hy1 hy2 rfl _ hs.length (hs.flatMap encI1) O2.out _ [q] (oneRow (enc := encI1) w.drew q rfl 3) (by simp; unfold maxLen; omega) (by simp; omega) (by rw [World.size_alloc]; exact Nat.le_succ_of_le hbase)
 have B4 : Hid (Blk w4 B #[v] 125) := B2.out.grown hg4 (own_ne O2.out B2.out (by decide))
 have hne : some B ≠ v4.ownBlock := own_ne ho4 B4.out (by decide)
 have O5 : Hid ((w4.setCell ⟨B, 0, none⟩ v4).ownsRow base 3 1 v4 (hs ++ [q]).length ((hs ++ [q]).flatMap encI1)) := by
  show World.ownsRow _ _ _ _ _ _ _
  rw [List.length_append, List.flatMap_append]
  exact ho4.kept (gSet w4 B 0 _) (.inr (Ne.symm hne))
 have B5 : Hid (Blk (w4.setCell ⟨B, 0, none⟩ v4) B #[v4] 125) := by have h9 := B4.out.set 0 v4; exact h9
 have N5 : Hid (Near w v.ownBlock v4) := by
  rcases hn4 with e | ⟨b, e, hb⟩
  ·exact .inl e
  ·exact .inr ⟨b, e, by rw [World.size_alloc] at hb; exact Nat.le_of_succ_le hb⟩
 have T5 : Hid (Turn2 w (w4.setCell ⟨B, 0, none⟩ v4) B v.ownBlock) := by
  have h1 : w.grownBy (w.drew.alloc (.cells #[.int .i64 q] 3)) v.ownBlock := gNew ((Below.refl w.heap.size w).drew.alloc (Nat.le_refl _) _)
  exact Turn2.set (Turn2.grown (gTrans h1 hg4) B) 0 _
 have HS : HeldR B v w.drew := ⟨hB.drew.cell 0 rfl, hB.drew.fz 0⟩
 have HSA : HeldR B v (w.drew.alloc (.cells #[.int .i64 q] 3)) := ⟨B2.out.cell 0 rfl, B2.out.fz 0⟩
 have HS4 : HeldR B v w4 := ⟨B4.out.cell 0 rfl, B4.out.fz 0⟩
 have f4 := B4.out.fz 0
 have c4 := B4.out.cell 0 (v := v) rfl
 have HR4 : Hid _ := r4
 obtain ⟨va4, vc4, hv4⟩ := own_sl ho4
 subst hv4
 rw [hv] at HS HSA HS4 HR4 c4
 clear hown hB ho4 hg4 hn4 r4 hne O2 B2
 obtain ⟨r, hr⟩ : ∃ r, v.ownBlock = r := ⟨_, rfl⟩
 rw [hr] at N5 T5
 rw [hr]
 clear hr HV
 have hta := assert_int
 subst hv
 go_enter Try.func124, Try.ntmps124
 go_wp2
 refine region_anyL (HeldR B (.slice a hs.length cap)) 9 (by kernel_rfl) ?_
 refine anyL_tk (i := 0) (v := ?v0_1) aZ0 (by kernel_rfl) ?y0_1 HS ?r0_1
 case y0_1 => intro wx hx; obtain ⟨h1, h2⟩ := hx; go_simp; try (with_reducible rfl)
 simp only [Act.put, List.setIfInBounds_toArray, List.set_cons_zero, List.set_cons_succ]
 refine anyL_tk (i := 1) (v := ?v1_2) aZ1 (by kernel_rfl) ?y1_2 HS ?r1_2
 case y1_2 => intro wx hx; obtain ⟨h1, h2⟩ := hx; go_simp; try (with_reducible rfl)
 simp only [Act.put, List.setIfInBounds_toArray, List.set_cons_zero, List.set_cons_succ]
 refine anyL_tk (i := 2) (v := ?v2_3) aZ2 (by kernel_rfl) ?y2_3 HS ?r2_3
 case y2_3 => intro wx hx; obtain ⟨h1, h2⟩ := hx; go_simp; try (with_reducible rfl)
 simp only [Act.put, List.setIfInBounds_toArray, List.set_cons_zero, List.set_cons_succ]
 refine anyL_tk (i := 3) (v := ?v3_4) aZ3 (by kernel_rfl) ?y3_4 HS ?r3_4
 case y3_4 => intro wx hx; obtain ⟨h1, h2⟩ := hx; go_simp; try (with_reducible rfl)
 simp only [Act.put, List.setIfInBounds_toArray, List.set_cons_zero, List.set_cons_succ]
 refine anyL_tk (i := 4) (v := ?v4_5) aZ4 (by kernel_rfl) ?y4_5 HS ?r4_5
 case y4_5 => intro wx hx; obtain ⟨h1, h2⟩ := hx; go_simp; try (with_reducible rfl)
 simp only [Act.put, List.setIfInBounds_toArray, List.set_cons_zero, List.set_cons_succ]
 refine anyL_tk (i := 5) (v := ?v5_6) aZ5 (by kernel_rfl) ?y5_6 HS ?r5_6
 case y5_6 => intro wx hx; obtain ⟨h1, h2⟩ := hx; go_simp; try (with_reducible rfl)
 simp only [Act.put, List.setIfInBounds_toArray, List.set_cons_zero, List.set_cons_succ]
 refine anyL_one (i := 6) aZ6 (by kernel_rfl) rfl (fun K hK => ?_)
 go_simp
 refine hK _ _ (.inr HSA) ?_
 try simp only [Act.put, List.setIfInBounds_toArray, List.set_cons_zero, List.set_cons_succ]
 refine anyL_one (i := 7) aZ7 (by kernel_rfl) rfl (fun K hK => ?_)
 refine wp_append_run (.tmp 7) (.tmp 10) 125 rfl rfl rfl HR4.out ?_
 refine hK _ _ (.inr HS4) ?_
 try simp only [Act.put, List.setIfInBounds_toArray, List.set_cons_zero, List.set_cons_succ]
 refine anyL_tk (i := 8) (v := ?v8_7) aZ8 (by kernel_rfl) ?y8_7 HS4 ?r8_7
 case y8_7 => intro wx hx; obtain ⟨h1, h2⟩ := hx; go_simp; try (with_reducible rfl)
 simp only [Act.put, List.setIfInBounds_toArray, List.set_cons_zero, List.set_cons_succ]
 refine anyL_one (i := 9) aZ9 (by kernel_rfl) rfl (fun K hK => ?_)
 go_simp
 refine hK _ _ (.inl rfl) (anyL_done (by kernel_rfl) (NoPanic.normal ?_))
 try simp only [Act.put, List.setIfInBounds_toArray, List.set_cons_zero, List.set_cons_succ]
 clear HS HSA HS4 f4 c4
 go_end0
 exact ⟨rfl, _, B5.out, O5.out, N5.out, T5.out⟩
theorem hLess {B base g n cap : Nat} {hs : List Int} {w : World} (hown : w.ownsRow base 3 1 (.slice (some ⟨g, 0, none⟩) n cap) n (hs.flatMap encI1)) (hl : hs.length = n) (hn : n ≤ 1000) {i j : Nat} (hi : i < n) (hj : j < n) :
  Calls Try.prog 121 #[.slice (some ⟨g, 0, none⟩) n cap, .int .i64 (i : Int), .int .i64 (j : Int)] w fun e w' => e = .returned (.bool (decide (el hs i < el hs j))) ∧ ∃ q, w' = w.drewN q :=
 rLess_any g n cap w _ _ i j hi hj hn (own_num hown (by omega)) (own_num hown (by omega))
theorem hSwap {B base g n cap : Nat} {hs : List Int} {w : World} (hown : w.ownsRow base 3 1 (.slice (some ⟨g, 0, none⟩) n cap) n (hs.flatMap encI1)) (hB : Blk w B #[.slice (some ⟨g, 0, none⟩) n cap] 125) (hl : hs.length = n) (hn : n ≤ 1000) {i j : Nat} (hi : i < n) (hj : j < n) :
  Calls Try.prog 122 #[.slice (some ⟨g, 0, none⟩) n cap, .int .i64 (i : Int), .int .i64 (j : Int)] w fun e w' => e = .returned (.tuple #[]) ∧ w'.ownsRow base 3 1 (.slice (some ⟨g, 0, none⟩) n cap) n ((swpL hs i j).flatMap encI1) ∧ Blk w' B #[.slice (some ⟨g, 0, none⟩) n cap] 125 ∧ w.grownBy w' (some g) := by
 refine (rSwap_any g n cap w _ _ i j hi hj hn (own_num hown (by omega)) (own_num hown (by omega)) (own_fz hown i) (own_fz hown j)).mono ?_
 rintro e w' ⟨rfl, q, rfl⟩
 have hne : some B ≠ some g := own_ne hown hB (by decide)
 have h1 := own_set hown hi (el hs j)
 have h2 := own_set h1 hj (el hs i)
 have g1 := gTrans (gSet w g i (.int .i64 (el hs j))) (gSet (w.setCell ⟨g, i, none⟩ (.int .i64 (el hs j))) g j (.int .i64 (el hs i)))
 refine ⟨rfl, ⟨h2.1, h2.2⟩, ?_, ?_⟩
 ·exact (hB.grown g1 hne).drewN q
 ·exact ⟨g1.os, g1.tape, g1.output, g1.size, g1.block⟩
set_option maxRecDepth 100000 in
set_option maxHeartbeats 3200000 in
theorem up_any (B base g n cap : Nat) (hs : List Int) (j : Nat) (w : World) (hB : Blk w B #[.slice (some ⟨g, 0, none⟩) n cap] 125) (hown : w.ownsRow base 3 1 (.slice (some ⟨g, 0, none⟩) n cap) n (hs.flatMap encI1)) (hl : hs.length = n) (hn : n ≤ 1000) (hU : UpL hs j) (hj : j < n) :
  Calls Try.prog 86 #[.iface 126 (.pointer (some ⟨B, 0, none⟩)), .int .i64 (j : Int)] w fun e w' => e = .returned (.tuple #[]) ∧ ∃ hs', HeapL hs' n ∧ hs'.Perm hs ∧ w'.ownsRow base 3 1 (.slice (some ⟨g, 0, none⟩) n cap) n (hs'.flatMap encI1) ∧ Blk w' B #[.slice (some ⟨g, 0, none⟩) n cap] 125 ∧ w.grownBy w' (some g) := by
 have HB0 : Hid (Blk w B #[.slice (some ⟨g, 0, none⟩) n cap] 125) := hB
 have HO0 : Hid (w.ownsRow base 3 1 (.slice (some ⟨g, 0, none⟩) n cap) n (hs.flatMap encI1)) := hown
 have HU0 : Hid (UpL hs j ∧ hs.length = n ∧ hs.Perm hs) := ⟨hU, hl, List.Perm.refl _⟩
 clear hB hown hl hU
 have hnot : ∀ (x : Bool) (w : World), (Op.unary .not (.bool x)).run Try.prog w = .ok (.bool (!x)) w := fun _ _ => rfl
 go_enter Try.func86, Try.ntmps86
 go_wp2
 go_loopw [1] (fun s1 wr => ∃ (j : Nat) (hs' : List Int), s1 = .int .i64 (j : Int) ∧ j < n ∧ Hid (UpL hs' j ∧ hs'.length = n ∧ hs'.Perm hs) ∧ Hid (wr.ownsRow base 3 1 (.slice (some ⟨g, 0, none⟩) n cap) n (hs'.flatMap encI1)) ∧ Hid (Blk wr B #[.slice (some ⟨g, 0, none⟩) n cap] 125) ∧ Hid (w.grownBy wr (some g))) (fun s1 _ => (intOf s1).toNat)
 case atStart => exact ⟨j, hs, rfl, hj, HU0, HO0, HB0, gNew (Below.refl _ _)⟩
 case round =>
  obtain ⟨j, hs', rfl, hj, hU, hO, hB, hg⟩ := hrel
  clear HB0 HO0 HU0
  have HLN : Hid (hs'.length = n) := hU.out.2.1
  by_cases hj0 : j = 0
  ·subst hj0
   have HH : Hid (HeapL hs' n) := by have h9 := hU.out.1.top; rw [HLN.out] at h9; exact h9
   go_wp2
   go_end0
   exact ⟨rfl, hs', HH.out, hU.out.2.2, hO.out, hB.out, hg.out⟩
  ·obtain ⟨i, hi⟩ : ∃ i, (j - 1) / 2 = i := ⟨_, rfl⟩
   have hij : i < j := by omega
   have mL := meth_less (hB.out.cell 0 (v := .slice (some ⟨g, 0, none⟩) n cap) rfl)
   have mS : ∀ q, Sem.run Try.prog (method 287 126 (.pointer (some ⟨B, 0, none⟩)) "Swap") (wr.drewN q) = .ok (122, .slice (some ⟨g, 0, none⟩) n cap) (wr.drewN q) := fun q => meth_swap ((hB.out.drewN q).cell 0 (v := .slice (some ⟨g, 0, none⟩) n cap) rfl)
   have HL : Hid (Calls Try.prog 121 #[.slice (some ⟨g, 0, none⟩) n cap, .int .i64 (j : Int), .int .i64 (i : Int)] wr fun e w' => e = .returned (.bool (decide (el hs' j < el hs' i))) ∧ ∃ q, w' = wr.drewN q) := hLess (B := B) hO.out HLN.out hn (i := j) (j := i) hj (by omega)
   have HSW : Hid (∀ q, Calls Try.prog 122 #[.slice (some ⟨g, 0, none⟩) n cap, .int .i64 (i : Int), .int .i64 (j : Int)] (wr.drewN q) fun e w' => e = .returned (.tuple #[]) ∧ w'.ownsRow base 3 1 (.slice (some ⟨g, 0, none⟩) n cap) n ((swpL hs' i j).flatMap encI1) ∧ Blk w' B #[.slice (some ⟨g, 0, none⟩) n cap] 125 ∧ (wr.drewN q).grownBy w' (some g)) := fun q => hSwap (B := B) (w := wr.drewN q) ⟨hO.out.1, hO.out.2⟩ (hB.out.drewN q) HLN.out hn (i := i) (j := j) (by omega) hj
   have hd : IntKind.i64.wrap (((j : Int) - 1).tdiv 2) = (i : Int) := by
    rw [show (j : Int) - 1 = ((j - 1 : Nat) : Int) by omega, show (2 : Int) = ((2 : Nat) : Int) from rfl, ← Int.ofNat_tdiv, hi]
    exact wrapI (by omega) (by omega)
   have hne : ((i : Int) == (j : Int)) = false := by simp; omega
   by_cases hlt : el hs' j < el hs' i
   ·rw [decide_eq_true hlt] at HL
    have HU2 : Hid (UpL (swpL hs' i j) i ∧ (swpL hs' i j).length = n ∧ (swpL hs' i j).Perm hs) := by
     have h9 := hU.out.1.swap (by omega) (by rw [HLN.out]; exact hj) (by rw [hi]; exact hlt)
     rw [hi] at h9
     exact ⟨h9, by rw [swp_length]; exact HLN.out, (swp_perm (by rw [HLN.out]; omega) (by rw [HLN.out]; exact hj)).trans hU.out.2.2⟩
    clear hlt hi
    go_wp2_with (first
     | (go_at_call 121; refine HL.out.mono ?_; rintro e w' ⟨rfl, q, rfl⟩)
     | (go_at_call 122; refine (HSW.out _).mono ?_; rintro e w' ⟨rfl, ho2, hb2, hg2⟩; have HO2 : Hid (w'.ownsRow base 3 1 (.slice (some ⟨g, 0, none⟩) n cap) n ((swpL hs' i j).flatMap encI1)) := ho2; have HB2 : Hid (Blk w' B #[.slice (some ⟨g, 0, none⟩) n cap] 125) := hb2; have HG2 : Hid (w.grownBy w' (some g)) := gTrans (gTrans hg.out (gNew (belowDN wr q))) hg2; clear ho2 hb2 hg2))
    go_roundw
    case rel => exact ⟨i, swpL hs' i j, rfl, by omega, HU2, HO2, HB2, HG2⟩
    case measure => simp [intOf]; omega
   ·rw [decide_eq_false hlt] at HL
    have HH : Hid (HeapL hs' n) := by have h9 := hU.out.1.stop (by rw [hi]; exact hlt); rw [HLN.out] at h9; exact h9
    clear hlt hi
    go_wp2_with (first
     | (go_at_call 121; refine HL.out.mono ?_; rintro e w' ⟨rfl, q, rfl⟩))
    go_end0
    exact ⟨rfl, hs', HH.out, hU.out.2.2, ⟨hO.out.1, hO.out.2⟩, hB.out.drewN q, gTrans hg.out (gNew (belowDN wr q))⟩
end Go.Proofs.Ytfpibdaedfilaaa.Wt
