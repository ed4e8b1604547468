/- The program: two counts joined; what the counts of all ends come to. The program: in how many ways each state is led to. The program: how many arcs the longest way to each state has. The program: orders, paths, the longest path. -/
import Derived.Test.YtfekmlblldhieaaGreatDoorJ17v
import Derived.Test.YtfekmlblldhieaaGreatDoorJ17u
import Derived.Shelf.Abstract
import Derived.Test.YtfekmlblldhieaaGreatDoorRg
namespace Go.Proofs.YtfekmlblldhieaaGreatDoor.Wt
open Go.ChangeShapes Go.WideShapes Go.ChangeAt Go.RowKit
open Go.Proofs.YtfekmlblldhieaaGreatDoor.Pl
set_option linter.unusedVariables false
set_option linter.unusedSimpArgs false
set_option maxRecDepth 100000 in
theorem bothWays_any (x y : Int) (hx : 0 ≤ x ∧ x ≤ 1000000001) (hy : 0 ≤ y ∧ y ≤ 1000000001) (w : World) :
    Calls Tryz.prog 15 #[.int .i64 x, .int .i64 y] w fun e w' => e = .returned (.int .i64 (min (x + y) 1000000001)) ∧ w' = w := by
  obtain ⟨hx0, hx1⟩ := hx
  obtain ⟨hy0, hy1⟩ := hy
  go_enter Tryz.func15, Tryz.ntmps15
  go_wp2
  all_goals go_ret
  all_goals exact ⟨congrArg (fun t => Ending.returned (Value.int .i64 t)) (by omega), rfl⟩
/-- What a function makes of two numbers from lo on. -/
def AskJ (g : Nat) (J : Int → Int → Int) (lo : Int) : Prop :=
  (∀ ar W, (callFunc g ar).run Tryz.prog W = .ok (.enter g ar) W) ∧
  ∀ x y : Int, lo ≤ x ∧ x ≤ 1000000001 → lo ≤ y ∧ y ≤ 1000000001 → (lo ≤ J x y ∧ J x y ≤ 1000000001) ∧ ∀ W : World, Calls Tryz.prog g #[.int .i64 x, .int .i64 y] W fun e w' => e = .returned (.int .i64 (J x y)) ∧ w' = W
/-- What the counts of the ends among the first k states come to. -/
def endsF (J : Int → Int → Int) (l : List St) (ns : List Int) (first : Int) : Nat → Int
  | 0 => first
  | k + 1 => if (el l k).1 = 1000000001 then endsF J l ns first k else J (endsF J l ns first k) (el ns k)
theorem endsF_in {g : Nat} {J : Int → Int → Int} {lo : Int} (h : AskJ g J lo) (l : List St) (ns : List Int) {first : Int} (hf : lo ≤ first ∧ first ≤ 1000000001) {n : Nat} (hns : ∀ j, j < n → lo ≤ el ns j ∧ el ns j ≤ 1000000001) : ∀ k, k ≤ n → lo ≤ endsF J l ns first k ∧ endsF J l ns first k ≤ 1000000001 := by
  intro k
  induction k with
  | zero => intro _; exact hf
  | succ k ih =>
    intro hk
    simp only [endsF]
    split
    · exact ih (by omega)
    · exact (h.2 _ _ (ih (by omega)) (hns k (by omega))).1
set_option maxRecDepth 100000 in
set_option maxHeartbeats 1600000 in
theorem atEnds_any (z : Int) (vs : Value) (l : List St) (vn : Value) (ns : List Int) (first : Int) (g : Nat) (J : Int → Int → Int) (lo : Int) (w : World) (h : Mach w (.agg #[.int .i64 z, vs]) (z, l)) (h60 : l.length ≤ 60) (hn : Nums w vn ns) (hnl : ns.length = l.length) (hf : lo ≤ first ∧ first ≤ 1000000001) (hns : ∀ j, j < l.length → lo ≤ el ns j ∧ el ns j ≤ 1000000001) (hg : AskJ g J lo) :
    Calls Tryz.prog 13 #[.agg #[.int .i64 z, vs], vn, .int .i64 first, .func (.func g) #[] #[]] w fun e w' => e = .returned (.int .i64 (endsF J l ns first l.length)) ∧ Below w.heap.size w w' := by
  have HIN : Hid (∀ k, k ≤ l.length → lo ≤ endsF J l ns first k ∧ endsF J l ns first k ≤ 1000000001) := endsF_in hg l ns hf hns
  obtain ⟨eg, hg⟩ := hg
  have HG : Hid (∀ x y : Int, lo ≤ x ∧ x ≤ 1000000001 → lo ≤ y ∧ y ≤ 1000000001 → (lo ≤ J x y ∧ J x y ≤ 1000000001) ∧ ∀ W : World, Calls Tryz.prog g #[.int .i64 x, .int .i64 y] W fun e w' => e = .returned (.int .i64 (J x y)) ∧ w' = W) := hg
  have HNS : Hid (∀ j, j < l.length → lo ≤ el ns j ∧ el ns j ≤ 1000000001) := hns
  obtain ⟨vs', hvs, hS⟩ := h
  simp only [Value.agg.injEq, Array.mk.injEq, List.cons.injEq, and_true, true_and] at hvs
  subst hvs
  obtain ⟨a, cap, rfl, hc⟩ := hS.get
  have HC : Hid (∀ j, j < l.length → ∃ b off va, a = some ⟨b, off, none⟩ ∧ b < w.heap.size ∧ w.cell? ⟨b, off + j * 2, none⟩ = some (.int .i64 (el l j).1) ∧ w.cell? ⟨b, off + j * 2 + 1, none⟩ = some va ∧ Arcs w va (el l j).2) := hc
  obtain ⟨xa, ca, hva, hca⟩ := hn.get
  rw [hnl] at hva hca
  subst hva
  have HCA : Hid (∀ j, j < l.length → ∃ b off, xa = some ⟨b, off, none⟩ ∧ b < w.heap.size ∧ w.cell? ⟨b, off + j, none⟩ = some (.int .i64 (el ns j))) := hca
  clear hS hc hn hnl hns hg hca hf
  generalize hnn : l.length = n at *
  have HN : Hid (l.length = n) := hnn
  clear hnn
  go_enter Tryz.func13, Tryz.ntmps13
  go_wp2
  go_loopw [9, 16] (fun s9 i wr => ∃ (q : Nat), q ≤ n ∧ s9 = .int .i64 (endsF J l ns first q) ∧ i = .int .i64 q ∧ Hid (Below w.heap.size w wr)) (fun _ i _ => n - (intOf i).toNat)
  case atStart => exact ⟨0, Nat.zero_le _, rfl, rfl, (Below.refl _ _).alloc (Nat.le_refl _) _⟩
  case round =>
    obtain ⟨q, hq, rfl, rfl, hb⟩ := hrel
    by_cases hqn : q < n
    · obtain ⟨b, off, va, rfl, hbl, g0, g1, gA⟩ := HC.out q hqn
      obtain ⟨bn, on, rfl, hbnl, gn⟩ := HCA.out q hqn
      obtain ⟨a2, cap2, hva⟩ := Row.sl gA
      subst hva
      have g0 := (hb.out.cell (p := ⟨b, off + q * 2, none⟩) hbl).trans g0
      have g1 := (hb.out.cell (p := ⟨b, off + q * 2 + 1, none⟩) hbl).trans g1
      have gn := (hb.out.cell (p := ⟨bn, on + q, none⟩) hbnl).trans gn
      have hq0 : (0 : Int) ≤ (q : Int) := by omega
      have hq1 : (q : Int) < (n : Int) := by omega
      have hbw : bn < wr.heap.size := Nat.lt_of_lt_of_le hbnl hb.out.size
      clear gA
      by_cases he : (el l q).1 = 1000000001
      · have HE : Hid (endsF J l ns first (q + 1) = endsF J l ns first q) := by show _ = _; simp only [endsF]; rw [if_pos he]
        rw [he] at g0
        clear he
        go_wp2
        go_roundw
        case rel => exact ⟨q + 1, by omega, by rw [HE.out], by go_num, hb.out.alloc hb.out.size _⟩
        case measure => simp [intOf]; omega
      · have HE : Hid (endsF J l ns first (q + 1) = J (endsF J l ns first q) (el ns q)) := by show _ = _; simp only [endsF]; rw [if_neg he]
        have HJ : Hid (∀ W : World, Calls Tryz.prog g #[.int .i64 (endsF J l ns first q), .int .i64 (el ns q)] W fun e w' => e = .returned (.int .i64 (J (endsF J l ns first q) (el ns q))) ∧ w' = W) := (HG.out _ _ (HIN.out q (by omega)) (HNS.out q hqn)).2
        generalize (el l q).1 = fin at *
        have hne : (fin != 1000000001) = true := by simp [he]
        generalize endsF J l ns first q = E0 at *
        generalize el ns q = E1 at *
        go_wp2_with (first
          | (go_at_fn g; refine (HJ.out _).mono ?_; rintro e w2 ⟨rfl, rfl⟩))
        go_roundw
        case rel => exact ⟨q + 1, by omega, by rw [HE.out], by go_num, hb.out.alloc hb.out.size _⟩
        case measure => simp [intOf]; omega
    · have hnl : ¬ (q : Int) < (n : Int) := by omega
      obtain rfl : q = n := by omega
      go_wp2
      go_ret
      exact ⟨rfl, hb.out⟩
end Go.Proofs.YtfekmlblldhieaaGreatDoor.Wt
namespace Go.Proofs.YtfekmlblldhieaaGreatDoor.Pl
theorem cap_join {a b : Nat} : min ((capN a : Int) + (capN b : Int)) 1000000001 = ((capN (a + b) : Nat) : Int) := by
  rw [← capN_add]
  have h1 := capN_le a
  have h2 := capN_le b
  generalize capN a = x at *
  generalize capN b = y at *
  unfold capN
  split <;> omega
end Go.Proofs.YtfekmlblldhieaaGreatDoor.Pl
namespace Go.Proofs.YtfekmlblldhieaaGreatDoor.Wt
open Go.ChangeShapes Go.WideShapes Go.ChangeAt Go.RowKit
open Go.Proofs.YtfekmlblldhieaaGreatDoor.Pl
set_option linter.unusedVariables false
set_option linter.unusedSimpArgs false
/-- What is read when a count is joined: the arc's end, two counts. -/
def HeldJw (O X t q : Nat) (a b : Int) (w : World) : Prop := w.cell? ⟨X, 3, none⟩ = some (.int .i64 (t : Int)) ∧ w.cell? ⟨O, t, none⟩ = some (.int .i64 a) ∧ w.cell? ⟨O, q, none⟩ = some (.int .i64 b)
set_option maxRecDepth 100000 in
set_option maxHeartbeats 3200000 in
theorem ways_anyN (z : Int) (vs : Value) (l : List St) (vo : Value) (out : List Int) (w : World) (h : Mach w (.agg #[.int .i64 z, vs]) (z, l)) (hr : faultM (z, l) = 0) (ho : Nums w vo out) (hO : OrderL l out) (hz0 : z < 0) :
    Calls Tryz.prog 14 #[.agg #[.int .i64 z, vs], vo] w fun e w' => ∃ v', e = .returned v' ∧ (∃ ns, Nums w' v' ns ∧ CntsL l.length (fun j => capN (addL l out (begN z) j)) ns) ∧ Below w.heap.size w w' := by
  have hz := (faultM_zero hr).2
  simp only [rangeB, Bool.and_eq_true, inB, decide_eq_true_eq] at hz
  have hz1 : -1 ≤ z := hz.1.1
  have hz2 : z < (l.length : Int) := by omega
  clear hz
  obtain ⟨vs', hvs, hS⟩ := h
  simp only [Value.agg.injEq, Array.mk.injEq, List.cons.injEq, and_true, true_and] at hvs
  subst hvs
  obtain ⟨a, cap, rfl, hc⟩ := hS.get
  have HC : Hid (∀ j, j < l.length → ∃ b off va, a = some ⟨b, off, none⟩ ∧ b < w.heap.size ∧ w.cell? ⟨b, off + j * 2, none⟩ = some (.int .i64 (el l j).1) ∧ w.cell? ⟨b, off + j * 2 + 1, none⟩ = some va ∧ Arcs w va (el l j).2) := hc
  have h60 := (right_size hr).1
  have HTO : Hid (∀ q, q < l.length → ∀ a ∈ (el l q).2, ∃ t : Nat, a.2.2.2 = (t : Int) ∧ t < l.length) := fun q hq a ha => by
    have h9 := List.all_eq_true.1 (right_st hr hq).2 a ha
    simp only [arcB, inB, Bool.and_eq_true, decide_eq_true_eq] at h9
    exact ⟨a.2.2.2.toNat, by omega, by omega⟩
  have HSZ : Hid (∀ q, q < l.length → (el l q).2.length ≤ 400) := fun q hq => Nat.le_trans (arcs_len hq) (right_size hr).2
  have HOL : Hid (OrderL l out) := hO
  obtain ⟨xa, ca, hva, hca⟩ := ho.get
  rw [hO.2] at hva hca
  subst hva
  have HCA : Hid (∀ j, j < l.length → ∃ b off, xa = some ⟨b, off, none⟩ ∧ b < w.heap.size ∧ w.cell? ⟨b, off + j, none⟩ = some (.int .i64 (el out j))) := hca
  clear hS hc hr ho hca hO
  generalize hn : l.length = n at *
  have HN : Hid (l.length = n) := hn
  clear hn
  have hmk := run_nums n (by omega)
  have HSA : Hid (z < 0 → CntsL n (fun j => capN (addL l (out.take 0) (begN z) j)) (List.replicate n 0)) := fun h0 => (CntsL.zero n).congr (fun j _ => by
    show capN (begN z j) = 0
    unfold begN
    rw [if_neg (by omega)]; rfl)
  have HSB : Hid (0 ≤ z → CntsL n (fun j => capN (addL l (out.take 0) (begN z) j)) ((List.replicate n 0).set z.toNat 1)) := fun h0 => ((CntsL.zero n).set (t := z.toNat) (by omega) 1 rfl).congr (fun j _ => by
    show capN (begN z j) = _
    unfold begN
    by_cases e : (j : Int) = z
    · rw [if_pos e, if_pos (by omega)]; rfl
    · rw [if_neg e, if_neg (by omega)]; rfl)
  have hz3 : z.toNat < n ∨ z < 0 := by omega
  go_enter Tryz.func14, Tryz.ntmps14
  go_wp2
  go_loopw [23] (fun i wr => ∃ (k : Nat) (ns : List Int), k ≤ n ∧ i = .int .i64 k ∧ Hid (CntsL n (fun j => capN (addL l (out.take k) (begN z) j)) ns) ∧ Hid (Blk wr (w.heap.size + 1) (ns.map (Value.int .i64)).toArray 3) ∧ Hid (Blk wr w.heap.size #[.int .i64 z, .slice a n cap] 27) ∧ Hid (Below w.heap.size w wr)) (fun i _ => n - (intOf i).toNat)
  case atStart =>
    have hbx : ∀ o, Blk ((w.alloc (.cells #[.int .i64 z, .slice a n cap] 27)).alloc o) w.heap.size #[.int .i64 z, .slice a n cap] 27 := fun o => (Blk.made w _ _).alloc _
    have hbl : ∀ o, Below w.heap.size w ((w.alloc (.cells #[.int .i64 z, .slice a n cap] 27)).alloc o) := fun o => ((Below.refl _ _).alloc (Nat.le_refl _) _).alloc (by simp) _
    have hmd : ∀ cs, Blk ((w.alloc (.cells #[.int .i64 z, .slice a n cap] 27)).alloc (.cells cs 3)) (w.heap.size + 1) cs 3 := fun cs => by
      have h9 := Blk.made (w.alloc (.cells #[.int .i64 z, .slice a n cap] 27)) cs 3
      simp only [World.size_alloc] at h9
      exact h9
    have e1 : ((List.replicate n (0 : Int)).map (Value.int .i64)).toArray = Array.replicate n (Value.int .i64 0) := by simp
    have e2 : (((List.replicate n (0 : Int)).set z.toNat 1).map (Value.int .i64)).toArray = (Array.replicate n (Value.int .i64 0)).setIfInBounds z.toNat (Value.int .i64 1) := by rw [← set_num, e1]
    first
      | exact ⟨0, List.replicate n 0, Nat.zero_le _, rfl, HSA.out (by assumption), by (show Blk _ _ _ _); rw [e1]; exact hmd _, hbx _, hbl _⟩
      | exact ⟨0, (List.replicate n 0).set z.toNat 1, Nat.zero_le _, rfl, HSB.out (by assumption), by (show Blk _ _ _ _); rw [e2]; exact hmd _, hbx _, hbl _⟩
  case round =>
    clear HSA HSB
    obtain ⟨k, ns, hk, rfl, hns, hblk, hbx, hb⟩ := hrel
    by_cases hkn : k < n
    · obtain ⟨bo, oo, rfl, hbol, go⟩ := HCA.out k hkn
      have go := (hb.out.cell (p := ⟨bo, oo + k, none⟩) hbol).trans go
      obtain ⟨q, hq, hqn, _⟩ := HOL.out.at (i := k) (by rw [HOL.out.2, HN.out]; exact hkn)
      rw [hq] at go
      rw [HN.out] at hqn
      obtain ⟨b, off, va, rfl, hbl, g0, g1, gA⟩ := HC.out q hqn
      obtain ⟨a2, cap2, hva, hga⟩ := gA.get
      subst hva
      have g1 := (hb.out.cell (p := ⟨b, off + q * 2 + 1, none⟩) hbl).trans g1
      have HGA : Hid (∀ j, j < (el l q).2.length → ∃ b off, a2 = some ⟨b, off, none⟩ ∧ b < w.heap.size ∧ w.cell? ⟨b, off + j * 4, none⟩ = some (.int .i64 (el (el l q).2 j).1) ∧ w.cell? ⟨b, off + j * 4 + 1, none⟩ = some (.int .i64 (el (el l q).2 j).2.1) ∧ w.cell? ⟨b, off + j * 4 + 2, none⟩ = some (.int .i64 (el (el l q).2 j).2.2.1) ∧ w.cell? ⟨b, off + j * 4 + 3, none⟩ = some (.int .i64 (el (el l q).2 j).2.2.2)) := hga
      have HAL : Hid (∀ a ∈ (el l q).2, ∃ t : Nat, a.2.2.2 = (t : Int) ∧ t < n) := HTO.out q hqn
      have hL4 := HSZ.out q hqn
      have HSU : Hid (addL l (out.take (k + 1)) (begN z) = addA q (el l q).2 (addL l (out.take k) (begN z))) := addL_take l (by rw [HOL.out.2, HN.out]; exact hkn) hq _
      have c1 := hbx.out.cell 1 (v := .slice (some ⟨b, off, none⟩) n cap) rfl
      clear gA hga g0 hq
      generalize addL l (out.take k) (begN z) = X at *
      generalize (el l q).2 = ar at *
      generalize hL : ar.length = L at *
      have HL : Hid (ar.length = L) := hL
      clear hL
      have hk0 : (0 : Int) ≤ (k : Int) := by omega
      have hk1 : (k : Int) < (n : Int) := by omega
      have hq0 : (0 : Int) ≤ (q : Int) := by omega
      have hq1 : (q : Int) < (n : Int) := by omega
      go_wp2
      go_loopw [34] (fun i wr => ∃ (j : Nat) (ns : List Int), j ≤ L ∧ i = .int .i64 j ∧ Hid (CntsL n (fun p => capN (addA q (ar.take j) X p)) ns) ∧ Hid (Blk wr (w.heap.size + 1) (ns.map (Value.int .i64)).toArray 3) ∧ Hid (Blk wr w.heap.size #[.int .i64 z, .slice (some ⟨b, off, none⟩) n cap] 27) ∧ Hid (Below w.heap.size w wr)) (fun i _ => L - (intOf i).toNat)
      case atStart => exact ⟨0, ns, Nat.zero_le _, rfl, hns, hblk, hbx, hb⟩
      case round =>
        clear hns hblk hbx hb c1 go
        obtain ⟨j, ns, hj, rfl, hns, hblk, hbx, hb⟩ := hrel
        by_cases hjL : j < L
        · obtain ⟨b3, off3, rfl, hb3l, e0, e1, e2, e3⟩ := HGA.out j hjL
          have e0 := (hb.out.cell (p := ⟨b3, off3 + j * 4, none⟩) hb3l).trans e0
          have e1 := (hb.out.cell (p := ⟨b3, off3 + j * 4 + 1, none⟩) hb3l).trans e1
          have e2 := (hb.out.cell (p := ⟨b3, off3 + j * 4 + 2, none⟩) hb3l).trans e2
          have e3 := (hb.out.cell (p := ⟨b3, off3 + j * 4 + 3, none⟩) hb3l).trans e3
          obtain ⟨t, ht, htn⟩ := HAL.out (el ar j) (el_mem (by rw [HL.out]; exact hjL))
          have HT : Hid (addA q (ar.take (j + 1)) X = updN (addA q (ar.take j) X) t (addA q (ar.take j) X t + addA q (ar.take j) X q)) := addA_take q (by rw [HL.out]; exact hjL) ht X
          rw [ht] at e3
          generalize (el ar j).1 = x0 at *
          generalize (el ar j).2.1 = x1 at *
          generalize (el ar j).2.2.1 = x2 at *
          clear ht
          generalize hY : addA q (ar.take j) X = Y at *
          clear hY
          have ht9 := hns.out.2 t htn
          have hq9 := hns.out.2 q hqn
          have hc9 : min ((capN (Y t) : Int) + (capN (Y q) : Int)) 1000000001 = ((capN (Y t + Y q) : Nat) : Int) := cap_join
          have ha9 := capN_le (Y t)
          have hb9 := capN_le (Y q)
          have HN2 : Hid (CntsL n (fun p => capN (addA q (ar.take (j + 1)) X p)) (ns.set t (min ((capN (Y t) : Int) + (capN (Y q) : Int)) 1000000001))) := by
            refine (hns.out.set htn (capN (Y t + Y q)) (x := min ((capN (Y t) : Int) + (capN (Y q) : Int)) 1000000001) hc9).congr fun p _ => ?_
            rw [HT.out]
            simp only [updN]
            by_cases e : p = t
            · rw [if_pos e, if_pos e]
            · rw [if_neg e, if_neg e]
          simp only at ht9 hq9
          clear hc9
          generalize capN (Y t) = A at *
          generalize capN (Y q) = C at *
          have hj0 : (0 : Int) ≤ (j : Int) := by omega
          have hj1 : (j : Int) < (L : Int) := by omega
          have ht0 : (0 : Int) ≤ (t : Int) := by omega
          have ht1 : (t : Int) < (n : Int) := by omega
          have hxl : w.heap.size + 1 < wr.heap.size := hblk.out.lt
          have B1 : Hid (Blk (wr.alloc (.cells #[.int .i64 x0, .int .i64 x1, .int .i64 x2, .int .i64 (t : Int)] 33)) (w.heap.size + 1) (ns.map (Value.int .i64)).toArray 3) := hblk.out.alloc _
          have A1 : Hid (Blk (wr.alloc (.cells #[.int .i64 x0, .int .i64 x1, .int .i64 x2, .int .i64 (t : Int)] 33)) wr.heap.size #[.int .i64 x0, .int .i64 x1, .int .i64 x2, .int .i64 (t : Int)] 33) := Blk.made _ _ _
          have X1 : Hid (Blk (wr.alloc (.cells #[.int .i64 x0, .int .i64 x1, .int .i64 x2, .int .i64 (t : Int)] 33)) w.heap.size #[.int .i64 z, .slice (some ⟨b, off, none⟩) n cap] 27) := hbx.out.alloc _
          have Y1 : Hid (Below w.heap.size w (wr.alloc (.cells #[.int .i64 x0, .int .i64 x1, .int .i64 x2, .int .i64 (t : Int)] 33))) := hb.out.alloc hb.out.size _
          have HLN : Hid (ns.length = n) := hns.out.1
          clear hns hblk hbx hb
          go_wp2
          generalize hW : wr.alloc (.cells #[.int .i64 x0, .int .i64 x1, .int .i64 x2, .int .i64 (t : Int)] 33) = W1 at *
          clear hW
          have HS : HeldJw (w.heap.size + 1) wr.heap.size t q (A : Int) (C : Int) W1.drew := ⟨A1.out.drew.cell 3 rfl, by rw [← ht9]; exact num_cell B1.out.drew (by rw [HLN.out]; exact htn), by rw [← hq9]; exact num_cell B1.out.drew (by rw [HLN.out]; exact hqn)⟩
          have HB2 : Hid (Blk (W1.drew.setCell ⟨w.heap.size + 1, t, none⟩ (.int .i64 (min ((A : Int) + (C : Int)) 1000000001))) (w.heap.size + 1) ((ns.set t (min ((A : Int) + (C : Int)) 1000000001)).map (Value.int .i64)).toArray 3) := by have h9 := B1.out.drew.set t (.int .i64 (min ((A : Int) + (C : Int)) 1000000001)); rw [set_num] at h9; exact h9
          have X2 : Hid (Blk (W1.drew.setCell ⟨w.heap.size + 1, t, none⟩ (.int .i64 (min ((A : Int) + (C : Int)) 1000000001))) w.heap.size #[.int .i64 z, .slice (some ⟨b, off, none⟩) n cap] 27) := X1.out.drew.setO _ _ (by show w.heap.size ≠ w.heap.size + 1; omega)
          have Y2 : Hid (Below w.heap.size w (W1.drew.setCell ⟨w.heap.size + 1, t, none⟩ (.int .i64 (min ((A : Int) + (C : Int)) 1000000001)))) := Y1.out.drew.setCell (by show w.heap.size ≤ w.heap.size + 1; omega) _
          have c4 : W1.drew.cell? ⟨w.heap.size + 1, t, none⟩ = some (.int .i64 (A : Int)) := HS.2.1
          have f4 := B1.out.drew.fz t
          refine region_anyL (HeldJw (w.heap.size + 1) wr.heap.size t q (A : Int) (C : Int)) 14 (by kernel_rfl) ?_
          generalize W1.drew = W2 at *
          refine anyL_take (i := 0) (v := ?v0_1) at0 (by kernel_rfl) (by kernel_rfl) (by kernel_rfl) (by kernel_rfl) (fun _ _ _ h => h) rfl ?y0_1 HS ?r0_1
          case y0_1 => intro wx hx; obtain ⟨h1, h2, h3⟩ := hx; go_simp; try (with_reducible rfl)
          simp only [Act.put, List.setIfInBounds_toArray, List.set_cons_zero, List.set_cons_succ]
          refine anyL_take (i := 1) (v := ?v1_2) (atS at0) (by kernel_rfl) (by kernel_rfl) (by kernel_rfl) (by kernel_rfl) (fun _ _ _ h => h) rfl ?y1_2 HS ?r1_2
          case y1_2 => intro wx hx; obtain ⟨h1, h2, h3⟩ := hx; go_simp; try (with_reducible rfl)
          simp only [Act.put, List.setIfInBounds_toArray, List.set_cons_zero, List.set_cons_succ]
          refine anyL_take (i := 2) (v := ?v2_3) (atS (atS at0)) (by kernel_rfl) (by kernel_rfl) (by kernel_rfl) (by kernel_rfl) (fun _ _ _ h => h) rfl ?y2_3 HS ?r2_3
          case y2_3 => intro wx hx; obtain ⟨h1, h2, h3⟩ := hx; go_simp; try (with_reducible rfl)
          simp only [Act.put, List.setIfInBounds_toArray, List.set_cons_zero, List.set_cons_succ]
          refine anyL_take (i := 3) (v := ?v3_4) (atS (atS (atS at0))) (by kernel_rfl) (by kernel_rfl) (by kernel_rfl) (by kernel_rfl) (fun _ _ _ h => h) rfl ?y3_4 HS ?r3_4
          case y3_4 => intro wx hx; obtain ⟨h1, h2, h3⟩ := hx; go_simp; try (with_reducible rfl)
          simp only [Act.put, List.setIfInBounds_toArray, List.set_cons_zero, List.set_cons_succ]
          refine anyL_take (i := 4) (v := ?v4_5) (atS (atS (atS (atS at0)))) (by kernel_rfl) (by kernel_rfl) (by kernel_rfl) (by kernel_rfl) (fun _ _ _ h => h) rfl ?y4_5 HS ?r4_5
          case y4_5 => intro wx hx; obtain ⟨h1, h2, h3⟩ := hx; go_simp; try (with_reducible rfl)
          simp only [Act.put, List.setIfInBounds_toArray, List.set_cons_zero, List.set_cons_succ]
          refine anyL_take (i := 5) (v := ?v5_6) (atS (atS (atS (atS (atS at0))))) (by kernel_rfl) (by kernel_rfl) (by kernel_rfl) (by kernel_rfl) (fun _ _ _ h => h) rfl ?y5_6 HS ?r5_6
          case y5_6 => intro wx hx; obtain ⟨h1, h2, h3⟩ := hx; go_simp; try (with_reducible rfl)
          simp only [Act.put, List.setIfInBounds_toArray, List.set_cons_zero, List.set_cons_succ]
          refine anyL_take (i := 6) (v := ?v6_7) (atS (atS (atS (atS (atS (atS at0)))))) (by kernel_rfl) (by kernel_rfl) (by kernel_rfl) (by kernel_rfl) (fun _ _ _ h => h) rfl ?y6_7 HS ?r6_7
          case y6_7 => intro wx hx; obtain ⟨h1, h2, h3⟩ := hx; go_simp; try (with_reducible rfl)
          simp only [Act.put, List.setIfInBounds_toArray, List.set_cons_zero, List.set_cons_succ]
          refine anyL_take (i := 7) (v := ?v7_8) (atS (atS (atS (atS (atS (atS (atS at0))))))) (by kernel_rfl) (by kernel_rfl) (by kernel_rfl) (by kernel_rfl) (fun _ _ _ h => h) rfl ?y7_8 HS ?r7_8
          case y7_8 => intro wx hx; obtain ⟨h1, h2, h3⟩ := hx; go_simp; try (with_reducible rfl)
          simp only [Act.put, List.setIfInBounds_toArray, List.set_cons_zero, List.set_cons_succ]
          refine anyL_take (i := 8) (v := ?v8_9) (atS (atS (atS (atS (atS (atS (atS (atS at0)))))))) (by kernel_rfl) (by kernel_rfl) (by kernel_rfl) (by kernel_rfl) (fun _ _ _ h => h) rfl ?y8_9 HS ?r8_9
          case y8_9 => intro wx hx; obtain ⟨h1, h2, h3⟩ := hx; go_simp; try (with_reducible rfl)
          simp only [Act.put, List.setIfInBounds_toArray, List.set_cons_zero, List.set_cons_succ]
          refine anyL_take (i := 9) (v := ?v9_10) (atS (atS (atS (atS (atS (atS (atS (atS (atS at0))))))))) (by kernel_rfl) (by kernel_rfl) (by kernel_rfl) (by kernel_rfl) (fun _ _ _ h => h) rfl ?y9_10 HS ?r9_10
          case y9_10 => intro wx hx; obtain ⟨h1, h2, h3⟩ := hx; go_simp; try (with_reducible rfl)
          simp only [Act.put, List.setIfInBounds_toArray, List.set_cons_zero, List.set_cons_succ]
          refine anyL_take (i := 10) (v := ?v10_11) (atS (atS (atS (atS (atS (atS (atS (atS (atS (atS at0)))))))))) (by kernel_rfl) (by kernel_rfl) (by kernel_rfl) (by kernel_rfl) (fun _ _ _ h => h) rfl ?y10_11 HS ?r10_11
          case y10_11 => intro wx hx; obtain ⟨h1, h2, h3⟩ := hx; go_simp; try (with_reducible rfl)
          simp only [Act.put, List.setIfInBounds_toArray, List.set_cons_zero, List.set_cons_succ]
          refine anyL_take (i := 11) (v := ?v11_12) (atS (atS (atS (atS (atS (atS (atS (atS (atS (atS (atS at0))))))))))) (by kernel_rfl) (by kernel_rfl) (by kernel_rfl) (by kernel_rfl) (fun _ _ _ h => h) rfl ?y11_12 HS ?r11_12
          case y11_12 => intro wx hx; obtain ⟨h1, h2, h3⟩ := hx; go_simp; try (with_reducible rfl)
          simp only [Act.put, List.setIfInBounds_toArray, List.set_cons_zero, List.set_cons_succ]
          refine anyL_one (i := 12) (atS (atS (atS (atS (atS (atS (atS (atS (atS (atS (atS (atS at0)))))))))))) (by kernel_rfl) rfl (fun K hK => ?_)
          go_simp
          refine (bothWays_any (A : Int) (C : Int) ⟨by omega, by omega⟩ ⟨by omega, by omega⟩ _).mono ?_
          rintro e w5 ⟨rfl, rfl⟩
          refine hK _ _ (.inr HS) ?_
          try simp only [Act.put, List.setIfInBounds_toArray, List.set_cons_zero, List.set_cons_succ]
          refine anyL_take (i := 13) (v := ?v13_13) (atS (atS (atS (atS (atS (atS (atS (atS (atS (atS (atS (atS (atS at0))))))))))))) (by kernel_rfl) (by kernel_rfl) (by kernel_rfl) (by kernel_rfl) (fun _ _ _ h => h) rfl ?y13_13 HS ?r13_13
          case y13_13 => intro wx hx; obtain ⟨h1, h2, h3⟩ := hx; go_simp; try (with_reducible rfl)
          simp only [Act.put, List.setIfInBounds_toArray, List.set_cons_zero, List.set_cons_succ]
          refine anyL_one (i := 14) (atS (atS (atS (atS (atS (atS (atS (atS (atS (atS (atS (atS (atS (atS at0)))))))))))))) (by kernel_rfl) rfl (fun K hK => ?_)
          go_simp
          refine hK _ _ (.inl rfl) (anyL_done (by kernel_rfl) (NoPanic.normal ?_))
          try simp only [Act.put, List.setIfInBounds_toArray, List.set_cons_zero, List.set_cons_succ]
          clear HS c4 f4
          go_wp2
          go_roundw
          case rel =>
            first
              | exact ⟨j + 1, by omega, by omega, _, HN2, HB2⟩
              | exact ⟨j + 1, _, by omega, by go_num, HN2, HB2, X2, Y2⟩
          case measure => simp [intOf]; omega
        · have hnl : ¬ (j : Int) < (L : Int) := by omega
          have HN5 : Hid (CntsL n (fun p => capN (addL l (out.take (k + 1)) (begN z) p)) ns) := by
            have h9 := hns.out
            rw [show j = ar.length by rw [HL.out]; omega, List.take_length] at h9
            rw [HSU.out]
            exact h9
          go_wp2
          go_roundw
          case rel => exact ⟨k + 1, ns, by omega, by go_num, HN5, hblk, hbx, hb⟩
          case measure => simp [intOf]; omega
    · have hnl : ¬ (k : Int) < (n : Int) := by omega
      have HN5 : Hid (CntsL n (fun p => capN (addL l out (begN z) p)) ns) := by
        have h9 := hns.out
        rw [show k = out.length by rw [HOL.out.2, HN.out]; omega, List.take_length] at h9
        exact h9
      have HNU : Hid (Nums wr (.slice (some ⟨w.heap.size + 1, 0, none⟩) n n) ns) := by have h9 := nums_block (cap := n) hblk.out; rw [hns.out.1] at h9; exact h9
      go_wp2
      go_ret
      exact ⟨_, rfl, ⟨ns, HNU.out, HN5.out⟩, hb.out⟩
set_option maxRecDepth 100000 in
set_option maxHeartbeats 3200000 in
theorem ways_anyP (z : Int) (vs : Value) (l : List St) (vo : Value) (out : List Int) (w : World) (h : Mach w (.agg #[.int .i64 z, vs]) (z, l)) (hr : faultM (z, l) = 0) (ho : Nums w vo out) (hO : OrderL l out) (hz0 : 0 ≤ z) :
    Calls Tryz.prog 14 #[.agg #[.int .i64 z, vs], vo] w fun e w' => ∃ v', e = .returned v' ∧ (∃ ns, Nums w' v' ns ∧ CntsL l.length (fun j => capN (addL l out (begN z) j)) ns) ∧ Below w.heap.size w w' := by
  have hz := (faultM_zero hr).2
  simp only [rangeB, Bool.and_eq_true, inB, decide_eq_true_eq] at hz
  have hz1 : -1 ≤ z := hz.1.1
  have hz2 : z < (l.length : Int) := by omega
  clear hz
  obtain ⟨vs', hvs, hS⟩ := h
  simp only [Value.agg.injEq, Array.mk.injEq, List.cons.injEq, and_true, true_and] at hvs
  subst hvs
  obtain ⟨a, cap, rfl, hc⟩ := hS.get
  have HC : Hid (∀ j, j < l.length → ∃ b off va, a = some ⟨b, off, none⟩ ∧ b < w.heap.size ∧ w.cell? ⟨b, off + j * 2, none⟩ = some (.int .i64 (el l j).1) ∧ w.cell? ⟨b, off + j * 2 + 1, none⟩ = some va ∧ Arcs w va (el l j).2) := hc
  have h60 := (right_size hr).1
  have HTO : Hid (∀ q, q < l.length → ∀ a ∈ (el l q).2, ∃ t : Nat, a.2.2.2 = (t : Int) ∧ t < l.length) := fun q hq a ha => by
    have h9 := List.all_eq_true.1 (right_st hr hq).2 a ha
    simp only [arcB, inB, Bool.and_eq_true, decide_eq_true_eq] at h9
    exact ⟨a.2.2.2.toNat, by omega, by omega⟩
  have HSZ : Hid (∀ q, q < l.length → (el l q).2.length ≤ 400) := fun q hq => Nat.le_trans (arcs_len hq) (right_size hr).2
  have HOL : Hid (OrderL l out) := hO
  obtain ⟨xa, ca, hva, hca⟩ := ho.get
  rw [hO.2] at hva hca
  subst hva
  have HCA : Hid (∀ j, j < l.length → ∃ b off, xa = some ⟨b, off, none⟩ ∧ b < w.heap.size ∧ w.cell? ⟨b, off + j, none⟩ = some (.int .i64 (el out j))) := hca
  clear hS hc hr ho hca hO
  generalize hn : l.length = n at *
  have HN : Hid (l.length = n) := hn
  clear hn
  have hmk := run_nums n (by omega)
  have HSA : Hid (z < 0 → CntsL n (fun j => capN (addL l (out.take 0) (begN z) j)) (List.replicate n 0)) := fun h0 => (CntsL.zero n).congr (fun j _ => by
    show capN (begN z j) = 0
    unfold begN
    rw [if_neg (by omega)]; rfl)
  have HSB : Hid (0 ≤ z → CntsL n (fun j => capN (addL l (out.take 0) (begN z) j)) ((List.replicate n 0).set z.toNat 1)) := fun h0 => ((CntsL.zero n).set (t := z.toNat) (by omega) 1 rfl).congr (fun j _ => by
    show capN (begN z j) = _
    unfold begN
    by_cases e : (j : Int) = z
    · rw [if_pos e, if_pos (by omega)]; rfl
    · rw [if_neg e, if_neg (by omega)]; rfl)
  have hz3 : z.toNat < n ∨ z < 0 := by omega
  go_enter Tryz.func14, Tryz.ntmps14
  go_wp2
  go_loopw [23] (fun i wr => ∃ (k : Nat) (ns : List Int), k ≤ n ∧ i = .int .i64 k ∧ Hid (CntsL n (fun j => capN (addL l (out.take k) (begN z) j)) ns) ∧ Hid (Blk wr (w.heap.size + 1) (ns.map (Value.int .i64)).toArray 3) ∧ Hid (Blk wr w.heap.size #[.int .i64 z, .slice a n cap] 27) ∧ Hid (Below w.heap.size w wr)) (fun i _ => n - (intOf i).toNat)
  case atStart =>
    have hbx : ∀ o, Blk ((w.alloc (.cells #[.int .i64 z, .slice a n cap] 27)).alloc o) w.heap.size #[.int .i64 z, .slice a n cap] 27 := fun o => (Blk.made w _ _).alloc _
    have hbl : ∀ o, Below w.heap.size w ((w.alloc (.cells #[.int .i64 z, .slice a n cap] 27)).alloc o) := fun o => ((Below.refl _ _).alloc (Nat.le_refl _) _).alloc (by simp) _
    have hmd : ∀ cs, Blk ((w.alloc (.cells #[.int .i64 z, .slice a n cap] 27)).alloc (.cells cs 3)) (w.heap.size + 1) cs 3 := fun cs => by
      have h9 := Blk.made (w.alloc (.cells #[.int .i64 z, .slice a n cap] 27)) cs 3
      simp only [World.size_alloc] at h9
      exact h9
    have e1 : ((List.replicate n (0 : Int)).map (Value.int .i64)).toArray = Array.replicate n (Value.int .i64 0) := by simp
    have e2 : (((List.replicate n (0 : Int)).set z.toNat 1).map (Value.int .i64)).toArray = (Array.replicate n (Value.int .i64 0)).setIfInBounds z.toNat (Value.int .i64 1) := by rw [← set_num, e1]
    first
      | exact ⟨0, List.replicate n 0, Nat.zero_le _, rfl, HSA.out (by assumption), by (show Blk _ _ _ _); rw [e1]; exact hmd _, hbx _, hbl _⟩
      | exact ⟨0, (List.replicate n 0).set z.toNat 1, Nat.zero_le _, rfl, HSB.out (by assumption), by (show Blk _ _ _ _); rw [e2]; exact hmd _, hbx _, hbl _⟩
  case round =>
    clear HSA HSB
    obtain ⟨k, ns, hk, rfl, hns, hblk, hbx, hb⟩ := hrel
    by_cases hkn : k < n
    · obtain ⟨bo, oo, rfl, hbol, go⟩ := HCA.out k hkn
      have go := (hb.out.cell (p := ⟨bo, oo + k, none⟩) hbol).trans go
      obtain ⟨q, hq, hqn, _⟩ := HOL.out.at (i := k) (by rw [HOL.out.2, HN.out]; exact hkn)
      rw [hq] at go
      rw [HN.out] at hqn
      obtain ⟨b, off, va, rfl, hbl, g0, g1, gA⟩ := HC.out q hqn
      obtain ⟨a2, cap2, hva, hga⟩ := gA.get
      subst hva
      have g1 := (hb.out.cell (p := ⟨b, off + q * 2 + 1, none⟩) hbl).trans g1
      have HGA : Hid (∀ j, j < (el l q).2.length → ∃ b off, a2 = some ⟨b, off, none⟩ ∧ b < w.heap.size ∧ w.cell? ⟨b, off + j * 4, none⟩ = some (.int .i64 (el (el l q).2 j).1) ∧ w.cell? ⟨b, off + j * 4 + 1, none⟩ = some (.int .i64 (el (el l q).2 j).2.1) ∧ w.cell? ⟨b, off + j * 4 + 2, none⟩ = some (.int .i64 (el (el l q).2 j).2.2.1) ∧ w.cell? ⟨b, off + j * 4 + 3, none⟩ = some (.int .i64 (el (el l q).2 j).2.2.2)) := hga
      have HAL : Hid (∀ a ∈ (el l q).2, ∃ t : Nat, a.2.2.2 = (t : Int) ∧ t < n) := HTO.out q hqn
      have hL4 := HSZ.out q hqn
      have HSU : Hid (addL l (out.take (k + 1)) (begN z) = addA q (el l q).2 (addL l (out.take k) (begN z))) := addL_take l (by rw [HOL.out.2, HN.out]; exact hkn) hq _
      have c1 := hbx.out.cell 1 (v := .slice (some ⟨b, off, none⟩) n cap) rfl
      clear gA hga g0 hq
      generalize addL l (out.take k) (begN z) = X at *
      generalize (el l q).2 = ar at *
      generalize hL : ar.length = L at *
      have HL : Hid (ar.length = L) := hL
      clear hL
      have hk0 : (0 : Int) ≤ (k : Int) := by omega
      have hk1 : (k : Int) < (n : Int) := by omega
      have hq0 : (0 : Int) ≤ (q : Int) := by omega
      have hq1 : (q : Int) < (n : Int) := by omega
      go_wp2
      go_loopw [34] (fun i wr => ∃ (j : Nat) (ns : List Int), j ≤ L ∧ i = .int .i64 j ∧ Hid (CntsL n (fun p => capN (addA q (ar.take j) X p)) ns) ∧ Hid (Blk wr (w.heap.size + 1) (ns.map (Value.int .i64)).toArray 3) ∧ Hid (Blk wr w.heap.size #[.int .i64 z, .slice (some ⟨b, off, none⟩) n cap] 27) ∧ Hid (Below w.heap.size w wr)) (fun i _ => L - (intOf i).toNat)
      case atStart => exact ⟨0, ns, Nat.zero_le _, rfl, hns, hblk, hbx, hb⟩
      case round =>
        clear hns hblk hbx hb c1 go
        obtain ⟨j, ns, hj, rfl, hns, hblk, hbx, hb⟩ := hrel
        by_cases hjL : j < L
        · obtain ⟨b3, off3, rfl, hb3l, e0, e1, e2, e3⟩ := HGA.out j hjL
          have e0 := (hb.out.cell (p := ⟨b3, off3 + j * 4, none⟩) hb3l).trans e0
          have e1 := (hb.out.cell (p := ⟨b3, off3 + j * 4 + 1, none⟩) hb3l).trans e1
          have e2 := (hb.out.cell (p := ⟨b3, off3 + j * 4 + 2, none⟩) hb3l).trans e2
          have e3 := (hb.out.cell (p := ⟨b3, off3 + j * 4 + 3, none⟩) hb3l).trans e3
          obtain ⟨t, ht, htn⟩ := HAL.out (el ar j) (el_mem (by rw [HL.out]; exact hjL))
          have HT : Hid (addA q (ar.take (j + 1)) X = updN (addA q (ar.take j) X) t (addA q (ar.take j) X t + addA q (ar.take j) X q)) := addA_take q (by rw [HL.out]; exact hjL) ht X
          rw [ht] at e3
          generalize (el ar j).1 = x0 at *
          generalize (el ar j).2.1 = x1 at *
          generalize (el ar j).2.2.1 = x2 at *
          clear ht
          generalize hY : addA q (ar.take j) X = Y at *
          clear hY
          have ht9 := hns.out.2 t htn
          have hq9 := hns.out.2 q hqn
          have hc9 : min ((capN (Y t) : Int) + (capN (Y q) : Int)) 1000000001 = ((capN (Y t + Y q) : Nat) : Int) := cap_join
          have ha9 := capN_le (Y t)
          have hb9 := capN_le (Y q)
          have HN2 : Hid (CntsL n (fun p => capN (addA q (ar.take (j + 1)) X p)) (ns.set t (min ((capN (Y t) : Int) + (capN (Y q) : Int)) 1000000001))) := by
            refine (hns.out.set htn (capN (Y t + Y q)) (x := min ((capN (Y t) : Int) + (capN (Y q) : Int)) 1000000001) hc9).congr fun p _ => ?_
            rw [HT.out]
            simp only [updN]
            by_cases e : p = t
            · rw [if_pos e, if_pos e]
            · rw [if_neg e, if_neg e]
          simp only at ht9 hq9
          clear hc9
          generalize capN (Y t) = A at *
          generalize capN (Y q) = C at *
          have hj0 : (0 : Int) ≤ (j : Int) := by omega
          have hj1 : (j : Int) < (L : Int) := by omega
          have ht0 : (0 : Int) ≤ (t : Int) := by omega
          have ht1 : (t : Int) < (n : Int) := by omega
          have hxl : w.heap.size + 1 < wr.heap.size := hblk.out.lt
          have B1 : Hid (Blk (wr.alloc (.cells #[.int .i64 x0, .int .i64 x1, .int .i64 x2, .int .i64 (t : Int)] 33)) (w.heap.size + 1) (ns.map (Value.int .i64)).toArray 3) := hblk.out.alloc _
          have A1 : Hid (Blk (wr.alloc (.cells #[.int .i64 x0, .int .i64 x1, .int .i64 x2, .int .i64 (t : Int)] 33)) wr.heap.size #[.int .i64 x0, .int .i64 x1, .int .i64 x2, .int .i64 (t : Int)] 33) := Blk.made _ _ _
          have X1 : Hid (Blk (wr.alloc (.cells #[.int .i64 x0, .int .i64 x1, .int .i64 x2, .int .i64 (t : Int)] 33)) w.heap.size #[.int .i64 z, .slice (some ⟨b, off, none⟩) n cap] 27) := hbx.out.alloc _
          have Y1 : Hid (Below w.heap.size w (wr.alloc (.cells #[.int .i64 x0, .int .i64 x1, .int .i64 x2, .int .i64 (t : Int)] 33))) := hb.out.alloc hb.out.size _
          have HLN : Hid (ns.length = n) := hns.out.1
          clear hns hblk hbx hb
          go_wp2
          generalize hW : wr.alloc (.cells #[.int .i64 x0, .int .i64 x1, .int .i64 x2, .int .i64 (t : Int)] 33) = W1 at *
          clear hW
          have HS : HeldJw (w.heap.size + 1) wr.heap.size t q (A : Int) (C : Int) W1.drew := ⟨A1.out.drew.cell 3 rfl, by rw [← ht9]; exact num_cell B1.out.drew (by rw [HLN.out]; exact htn), by rw [← hq9]; exact num_cell B1.out.drew (by rw [HLN.out]; exact hqn)⟩
          have HB2 : Hid (Blk (W1.drew.setCell ⟨w.heap.size + 1, t, none⟩ (.int .i64 (min ((A : Int) + (C : Int)) 1000000001))) (w.heap.size + 1) ((ns.set t (min ((A : Int) + (C : Int)) 1000000001)).map (Value.int .i64)).toArray 3) := by have h9 := B1.out.drew.set t (.int .i64 (min ((A : Int) + (C : Int)) 1000000001)); rw [set_num] at h9; exact h9
          have X2 : Hid (Blk (W1.drew.setCell ⟨w.heap.size + 1, t, none⟩ (.int .i64 (min ((A : Int) + (C : Int)) 1000000001))) w.heap.size #[.int .i64 z, .slice (some ⟨b, off, none⟩) n cap] 27) := X1.out.drew.setO _ _ (by show w.heap.size ≠ w.heap.size + 1; omega)
          have Y2 : Hid (Below w.heap.size w (W1.drew.setCell ⟨w.heap.size + 1, t, none⟩ (.int .i64 (min ((A : Int) + (C : Int)) 1000000001)))) := Y1.out.drew.setCell (by show w.heap.size ≤ w.heap.size + 1; omega) _
          have c4 : W1.drew.cell? ⟨w.heap.size + 1, t, none⟩ = some (.int .i64 (A : Int)) := HS.2.1
          have f4 := B1.out.drew.fz t
          refine region_anyL (HeldJw (w.heap.size + 1) wr.heap.size t q (A : Int) (C : Int)) 14 (by kernel_rfl) ?_
          generalize W1.drew = W2 at *
          refine anyL_take (i := 0) (v := ?v0_14) at0 (by kernel_rfl) (by kernel_rfl) (by kernel_rfl) (by kernel_rfl) (fun _ _ _ h => h) rfl ?y0_14 HS ?r0_14
          case y0_14 => intro wx hx; obtain ⟨h1, h2, h3⟩ := hx; go_simp; try (with_reducible rfl)
          simp only [Act.put, List.setIfInBounds_toArray, List.set_cons_zero, List.set_cons_succ]
          refine anyL_take (i := 1) (v := ?v1_15) (atS at0) (by kernel_rfl) (by kernel_rfl) (by kernel_rfl) (by kernel_rfl) (fun _ _ _ h => h) rfl ?y1_15 HS ?r1_15
          case y1_15 => intro wx hx; obtain ⟨h1, h2, h3⟩ := hx; go_simp; try (with_reducible rfl)
          simp only [Act.put, List.setIfInBounds_toArray, List.set_cons_zero, List.set_cons_succ]
          refine anyL_take (i := 2) (v := ?v2_16) (atS (atS at0)) (by kernel_rfl) (by kernel_rfl) (by kernel_rfl) (by kernel_rfl) (fun _ _ _ h => h) rfl ?y2_16 HS ?r2_16
          case y2_16 => intro wx hx; obtain ⟨h1, h2, h3⟩ := hx; go_simp; try (with_reducible rfl)
          simp only [Act.put, List.setIfInBounds_toArray, List.set_cons_zero, List.set_cons_succ]
          refine anyL_take (i := 3) (v := ?v3_17) (atS (atS (atS at0))) (by kernel_rfl) (by kernel_rfl) (by kernel_rfl) (by kernel_rfl) (fun _ _ _ h => h) rfl ?y3_17 HS ?r3_17
          case y3_17 => intro wx hx; obtain ⟨h1, h2, h3⟩ := hx; go_simp; try (with_reducible rfl)
          simp only [Act.put, List.setIfInBounds_toArray, List.set_cons_zero, List.set_cons_succ]
          refine anyL_take (i := 4) (v := ?v4_18) (atS (atS (atS (atS at0)))) (by kernel_rfl) (by kernel_rfl) (by kernel_rfl) (by kernel_rfl) (fun _ _ _ h => h) rfl ?y4_18 HS ?r4_18
          case y4_18 => intro wx hx; obtain ⟨h1, h2, h3⟩ := hx; go_simp; try (with_reducible rfl)
          simp only [Act.put, List.setIfInBounds_toArray, List.set_cons_zero, List.set_cons_succ]
          refine anyL_take (i := 5) (v := ?v5_19) (atS (atS (atS (atS (atS at0))))) (by kernel_rfl) (by kernel_rfl) (by kernel_rfl) (by kernel_rfl) (fun _ _ _ h => h) rfl ?y5_19 HS ?r5_19
          case y5_19 => intro wx hx; obtain ⟨h1, h2, h3⟩ := hx; go_simp; try (with_reducible rfl)
          simp only [Act.put, List.setIfInBounds_toArray, List.set_cons_zero, List.set_cons_succ]
          refine anyL_take (i := 6) (v := ?v6_20) (atS (atS (atS (atS (atS (atS at0)))))) (by kernel_rfl) (by kernel_rfl) (by kernel_rfl) (by kernel_rfl) (fun _ _ _ h => h) rfl ?y6_20 HS ?r6_20
          case y6_20 => intro wx hx; obtain ⟨h1, h2, h3⟩ := hx; go_simp; try (with_reducible rfl)
          simp only [Act.put, List.setIfInBounds_toArray, List.set_cons_zero, List.set_cons_succ]
          refine anyL_take (i := 7) (v := ?v7_21) (atS (atS (atS (atS (atS (atS (atS at0))))))) (by kernel_rfl) (by kernel_rfl) (by kernel_rfl) (by kernel_rfl) (fun _ _ _ h => h) rfl ?y7_21 HS ?r7_21
          case y7_21 => intro wx hx; obtain ⟨h1, h2, h3⟩ := hx; go_simp; try (with_reducible rfl)
          simp only [Act.put, List.setIfInBounds_toArray, List.set_cons_zero, List.set_cons_succ]
          refine anyL_take (i := 8) (v := ?v8_22) (atS (atS (atS (atS (atS (atS (atS (atS at0)))))))) (by kernel_rfl) (by kernel_rfl) (by kernel_rfl) (by kernel_rfl) (fun _ _ _ h => h) rfl ?y8_22 HS ?r8_22
          case y8_22 => intro wx hx; obtain ⟨h1, h2, h3⟩ := hx; go_simp; try (with_reducible rfl)
          simp only [Act.put, List.setIfInBounds_toArray, List.set_cons_zero, List.set_cons_succ]
          refine anyL_take (i := 9) (v := ?v9_23) (atS (atS (atS (atS (atS (atS (atS (atS (atS at0))))))))) (by kernel_rfl) (by kernel_rfl) (by kernel_rfl) (by kernel_rfl) (fun _ _ _ h => h) rfl ?y9_23 HS ?r9_23
          case y9_23 => intro wx hx; obtain ⟨h1, h2, h3⟩ := hx; go_simp; try (with_reducible rfl)
          simp only [Act.put, List.setIfInBounds_toArray, List.set_cons_zero, List.set_cons_succ]
          refine anyL_take (i := 10) (v := ?v10_24) (atS (atS (atS (atS (atS (atS (atS (atS (atS (atS at0)))))))))) (by kernel_rfl) (by kernel_rfl) (by kernel_rfl) (by kernel_rfl) (fun _ _ _ h => h) rfl ?y10_24 HS ?r10_24
          case y10_24 => intro wx hx; obtain ⟨h1, h2, h3⟩ := hx; go_simp; try (with_reducible rfl)
          simp only [Act.put, List.setIfInBounds_toArray, List.set_cons_zero, List.set_cons_succ]
          refine anyL_take (i := 11) (v := ?v11_25) (atS (atS (atS (atS (atS (atS (atS (atS (atS (atS (atS at0))))))))))) (by kernel_rfl) (by kernel_rfl) (by kernel_rfl) (by kernel_rfl) (fun _ _ _ h => h) rfl ?y11_25 HS ?r11_25
          case y11_25 => intro wx hx; obtain ⟨h1, h2, h3⟩ := hx; go_simp; try (with_reducible rfl)
          simp only [Act.put, List.setIfInBounds_toArray, List.set_cons_zero, List.set_cons_succ]
          refine anyL_one (i := 12) (atS (atS (atS (atS (atS (atS (atS (atS (atS (atS (atS (atS at0)))))))))))) (by kernel_rfl) rfl (fun K hK => ?_)
          go_simp
          refine (bothWays_any (A : Int) (C : Int) ⟨by omega, by omega⟩ ⟨by omega, by omega⟩ _).mono ?_
          rintro e w5 ⟨rfl, rfl⟩
          refine hK _ _ (.inr HS) ?_
          try simp only [Act.put, List.setIfInBounds_toArray, List.set_cons_zero, List.set_cons_succ]
          refine anyL_take (i := 13) (v := ?v13_26) (atS (atS (atS (atS (atS (atS (atS (atS (atS (atS (atS (atS (atS at0))))))))))))) (by kernel_rfl) (by kernel_rfl) (by kernel_rfl) (by kernel_rfl) (fun _ _ _ h => h) rfl ?y13_26 HS ?r13_26
          case y13_26 => intro wx hx; obtain ⟨h1, h2, h3⟩ := hx; go_simp; try (with_reducible rfl)
          simp only [Act.put, List.setIfInBounds_toArray, List.set_cons_zero, List.set_cons_succ]
          refine anyL_one (i := 14) (atS (atS (atS (atS (atS (atS (atS (atS (atS (atS (atS (atS (atS (atS at0)))))))))))))) (by kernel_rfl) rfl (fun K hK => ?_)
          go_simp
          refine hK _ _ (.inl rfl) (anyL_done (by kernel_rfl) (NoPanic.normal ?_))
          try simp only [Act.put, List.setIfInBounds_toArray, List.set_cons_zero, List.set_cons_succ]
          clear HS c4 f4
          go_wp2
          go_roundw
          case rel =>
            first
              | exact ⟨j + 1, by omega, by omega, _, HN2, HB2⟩
              | exact ⟨j + 1, _, by omega, by go_num, HN2, HB2, X2, Y2⟩
          case measure => simp [intOf]; omega
        · have hnl : ¬ (j : Int) < (L : Int) := by omega
          have HN5 : Hid (CntsL n (fun p => capN (addL l (out.take (k + 1)) (begN z) p)) ns) := by
            have h9 := hns.out
            rw [show j = ar.length by rw [HL.out]; omega, List.take_length] at h9
            rw [HSU.out]
            exact h9
          go_wp2
          go_roundw
          case rel => exact ⟨k + 1, ns, by omega, by go_num, HN5, hblk, hbx, hb⟩
          case measure => simp [intOf]; omega
    · have hnl : ¬ (k : Int) < (n : Int) := by omega
      have HN5 : Hid (CntsL n (fun p => capN (addL l out (begN z) p)) ns) := by
        have h9 := hns.out
        rw [show k = out.length by rw [HOL.out.2, HN.out]; omega, List.take_length] at h9
        exact h9
      have HNU : Hid (Nums wr (.slice (some ⟨w.heap.size + 1, 0, none⟩) n n) ns) := by have h9 := nums_block (cap := n) hblk.out; rw [hns.out.1] at h9; exact h9
      go_wp2
      go_ret
      exact ⟨_, rfl, ⟨ns, HNU.out, HN5.out⟩, hb.out⟩
theorem ways_any (z : Int) (vs : Value) (l : List St) (vo : Value) (out : List Int) (w : World) (h : Mach w (.agg #[.int .i64 z, vs]) (z, l)) (hr : faultM (z, l) = 0) (ho : Nums w vo out) (hO : OrderL l out) :
    Calls Tryz.prog 14 #[.agg #[.int .i64 z, vs], vo] w fun e w' => ∃ v', e = .returned v' ∧ (∃ ns, Nums w' v' ns ∧ CntsL l.length (fun j => capN (addL l out (begN z) j)) ns) ∧ Below w.heap.size w w' := by
  by_cases hz0 : z < 0
  · exact ways_anyN z vs l vo out w h hr ho hO hz0
  · exact ways_anyP z vs l vo out w h hr ho hO (by omega)
end Go.Proofs.YtfekmlblldhieaaGreatDoor.Wt
namespace Go.Proofs.YtfekmlblldhieaaGreatDoor.Pl
/-- A list of numbers of arcs. -/
def LenL (n : Nat) (f : Nat → Int) (ns : List Int) : Prop := ns.length = n ∧ ∀ j, j < n → el ns j = f j
theorem LenL.congr {n : Nat} {f g : Nat → Int} {ns : List Int} (h : LenL n f ns) (e : ∀ j, j < n → g j = f j) : LenL n g ns := ⟨h.1, fun j hj => by rw [h.2 j hj, e j hj]⟩
theorem LenL.set {n : Nat} {f : Nat → Int} {ns : List Int} (h : LenL n f ns) {t : Nat} (ht : t < n) (x : Int) : LenL n (updO f t x) (ns.set t x) := by
  refine ⟨by rw [List.length_set]; exact h.1, fun j hj => ?_⟩
  rw [el_setZ (by rw [h.1]; exact ht)]
  unfold updO
  split
  · rfl
  · exact h.2 j hj
/-- The first q ones are set. -/
def NoneL (n q : Nat) (ns : List Int) : Prop := ns.length = n ∧ ∀ j, j < q → el ns j = -1
theorem NoneL.start (n : Nat) : NoneL n 0 (List.replicate n 0) := ⟨by simp, fun j hj => absurd hj (Nat.not_lt_zero _)⟩
theorem NoneL.set {n q : Nat} {ns : List Int} (h : NoneL n q ns) (hq : q < n) : NoneL n (q + 1) (ns.set q (-1)) := by
  refine ⟨by rw [List.length_set]; exact h.1, fun j hj => ?_⟩
  rw [el_setZ (by rw [h.1]; exact hq)]
  split
  · rfl
  · exact h.2 j (by omega)
theorem NoneL.lens {n : Nat} {ns : List Int} (h : NoneL n n ns) : LenL n (fun _ => -1) ns := ⟨h.1, h.2⟩
end Go.Proofs.YtfekmlblldhieaaGreatDoor.Pl
namespace Go.Proofs.YtfekmlblldhieaaGreatDoor.Wt
open Go.ChangeShapes Go.WideShapes Go.ChangeAt Go.RowKit
open Go.Proofs.YtfekmlblldhieaaGreatDoor.Pl
set_option linter.unusedVariables false
set_option linter.unusedSimpArgs false
end Go.Proofs.YtfekmlblldhieaaGreatDoor.Wt
namespace Go.Proofs.YtfekmlblldhieaaGreatDoor.Pl
theorem ends_cnt {l : List St} {ns : List Int} {n : Nat} {x : Nat → Nat} (h : CntsL n (fun j => capN (x j)) ns) : ∀ k, k ≤ n → Wt.endsF (fun a b => min (a + b) 1000000001) l ns 0 k = ((capN (dotN (fun p => baseN (el l p).1) x k) : Nat) : Int) := by
  intro k
  induction k with
  | zero => intro _; rfl
  | succ k ih =>
    intro hk
    simp only [Wt.endsF, dotN]
    rw [ih (by omega)]
    split
    · rename_i e
      simp [baseN, e]
    · rename_i e
      rw [h.2 k (by omega), cap_join]
      simp [baseN, e]
theorem ends_far {l : List St} {ns : List Int} {n : Nat} {x : Nat → Int} (h : LenL n x ns) (hx : ∀ j, -1 ≤ x j) : ∀ k, k ≤ n → Wt.endsF (fun a b => max a b) l ns (-1) k = dotD (fun p => baseD (el l p).1) x k := by
  intro k
  induction k with
  | zero => intro _; rfl
  | succ k ih =>
    intro hk
    simp only [Wt.endsF, dotD]
    rw [ih (by omega)]
    have h1 := dotD_ge (fun p => baseD (el l p).1) x k
    have h2 := hx k
    split
    · rename_i e
      have : mulD (baseD (el l k).1) (x k) = -1 := by simp [baseD, e, mulD]
      rw [this]; omega
    · rename_i e
      have : mulD (baseD (el l k).1) (x k) = x k := by
        simp only [baseD, e, mulD, if_false]
        split <;> omega
      rw [this, h.2 k (by omega)]
end Go.Proofs.YtfekmlblldhieaaGreatDoor.Pl
namespace Go.Proofs.YtfekmlblldhieaaGreatDoor.Wt
open Go.ChangeShapes Go.WideShapes Go.ChangeAt Go.RowKit
open Go.Proofs.YtfekmlblldhieaaGreatDoor.Pl
set_option linter.unusedVariables false
set_option linter.unusedSimpArgs false
theorem ask_both : AskJ 15 (fun a b => min (a + b) 1000000001) 0 :=
  ⟨enters_of Tryz.func15 (by kernel_rfl) rfl, fun x y hx hy => ⟨by simp only; omega, fun W => bothWays_any x y hx hy W⟩⟩
def HeldX (B : Nat) (z : Int) (v : Value) (w : World) : Prop := Blk w B #[.int .i64 z, v] 27
theorem HeldX.two {B : Nat} {z : Int} {v : Value} {w : World} (h : HeldX B z v w) : w.cell? ⟨B, 0, none⟩ = some (.int .i64 z) ∧ w.cell? ⟨B, 1, none⟩ = some v := ⟨h.cell 0 rfl, h.cell 1 rfl⟩
theorem below_undrewO {B : Nat} {w w' : World} (h : Below B w.drew w') : Below B w w' := ⟨h.os, h.tape, h.output, h.size, h.block⟩
theorem order_cycle (v : Value) (z : Int) (l : List St) (w : World) (h : Mach w v (z, l)) (hok : okM (z, l)) (hr : faultM (z, l) = 0) (hc : CycleL l) :
    Calls Tryz.prog 12 #[v] w fun e w' => ∃ v' : Value, e = .returned (.tuple #[v', .int .i64 6]) ∧ Below w.heap.size w w' :=
  (order_any v (z, l) w h hok 0 hr).mono fun e w' ⟨v', ec, he, ⟨out, _, ha⟩, hb⟩ => by
    rw [OrdAns, if_pos rfl] at ha
    rcases ha with ⟨_, ho⟩ | ⟨rfl, _, _⟩
    · exact absurd hc ho.noCycle
    · exact ⟨v', he, hb⟩
theorem order_fine (v : Value) (z : Int) (l : List St) (w : World) (h : Mach w v (z, l)) (hok : okM (z, l)) (hr : faultM (z, l) = 0) (hc : ¬ CycleL l) :
    Calls Tryz.prog 12 #[v] w fun e w' => ∃ v' : Value, e = .returned (.tuple #[v', .int .i64 0]) ∧ (∃ out, Nums w' v' out ∧ OrderL l out) ∧ Below w.heap.size w w' :=
  (order_any v (z, l) w h hok 0 hr).mono fun e w' ⟨v', ec, he, ⟨out, hn, ha⟩, hb⟩ => by
    rw [OrdAns, if_pos rfl] at ha
    rcases ha with ⟨rfl, ho⟩ | ⟨_, h2, _⟩
    · exact ⟨v', he, ⟨out, hn, ho⟩, hb⟩
    · exact absurd h2 hc
theorem order_bad (v : Value) (m : Mc) (w : World) (h : Mach w v m) (hok : okM m) (r : Int) (hr : faultM m = r) (h0 : ¬ r = 0) :
    Calls Tryz.prog 12 #[v] w fun e w' => ∃ v' : Value, e = .returned (.tuple #[v', .int .i64 r]) ∧ Below w.heap.size w w' :=
  (order_any v m w h hok r hr).mono fun e w' ⟨v', ec, he, ⟨out, hn, ha⟩, hb⟩ => by
    rw [OrdAns, if_neg h0] at ha
    rw [ha.1] at he
    exact ⟨v', he, hb⟩
set_option maxRecDepth 100000 in
set_option maxHeartbeats 3200000 in
theorem paths_ok (z : Int) (l : List St) (vs : Value) (w : World) (h : Mach w (.agg #[.int .i64 z, vs]) (z, l)) (hok : okM (z, l)) (hr : faultM (z, l) = 0) (hc : ¬ CycleL l) :
    Calls Tryz.prog 6 #[.agg #[.int .i64 z, vs]] w fun e w' => ∃ (x ec : Int), e = .returned (.tuple #[.int .i64 x, .int .i64 ec]) ∧ PathAns (z, l) 0 x ec ∧ Below w.heap.size w w' := by
  have HM : Hid (Mach w (.agg #[.int .i64 z, vs]) (z, l)) := h
  have HK : Hid (okM (z, l)) := hok
  have HR : Hid (faultM (z, l) = 0) := hr
  have HCY : Hid (¬ CycleL l) := hc
  obtain ⟨vs', hvs, hS⟩ := h
  simp only [Value.agg.injEq, Array.mk.injEq, List.cons.injEq, and_true, true_and] at hvs
  subst hvs
  obtain ⟨a, cap, rfl⟩ := hS.sl
  have hz := (faultM_zero hr).2
  simp only [rangeB, Bool.and_eq_true, inB, decide_eq_true_eq] at hz
  have hz1 : -1 ≤ z := hz.1.1
  have hz2 : z < (l.length : Int) := by omega
  have HZ : Hid (-1 ≤ z ∧ z < (l.length : Int)) := ⟨hz1, hz2⟩
  have h60 : Hid (l.length ≤ 60) := (right_size hr).1
  have HTO : Hid (∀ q, q < l.length → ∀ a ∈ (el l q).2, ∃ t : Nat, a.2.2.2 = (t : Int) ∧ t < l.length) := fun q hq a ha => by
    have h9 := List.all_eq_true.1 (right_st hr hq).2 a ha
    simp only [arcB, inB, Bool.and_eq_true, decide_eq_true_eq] at h9
    exact ⟨a.2.2.2.toNat, by omega, by omega⟩
  clear hS hok hr hz hc hz1 hz2
  simp only
  obtain ⟨n, hn⟩ : ∃ n, l.length = n := ⟨_, rfl⟩
  have HN : Hid (l.length = n) := hn
  simp only [hn]
  simp only [hn] at HM
  clear hn
  go_enter Tryz.func6, Tryz.ntmps6
  go_wp2_with (first
    | (go_at_call 12; (with_reducible refine (order_fine _ z l _ (HM.out.later (B := w.heap.size) (by go_grown) (Nat.le_refl _)) HK.out HR.out HCY.out).mono ?_); rintro e w1 ⟨v1, rfl, ⟨out, hnu, hol⟩, hb⟩; obtain ⟨s1, b1, hb1⟩ := boxed hb (by simp); have K0 : HeldX w.heap.size z (.slice a n cap) w1 := b1; have HB1 : Hid (Below w.heap.size w w1) := hb1; have HNU : Hid (Nums w1 v1 out) := hnu; have HOL : Hid (OrderL l out) := hol; clear b1 hb1 hb hnu hol))
  have K1 : HeldX w.heap.size z (.slice a n cap) w1.drew := K0.drew
  refine region_anyL (HeldX w.heap.size z (.slice a n cap)) 1000 (by kernel_rfl) ?_
  refine anyL_take (i := 0) (v := ?v0_27) at0 (by kernel_rfl) (by kernel_rfl) (by kernel_rfl) (by kernel_rfl) (fun _ _ _ h => h) rfl ?y0_27 K1 ?r0_27
  case y0_27 => intro wx hx; obtain ⟨x0, x1⟩ := hx.two; go_simp; try (with_reducible rfl)
  simp only [Act.put, List.setIfInBounds_toArray, List.set_cons_zero, List.set_cons_succ]
  refine anyL_take (i := 1) (v := ?v1_28) (atS at0) (by kernel_rfl) (by kernel_rfl) (by kernel_rfl) (by kernel_rfl) (fun _ _ _ h => h) rfl ?y1_28 K1 ?r1_28
  case y1_28 => intro wx hx; obtain ⟨x0, x1⟩ := hx.two; go_simp; try (with_reducible rfl)
  simp only [Act.put, List.setIfInBounds_toArray, List.set_cons_zero, List.set_cons_succ]
  refine anyL_take (i := 2) (v := ?v2_29) (atS (atS at0)) (by kernel_rfl) (by kernel_rfl) (by kernel_rfl) (by kernel_rfl) (fun _ _ _ h => h) rfl ?y2_29 K1 ?r2_29
  case y2_29 => intro wx hx; obtain ⟨x0, x1⟩ := hx.two; go_simp; try (with_reducible rfl)
  simp only [Act.put, List.setIfInBounds_toArray, List.set_cons_zero, List.set_cons_succ]
  refine anyL_one (i := 3) (atS (atS (atS at0))) (by kernel_rfl) rfl (fun K hK => ?_)
  go_simp
  refine (ways_any z _ l v1 out _ (HM.out.later (w' := w1.drew) (B := w.heap.size) HB1.out.drew (Nat.le_refl _)) HR.out (HNU.out.later (w' := w1.drew) (B := w1.heap.size) (Below.refl w1.heap.size w1).drew (Nat.le_refl _)) HOL.out).mono ?_
  rintro e w2 ⟨v2, rfl, ⟨ns, hnu2, hcn⟩, hb2⟩
  have K2 : HeldX w.heap.size z (.slice a n cap) w2 := K1.below hb2 s1
  have HB2 : Hid (Below w.heap.size w w2) := HB1.out.trans ((below_undrewO hb2).mono HB1.out.size)
  have HNL : Hid (ns.length = l.length) := hcn.1
  have HRG : Hid (∀ j, j < l.length → (0 : Int) ≤ el ns j ∧ el ns j ≤ 1000000001) := fun j hj => by
    rw [hcn.2 j hj]
    have h9 := capN_le (addL l out (begN z) j)
    simp only
    omega
  have HCT : Hid (endsF (fun a b => min (a + b) 1000000001) l ns 0 l.length = ((capN (if z < 0 then 0 else cntF l out z.toNat) : Nat) : Int)) := by
    show _ = _
    rw [ends_cnt hcn l.length (Nat.le_refl _), along_count HOL.out HTO.out HZ.out]
  have HNU2 : Hid (Nums w2 v2 ns) := hnu2
  refine hK _ _ (.inr K2) ?_
  try simp only [Act.put, List.setIfInBounds_toArray, List.set_cons_zero, List.set_cons_succ]
  clear hb2 hnu2 K0 K1 hcn
  refine anyL_one (i := 4) (atS (atS (atS (atS at0)))) (by kernel_rfl) rfl (fun K hK => ?_)
  go_simp
  refine (atEnds_any z _ l v2 ns 0 _ (fun a b => min (a + b) 1000000001) 0 w2 (HM.out.later (B := w.heap.size) HB2.out (Nat.le_refl _)) h60.out HNU2.out HNL.out (by omega) HRG.out ask_both).mono ?_
  rintro e w3 ⟨rfl, hb3⟩
  have K3 : HeldX w.heap.size z (.slice a n cap) w3 := K2.below hb3 (Nat.lt_of_lt_of_le K2.lt (Nat.le_refl _))
  have HB3 : Hid (Below w.heap.size w w3) := HB2.out.trans (hb3.mono HB2.out.size)
  refine hK _ _ (.inr K3) ?_
  try simp only [Act.put, List.setIfInBounds_toArray, List.set_cons_zero, List.set_cons_succ]
  clear hb3
  generalize hE : endsF (fun a b => min (a + b) 1000000001) l ns 0 l.length = E at *
  have HE : Hid (endsF (fun a b => min (a + b) 1000000001) l ns 0 l.length = E) := hE
  clear hE
  refine anyL_one (i := 5) (atS (atS (atS (atS (atS at0))))) (by kernel_rfl) rfl (fun K hK => ?_)
  go_simp
  refine hK _ _ (.inr K3) (anyL_done (by kernel_rfl) (NoPanic.normal ?_))
  try simp only [Act.put, List.setIfInBounds_toArray, List.set_cons_zero, List.set_cons_succ]
  have HV : Hid (∃ x ec : Int, pathA z (cntF l out z.toNat) = (x, ec) ∧ ((1000000000 < E ∧ x = 0 ∧ ec = 4) ∨ (¬ 1000000000 < E ∧ x = E ∧ ec = 0))) := by
    have h9 := HCT.out
    generalize cntF l out z.toNat = c at *
    by_cases hz : z < 0
    · rw [if_pos hz] at h9
      have h8 : capN 0 = 0 := rfl
      rw [h8] at h9
      exact ⟨0, 0, by rw [pathA, if_pos hz], .inr ⟨by omega, by omega, rfl⟩⟩
    · rw [if_neg hz] at h9
      by_cases hgt : 1000000000 < c
      · have := capN_gt.2 hgt
        exact ⟨0, 4, by rw [pathA, if_neg hz, if_pos hgt], .inl ⟨by omega, rfl, rfl⟩⟩
      · have h8 := capN_eq (a := c) (by omega)
        rw [h8] at h9
        exact ⟨c, 0, by rw [pathA, if_neg hz, if_neg hgt], .inr ⟨by omega, by omega, rfl⟩⟩
  clear HCT HE
  by_cases hgt : 1000000000 < E
  · have HA : Hid (PathAns (z, l) 0 0 4) := by
      obtain ⟨x, ec, hp, h9⟩ := HV.out
      rcases h9 with ⟨_, rfl, rfl⟩ | ⟨h8, _⟩
      · show PathAns _ _ _ _
        rw [PathAns, if_pos rfl]
        exact .inl ⟨out, HOL.out, hp⟩
      · exact absurd hgt h8
    go_wp2
    exact bodyPost_ret (v := .tuple #[.int .i64 0, .int .i64 4]) (by simp [results, Tryz.results6, go_sem]) rfl ⟨0, 4, rfl, HA.out, HB3.out⟩
  · have HA : Hid (PathAns (z, l) 0 E 0) := by
      obtain ⟨x, ec, hp, h9⟩ := HV.out
      rcases h9 with ⟨h8, _⟩ | ⟨_, rfl, rfl⟩
      · exact absurd h8 hgt
      · show PathAns _ _ _ _
        rw [PathAns, if_pos rfl]
        exact .inl ⟨out, HOL.out, hp⟩
    go_wp2
    exact bodyPost_ret (v := .tuple #[.int .i64 E, .int .i64 0]) (by simp [results, Tryz.results6, go_sem]) rfl ⟨E, 0, rfl, HA.out, HB3.out⟩
set_option maxRecDepth 100000 in
set_option maxHeartbeats 1600000 in
theorem paths_any (v : Value) (m : Mc) (w : World) (h : Mach w v m) (hok : okM m) (r : Int) (hr : faultM m = r) :
    Calls Tryz.prog 6 #[v] w fun e w' => ∃ (x ec : Int), e = .returned (.tuple #[.int .i64 x, .int .i64 ec]) ∧ PathAns m r x ec ∧ Below w.heap.size w w' := by
  obtain ⟨z, l⟩ := m
  have HM : Hid (Mach w v (z, l)) := h
  have HK : Hid (okM (z, l)) := hok
  have HR : Hid (faultM (z, l) = r) := hr
  obtain ⟨vs, rfl, hS⟩ := h
  obtain ⟨a, cap, rfl⟩ := hS.sl
  clear hS hok hr
  by_cases h0 : r = 0
  · subst h0
    by_cases hc : CycleL l
    · have HCY : Hid (CycleL l) := hc
      clear hc
      go_enter Tryz.func6, Tryz.ntmps6
      go_wp2_with (first
        | (go_at_call 12; (with_reducible refine (order_cycle _ z l _ (HM.out.later (B := w.heap.size) (by go_grown) (Nat.le_refl _)) HK.out HR.out HCY.out).mono ?_); rintro e w1 ⟨v1, rfl, hb⟩; obtain ⟨s1, b1, hb1⟩ := boxed hb (by simp); have HB1 : Hid (Below w.heap.size w w1) := hb1; clear b1 hb1 hb))
      exact bodyPost_ret (v := .tuple #[.int .i64 0, .int .i64 6]) (by simp [results, Tryz.results6, go_sem]) rfl ⟨0, 6, rfl, by rw [PathAns, if_pos rfl]; exact .inr ⟨HCY.out, rfl, rfl⟩, HB1.out⟩
    · exact paths_ok z l _ w HM.out HK.out HR.out hc
  · have h0' : (r != 0) = true := by simp [h0]
    have H0 : Hid (¬ r = 0) := h0
    go_enter Tryz.func6, Tryz.ntmps6
    go_wp2_with (first
      | (go_at_call 12; (with_reducible refine (order_bad _ (z, l) _ (HM.out.later (B := w.heap.size) (by go_grown) (Nat.le_refl _)) HK.out r HR.out H0.out).mono ?_); rintro e w1 ⟨v1, rfl, hb⟩; obtain ⟨s1, b1, hb1⟩ := boxed hb (by simp); have HB1 : Hid (Below w.heap.size w w1) := hb1; clear b1 hb1 hb))
    exact bodyPost_ret (v := .tuple #[.int .i64 0, .int .i64 r]) (by simp [results, Tryz.results6, go_sem]) rfl ⟨0, r, rfl, by rw [PathAns, if_neg h0]; exact ⟨rfl, rfl⟩, HB1.out⟩
end Go.Proofs.YtfekmlblldhieaaGreatDoor.Wt
