/- The program: how many arcs lead to each state. -/
import Derived.Test.YtfffelgmgghldabSa
import Derived.Test.YtfffelgmgghldabPlainOd
import Derived.Test.YtfffelgmgghldabMcC
namespace Go.Proofs.Ytfffelgmgghldab.Pl
/-- A list of counts. -/
def CntsL (n : Nat) (f : Nat → Nat) (ns : List Int) : Prop := ns.length = n ∧ ∀ j, j < n → el ns j = (f j : Int)
theorem CntsL.zero (n : Nat) : CntsL n (fun _ => 0) (List.replicate n 0) := ⟨by simp, fun j hj => by simp [el, hj]⟩
theorem CntsL.congr {n : Nat} {f g : Nat → Nat} {ns : List Int} (h : CntsL n f ns) (e : ∀ j, j < n → g j = f j) : CntsL n g ns := ⟨h.1, fun j hj => by rw [h.2 j hj, e j hj]⟩
theorem CntsL.set {n : Nat} {f : Nat → Nat} {ns : List Int} (h : CntsL n f ns) {t : Nat} (ht : t < n) (k : Nat) {x : Int} (hx : x = (k : Int)) : CntsL n (fun j => if j = t then k else f j) (ns.set t x) := by
  refine ⟨by rw [List.length_set]; exact h.1, fun j hj => ?_⟩
  rw [el_setZ (by rw [h.1]; exact ht)]
  split
  · rename_i e; simp [e, hx]
  · rename_i e; simp [e, h.2 j hj]
theorem toC_take_le (j : Nat) (ar : List Ar) (c : Nat) : toC j (ar.take c) ≤ toC j ar := by
  have h4 : toC j ar = toC j (ar.take c) + toC j (ar.drop c) := by rw [← toC_append, List.take_append_drop]
  omega
theorem lead_bound {l : List St} {q : Nat} (hq : q < l.length) (p : Nat) : leadC l p q + toC p (el l q).2 ≤ arcN l := by
  have h1 := openS_le l [] p (q + 1) (by omega)
  have h2 : arcN (l.take (q + 1)) ≤ arcN l := by
    conv => rhs; rw [← List.take_append_drop (q + 1) l, arcN_append]
    omega
  have h3 := leadC_succ l p q
  unfold leadC at *
  omega
theorem arcs_len {l : List St} {j : Nat} (h : j < l.length) : (el l j).2.length ≤ arcN l := by
  have h1 := arcN_take h
  have h2 : arcN (l.take (j + 1)) ≤ arcN l := by
    conv => rhs; rw [← List.take_append_drop (j + 1) l, arcN_append]
    omega
  omega
end Go.Proofs.Ytfffelgmgghldab.Pl
namespace Go.Proofs.Ytfffelgmgghldab.Wt
open Go.ChangeShapes Go.WideShapes Go.ChangeAt Go.RowKit
open Go.Proofs.Ytfffelgmgghldab.Pl
set_option linter.unusedVariables false
set_option linter.unusedSimpArgs false
set_option maxRecDepth 100000 in
set_option maxHeartbeats 3200000 in
theorem leadingTo_any (z : Int) (vs : Value) (l : List St) (w : World) (h : Mach w (.agg #[.int .i64 z, vs]) (z, l)) (hr : faultM (z, l) = 0) (O : Nat) (hO : O = w.heap.size + 1) :
    Calls Try.prog 44 #[.agg #[.int .i64 z, vs]] w fun e w' => e = .returned (.slice (some ⟨O, 0, none⟩) l.length l.length) ∧ (∃ ns, CntsL l.length (fun j => leadC l j l.length) ns ∧ Blk w' O (ns.map (Value.int .i64)).toArray 3) ∧ Below w.heap.size w w' := by
  subst hO
  obtain ⟨vs', hvs, hS⟩ := h
  simp only [Value.agg.injEq, Array.mk.injEq, List.cons.injEq, and_true, true_and] at hvs
  subst hvs
  obtain ⟨a, cap, rfl, hc⟩ := hS.get
  have HC : Hid (∀ j, j < l.length → ∃ b off va, a = some ⟨b, off, none⟩ ∧ b < w.heap.size ∧ w.cell? ⟨b, off + j * 2, none⟩ = some (.int .i64 (el l j).1) ∧ w.cell? ⟨b, off + j * 2 + 1, none⟩ = some va ∧ Arcs w va (el l j).2) := hc
  have h60 := (right_size hr).1
  have HA4 : Hid (∀ j, j < l.length → (el l j).2.all (arcB l.length) = true) := fun j hj => (right_st hr hj).2
  have HSZ : Hid (∀ q, q < l.length → (el l q).2.length ≤ 400 ∧ ∀ p, leadC l p q + toC p (el l q).2 ≤ 400) := fun q hq => by
    have h2 := (right_size hr).2
    refine ⟨Nat.le_trans (arcs_len hq) h2, fun p => Nat.le_trans (lead_bound hq p) h2⟩
  clear hS hc hr
  generalize hn : l.length = n at *
  have HN : Hid (l.length = n) := hn
  clear hn
  have hmk := run_nums n (by omega)
  go_enter Try.func44, Try.ntmps44
  go_wp2
  go_loopw [15] (fun i wr => ∃ (q : Nat) (ns : List Int), q ≤ n ∧ i = .int .i64 q ∧ Hid (CntsL n (fun p => leadC l p q) ns) ∧ Hid (Blk wr (w.heap.size + 1) (ns.map (Value.int .i64)).toArray 3) ∧ Hid (Below w.heap.size w wr)) (fun i _ => n - (intOf i).toNat)
  case atStart =>
    refine ⟨0, List.replicate n 0, Nat.zero_le _, rfl, (CntsL.zero n).congr (fun j _ => by simp [leadC, openS]), ?_, ((Below.refl _ _).alloc (Nat.le_refl _) _).alloc (by simp) _⟩
    have h9 := Blk.made (w.alloc (.cells #[.int .i64 z, .slice a n cap] 27)) ((List.replicate n (0 : Int)).map (Value.int .i64)).toArray 3
    simp only [World.size_alloc] at h9
    simp only [List.map_replicate, List.toArray_replicate] at h9 ⊢
    exact h9
  case round =>
    obtain ⟨q, ns, hq, rfl, hns, hblk, hb⟩ := hrel
    by_cases hqn : q < n
    · obtain ⟨b, off, va, rfl, hbl, g0, g1, gA⟩ := HC.out q hqn
      obtain ⟨a2, cap2, hva, hga⟩ := gA.get
      subst hva
      have g0 := (hb.out.cell (p := ⟨b, off + q * 2, none⟩) hbl).trans g0
      have g1 := (hb.out.cell (p := ⟨b, off + q * 2 + 1, none⟩) hbl).trans g1
      have HGA : Hid (∀ j, j < (el l q).2.length → ∃ b off, a2 = some ⟨b, off, none⟩ ∧ b < w.heap.size ∧ w.cell? ⟨b, off + j * 4, none⟩ = some (.int .i64 (el (el l q).2 j).1) ∧ w.cell? ⟨b, off + j * 4 + 1, none⟩ = some (.int .i64 (el (el l q).2 j).2.1) ∧ w.cell? ⟨b, off + j * 4 + 2, none⟩ = some (.int .i64 (el (el l q).2 j).2.2.1) ∧ w.cell? ⟨b, off + j * 4 + 3, none⟩ = some (.int .i64 (el (el l q).2 j).2.2.2)) := hga
      have HAL : Hid (∀ a ∈ (el l q).2, ∃ t : Nat, a.2.2.2 = (t : Int) ∧ t < n) := fun a ha => by
        have h9 := List.all_eq_true.1 (HA4.out q hqn) a ha
        simp only [arcB, inB, Bool.and_eq_true, decide_eq_true_eq] at h9
        exact ⟨a.2.2.2.toNat, by omega, by omega⟩
      obtain ⟨hL4, hF4⟩ := HSZ.out q hqn
      have HF4 : Hid (∀ p, leadC l p q + toC p (el l q).2 ≤ 400) := hF4
      have HSU : Hid (∀ p, leadC l p (q + 1) = leadC l p q + toC p (el l q).2) := fun p => leadC_succ l p q
      clear gA hga hF4
      generalize (el l q).1 = fin at *
      generalize (el l q).2 = ar at *
      generalize hL : ar.length = L at *
      have HL : Hid (ar.length = L) := hL
      clear hL
      have hq0 : (0 : Int) ≤ (q : Int) := by omega
      have hq1 : (q : Int) < (n : Int) := by omega
      go_wp2
      go_loopw [22] (fun i wr => ∃ (j : Nat) (ns : List Int), j ≤ L ∧ i = .int .i64 j ∧ Hid (CntsL n (fun p => leadC l p q + toC p (ar.take j)) ns) ∧ Hid (Blk wr (w.heap.size + 1) (ns.map (Value.int .i64)).toArray 3) ∧ Hid (Below w.heap.size w wr)) (fun i _ => L - (intOf i).toNat)
      case atStart => exact ⟨0, ns, Nat.zero_le _, rfl, hns.out.congr (fun p _ => by simp [toC]), hblk.out.alloc _, hb.out.alloc hb.out.size _⟩
      case round =>
        obtain ⟨j, ns, hj, rfl, hns, hblk, hb⟩ := hrel
        by_cases hjL : j < L
        · obtain ⟨b3, off3, rfl, hb3l, e0, e1, e2, e3⟩ := HGA.out j hjL
          have e0 := (hb.out.cell (p := ⟨b3, off3 + j * 4, none⟩) hb3l).trans e0
          have e1 := (hb.out.cell (p := ⟨b3, off3 + j * 4 + 1, none⟩) hb3l).trans e1
          have e2 := (hb.out.cell (p := ⟨b3, off3 + j * 4 + 2, none⟩) hb3l).trans e2
          have e3 := (hb.out.cell (p := ⟨b3, off3 + j * 4 + 3, none⟩) hb3l).trans e3
          obtain ⟨t, ht, htn⟩ := HAL.out (el ar j) (el_mem (by rw [HL.out]; exact hjL))
          have HT : Hid (∀ p, toC p (ar.take (j + 1)) = toC p (ar.take j) + (if p = t then 1 else 0)) := fun p => by
            rw [toC_take p (by rw [HL.out]; exact hjL), ht]
            by_cases e : p = t
            · rw [if_pos e, if_pos (by rw [e])]
            · rw [if_neg e, if_neg (by omega)]
          have hkb : leadC l t q + toC t (ar.take j) ≤ 400 := by
            have h1 := HF4.out t
            have h2 := toC_take_le t ar j
            omega
          obtain ⟨k, hk⟩ : ∃ k, leadC l t q + toC t (ar.take j) = k := ⟨_, rfl⟩
          have hnt := hns.out.2 t htn
          simp only at hnt
          rw [hk] at hnt hkb
          have y0 := num_cell (hblk.out.alloc (.cells #[.int .i64 (el ar j).1, .int .i64 (el ar j).2.1, .int .i64 (el ar j).2.2.1, .int .i64 (t : Int)] 50)) (j := t) (by rw [hns.out.1]; exact htn)
          rw [hnt] at y0
          have y1 := (hblk.out.alloc (.cells #[.int .i64 (el ar j).1, .int .i64 (el ar j).2.1, .int .i64 (el ar j).2.2.1, .int .i64 (t : Int)] 50)).fz t
          have HN2 : Hid (CntsL n (fun p => leadC l p q + toC p (ar.take (j + 1))) (ns.set t ((k : Int) + 1))) := by
            refine (hns.out.set htn (k + 1) (x := (k : Int) + 1) (by omega)).congr fun p _ => ?_
            rw [HT.out p]
            by_cases e : p = t
            · subst e; simp; omega
            · simp [e]
          have HB2 : Hid (Blk ((wr.setCell ⟨w.heap.size + 1, t, none⟩ (.int .i64 ((k : Int) + 1))).alloc (.cells #[.int .i64 (el ar j).1, .int .i64 (el ar j).2.1, .int .i64 (el ar j).2.2.1, .int .i64 (t : Int)] 50)) (w.heap.size + 1) ((ns.set t ((k : Int) + 1)).map (Value.int .i64)).toArray 3) := by have h9 := (hblk.out.set t (.int .i64 ((k : Int) + 1))).alloc (.cells #[.int .i64 (el ar j).1, .int .i64 (el ar j).2.1, .int .i64 (el ar j).2.2.1, .int .i64 (t : Int)] 50); rw [set_num] at h9; exact h9
          have Y2 : Hid (Below w.heap.size w ((wr.setCell ⟨w.heap.size + 1, t, none⟩ (.int .i64 ((k : Int) + 1))).alloc (.cells #[.int .i64 (el ar j).1, .int .i64 (el ar j).2.1, .int .i64 (el ar j).2.2.1, .int .i64 (t : Int)] 50))) := (hb.out.setCell (by show w.heap.size ≤ w.heap.size + 1; omega) _).alloc (by simp [World.setCell]; exact hb.out.size) _
          have HAJ : Hid (el ar j = el ar j) := rfl
          generalize el ar j = c at *
          rw [ht] at e3
          generalize hx0 : c.1 = x0 at *
          generalize hx1 : c.2.1 = x1 at *
          generalize hx2 : c.2.2.1 = x2 at *
          clear hx0 hx1 hx2 ht HAJ
          have hj0 : (0 : Int) ≤ (j : Int) := by omega
          have hj1 : (j : Int) < (L : Int) := by omega
          have ht0 : (0 : Int) ≤ (t : Int) := by omega
          have ht1 : (t : Int) < (n : Int) := by omega
          have kw : IntKind.i64.wrap ((k : Int) + 1) = (k : Int) + 1 := wrapI (by omega) (by omega)
          have hxl : w.heap.size + 1 < wr.heap.size := hblk.out.lt
          clear hblk hns hnt hk
          go_wp2
          go_roundw
          case rel => exact ⟨j + 1, _, by omega, by go_num, HN2, HB2, Y2⟩
          case measure => simp [intOf]; omega
        · have hnl : ¬ (j : Int) < (L : Int) := by omega
          have HN5 : Hid (CntsL n (fun p => leadC l p (q + 1)) ns) := hns.out.congr (fun p _ => by rw [HSU.out p, show j = ar.length by rw [HL.out]; omega, List.take_length])
          go_wp2
          go_roundw
          case rel => exact ⟨q + 1, ns, by omega, by go_num, HN5, hblk, hb⟩
          case measure => simp [intOf]; omega
    · have hnl : ¬ (q : Int) < (n : Int) := by omega
      have HN5 : Hid (CntsL n (fun p => leadC l p n) ns) := by have h9 := hns.out; rw [show q = n by omega] at h9; exact h9
      go_wp2
      go_ret
      exact ⟨rfl, ⟨ns, HN5.out, hblk.out⟩, hb.out⟩
end Go.Proofs.Ytfffelgmgghldab.Wt
