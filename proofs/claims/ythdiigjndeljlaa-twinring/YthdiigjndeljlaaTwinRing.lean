/- The statement TwinRing: twins are a semiring, for every list of numbers that they are made of, without any condition. -/
import Derived.Test.YthdiigjndeljlaaKt
import Derived.Test.YthdiigjndeljlaaKu
import Derived.Test.YthdiigjndeljlaaKr
import Derived.Test.YthdiigjndeljlaaRw
import Derived.Test.YthdiigjndeljlaaPlainR
import Derived.Deep.RegionHeld3
import Derived.Deep.CutBlock
import Derived.Deep.DeepCutAuto
import Derived.ShutString
import Derived.ChangeOld
namespace Go.Proofs.Ythdiigjndeljlaa.twinRing
open Go.ChangeShapes Go.WideShapes Go.ChangeAt Go.RowKit
open Go.Proofs.Ythdiigjndeljlaa.Pl Go.Proofs.Ythdiigjndeljlaa.Wt
set_option linter.unusedVariables false

theorem own : ownKnob Try.prog.godebug = none := by kernel_rfl
theorem laidOut : laidOutB Try.prog = true := by kernel_rfl
theorem pair_th {a b p q : Int} (h : pairI a b = (p, q)) : Th 333333333 p q := by
  unfold pairI at h
  split at h
  · cases h; exact .inl ⟨rfl, rfl⟩
  · cases h
    have h1 := pk_bd a 333333333 (by omega)
    have h2 := pk_bd b 333333333 (by omega)
    exact .inr ⟨by omega, by omega⟩
def Z (l : List Int) (j : Nat) : Int := l[j]?.getD 0
theorem Z_wf (l : List Int) (h : ∀ n ∈ l, (Lit.int .i64 n).wf = true) (j : Nat) : (Lit.int .i64 (Z l j)).wf = true := by
  unfold Z
  rcases Nat.lt_or_ge j l.length with hj | hj
  · rw [List.getElem?_eq_getElem hj]; exact h _ (List.getElem_mem hj)
  · rw [List.getElem?_eq_none hj]; decide
def Six (w : World) (n : Nat) (f : Nat → Int) : Prop := ∀ j, j < 6 → w.cell? ⟨n, j, none⟩ = some (.int .i64 (f j)) ∧ w.frozen? ⟨n, j, none⟩ = false
def upto (l : List Int) (k j : Nat) : Int := if j < k then Z l j else 0
theorem six_start (w : World) (l : List Int) (t : TypeId) : Six (w.alloc (.cells #[.int .i64 0, .int .i64 0, .int .i64 0, .int .i64 0, .int .i64 0, .int .i64 0] t)) w.heap.size (upto l 0) := by
  intro j hj
  match j, hj with
  | 0, _ => exact ⟨by simp [upto], by simp⟩
  | 1, _ => exact ⟨by simp [upto], by simp⟩
  | 2, _ => exact ⟨by simp [upto], by simp⟩
  | 3, _ => exact ⟨by simp [upto], by simp⟩
  | 4, _ => exact ⟨by simp [upto], by simp⟩
  | 5, _ => exact ⟨by simp [upto], by simp⟩
theorem six_set {w : World} {n k : Nat} {l : List Int} (h : Six w n (upto l k)) (hk : k < 6) : Six (w.setCell ⟨n, k, none⟩ (.int .i64 (Z l k))) n (upto l (k + 1)) := by
  intro j hj
  obtain ⟨h1, h2⟩ := h j hj
  refine ⟨?_, by rw [World.frozen?_setCell]; exact h2⟩
  by_cases e : j = k
  · subst e
    rw [World.cell?_setCell_same _ _ _ (h j hj).1]
    simp [upto]
  · rw [World.cell?_setCell_other _ _ _ _ (by intro he; injection he with _ h _; exact e h.symm), h1]
    unfold upto
    by_cases c : j < k
    · rw [if_pos c, if_pos (by omega)]
    · rw [if_neg c, if_neg (by omega)]
theorem six_end {w : World} {n k : Nat} {l : List Int} (h : Six w n (upto l k)) (hk : k = 6 ∨ l.length ≤ k) : ∀ j, j < 6 → w.cell? ⟨n, j, none⟩ = some (.int .i64 (Z l j)) := by
  intro j hj
  rw [(h j hj).1]
  unfold upto
  by_cases c : j < k
  · rw [if_pos c]
  · rw [if_neg c, Z, List.getElem?_eq_none (by omega)]
    rfl
set_option maxHeartbeats 8000000 in
theorem walk (a0 : Option Addr) (len cap : Nat) (zs : List Int) (w : World) (w0 : IsRow .i64 w a0 len cap zs ∧ cap * 8 ≤ 140737488351232) :
    Calls Try.prog 7 #[.slice a0 len cap] w fun e w' => e = .returned (.bool true) ∧ Below w.heap.size w w' := by
  obtain ⟨hr, hcap⟩ := w0
  obtain ⟨hI, hlen, hle⟩ := Ints.ofRow hr
  have hwf : ∀ n ∈ zs.take len, (Lit.int .i64 n).wf = true := fun n hn => hr.wf n (List.mem_of_mem_take hn)
  clear hr
  generalize zs.take len = l at hI hlen hwf
  have HI : Hid (Ints .i64 w (.slice a0 len cap) l) := hI
  have HL : Hid (l.length = len) := hlen
  have V0 : Hid ((Lit.int .i64 (Z l 0)).wf = true) := Z_wf l hwf 0
  have V1 : Hid ((Lit.int .i64 (Z l 1)).wf = true) := Z_wf l hwf 1
  have V2 : Hid ((Lit.int .i64 (Z l 2)).wf = true) := Z_wf l hwf 2
  have V3 : Hid ((Lit.int .i64 (Z l 3)).wf = true) := Z_wf l hwf 3
  have V4 : Hid ((Lit.int .i64 (Z l 4)).wf = true) := Z_wf l hwf 4
  have V5 : Hid ((Lit.int .i64 (Z l 5)).wf = true) := Z_wf l hwf 5
  clear hI hlen hwf
  go_enter Try.func7, Try.ntmps7
  go_upto_block 0 with fail
  go_cut [4] (fun i wx => Below w.heap.size w wx ∧ w.heap.size < wx.heap.size ∧ ∀ j, j < 6 → wx.cell? ⟨w.heap.size, j, none⟩ = some (.int .i64 (Z l j)))
  case first =>
    go_wp2_with fail
    go_loopw [4] (fun i wr => ∃ k : Nat, k ≤ 6 ∧ k ≤ len ∧ i = .int .i64 k ∧ Below w.heap.size w wr ∧ w.heap.size < wr.heap.size ∧ Six wr w.heap.size (upto l k)) (fun i _ => 6 - (intOf i).toNat)
    case atStart => exact ⟨0, by omega, by omega, rfl, by go_grown, by go_size, six_start w l _⟩
    case round =>
      obtain ⟨k, hk, hkl, rfl, hb, hs, h6⟩ := hrel
      have HB : Hid (Below w.heap.size w wr) := hb
      have H6 : Hid (Six wr w.heap.size (upto l k)) := h6
      clear hb h6
      by_cases hlt : k < 6
      · by_cases hlt2 : k < len
        · have hl0 := HL.out
          obtain ⟨b, off, cap', hv, hc⟩ := HI.out.plain (by omega)
          obtain ⟨e1, e2, e3⟩ := Value.slice.inj hv
          subst e1 e3
          clear e2
          have g1 : wr.cell? ⟨b, off + k, none⟩ = some (.int .i64 (Z l k)) := (HB.out.cell (World.block_lt_of_cell? _ _ (hc k (by omega)))).trans (hc k (by omega))
          obtain ⟨g2, g3⟩ := H6.out k hlt
          clear hc hv hl0
          go_wp2_with fail
          go_roundw
          case rel => exact ⟨k + 1, by omega, by omega, by go_num, by have := HB.out; go_grown, by go_size, six_set H6.out hlt⟩
          case measure => simp [intOf]; omega
        · go_wp2_with fail
          go_meet
          case rel => exact ⟨HB.out, hs, six_end H6.out (.inr (by have := HL.out; omega))⟩
      · go_wp2_with fail
        go_meet
        case rel => exact ⟨HB.out, hs, six_end H6.out (.inl (by omega))⟩
  case rest =>
    obtain ⟨hb, hs, h6⟩ := hcut
    have HX : Hid (Below w.heap.size w wc) := hb
    have i0 := h6 0 (by omega)
    have i1 := h6 1 (by omega)
    have i2 := h6 2 (by omega)
    have i3 := h6 3 (by omega)
    have i4 := h6 4 (by omega)
    have i5 := h6 5 (by omega)
    clear hb h6
    generalize Z l 0 = z0 at *
    generalize Z l 1 = z1 at *
    generalize Z l 2 = z2 at *
    generalize Z l 3 = z3 at *
    generalize Z l 4 = z4 at *
    generalize Z l 5 = z5 at *
    obtain ⟨a, b, hA⟩ : ∃ a b, pairI z0 z1 = (a, b) := ⟨_, _, rfl⟩
    obtain ⟨c, d, hB⟩ : ∃ a b, pairI z2 z3 = (a, b) := ⟨_, _, rfl⟩
    obtain ⟨x, y, hC⟩ : ∃ a b, pairI z4 z5 = (a, b) := ⟨_, _, rfl⟩
    have P1 : Hid (pairI z0 z1 = (a, b)) := hA
    have P2 : Hid (pairI z2 z3 = (c, d)) := hB
    have P3 : Hid (pairI z4 z5 = (x, y)) := hC
    have HR := ring (pair_th hA) (pair_th hB) (pair_th hC)
    clear hA hB hC HL hle hcap
    go_wp2_with (first | (go_at_call 17; (with_reducible refine (pair_of _ _ _ _ _ V0.out V1.out P1.out).mono ?_); rintro e w1 ⟨rfl, hb⟩; (have sw1_0 : w.heap.size < w1.heap.size := below_lt hb (by go_size); have cw1_0 : w1.cell? ⟨w.heap.size, 0, none⟩ = some (.int .i64 z0) := below_at hb (show w.heap.size < _ by go_size) (by first | go_cell | simp [*]); have cw1_1 : w1.cell? ⟨w.heap.size, 1, none⟩ = some (.int .i64 z1) := below_at hb (show w.heap.size < _ by go_size) (by first | go_cell | simp [*]); have cw1_2 : w1.cell? ⟨w.heap.size, 2, none⟩ = some (.int .i64 z2) := below_at hb (show w.heap.size < _ by go_size) (by first | go_cell | simp [*]); have cw1_3 : w1.cell? ⟨w.heap.size, 3, none⟩ = some (.int .i64 z3) := below_at hb (show w.heap.size < _ by go_size) (by first | go_cell | simp [*]); have cw1_4 : w1.cell? ⟨w.heap.size, 4, none⟩ = some (.int .i64 z4) := below_at hb (show w.heap.size < _ by go_size) (by first | go_cell | simp [*]); have cw1_5 : w1.cell? ⟨w.heap.size, 5, none⟩ = some (.int .i64 z5) := below_at hb (show w.heap.size < _ by go_size) (by first | go_cell | simp [*]); have Hw1 : Hid (Below w.heap.size w w1) := Below.trans (by (have hp := HX.out); go_grown) (hb.mono (by go_size)); clear hb)) | (go_at_call 17; (with_reducible refine (pair_of _ _ _ _ _ V2.out V3.out P2.out).mono ?_); rintro e w2 ⟨rfl, hb⟩; (have sw2_0 : w.heap.size < w2.heap.size := below_lt hb (by go_size); have sw2_1 : w1.heap.size < w2.heap.size := below_lt hb (by go_size); have cw2_0 : w2.cell? ⟨w.heap.size, 0, none⟩ = some (.int .i64 z0) := below_at hb (show w.heap.size < _ by go_size) (by first | go_cell | simp [*]); have cw2_1 : w2.cell? ⟨w.heap.size, 1, none⟩ = some (.int .i64 z1) := below_at hb (show w.heap.size < _ by go_size) (by first | go_cell | simp [*]); have cw2_2 : w2.cell? ⟨w.heap.size, 2, none⟩ = some (.int .i64 z2) := below_at hb (show w.heap.size < _ by go_size) (by first | go_cell | simp [*]); have cw2_3 : w2.cell? ⟨w.heap.size, 3, none⟩ = some (.int .i64 z3) := below_at hb (show w.heap.size < _ by go_size) (by first | go_cell | simp [*]); have cw2_4 : w2.cell? ⟨w.heap.size, 4, none⟩ = some (.int .i64 z4) := below_at hb (show w.heap.size < _ by go_size) (by first | go_cell | simp [*]); have cw2_5 : w2.cell? ⟨w.heap.size, 5, none⟩ = some (.int .i64 z5) := below_at hb (show w.heap.size < _ by go_size) (by first | go_cell | simp [*]); have cw2_6 : w2.cell? ⟨w1.heap.size, 0, none⟩ = some (.int .i64 a) := below_at hb (show w1.heap.size < _ by go_size) (by first | go_cell | simp [*]); have cw2_7 : w2.cell? ⟨w1.heap.size, 1, none⟩ = some (.int .i64 b) := below_at hb (show w1.heap.size < _ by go_size) (by first | go_cell | simp [*]); have Hw2 : Hid (Below w.heap.size w w2) := Below.trans (by (have hp := Hw1.out); go_grown) (hb.mono (by go_size)); clear hb)) | (go_at_call 17; (with_reducible refine (pair_of _ _ _ _ _ V4.out V5.out P3.out).mono ?_); rintro e w3 ⟨rfl, hb⟩; (have sw3_0 : w.heap.size < w3.heap.size := below_lt hb (by go_size); have sw3_1 : w1.heap.size < w3.heap.size := below_lt hb (by go_size); have sw3_2 : w2.heap.size < w3.heap.size := below_lt hb (by go_size); have cw3_0 : w3.cell? ⟨w.heap.size, 0, none⟩ = some (.int .i64 z0) := below_at hb (show w.heap.size < _ by go_size) (by first | go_cell | simp [*]); have cw3_1 : w3.cell? ⟨w.heap.size, 1, none⟩ = some (.int .i64 z1) := below_at hb (show w.heap.size < _ by go_size) (by first | go_cell | simp [*]); have cw3_2 : w3.cell? ⟨w.heap.size, 2, none⟩ = some (.int .i64 z2) := below_at hb (show w.heap.size < _ by go_size) (by first | go_cell | simp [*]); have cw3_3 : w3.cell? ⟨w.heap.size, 3, none⟩ = some (.int .i64 z3) := below_at hb (show w.heap.size < _ by go_size) (by first | go_cell | simp [*]); have cw3_4 : w3.cell? ⟨w.heap.size, 4, none⟩ = some (.int .i64 z4) := below_at hb (show w.heap.size < _ by go_size) (by first | go_cell | simp [*]); have cw3_5 : w3.cell? ⟨w.heap.size, 5, none⟩ = some (.int .i64 z5) := below_at hb (show w.heap.size < _ by go_size) (by first | go_cell | simp [*]); have cw3_6 : w3.cell? ⟨w1.heap.size, 0, none⟩ = some (.int .i64 a) := below_at hb (show w1.heap.size < _ by go_size) (by first | go_cell | simp [*]); have cw3_7 : w3.cell? ⟨w1.heap.size, 1, none⟩ = some (.int .i64 b) := below_at hb (show w1.heap.size < _ by go_size) (by first | go_cell | simp [*]); have cw3_8 : w3.cell? ⟨w2.heap.size, 0, none⟩ = some (.int .i64 c) := below_at hb (show w2.heap.size < _ by go_size) (by first | go_cell | simp [*]); have cw3_9 : w3.cell? ⟨w2.heap.size, 1, none⟩ = some (.int .i64 d) := below_at hb (show w2.heap.size < _ by go_size) (by first | go_cell | simp [*]); have Hw3 : Hid (Below w.heap.size w w3) := Below.trans (by (have hp := Hw2.out); go_grown) (hb.mono (by go_size)); clear hb)))
    have hw3 := Hw3.out
    obtain ⟨p1, q1, p2, q2, p3, q3, t1, u1, t2, u2, t3, u3, s1, r1, t4, u4, g1, g2, g3, g4, g5, g6, g7, g8, g9, g10, g11, g12, g13, g14, g15, g16⟩ := HR
    go_region_held3 (fun w' => Below w.heap.size w w' ∧ w1.heap.size < w'.heap.size ∧ w2.heap.size < w'.heap.size ∧ w3.heap.size < w'.heap.size ∧ w'.cell? ⟨w1.heap.size, 0, none⟩ = some (.int .i64 a) ∧ w'.cell? ⟨w1.heap.size, 1, none⟩ = some (.int .i64 b) ∧ w'.cell? ⟨w2.heap.size, 0, none⟩ = some (.int .i64 c) ∧ w'.cell? ⟨w2.heap.size, 1, none⟩ = some (.int .i64 d) ∧ w'.cell? ⟨w3.heap.size, 0, none⟩ = some (.int .i64 x) ∧ w'.cell? ⟨w3.heap.size, 1, none⟩ = some (.int .i64 y)) (((try go_split_ands); refine ⟨?_, ?_, ?_, ?_, ?_, ?_, ?_, ?_, ?_, ?_⟩ <;> first | (with_reducible assumption) | go_cell | (go_grown; done) | go_size | exact below_at hb (by go_size) (by go_cell) | exact below_lt hb (by go_size) | exact Below.trans (by go_grown) (hb.mono (by go_size)))) (first | (go_at_call 18; refine (plusTwin_of _ _ _ _ _ _ _ (by with_reducible assumption)).mono ?_; rintro e wz ⟨rfl, hb⟩) | (go_at_call 19; refine (timesTwin_of _ _ _ _ _ _ _ (by with_reducible assumption)).mono ?_; rintro e wz ⟨rfl, hb⟩))
    have hS9 := ‹Below w.heap.size w wz ∧ _›
    go_wp2
    go_region_held3 (fun w' => Below w.heap.size w w' ∧ w1.heap.size < w'.heap.size ∧ w2.heap.size < w'.heap.size ∧ w3.heap.size < w'.heap.size ∧ w'.cell? ⟨w1.heap.size, 0, none⟩ = some (.int .i64 a) ∧ w'.cell? ⟨w1.heap.size, 1, none⟩ = some (.int .i64 b) ∧ w'.cell? ⟨w2.heap.size, 0, none⟩ = some (.int .i64 c) ∧ w'.cell? ⟨w2.heap.size, 1, none⟩ = some (.int .i64 d) ∧ w'.cell? ⟨w3.heap.size, 0, none⟩ = some (.int .i64 x) ∧ w'.cell? ⟨w3.heap.size, 1, none⟩ = some (.int .i64 y)) (((try go_split_ands); refine ⟨?_, ?_, ?_, ?_, ?_, ?_, ?_, ?_, ?_, ?_⟩ <;> first | (with_reducible assumption) | go_cell | (go_grown; done) | go_size | exact below_at hb (by go_size) (by go_cell) | exact below_lt hb (by go_size) | exact Below.trans (by go_grown) (hb.mono (by go_size)))) (first | (go_at_call 18; refine (plusTwin_of _ _ _ _ _ _ _ (by with_reducible assumption)).mono ?_; rintro e wz ⟨rfl, hb⟩) | (go_at_call 19; refine (timesTwin_of _ _ _ _ _ _ _ (by with_reducible assumption)).mono ?_; rintro e wz ⟨rfl, hb⟩))
    have hS10 := ‹Below w.heap.size w wz ∧ _›
    go_wp2
    go_region_held3 (fun w' => Below w.heap.size w w' ∧ w1.heap.size < w'.heap.size ∧ w2.heap.size < w'.heap.size ∧ w3.heap.size < w'.heap.size ∧ w'.cell? ⟨w1.heap.size, 0, none⟩ = some (.int .i64 a) ∧ w'.cell? ⟨w1.heap.size, 1, none⟩ = some (.int .i64 b) ∧ w'.cell? ⟨w2.heap.size, 0, none⟩ = some (.int .i64 c) ∧ w'.cell? ⟨w2.heap.size, 1, none⟩ = some (.int .i64 d) ∧ w'.cell? ⟨w3.heap.size, 0, none⟩ = some (.int .i64 x) ∧ w'.cell? ⟨w3.heap.size, 1, none⟩ = some (.int .i64 y)) (((try go_split_ands); refine ⟨?_, ?_, ?_, ?_, ?_, ?_, ?_, ?_, ?_, ?_⟩ <;> first | (with_reducible assumption) | go_cell | (go_grown; done) | go_size | exact below_at hb (by go_size) (by go_cell) | exact below_lt hb (by go_size) | exact Below.trans (by go_grown) (hb.mono (by go_size)))) (first | (go_at_call 18; refine (plusTwin_of _ _ _ _ _ _ _ (by with_reducible assumption)).mono ?_; rintro e wz ⟨rfl, hb⟩) | (go_at_call 19; refine (timesTwin_of _ _ _ _ _ _ _ (by with_reducible assumption)).mono ?_; rintro e wz ⟨rfl, hb⟩))
    have hS11 := ‹Below w.heap.size w wz ∧ _›
    go_wp2
    go_region_held3 (fun w' => Below w.heap.size w w' ∧ w1.heap.size < w'.heap.size ∧ w2.heap.size < w'.heap.size ∧ w3.heap.size < w'.heap.size ∧ wz.heap.size < w'.heap.size ∧ w'.cell? ⟨w1.heap.size, 0, none⟩ = some (.int .i64 a) ∧ w'.cell? ⟨w1.heap.size, 1, none⟩ = some (.int .i64 b) ∧ w'.cell? ⟨w2.heap.size, 0, none⟩ = some (.int .i64 c) ∧ w'.cell? ⟨w2.heap.size, 1, none⟩ = some (.int .i64 d) ∧ w'.cell? ⟨w3.heap.size, 0, none⟩ = some (.int .i64 x) ∧ w'.cell? ⟨w3.heap.size, 1, none⟩ = some (.int .i64 y) ∧ w'.cell? ⟨wz.heap.size, 0, none⟩ = some (.int .i64 1000000001) ∧ w'.cell? ⟨wz.heap.size, 1, none⟩ = some (.int .i64 1000000001)) (((try go_split_ands); refine ⟨?_, ?_, ?_, ?_, ?_, ?_, ?_, ?_, ?_, ?_, ?_, ?_, ?_⟩ <;> first | (with_reducible assumption) | go_cell | (go_grown; done) | go_size | exact below_at hb (by go_size) (by go_cell) | exact below_lt hb (by go_size) | exact Below.trans (by go_grown) (hb.mono (by go_size)))) (first | (go_at_call 18; refine (plusTwin_of _ _ _ _ _ _ _ (by with_reducible assumption)).mono ?_; rintro e wz ⟨rfl, hb⟩) | (go_at_call 19; refine (timesTwin_of _ _ _ _ _ _ _ (by with_reducible assumption)).mono ?_; rintro e wz ⟨rfl, hb⟩))
    have hS13 := ‹Below w.heap.size w wz ∧ _›
    go_wp2
    go_ret
    exact ⟨rfl, hS13.1⟩

set_option maxRecDepth 100000 in
theorem lifted (os : Os) (started : os.Started) (H : Type) (enc : TypeId × Value → H) :
    ReturnsInHanded {} Try.checked os 7 .any (Rows.twinRingSpec.pre6 enc Try.prog Try.f7 Rows.twinRingRow.domain false) (Rows.twinRingSpec.post enc Try.prog Try.f7 false true false false) := by
  refine returnsInHanded_of_change_sized (C := Try.checked) own started (by kernel_rfl) Try.func7
    (ChangeSpec.witness6 (enc := enc) (C := Try.checked) false ⟨#[], #[.slice none 0 0], []⟩ 8 (by kernel_rfl) (by kernel_rfl) (by kernel_rfl) (by kernel_rfl)) ?_
  intro W base args ds gs before hval0 hW hcnd hsz0 _
  have hsz : (DataW.weightsEach Try.prog (Try.f7.params.toList ++ Rows.twinRingSpec.plain.varTypes Try.prog) (ds ++ gs)).all (· ≤ reachBytes) = true := hsz0
  have hval : ∀ (j : Nat) t v, Try.f7.params[j]? = some t → args[j]? = some v → Value.okWide Try.prog W .any base t v := hval0
  clear hval0 hsz0
  have hW' := hW
  obtain ⟨p, q, hA0, hV, rfl, hfz, hnd⟩ := hW
  have hA : DataW.TrodAll enc Try.prog W 0 (fun _ => true) true Try.f7.params.toList args.toList ds p := hA0
  rw [Try.params7] at hA hval hsz
  obtain ⟨v0, vs0, d0, ds0, p0, q0, hargs, rfl, rfl, h0, r0⟩ := trodAll_cons hA
  obtain ⟨rfl, rfl, rfl⟩ := trodAll_nil r0
  obtain rfl : args = #[v0] := by cases args; simp_all
  obtain ⟨rfl, rfl⟩ := trodVars_none hV
  obtain ⟨a0, len0, cap0, rfl⟩ := okWide_slice Try.underlying30 (hval 0 30 v0 rfl rfl)
  have k0 := h0
  have lt0 : ∀ x ∈ p0, x.block < W.heap.size := by obtain ⟨m, hm⟩ := k0; exact DataW.trod_lt m _ _ _ hm
  obtain ⟨z0, w0⟩ : ∃ zs, IsRow .i64 W a0 len0 cap0 zs ∧ cap0 * 8 ≤ 140737488351232 := by
    obtain ⟨fuel, hf⟩ := h0
    rcases open_ints Try.underlying30 Try.underlying3 (by kernel_rfl) hf with ⟨hcs, _⟩ | ⟨x, l, c, zs, hcs, _, hl, hm, hz, hx, hcell, hwz⟩
    · simp [Value.cells] at hcs
      obtain ⟨rfl, rfl, rfl⟩ := hcs
      exact ⟨[], .inl ⟨rfl, rfl, rfl, rfl⟩, by omega⟩
    · have hd := congrArg Prod.fst hx
      have hsw := sized_slice hsz (j := 0) (t := 30) (e := 3) rfl (congrArg some hd) Try.underlying30
      have hby : Try.prog.bytesOf 3 = 8 := by kernel_rfl
      rw [hby] at hsw
      simp [Value.cells] at hcs
      obtain ⟨rfl, rfl, rfl⟩ := hcs
      have hz' : zs.length = cap0 := by simpa using hz
      simp only [lits, List.length_map, List.length_take, List.length_drop, reachBytes] at hsw
      exact ⟨zs, .inr ⟨_, rfl, hl, hm, hz', hcell, hwz⟩, by omega⟩
  refine (walk a0 len0 cap0 z0 W w0).mono fun e W' ⟨he, bel⟩ => ?_
  subst he
  exact ⟨_, rfl, _, _, _, [], _, [], hW', trodAll_mk1 (shut_bool Try.underlying4 _), (trodAll_cons_mk (Below.trod laidOut (by kernel_rfl) (of_decide_eq_true (by kernel_rfl)) k0 bel lt0) trodAll_mk0), rfl, bel.frame _, fun h => by cases h⟩
end Go.Proofs.Ythdiigjndeljlaa.twinRing
namespace Go.Proofs.Ythdiigjndeljlaa
theorem twinRing_holds : Rows.TwinRingSaid :=
  OpenClaim.holds_of_wide 7 Try.f7 rfl rfl rfl rfl rfl rfl rfl ⟨rfl, rfl, rfl, rfl, rfl⟩ rfl rfl rfl rfl rfl (by kernel_rfl) Try.func7 (by kernel_rfl)
    (of_decide_eq_true (by kernel_rfl)) (by unfold Func.isWrapper; first | (rw [if_pos (by decide +kernel)]; kernel_rfl) | (rw [if_neg (by decide +kernel)]; exact ⟨rfl, rfl⟩))
    (fun os started H enc _ => twinRing.lifted os started H enc)
#print axioms twinRing_holds
end Go.Proofs.Ythdiigjndeljlaa
