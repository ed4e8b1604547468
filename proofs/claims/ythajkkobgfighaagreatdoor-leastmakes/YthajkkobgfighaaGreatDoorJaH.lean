/- A table of rows of truth values, each row in a block of its own. -/
import Derived.Test.YthajkkobgfighaaGreatDoorJad
import Derived.Test.YthajkkobgfighaaGreatDoorJac
import Derived.Test.YthajkkobgfighaaGreatDoorJaf
import Derived.Test.YthajkkobgfighaaGreatDoorJaa
import Derived.Test.YthajkkobgfighaaGreatDoorJab
import Derived.BigQuiet
import Derived.Deep.DeepCutAuto
namespace Go.Proofs.YthajkkobgfighaaGreatDoor.Wt
open Go.ChangeShapes Go.WideShapes Go.ChangeAt Go.RowKit
open Go.Proofs.YthajkkobgfighaaGreatDoor.Pl
set_option linter.unusedVariables false
set_option linter.unusedSimpArgs false
theorem bool_cellG {w : World} {g : Nat} {ws : List Bool} {t : TypeId} (h : Blk w g (ws.map Value.bool).toArray t) {j : Nat} (hj : j < ws.length) : w.cell? ⟨g, j, none⟩ = some (.bool (el ws j)) := by
 refine h.cell _ ?_
 simp [hj, el]
theorem set_boolG {ws : List Bool} {q : Nat} {x : Bool} : (ws.map Value.bool).toArray.setIfInBounds q (.bool x) = ((ws.set q x).map Value.bool).toArray := by simp [List.map_set]
theorem el_setG {d : List (List Bool)} {q j : Nat} {x : List Bool} (h : q < d.length) : el (d.set q x) j = if q = j then x else el d j := by
 by_cases e : q = j
 ·subst e; rw [if_pos rfl]; simp [el, h]
 ·rw [if_neg e]; simp [el, List.getElem?_set_ne e]
def putB (d : List (List Bool)) (q p : Nat) (x : Bool) : List (List Bool) := d.set q ((el d q).set p x)
def encGb (n : Nat) (g : Nat) : List Value := [.slice (some ⟨g, 0, none⟩) n n]
theorem encGb_len (n g : Nat) : (encGb n g).length = 1 := rfl
theorem encGb_one (n g : Nat) : ∀ u ∈ encGb n g, u.oneCell' = true := by
 intro u hu
 simp [encGb] at hu
 subst hu
 rfl
theorem infoRowB : (Tryz.prog.info? 49).map (fun i => (i.zero, i.size, i.bytes)) = some (some (.slice none 0 0), 1, 24) := by kernel_rfl
def GridB (w : World) (base n : Nat) (v : Value) (gs : List Nat) (d : List (List Bool)) : Prop :=
 gs.length = d.length ∧ w.ownsRow base 49 1 v gs.length (gs.flatMap (encGb n)) ∧ (∀ j, j < gs.length → base ≤ el gs j ∧ (el d j).length = n ∧ Blk w (el gs j) ((el d j).map (Value.bool)).toArray 4) ∧ ∀ i j, i < gs.length → j < gs.length → i ≠ j → el gs i ≠ el gs j
theorem GridB.nil (w : World) (base n : Nat) : GridB w base n (.slice none 0 0) [] [] := ⟨rfl, World.ownsRow_nil _ _ _ _, fun j hj => absurd hj (by simp), fun i j hi => absurd hi (by simp)⟩
theorem GridB.later {w w' : World} {base n : Nat} {v : Value} {gs : List Nat} {d : List (List Bool)} (h : GridB w base n v gs d) (hb : Below w.heap.size w w') : GridB w' base n v gs d := by
 obtain ⟨h1, h2, h3, h4⟩ := h
 exact ⟨h1, ownBelow h2 hb, fun j hj => ⟨(h3 j hj).1, (h3 j hj).2.1, (h3 j hj).2.2.below hb (h3 j hj).2.2.lt⟩, h4⟩
theorem GridB.sl {w : World} {base n : Nat} {v : Value} {gs : List Nat} {d : List (List Bool)} (h : GridB w base n v gs d) : ∃ a c, v = .slice a d.length c := by
 obtain ⟨a, c, hv⟩ := own_sl h.2.1
 exact ⟨a, c, by rw [hv, h.1]⟩
theorem GridB.cells {w : World} {base n : Nat} {v : Value} {gs : List Nat} {d : List (List Bool)} (h : GridB w base n v gs d) (hz : 0 < d.length) : ∃ G cap, v = .slice (some ⟨G, 0, none⟩) d.length cap ∧ base ≤ G ∧ G < w.heap.size ∧ ∀ j, j < d.length → w.cell? ⟨G, j, none⟩ = some (.slice (some ⟨el gs j, 0, none⟩) n n) := by
 obtain ⟨h1, h2, h3, h4⟩ := h
 have h2' := h2
 rcases h2.2 with ⟨_, h0⟩ | ⟨G, cap, cur, hv, hb, hG, _⟩
 ·omega
 ·refine ⟨G, cap, by rw [hv, h1], hb, lt_of_block hG, fun j hj => ?_⟩
  have h9 := h2'.cells (g := G) (by rw [hv]; rfl) j (.slice (some ⟨el gs j, 0, none⟩) n n) (by
   have := flat_at (encGb_len n) gs j (by omega) 0 (by omega)
   rw [Nat.mul_one, Nat.add_zero] at this
   rw [this]; rfl)
  rw [Addr.add_lit, Nat.zero_add] at h9
  exact h9
theorem GridB.get {w : World} {base n : Nat} {v : Value} {gs : List Nat} {d : List (List Bool)} (h : GridB w base n v gs d) {q p : Nat} (hq : q < d.length) (hp : p < n) : w.cell? ⟨el gs q, p, none⟩ = some (.bool (el (el d q) p)) := by
 obtain ⟨h1, h2, h3, h4⟩ := h
 obtain ⟨_, hl, hb⟩ := h3 q (by omega)
 exact bool_cellG hb (by rw [hl]; exact hp)
theorem GridB.fz {w : World} {base n : Nat} {v : Value} {gs : List Nat} {d : List (List Bool)} (h : GridB w base n v gs d) {q : Nat} (hq : q < d.length) (p : Nat) : w.frozen? ⟨el gs q, p, none⟩ = false := (h.2.2.1 q (by rw [h.1]; exact hq)).2.2.fz p
theorem GridB.set {w : World} {base n : Nat} {v : Value} {gs : List Nat} {d : List (List Bool)} (h : GridB w base n v gs d) {q p : Nat} (hq : q < d.length) (hp : p < n) (x : Bool) : GridB (w.setCell ⟨el gs q, p, none⟩ (.bool x)) base n v gs (putB d q p x) := by
 obtain ⟨h1, h2, h3, h4⟩ := h
 have hqg : q < gs.length := by omega
 have hbq := (h3 q hqg).2.2
 refine ⟨by unfold putB; rw [List.length_set]; exact h1, h2.kept (gSet w (el gs q) p _) (.inr (Ne.symm (own_ne h2 hbq (by decide)))), fun j hj => ?_, h4⟩
 unfold putB
 rw [el_setG (by omega)]
 by_cases e : q = j
 ·subst e
  rw [if_pos rfl]
  refine ⟨(h3 q hj).1, by rw [List.length_set]; exact (h3 q hj).2.1, ?_⟩
  have h9 := hbq.set p (.bool x)
  rw [set_boolG] at h9
  exact h9
 ·rw [if_neg e]
  exact ⟨(h3 j hj).1, (h3 j hj).2.1, (h3 j hj).2.2.setO _ _ (h4 j q hj hqg (Ne.symm e))⟩
theorem GridB.push {w0 W : World} {base n g : Nat} {v : Value} {gs : List Nat} {d : List (List Bool)} {row : List Bool} (h : GridB w0 base n v gs d) (hb : Below w0.heap.size w0 W) (hbase : base ≤ w0.heap.size) (hg : w0.heap.size ≤ g) (hrow : Blk W g (row.map (Value.bool)).toArray 4) (hn : row.length = n) (hl : d.length ≤ 1000) :
  ∃ a c w', (Builtin.append_ #[45, 45] 45 #[v, .slice (some ⟨W.heap.size, 0, none⟩) 1 1]).run Tryz.prog (W.alloc (.cells #[.slice (some ⟨g, 0, none⟩) n n] 49)) = .ok (.slice a (d.length + 1) c) w' ∧ GridB w' base n (.slice a (d.length + 1) c) (gs ++ [g]) (d ++ [row]) ∧ Below base W w' := by
 obtain ⟨i1, hi1, hy0, hy1, hy2⟩ := info_parts infoRowB
 have hW := h.later hb
 obtain ⟨h1, h2, h3, h4⟩ := hW
 have hA : Below W.heap.size W (W.alloc (.cells #[.slice (some ⟨g, 0, none⟩) n n] 49)) := (Below.refl _ _).alloc (Nat.le_refl _) _
 have hX : Row 1 (encGb n) (W.alloc (.cells #[.slice (some ⟨g, 0, none⟩) n n] 49)) (.slice (some ⟨W.heap.size, 0, none⟩) 1 1) [g] := by
  refine .inr ⟨⟨W.heap.size, 0, none⟩, 1, rfl, fun j hj i u hu => ?_⟩
  obtain rfl : j = 0 := by simpa using hj
  rw [Addr.add_lit]
  refine (Blk.made W _ _).cell _ ?_
  rw [Nat.zero_mul, Nat.zero_add, Nat.zero_add]
  rw [el_zero] at hu
  simpa [encGb] using hu
 obtain ⟨v4, w4, r4, o4, g4, _⟩ := run_append_spot (P := Tryz.prog) (encGb_len n) (by decide) (encGb_one n) 45 45 base 49 i1 _ 24 Tryz.underlying45 hi1 hy0 hy1 hy2 rfl v gs.length (gs.flatMap (encGb n)) (ownBelow h2 hA) _ [g] hX (by simp; unfold maxLen; omega) (by simp; omega) (by have := hb.size; simp; omega)
 obtain ⟨a, c, hv⟩ := own_sl o4
 subst hv
 have hne : ∀ k cs, Blk W k cs 4 → some k ≠ v.ownBlock := fun k cs hk => own_ne h2 hk (by decide)
 refine ⟨a, c, w4, by rw [← h1]; exact r4, ⟨by simp [h1], ?_, fun j hj => ?_, fun i j hi hj hij => ?_⟩, (hA.mono (by have := hb.size; omega)).trans ((Below.refl _ _).grown g4 (by have := hb.size; simp; omega) (fun k hk => (h2.lt k hk).1))⟩
 ·rw [List.length_append, List.flatMap_append, ← h1]
  exact o4
 ·rw [List.length_append] at hj
  simp at hj
  by_cases e : j < gs.length
  ·rw [el_left e, el_left (by omega)]
   exact ⟨(h3 j e).1, (h3 j e).2.1, ((h3 j e).2.2.alloc _).grown g4 (hne _ _ (h3 j e).2.2)⟩
  ·obtain rfl : j = gs.length := by omega
   rw [el_last, h1, el_last]
   exact ⟨by omega, hn, (hrow.alloc _).grown g4 (hne _ _ hrow)⟩
 ·have old : ∀ j, j < gs.length → el gs j < w0.heap.size := fun j hj => (h.2.2.1 j hj).2.2.lt
  rw [List.length_append] at hi hj
  simp at hi hj
  by_cases ei : i < gs.length
  ·by_cases ej : j < gs.length
   ·rw [el_left ei, el_left ej]; exact h4 i j ei ej hij
   ·obtain rfl : j = gs.length := by omega
    rw [el_left ei, el_last]; have := old i ei; omega
  ·obtain rfl : i = gs.length := by omega
   have ej : j < gs.length := by omega
   rw [el_last, el_left ej]; have := old j ej; omega
end Go.Proofs.YthajkkobgfighaaGreatDoor.Wt
namespace Go.Proofs.YthajkkobgfighaaGreatDoor.Pl
set_option linter.unusedVariables false
set_option linter.unusedSimpArgs false
def badA (d : List (List Bool)) (a b : Ar) : Bool := decide (a.1 ≠ b.1) || decide (a.2.1 ≠ b.2.1) || decide (a.2.2.1 ≠ b.2.2.1) || el (el d a.2.2.2.toNat) b.2.2.2.toNat
def tabU (d : List (List Bool)) (q p : Nat) : Bool := el (el d q) p
def apaB (d : List (List Bool)) (s t : St) : Bool := decide (s.1 ≠ t.1) || decide (s.2.length ≠ t.2.length) || (List.range s.2.length).any fun i => badA d (el s.2 i) (el t.2 i)
theorem apa_head {d : List (List Bool)} {s t : St} (h : s.1 ≠ t.1 ∨ s.2.length ≠ t.2.length) : apaB d s t = true := by
 unfold apaB
 rcases h with h | h <;> simp [h]
theorem apa_at {d : List (List Bool)} {s t : St} {i : Nat} (hi : i < s.2.length) (h : badA d (el s.2 i) (el t.2 i) = true) : apaB d s t = true := by
 unfold apaB
 rw [Bool.or_eq_true]
 exact .inr (List.any_eq_true.2 ⟨i, List.mem_range.2 hi, h⟩)
theorem apa_none {d : List (List Bool)} {s t : St} (h1 : s.1 = t.1) (h2 : s.2.length = t.2.length) (h : ∀ i, i < s.2.length → badA d (el s.2 i) (el t.2 i) = false) : apaB d s t = false := by
 unfold apaB
 rw [Bool.or_eq_false_iff, Bool.or_eq_false_iff]
 refine ⟨⟨by simp [h1], by simp [h2]⟩, ?_⟩
 rw [List.any_eq_false]
 intro i hi
 rw [h i (List.mem_range.1 hi)]
 simp
theorem apa_apt (d : List (List Bool)) (l : List St) (q p : Nat) : apaB d (el l q) (el l p) = aptB l (tabU d) q p := by
 have e : apaB d (el l q) (el l p) = true ↔ aptB l (tabU d) q p = true := by
  rw [aptB_true]
  constructor
  ·intro h
   cases hd : difB (el l q) (el l p)
   ·right
    unfold apaB at h
    rw [Bool.or_eq_true, Bool.or_eq_true] at h
    rcases h with (h | h) | h
    ·exact absurd (dif_false.1 hd).1 (by simpa using h)
    ·exact absurd (dif_len hd) (by simpa using h)
    ·obtain ⟨i, hi, h⟩ := List.any_eq_true.1 h
     rw [List.mem_range] at hi
     obtain ⟨e1, e2, e3⟩ := dif_el hd hi
     exact ⟨i, hi, by simpa [badA, e1, e2, e3, tabU] using h⟩
   ·exact .inl rfl
  ·rintro (h | ⟨i, hi, h⟩)
   ·refine Classical.byContradiction fun hn => ?_
    rw [Bool.not_eq_true] at hn
    unfold apaB at hn
    rw [Bool.or_eq_false_iff, Bool.or_eq_false_iff, List.any_eq_false] at hn
    obtain ⟨⟨h1, h2⟩, h3⟩ := hn
    have h1 : (el l q).1 = (el l p).1 := by simpa using h1
    have h2 : (el l q).2.length = (el l p).2.length := by simpa using h2
    have : difB (el l q) (el l p) = false := dif_false.2 ⟨h1, el_ext (by simp [h2]) fun i hi => by
     simp only [List.length_map] at hi
     rw [el_map hi, el_map (by omega)]
     have h9 := h3 i (List.mem_range.2 hi)
     simp [badA] at h9
     rw [h9.1.1.1, h9.1.1.2, h9.1.2]⟩
    rw [this] at h
    cases h
   ·exact apa_at hi (by unfold badA; rw [Bool.or_eq_true]; exact .inr h)
 cases h1 : apaB d (el l q) (el l p) <;> cases h2 : aptB l (tabU d) q p
 ·rfl
 ·rw [e.2 h2] at h1; cases h1
 ·rw [e.1 h1] at h2; cases h2
 ·rfl
end Go.Proofs.YthajkkobgfighaaGreatDoor.Pl
namespace Go.Proofs.YthajkkobgfighaaGreatDoor.Wt
open Go.ChangeShapes Go.WideShapes Go.ChangeAt Go.RowKit
open Go.Proofs.YthajkkobgfighaaGreatDoor.Pl
set_option linter.unusedVariables false
set_option linter.unusedSimpArgs false
theorem below_drewA {B : Nat} {w w' : World} (h : Below B w w') (n : Nat) : Below B w (w'.drewN n) := ⟨h.os, h.tape, h.output, h.size, h.block⟩
set_option maxRecDepth 100000 in
set_option maxHeartbeats 4000000 in
theorem apart_any (f f2 : Int) (v1 v2 vt : Value) (l r : List Ar) (base n : Nat) (gs : List Nat) (d : List (List Bool)) (w : World) (h1 : Arcs w v1 l) (h2 : Arcs w v2 r) (hG : GridB w base n vt gs d) (hd : d.length = n) (hl : l.length ≤ 400) (ht1 : ∀ i, i < l.length → ∃ t : Nat, (el l i).2.2.2 = (t : Int) ∧ t < n) (ht2 : ∀ i, i < r.length → ∃ t : Nat, (el r i).2.2.2 = (t : Int) ∧ t < n) (res : Bool) (hr : apaB d (f, l) (f2, r) = res) :
  Calls Tryz.prog 38 #[.agg #[.int .i64 f, v1], .agg #[.int .i64 f2, v2], vt] w fun e w' => e = .returned (.bool res) ∧ Below w.heap.size w w' := by
 obtain ⟨a, cap, rfl, hc⟩ := h1.get
 obtain ⟨a2, cap2, rfl, hc2⟩ := h2.get
 have HC : Hid (∀ j, j < l.length → ∃ b off, a = some ⟨b, off, none⟩ ∧ b < w.heap.size ∧ w.cell? ⟨b, off + j * 4, none⟩ = some (.int .i64 (el l j).1) ∧ w.cell? ⟨b, off + j * 4 + 1, none⟩ = some (.int .i64 (el l j).2.1) ∧ w.cell? ⟨b, off + j * 4 + 2, none⟩ = some (.int .i64 (el l j).2.2.1) ∧ w.cell? ⟨b, off + j * 4 + 3, none⟩ = some (.int .i64 (el l j).2.2.2)) := hc
 have HC2 : Hid (∀ j, j < r.length → ∃ b off, a2 = some ⟨b, off, none⟩ ∧ b < w.heap.size ∧ w.cell? ⟨b, off + j * 4, none⟩ = some (.int .i64 (el r j).1) ∧ w.cell? ⟨b, off + j * 4 + 1, none⟩ = some (.int .i64 (el r j).2.1) ∧ w.cell? ⟨b, off + j * 4 + 2, none⟩ = some (.int .i64 (el r j).2.2.1) ∧ w.cell? ⟨b, off + j * 4 + 3, none⟩ = some (.int .i64 (el r j).2.2.2)) := hc2
 have HT1 : Hid (∀ i, i < l.length → ∃ t : Nat, (el l i).2.2.2 = (t : Int) ∧ t < n) := ht1
 have HT2 : Hid (∀ i, i < r.length → ∃ t : Nat, (el r i).2.2.2 = (t : Int) ∧ t < n) := ht2
 obtain ⟨at', ct, rfl⟩ := hG.sl
 have HG : Hid (GridB w base n (.slice at' d.length ct) gs d) := hG
 have HR : Hid (apaB d (f, l) (f2, r) = res) := hr
 clear h1 h2 hc hc2 ht1 ht2 hG hr
 by_cases hne : f = f2 ∧ l.length = r.length
 rotate_left
 ·have HRt : res = true := by rw [← HR.out]; exact apa_head (by simp only; omega)
  subst HRt
  generalize l.length = nl at *
  generalize r.length = nr at *
  clear HC HC2 HT1 HT2 HG HR
  by_cases e1 : f = f2
  ·have e2 : ¬ (nl : Int) = (nr : Int) := by omega
   subst e1
   go_enter Tryz.func38, Tryz.ntmps38
   go_wp2
   go_ret
   exact ⟨rfl, by go_grown⟩
  ·go_enter Tryz.func38, Tryz.ntmps38
   go_wp2
   go_ret
   exact ⟨rfl, by go_grown⟩
 ·obtain ⟨rfl, hlr⟩ := hne
  rw [← hlr] at HC2 HT2
  have HLR : Hid (l.length = r.length) := hlr
  have HD : Hid (d.length = n) := hd
  have hr2 : r.length = l.length := hlr.symm
  rw [hr2]
  clear hr2 hlr
  have HAT : Hid (∀ k, k < l.length → badA d (el l k) (el r k) = true → res = true) := fun k hk h => by rw [← HR.out]; exact apa_at hk h
  have HNO : Hid ((∀ k, k < l.length → badA d (el l k) (el r k) = false) → res = false) := fun h => by rw [← HR.out]; exact apa_none rfl HLR.out h
  clear HR
  generalize l.length = L at *
  go_enter Tryz.func38, Tryz.ntmps38
  go_wp2
  go_loopw [7] (fun i wr => ∃ k : Nat, k ≤ L ∧ i = .int .i64 k ∧ Hid (∀ j, j < k → badA d (el l j) (el r j) = false) ∧ Hid (Blk wr w.heap.size #[.int .i64 f, .slice a L cap] 33) ∧ Hid (Blk wr (w.heap.size + 1) #[.int .i64 f, .slice a2 L cap2] 33) ∧ Hid (Below w.heap.size w wr)) (fun i _ => L - (intOf i).toNat)
  case atStart => exact ⟨0, Nat.zero_le _, rfl, fun j hj => absurd hj (by omega), (Blk.made w _ _).alloc _, by (show Blk _ _ _ _); have h9 := Blk.made (w.alloc (.cells #[.int .i64 f, .slice a L cap] 33)) #[.int .i64 f, .slice a2 L cap2] 33; simpa using h9, by (show Below _ _ _); go_grown⟩
  case round =>
   obtain ⟨k, hk, rfl, HQ, K1, K2, HB⟩ := hrel
   have c1 : wr.cell? ⟨w.heap.size, 1, none⟩ = some (.slice a L cap) := K1.out.cell 1 rfl
   have c2 : wr.cell? ⟨w.heap.size + 1, 1, none⟩ = some (.slice a2 L cap2) := K2.out.cell 1 rfl
   by_cases hlt : k < L
   ·obtain ⟨b, off, rfl, hbl, o0, o1, o2, o3⟩ := HC.out k hlt
    obtain ⟨b2, off2, rfl, hbl2, s0, s1, s2, s3⟩ := HC2.out k hlt
    obtain ⟨t, et, htn⟩ := HT1.out k hlt
    obtain ⟨u, eu, hun⟩ := HT2.out k hlt
    obtain ⟨G, cG, hv, _, hGl, hGc⟩ := HG.out.cells (by rw [HD.out]; omega)
    have tu0 := HG.out.get (q := t) (p := u) (by rw [HD.out]; omega) hun
    have tul := World.block_lt_of_cell? _ _ tu0
    have tc0 := hGc t (by rw [HD.out]; omega)
    injection hv with hv1 hv2 hv3
    subst hv1 hv3
    have tu := (HB.out.cell (p := ⟨el gs t, u, none⟩) tul).trans tu0
    have tc := (HB.out.cell (p := ⟨G, t, none⟩) hGl).trans tc0
    clear tu0 tc0
    have g0 := (HB.out.cell (p := ⟨b, off + k * 4, none⟩) hbl).trans o0
    have g1 := (HB.out.cell (p := ⟨b, off + k * 4 + 1, none⟩) hbl).trans o1
    have g2 := (HB.out.cell (p := ⟨b, off + k * 4 + 2, none⟩) hbl).trans o2
    have g3 := (HB.out.cell (p := ⟨b, off + k * 4 + 3, none⟩) hbl).trans o3
    have r0 := (HB.out.cell (p := ⟨b2, off2 + k * 4, none⟩) hbl2).trans s0
    have r1 := (HB.out.cell (p := ⟨b2, off2 + k * 4 + 1, none⟩) hbl2).trans s1
    have r2 := (HB.out.cell (p := ⟨b2, off2 + k * 4 + 2, none⟩) hbl2).trans s2
    have r3 := (HB.out.cell (p := ⟨b2, off2 + k * 4 + 3, none⟩) hbl2).trans s3
    have HBA : Hid (badA d (el l k) (el r k) = (decide ((el l k).1 ≠ (el r k).1) || decide ((el l k).2.1 ≠ (el r k).2.1) || decide ((el l k).2.2.1 ≠ (el r k).2.2.1) || el (el d t) u)) := by (show _ = _); unfold badA; rw [et, eu, Int.toNat_natCast, Int.toNat_natCast]
    have HT : Hid (badA d (el l k) (el r k) = true → res = true) := HAT.out k hlt
    have HQ' : Hid (badA d (el l k) (el r k) = false → ∀ j, j < k + 1 → badA d (el l j) (el r j) = false) := fun h j hj => by
     rcases Nat.lt_or_ge j k with x | x
     ·exact HQ.out j x
     ·rw [show j = k by omega]; exact h
    rw [et] at g3
    rw [eu] at r3
    clear o0 o1 o2 o3 s0 s1 s2 s3 et eu hGc HG hGl tul HAT HNO HQ HC HC2 HT1 HT2 hbl hbl2
    generalize badA d (el l k) (el r k) = bad at *
    generalize el l k = p at *
    generalize el r k = p' at *
    generalize el (el d t) u = bo at *
    generalize el gs t = gt at *
    obtain ⟨p0, p1, p2, p3⟩ := p
    obtain ⟨q0, q1, q2, q3⟩ := p'
    simp only at g0 g1 g2 r0 r1 r2
    have HBA : Hid (bad = (decide (p0 ≠ q0) || decide (p1 ≠ q1) || decide (p2 ≠ q2) || bo)) := HBA
    have hk0 : (0 : Int) ≤ (k : Int) := by omega
    have hk1 : (k : Int) < (L : Int) := by omega
    have ht0 : (0 : Int) ≤ (t : Int) := by omega
    have ht1 : (t : Int) < (n : Int) := by omega
    have hu0 : (0 : Int) ≤ (u : Int) := by omega
    have hu1 : (u : Int) < (n : Int) := by omega
    obtain ⟨w1, hw1⟩ : ∃ w1, w1 = wr := ⟨_, rfl⟩
    subst hw1
    have HA : Below w1.heap.size w1 (w1.alloc (.cells #[.int .i64 p0, .int .i64 p1, .int .i64 p2, .int .i64 (t : Int)] 48)) := (Below.refl _ _).alloc (Nat.le_refl _) _
    have HA2 : Below w1.heap.size w1 ((w1.alloc (.cells #[.int .i64 p0, .int .i64 p1, .int .i64 p2, .int .i64 (t : Int)] 48)).alloc (.cells #[.int .i64 q0, .int .i64 q1, .int .i64 q2, .int .i64 (u : Int)] 48)) := HA.alloc HA.size _
    have lt2 := World.block_lt_of_cell? _ _ c2
    have lr := World.block_lt_of_cell? _ _ r0
    have lg := World.block_lt_of_cell? _ _ tc
    have lu := World.block_lt_of_cell? _ _ tu
    have c2a := (HA.cell (p := ⟨w.heap.size + 1, 1, none⟩) lt2).trans c2
    have r0a := (HA.cell (p := ⟨b2, off2 + k * 4, none⟩) lr).trans r0
    have r1a := (HA.cell (p := ⟨b2, off2 + k * 4 + 1, none⟩) lr).trans r1
    have r2a := (HA.cell (p := ⟨b2, off2 + k * 4 + 2, none⟩) lr).trans r2
    have r3a := (HA.cell (p := ⟨b2, off2 + k * 4 + 3, none⟩) lr).trans r3
    have TC : Hid (_ = _) := (HA2.cell (p := ⟨G, t, none⟩) lg).trans tc
    have TU : Hid (_ = _) := (HA2.cell (p := ⟨gt, u, none⟩) lu).trans tu
    have HB2 : Hid (Below w.heap.size w ((w1.alloc (.cells #[.int .i64 p0, .int .i64 p1, .int .i64 p2, .int .i64 (t : Int)] 48)).alloc (.cells #[.int .i64 q0, .int .i64 q1, .int .i64 q2, .int .i64 (u : Int)] 48))) := HB.out.trans (HA2.mono HB.out.size)
    have K1b : Hid (Blk ((w1.alloc (.cells #[.int .i64 p0, .int .i64 p1, .int .i64 p2, .int .i64 (t : Int)] 48)).alloc (.cells #[.int .i64 q0, .int .i64 q1, .int .i64 q2, .int .i64 (u : Int)] 48)) w.heap.size #[.int .i64 f, .slice (some ⟨b, off, none⟩) L cap] 33) := (K1.out.alloc _).alloc _
    have K2b : Hid (Blk ((w1.alloc (.cells #[.int .i64 p0, .int .i64 p1, .int .i64 p2, .int .i64 (t : Int)] 48)).alloc (.cells #[.int .i64 q0, .int .i64 q1, .int .i64 q2, .int .i64 (u : Int)] 48)) (w.heap.size + 1) #[.int .i64 f, .slice (some ⟨b2, off2, none⟩) L cap2] 33) := (K2.out.alloc _).alloc _
    have X1 : Hid (Blk ((w1.alloc (.cells #[.int .i64 p0, .int .i64 p1, .int .i64 p2, .int .i64 (t : Int)] 48)).alloc (.cells #[.int .i64 q0, .int .i64 q1, .int .i64 q2, .int .i64 (u : Int)] 48)) w1.heap.size #[.int .i64 p0, .int .i64 p1, .int .i64 p2, .int .i64 (t : Int)] 48) := (Blk.made w1 _ _).alloc _
    have X2 : Hid (Blk ((w1.alloc (.cells #[.int .i64 p0, .int .i64 p1, .int .i64 p2, .int .i64 (t : Int)] 48)).alloc (.cells #[.int .i64 q0, .int .i64 q1, .int .i64 q2, .int .i64 (u : Int)] 48)) (w1.heap.size + 1) #[.int .i64 q0, .int .i64 q1, .int .i64 q2, .int .i64 (u : Int)] 48) := by
     have h9 := Blk.made (w1.alloc (.cells #[.int .i64 p0, .int .i64 p1, .int .i64 p2, .int .i64 (t : Int)] 48)) #[.int .i64 q0, .int .i64 q1, .int .i64 q2, .int .i64 (u : Int)] 48
     rw [World.size_alloc] at h9
     exact h9
    clear HA HA2 lt2 lr lg lu HB K1 K2 c2 r0 r1 r2 r3 tc tu
    go_upto_region 8 with fail
    clear c1 c2a g0 g1 g2 g3 r0a r1a r2a r3a
    generalize ((w1.alloc (.cells #[.int .i64 p0, .int .i64 p1, .int .i64 p2, .int .i64 (t : Int)] 48)).alloc (.cells #[.int .i64 q0, .int .i64 q1, .int .i64 q2, .int .i64 (u : Int)] 48)) = w2 at *
    have x0 := X1.out.cell 0 (v := .int .i64 p0) rfl
    have x1 := X1.out.cell 1 (v := .int .i64 p1) rfl
    have x2 := X1.out.cell 2 (v := .int .i64 p2) rfl
    have x3 := X1.out.cell 3 (v := .int .i64 (t : Int)) rfl
    have y0 := X2.out.cell 0 (v := .int .i64 q0) rfl
    have y1 := X2.out.cell 1 (v := .int .i64 q1) rfl
    have y2 := X2.out.cell 2 (v := .int .i64 q2) rfl
    have y3 := X2.out.cell 3 (v := .int .i64 (u : Int)) rfl
    have tc := TC.out
    have tu := TU.out
    generalize w1.heap.size + 1 = S2 at *
    generalize w1.heap.size = S1 at *
    clear X1 X2 TC TU
    by_cases e0 : p0 = q0
    rotate_left
    ·have b0 : (p0 != q0) = true := by simp [e0]
     have HRT : Hid (res = true) := HT.out (by rw [HBA.out]; simp [e0])
     clear e0 HT HBA HQ'
     go_quiet (fail)
     go_wp2
     go_ret
     exact ⟨by rw [HRT.out]; rfl, below_drewA HB2.out _⟩
    have b0 : (p0 != q0) = false := by simp [e0]
    have HE0 := hidP e0
    clear e0
    by_cases e1 : p1 = q1
    rotate_left
    ·have b1 : (p1 != q1) = true := by simp [e1]
     have HRT : Hid (res = true) := HT.out (by rw [HBA.out]; simp [e1])
     clear e1 HT HBA HQ'
     go_quiet (fail)
     go_wp2
     go_ret
     exact ⟨by rw [HRT.out]; rfl, below_drewA HB2.out _⟩
    have b1 : (p1 != q1) = false := by simp [e1]
    have HE1 := hidP e1
    clear e1
    by_cases e2 : p2 = q2
    rotate_left
    ·have b2 : (p2 != q2) = true := by simp [e2]
     have HRT : Hid (res = true) := HT.out (by rw [HBA.out]; simp [e2])
     clear e2 HT HBA HQ'
     go_quiet (fail)
     go_wp2
     go_ret
     exact ⟨by rw [HRT.out]; rfl, below_drewA HB2.out _⟩
    have b2 : (p2 != q2) = false := by simp [e2]
    have HE2 := hidP e2
    clear e2
    cases bo
    rotate_left
    ·have HRT : Hid (res = true) := HT.out (by rw [HBA.out]; simp)
     clear HT HBA HQ' HE0 HE1 HE2
     go_quiet (fail)
     go_wp2
     go_ret
     exact ⟨by rw [HRT.out]; rfl, below_drewA HB2.out _⟩
    have HN : Hid (∀ j, j < k + 1 → badA d (el l j) (el r j) = false) := HQ'.out (by rw [HBA.out]; simp [HE0.out, HE1.out, HE2.out])
    clear HT HQ' HBA HE0 HE1 HE2
    go_quiet (fail)
    go_wp2
    go_roundw
    case rel => exact ⟨k + 1, by omega, by go_num, HN.out, K1b.out.below (below_drewA (Below.refl _ _) _) K1b.out.lt, K2b.out.below (below_drewA (Below.refl _ _) _) K2b.out.lt, below_drewA HB2.out _⟩
    case measure => simp [intOf]; omega
   ·have hnl : ¬ (k : Int) < (L : Int) := by omega
    have hres : res = false := HNO.out fun j hj => HQ.out j (by omega)
    subst hres
    clear HNO HAT HQ
    go_wp2
    go_ret
    exact ⟨rfl, HB.out⟩
end Go.Proofs.YthajkkobgfighaaGreatDoor.Wt
namespace Go.Proofs.YthajkkobgfighaaGreatDoor.Pl
set_option linter.unusedVariables false
set_option linter.unusedSimpArgs false
theorem el_setQ {d : List (List Bool)} {q j : Nat} {x : List Bool} (h : q < d.length) : el (d.set q x) j = if q = j then x else el d j := by
 by_cases e : q = j
 ·subst e; rw [if_pos rfl]; simp [el, h]
 ·rw [if_neg e]; simp [el, List.getElem?_set_ne e]
theorem el_setR {d : List Bool} {q j : Nat} {x : Bool} (h : q < d.length) : el (d.set q x) j = if q = j then x else el d j := by
 by_cases e : q = j
 ·subst e; rw [if_pos rfl]; simp [el, h]
 ·rw [if_neg e]; simp [el, List.getElem?_set_ne e]
def setU (d : List (List Bool)) (q p : Nat) : List (List Bool) := d.set q ((el d q).set p true)
theorem setU_at {d : List (List Bool)} {q p : Nat} (hq : q < d.length) (hp : p < (el d q).length) (i j : Nat) : tabU (setU d q p) i j = if i = q ∧ j = p then true else tabU d i j := by
 unfold tabU setU
 rw [el_setQ hq]
 by_cases e : q = i
 ·subst e
  rw [if_pos rfl, el_setR hp]
  by_cases e2 : p = j
  ·subst e2; rw [if_pos rfl, if_pos ⟨rfl, rfl⟩]
  ·rw [if_neg e2, if_neg (fun g => e2 g.2.symm)]
 ·rw [if_neg e, if_neg (fun g => e g.1.symm)]
def notB (r : List Bool) : Nat := r.countP fun b => !b
def notU (d : List (List Bool)) : Nat := (d.map notB).sum
theorem notB_set : ∀ {r : List Bool} {p : Nat}, p < r.length → el r p = false → notB (r.set p true) < notB r
  | [], p, h, _ => by simp at h
  | b :: r, 0, _, h => by
    have hb : b = false := by simpa [el] using h
    subst hb
    simp [notB]
  | b :: r, p + 1, h, e => by
    have ih := notB_set (r := r) (p := p) (by simpa using h) (by simpa [el] using e)
    simp only [notB, List.set_cons_succ, List.countP_cons] at ih ⊢
    omega
theorem notU_set : ∀ {d : List (List Bool)} {q p : Nat}, q < d.length → p < (el d q).length → el (el d q) p = false → notU (setU d q p) < notU d
  | [], q, p, h, _, _ => by simp at h
  | r :: d, 0, p, _, h, e => by
    have := notB_set (r := r) (p := p) (by simpa [el] using h) (by simpa [el] using e)
    simp only [notU, setU, List.set_cons_zero, List.map_cons, List.sum_cons]
    have e0 : el (r :: d) 0 = r := by simp [el]
    rw [e0]
    omega
  | r :: d, q + 1, p, hq, h, e => by
    have eS : el (r :: d) (q + 1) = el d q := by simp [el]
    rw [eS] at h e
    have ih := notU_set (d := d) (q := q) (p := p) (by simpa using hq) h e
    simp only [notU, setU, eS, List.set_cons_succ, List.map_cons, List.sum_cons] at ih ⊢
    omega
structure TelI (l : List St) (d0 d : List (List Bool)) (b : Bool) (q p : Nat) : Prop where
 len : d.length = l.length
 rows : ∀ i, i < l.length → (el d i).length = l.length
 snd : ∀ i j, i < l.length → j < l.length → tabU d i j = true → Aprt l i j
 yes : b = true → notU d < notU d0
 no : b = false → d = d0 ∧ ∀ i j, i < l.length → j < l.length → (i < q ∨ (i = q ∧ j < p)) → tabU d i j = false → aptB l (tabU d) i j = false
section
variable {l : List St} {d0 d : List (List Bool)} {b : Bool} {q p : Nat}
theorem tel_start (n : Nat) (hn : l.length = n) : TelI l (List.replicate n (List.replicate n false)) (List.replicate n (List.replicate n false)) false 0 0 := by
 subst hn
 have e : ∀ i, i < l.length → el (List.replicate l.length (List.replicate l.length false)) i = List.replicate l.length false := fun i hi => by simp [el, hi]
 refine ⟨by simp, fun i hi => by rw [e i hi]; simp, fun i j hi hj h => ?_, fun h => absurd h (by decide), fun _ => ⟨rfl, fun i j hi hj g => by omega⟩⟩
 unfold tabU at h
 rw [e i hi] at h
 simp [el, hj] at h
theorem TelI.again (h : TelI l d0 d b q p) : TelI l d d false 0 0 := ⟨h.len, h.rows, h.snd, fun g => absurd g (by decide), fun _ => ⟨rfl, fun i j hi hj g => by omega⟩⟩
theorem TelI.row (h : TelI l d0 d b q p) (hp : l.length ≤ p) : TelI l d0 d b (q + 1) 0 :=
 ⟨h.len, h.rows, h.snd, h.yes, fun g => ⟨(h.no g).1, fun i j hi hj k => (h.no g).2 i j hi hj (by omega)⟩⟩
theorem TelI.keep (h : TelI l d0 d b q p) (hk : tabU d q p = false → aptB l (tabU d) q p = false) : TelI l d0 d b q (p + 1) :=
 ⟨h.len, h.rows, h.snd, h.yes, fun g => ⟨(h.no g).1, fun i j hi hj k hf => by
  by_cases e : i = q ∧ j = p
  ·obtain ⟨rfl, rfl⟩ := e
   exact hk hf
  ·exact (h.no g).2 i j hi hj (by omega) hf⟩⟩
theorem TelI.put (hto : ∀ q, q < l.length → ∀ a ∈ (el l q).2, ∃ t : Nat, a.2.2.2 = (t : Int) ∧ t < l.length) (h : TelI l d0 d b q p) (hq : q < l.length) (hp : p < l.length) (h0 : tabU d q p = false) (hk : aptB l (tabU d) q p = true) : TelI l d0 (setU d q p) true q (p + 1) := by
 have hqd : q < d.length := by rw [h.len]; exact hq
 have hpd : p < (el d q).length := by rw [h.rows q hq]; exact hp
 have hless := notU_set hqd hpd h0
 refine ⟨by unfold setU; rw [List.length_set]; exact h.len, fun i hi => ?_, fun i j hi hj g => ?_, fun _ => ?_, fun g => by cases g⟩
 ·unfold setU
  rw [el_setQ hqd]
  by_cases e : q = i
  ·subst e; rw [if_pos rfl, List.length_set]; exact h.rows q hq
  ·rw [if_neg e]; exact h.rows i hi
 ·rw [setU_at hqd hpd] at g
  by_cases e : i = q ∧ j = p
  ·obtain ⟨rfl, rfl⟩ := e
   exact apt_sound hto h.snd hi hj hk
  ·rw [if_neg e] at g
   exact h.snd i j hi hj g
 ·cases b with
  | true => have := h.yes rfl; omega
  | false => have := (h.no rfl).1; rw [← this]; exact hless
theorem TelI.all (hto : ∀ q, q < l.length → ∀ a ∈ (el l q).2, ∃ t : Nat, a.2.2.2 = (t : Int) ∧ t < l.length) (h : TelI l d0 d false q p) (hq : l.length ≤ q) : ∀ i j, i < l.length → j < l.length → (tabU d i j = true ↔ Aprt l i j) :=
 apt_all hto h.snd fun i j hi hj hf => (h.no rfl).2 i j hi hj (by omega) hf
end
end Go.Proofs.YthajkkobgfighaaGreatDoor.Pl
