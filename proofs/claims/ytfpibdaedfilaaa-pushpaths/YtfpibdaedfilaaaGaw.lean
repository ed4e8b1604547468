/- The program: how many arcs lead to each state. -/
import Derived.Test.YtfpibdaedfilaaaGai
import Derived.Test.YtfpibdaedfilaaaGav
import Derived.Test.YtfpibdaedfilaaaGab
import Derived.Test.YtfpibdaedfilaaaGal
import Derived.Test.YtfpibdaedfilaaaGae
namespace Go.Proofs.Ytfpibdaedfilaaa.Pl
def CntsL (n : Nat) (f : Nat → Nat) (ns : List Int) : Prop := ns.length = n ∧ ∀ j, j < n → el ns j = (f j : Int)
theorem CntsL.zero (n : Nat) : CntsL n (fun _ => 0) (List.replicate n 0) := ⟨by simp, fun j hj => by simp [el, hj]⟩
theorem CntsL.congr {n : Nat} {f g : Nat → Nat} {ns : List Int} (h : CntsL n f ns) (e : ∀ j, j < n → g j = f j) : CntsL n g ns := ⟨h.1, fun j hj => by rw [h.2 j hj, e j hj]⟩
theorem CntsL.set {n : Nat} {f : Nat → Nat} {ns : List Int} (h : CntsL n f ns) {t : Nat} (ht : t < n) (k : Nat) {x : Int} (hx : x = (k : Int)) : CntsL n (fun j => if j = t then k else f j) (ns.set t x) := by
 refine ⟨by rw [List.length_set]; exact h.1, fun j hj => ?_⟩
 rw [el_setZ (by rw [h.1]; exact ht)]
 split
 ·rename_i e; simp [e, hx]
 ·rename_i e; simp [e, h.2 j hj]
theorem toC_take_le (j : Nat) (ar : List Ar) (c : Nat) : toC j (ar.take c) ≤ toC j ar := by
 have h4 : toC j ar = toC j (ar.take c) + toC j (ar.drop c) := by rw [← toC_append, List.take_append_drop]
 omega
theorem lead_bound {l : List St} {q : Nat} (hq : q < l.length) (p : Nat) : leadC l p q + toC p (el l q).2 ≤ arcN l := by
 have h1 := openS_le l [] p (q + 1) (by omega)
 have h2 : arcN (l.take (q + 1)) ≤ arcN l := by
  conv => rhs; rw [← List.take_append_drop (q + 1) l, arcN_append]
  omega
 have h3 := leadC_succ l p q
 unfold leadC at *
 omega
theorem arcs_len {l : List St} {j : Nat} (h : j < l.length) : (el l j).2.length ≤ arcN l := by
 have h1 := arcN_take h
 have h2 : arcN (l.take (j + 1)) ≤ arcN l := by
  conv => rhs; rw [← List.take_append_drop (j + 1) l, arcN_append]
  omega
 omega
end Go.Proofs.Ytfpibdaedfilaaa.Pl
namespace Go.Proofs.Ytfpibdaedfilaaa.Wt
open Go.ChangeShapes Go.WideShapes Go.ChangeAt Go.RowKit
open Go.Proofs.Ytfpibdaedfilaaa.Pl
set_option linter.unusedVariables false
set_option linter.unusedSimpArgs false
set_option maxRecDepth 100000 in
set_option maxHeartbeats 3200000 in
theorem leadingTo_any (z : Int) (vs : Value) (l : List St) (w : World) (h : Mach w (.agg #[.int .i64 z, vs]) (z, l)) (hr : faultM (z, l) = 0) (O : Nat) (hO : O = w.heap.size + 1) :
  Calls Try.prog 73 #[.agg #[.int .i64 z, vs]] w fun e w' => e = .returned (.slice (some ⟨O, 0, none⟩) l.length l.length) ∧ (∃ ns, CntsL l.length (fun j => leadC l j l.length) ns ∧ Blk w' O (ns.map (Value.int .i64)).toArray 3) ∧ Below w.heap.size w w' := by
 subst hO
 obtain ⟨vs', hvs, hS⟩ := h
 simp only [Value.agg.injEq, Array.mk.injEq, List.cons.injEq, and_true, true_and] at hvs
 subst hvs
 obtain ⟨a, cap, rfl, hc⟩ := hS.get
 have HC : Hid (∀ j, j < l.length → ∃ b off va, a = some ⟨b, off, none⟩ ∧ b < w.heap.size ∧ w.cell? ⟨b, off + j * 2, none⟩ = some (.int .i64 (el l j).1) ∧ w.cell? ⟨b, off + j * 2 + 1, none⟩ = some va ∧ Arcs w va (el l j).2) := hc
 have h60 := (right_size hr).1
 have HA4 : Hid (∀ j, j < l.length → (el l j).2.all (arcB l.length) = true) := fun j hj => (right_st hr hj).2
 have HSZ : Hid (∀ q, q < l.length → (el l q).2.length ≤ 400 ∧ ∀ p, leadC l p q + toC p (el l q).2 ≤ 400) := fun q hq => by
  have h2 := (right_size hr).2
  refine ⟨Nat.le_trans (arcs_len hq) h2, fun p => Nat.le_trans (lead_bound hq p) h2⟩
 clear hS hc hr
 generalize hn : l.length = n at *
 have HN : Hid (l.length = n) := hn
 clear hn
 have hmk := run_nums n (by omega)
 go_enter Try.func73, Try.ntmps73
 go_wp2
 go_loopw [15] (fun i wr => ∃ (q : Nat) (ns : List Int), q ≤ n ∧ i = .int .i64 q ∧ Hid (CntsL n (fun p => leadC l p q) ns) ∧ Hid (Blk wr (w.heap.size + 1) (ns.map (Value.int .i64)).toArray 3) ∧ Hid (Below w.heap.size w wr)) (fun i _ => n - (intOf i).toNat)
 case atStart =>
  refine ⟨0, List.replicate n 0, Nat.zero_le _, rfl, (CntsL.zero n).congr (fun j _ => by simp [leadC, openS]), ?_, ((Below.refl _ _).alloc (Nat.le_refl _) _).alloc (by simp) _⟩
  have h9 := Blk.made (w.alloc (.cells #[.int .i64 z, .slice a n cap] 27)) ((List.replicate n (0 : Int)).map (Value.int .i64)).toArray 3
  simp only [World.size_alloc] at h9
  simp only [List.map_replicate, List.toArray_replicate] at h9 ⊢
  exact h9
 case round =>
  obtain ⟨q, ns, hq, rfl, hns, hblk, hb⟩ := hrel
  by_cases hqn : q < n
  ·obtain ⟨b, off, va, rfl, hbl, g0, g1, gA⟩ := HC.out q hqn
   obtain ⟨a2, cap2, hva, hga⟩ := gA.get
   subst hva
   have g0 := (hb.out.cell (p := ⟨b, off + q * 2, none⟩) hbl).trans g0
   have g1 := (hb.out.cell (p := ⟨b, off + q * 2 + 1, none⟩) hbl).trans g1
   have HGA : Hid (∀ j, j < (el l q).2.length → ∃ b off, a2 = some ⟨b, off, none⟩ ∧ b < w.heap.size ∧ w.cell? ⟨b, off + j * 4, none⟩ = some (.int .i64 (el (el l q).2 j).1) ∧ w.cell? ⟨b, off + j * 4 + 1, none⟩ = some (.int .i64 (el (el l q).2 j).2.1) ∧ w.cell? ⟨b, off + j * 4 + 2, none⟩ = some (.int .i64 (el (el l q).2 j).2.2.1) ∧ w.cell? ⟨b, off + j * 4 + 3, none⟩ = some (.int .i64 (el (el l q).2 j).2.2.2)) := hga
   have HAL : Hid (∀ a ∈ (el l q).2, ∃ t : Nat, a.2.2.2 = (t : Int) ∧ t < n) := fun a ha => by
    have h9 := List.all_eq_true.1 (HA4.out q hqn) a ha
    simp only [arcB, inB, Bool.and_eq_true, decide_eq_true_eq] at h9
    exact ⟨a.2.2.2.toNat, by omega, by omega⟩
   obtain ⟨hL4, hF4⟩ := HSZ.out q hqn
   have HF4 : Hid (∀ p, leadC l p q + toC p (el l q).2 ≤ 400) := hF4
   have HSU : Hid (∀ p, leadC l p (q + 1) = leadC l p q + toC p (el l q).2) := fun p => leadC_succ l p q
   clear gA hga hF4
   generalize (el l q).1 = fin at *
   generalize (el l q).2 = ar at *
   generalize hL : ar.length = L at *
   have HL : Hid (ar.length = L) := hL
   clear hL
   have hq0 : (0 : Int) ≤ (q : Int) := by omega
   have hq1 : (q : Int) < (n : Int) := by omega
   go_wp2
   go_loopw [22] (fun i wr => ∃ (j : Nat) (ns : List Int), j ≤ L ∧ i = .int .i64 j ∧ Hid (CntsL n (fun p => leadC l p q + toC p (ar.take j)) ns) ∧ Hid (Blk wr (w.heap.size + 1) (ns.map (Value.int .i64)).toArray 3) ∧ Hid (Below w.heap.size w wr)) (fun i _ => L - (intOf i).toNat)
   case atStart => exact ⟨0, ns, Nat.zero_le _, rfl, hns.out.congr (fun p _ => by simp [toC]), hblk.out.alloc _, hb.out.alloc hb.out.size _⟩
   case round =>
    obtain ⟨j, ns, hj, rfl, hns, hblk, hb⟩ := hrel
    by_cases hjL : j < L
    ·obtain ⟨b3, off3, rfl, hb3l, e0, e1, e2, e3⟩ := HGA.out j hjL
     have e0 := (hb.out.cell (p := ⟨b3, off3 + j * 4, none⟩) hb3l).trans e0
     have e1 := (hb.out.cell (p := ⟨b3, off3 + j * 4 + 1, none⟩) hb3l).trans e1
     have e2 := (hb.out.cell (p := ⟨b3, off3 + j * 4 + 2, none⟩) hb3l).trans e2
     have e3 := (hb.out.cell (p := ⟨b3, off3 + j * 4 + 3, none⟩) hb3l).trans e3
     obtain ⟨t, ht, htn⟩ := HAL.out (el ar j) (el_mem (by rw [HL.out]; exact hjL))
     have HT : Hid (∀ p, toC p (ar.take (j + 1)) = toC p (ar.take j) + (if p = t then 1 else 0)) := fun p => by
      rw [toC_take p (by rw [HL.out]; exact hjL), ht]
      by_cases e : p = t
      ·rw [if_pos e, if_pos (by rw [e])]
      ·rw [if_neg e, if_neg (by omega)]
     have hkb : leadC l t q + toC t (ar.take j) ≤ 400 := by
      have h1 := HF4.out t
      have h2 := toC_take_le t ar j
      omega
     obtain ⟨k, hk⟩ : ∃ k, leadC l t q + toC t (ar.take j) = k := ⟨_, rfl⟩
     have hnt := hns.out.2 t htn
     simp only at hnt
     rw [hk] at hnt hkb
     have y0 := num_cell (hblk.out.alloc (.cells #[.int .i64 (el ar j).1, .int .i64 (el ar j).2.1, .int .i64 (el ar j).2.2.1, .int .i64 (t : Int)] 58)) (j := t) (by rw [hns.out.1]; exact htn)
     rw [hnt] at y0
     have y1 := (hblk.out.alloc (.cells #[.int .i64 (el ar j).1, .int .i64 (el ar j).2.1, .int .i64 (el ar j).2.2.1, .int .i64 (t : Int)] 58)).fz t
     have HN2 : Hid (CntsL n (fun p => leadC l p q + toC p (ar.take (j + 1))) (ns.set t ((k : Int) + 1))) := by
      refine (hns.out.set htn (k + 1) (x := (k : Int) + 1) (by omega)).congr fun p _ => ?_
      rw [HT.out p]
      by_cases e : p = t
      ·subst e; simp; omega
      ·simp [e]
     have HB2 : Hid (Blk ((wr.setCell ⟨w.heap.size + 1, t, none⟩ (.int .i64 ((k : Int) + 1))).alloc (.cells #[.int .i64 (el ar j).1, .int .i64 (el ar j).2.1, .int .i64 (el ar j).2.2.1, .int .i64 (t : Int)] 58)) (w.heap.size + 1) ((ns.set t ((k : Int) + 1)).map (Value.int .i64)).toArray 3) := by have h9 := (hblk.out.set t (.int .i64 ((k : Int) + 1))).alloc (.cells #[.int .i64 (el ar j).1, .int .i64 (el ar j).2.1, .int .i64 (el ar j).2.2.1, .int .i64 (t : Int)] 58); rw [set_num] at h9; exact h9
     have Y2 : Hid (Below w.heap.size w ((wr.setCell ⟨w.heap.size + 1, t, none⟩ (.int .i64 ((k : Int) + 1))).alloc (.cells #[.int .i64 (el ar j).1, .int .i64 (el ar j).2.1, .int .i64 (el ar j).2.2.1, .int .i64 (t : Int)] 58))) := (hb.out.setCell (by show w.heap.size ≤ w.heap.size + 1; omega) _).alloc (by simp [World.setCell]; exact hb.out.size) _
     have HAJ : Hid (el ar j = el ar j) := rfl
     generalize el ar j = c at *
     rw [ht] at e3
     generalize hx0 : c.1 = x0 at *
     generalize hx1 : c.2.1 = x1 at *
     generalize hx2 : c.2.2.1 = x2 at *
     clear hx0 hx1 hx2 ht HAJ
     have hj0 : (0 : Int) ≤ (j : Int) := by omega
     have hj1 : (j : Int) < (L : Int) := by omega
     have ht0 : (0 : Int) ≤ (t : Int) := by omega
     have ht1 : (t : Int) < (n : Int) := by omega
     have kw : IntKind.i64.wrap ((k : Int) + 1) = (k : Int) + 1 := wrapI (by omega) (by omega)
     have hxl : w.heap.size + 1 < wr.heap.size := hblk.out.lt
     clear hblk hns hnt hk
     go_wp2
     go_roundw
     case rel => exact ⟨j + 1, _, by omega, by go_num, HN2, HB2, Y2⟩
     case measure => simp [intOf]; omega
    ·have hnl : ¬ (j : Int) < (L : Int) := by omega
     have HN5 : Hid (CntsL n (fun p => leadC l p (q + 1)) ns) := hns.out.congr (fun p _ => by rw [HSU.out p, show j = ar.length by rw [HL.out]; omega, List.take_length])
     go_wp2
     go_roundw
     case rel => exact ⟨q + 1, ns, by omega, by go_num, HN5, hblk, hb⟩
     case measure => simp [intOf]; omega
  ·have hnl : ¬ (q : Int) < (n : Int) := by omega
   have HN5 : Hid (CntsL n (fun p => leadC l p n) ns) := by have h9 := hns.out; rw [show q = n by omega] at h9; exact h9
   go_wp2
   go_ret
   exact ⟨rfl, ⟨ns, HN5.out, hblk.out⟩, hb.out⟩
end Go.Proofs.Ytfpibdaedfilaaa.Wt
namespace Go.Proofs.Ytfpibdaedfilaaa.Wt
open Go.ChangeShapes Go.WideShapes Go.ChangeAt Go.RowKit
open Go.Proofs.Ytfpibdaedfilaaa.Pl
set_option linter.unusedVariables false
set_option linter.unusedSimpArgs false
def Apart (a b : Value) : Prop := a.ownBlock = none ∨ b.ownBlock = none ∨ a.ownBlock ≠ b.ownBlock
theorem Apart.symm {a b : Value} (h : Apart a b) : Apart b a := by
 rcases h with h | h | h
 ·exact .inr (.inl h)
 ·exact .inl h
 ·exact .inr (.inr (Ne.symm h))
theorem Apart.or {a b : Value} (h : Apart a b) : a.ownBlock = none ∨ a.ownBlock ≠ b.ownBlock := by
 rcases h with h | h | h
 ·exact .inl h
 ·rw [h]; rcases a.ownBlock with _ | _ <;> simp
 ·exact .inr h
theorem Apart.near {w : World} {a b b' : Value} {base : Nat} {e : TypeId} {s n : Nat} {xs : List Value} (h : Apart a b) (ho : w.ownsRow base e s a n xs) (hn : Near w b.ownBlock b') : Apart a b' := by
 rcases hn with e | ⟨c, e, hc⟩
 ·unfold Apart at *; rw [e]; exact h
 ·rcases ha : a.ownBlock with _ | k
  ·exact .inl ha
  ·refine .inr (.inr ?_)
   rw [ha, e]
   have := (ho.lt k ha).2
   intro e2; simp at e2; omega
structure ToldAt (w wr : World) (O B base : Nat) (mc : Array Value) (ns : List Int) (v vo : Value) (hs out : List Int) : Prop where
 box : Blk wr w.heap.size mc 27
 cnt : Blk wr O (ns.map (Value.int .i64)).toArray 3
 var : Blk wr B #[v] 125
 heap : wr.ownsRow base 3 1 v hs.length (hs.flatMap encI1)
 ord : wr.ownsRow base 3 1 vo out.length (out.flatMap encI1)
 apart : Apart vo v
 below : Below w.heap.size w wr
 s0 : w.heap.size < O
 s1 : O < B
 s2 : B < base
 s3 : base ≤ wr.heap.size
variable {w wr w' : World} {O B base : Nat} {mc : Array Value} {ns : List Int} {v vo v' : Value} {hs out hs' out' : List Int}
theorem ToldAt.later (h : ToldAt w wr O B base mc ns v vo hs out) (hb : Below wr.heap.size wr w') : ToldAt w w' O B base mc ns v vo hs out :=
 ⟨h.box.below hb h.box.lt, h.cnt.below hb h.cnt.lt, h.var.below hb h.var.lt, ownBelow h.heap hb, ownBelow h.ord hb, h.apart, h.below.trans (hb.mono h.below.size), h.s0, h.s1, h.s2, Nat.le_trans h.s3 hb.size⟩
theorem ToldAt.alloc (h : ToldAt w wr O B base mc ns v vo hs out) (o : Obj) : ToldAt w (wr.alloc o) O B base mc ns v vo hs out := h.later ((Below.refl _ _).alloc (Nat.le_refl _) _)
theorem ToldAt.put (h : ToldAt w wr O B base mc ns v vo hs out) (t : Nat) (x : Int) : ToldAt w (wr.setCell ⟨O, t, none⟩ (.int .i64 x)) O B base mc (ns.set t x) v vo hs out := by
 have h0 := h.s0
 have h1 := h.s1
 have h2 := h.s2
 refine ⟨h.box.setO _ _ (by show w.heap.size ≠ O; omega), ?_, h.var.setO _ _ (by show B ≠ O; omega), ownsRow_setCell_below h.heap (by show O < base; omega) _, ownsRow_setCell_below h.ord (by show O < base; omega) _, h.apart, h.below.setCell (by show w.heap.size ≤ O; omega) _, h0, h1, h2, by simp [World.setCell]; exact h.s3⟩
 have h9 := h.cnt.set t (.int .i64 x)
 rw [set_num] at h9
 exact h9
theorem ToldAt.turn (h : ToldAt w wr O B base mc ns v vo hs out) (ht : Turn2 wr w' B v.ownBlock) (hv : Blk w' B #[v'] 125) (ho : w'.ownsRow base 3 1 v' hs'.length (hs'.flatMap encI1)) (hn : Near wr v.ownBlock v') : ToldAt w w' O B base mc ns v' vo hs' out := by
 have h0 := h.s0
 have h1 := h.s1
 have h2 := h.s2
 have hlow : ∀ k, k < base → some k ≠ v.ownBlock := fun k hk e => by have := (h.heap.lt k e.symm).1; omega
 exact ⟨ht.blk h.box (by omega) (hlow _ (by omega)), ht.blk h.cnt (by omega) (hlow _ (by omega)), hv, ho, ht.row h.ord (Ne.symm (own_ne h.ord h.var (by decide))) h.apart.or, h.apart.near h.ord hn, h.below.trans (ht.below (by omega) (fun k hk => by have := (h.heap.lt k hk).1; omega) h.below.size), h0, h1, h2, Nat.le_trans h.s3 ht.size⟩
theorem ToldAt.more (h : ToldAt w wr O B base mc ns v vo hs out) (hg : wr.grownBy w' vo.ownBlock) (ho : w'.ownsRow base 3 1 v' out'.length (out'.flatMap encI1)) (hn : Near wr vo.ownBlock v') : ToldAt w w' O B base mc ns v v' hs out' := by
 have h0 := h.s0
 have h1 := h.s1
 have h2 := h.s2
 have hlow : ∀ k, k < base → some k ≠ vo.ownBlock := fun k hk e => by have := (h.ord.lt k e.symm).1; omega
 exact ⟨h.box.grown hg (hlow _ (by omega)), h.cnt.grown hg (hlow _ (by omega)), h.var.grown hg (hlow _ (by omega)), h.heap.kept hg h.apart.symm.or, ho, (h.apart.symm.near h.heap hn).symm, h.below.trans ((Below.refl _ _).grown hg h.below.size (fun k hk => by have := (h.ord.lt k hk).1; omega)), h0, h1, h2, Nat.le_trans h.s3 hg.size⟩
theorem told_step {n : Nat} {l : List St} {out hs hs' : List Int} {op : Nat → Nat} {x : Int} (hn : l.length = n) (h1 : StepsL l out) (h2 : WaitL n out op hs) (h3 : OpenQ l out op) (hp : (x :: hs').Perm hs) (hle : ∀ y ∈ hs', x ≤ y) :
  ∃ q : Nat, x = (q : Int) ∧ q < n ∧ StepsL l (out ++ [(q : Int)]) ∧ WaitL n (out ++ [(q : Int)]) op hs' ∧ OpenA l out q 0 op ∧ (q : Int) ∉ out := by
 subst hn
 have hx : x ∈ hs := hp.mem_iff.1 (by simp)
 obtain ⟨q, rfl, hq⟩ := h2.low x hx
 have hnx := OpenQ.next h2 h3 hx (fun y hy => by
  rcases List.mem_cons.1 (hp.mem_iff.2 hy) with e | e
  ·rw [e]; exact Int.le_refl _
  ·exact hle y e)
 have hno : (q : Int) ∉ out := ((h2.iff q hq).1 hx).1
 exact ⟨q, rfl, hq, h1.snoc hnx, h2.pop hp, OpenA.start h3 hno hq, hno⟩
set_option maxRecDepth 100000 in
set_option maxHeartbeats 6400000 in
theorem told_any (z : Int) (vs : Value) (l : List St) (w : World) (h : Mach w (.agg #[.int .i64 z, vs]) (z, l)) (hr : faultM (z, l) = 0) :
  Calls Try.prog 49 #[.agg #[.int .i64 z, vs]] w fun e w' => ∃ v', e = .returned v' ∧ (∃ out, Nums w' v' out ∧ ToldL l out) ∧ Below w.heap.size w w' := by
 obtain ⟨i1, hi1, hy0, hy1, hy2⟩ := info_parts infoIntH
 have HM : Hid (Mach w (.agg #[.int .i64 z, vs]) (z, l)) := h
 obtain ⟨vs', hvs, hS⟩ := h
 simp only [Value.agg.injEq, Array.mk.injEq, List.cons.injEq, and_true, true_and] at hvs
 subst hvs
 obtain ⟨a, cap, rfl, hc⟩ := hS.get
 have HC : Hid (∀ j, j < l.length → ∃ b off va, a = some ⟨b, off, none⟩ ∧ b < w.heap.size ∧ w.cell? ⟨b, off + j * 2, none⟩ = some (.int .i64 (el l j).1) ∧ w.cell? ⟨b, off + j * 2 + 1, none⟩ = some va ∧ Arcs w va (el l j).2) := hc
 have h60 := (right_size hr).1
 have HA4 : Hid (∀ j, j < l.length → (el l j).2.all (arcB l.length) = true) := fun j hj => (right_st hr hj).2
 have HSZ : Hid (arcN l ≤ 400) := (right_size hr).2
 have HR : Hid (faultM (z, l) = 0) := hr
 clear hS hc hr
 generalize hn : l.length = n at *
 have HN : Hid (l.length = n) := hn
 clear hn
 have hta := assert_int
 go_enter Try.func49, Try.ntmps49
 go_wp2_with (first
  | (go_at_call 73; (with_reducible refine (leadingTo_any z _ l _ (HM.out.later (B := w.heap.size) (by go_grown) (Nat.le_refl _)) HR.out (w.heap.size + 2) (by simp)).mono ?_); rintro e w1 ⟨he, ⟨ns, hcn, hcb⟩, hb⟩; rw [HN.out] at he hcn; subst he; obtain ⟨s1, b1, hb1⟩ := boxed hb (by simp); have HB1 : Hid (Below w.heap.size w w1) := hb1; have K0 : Hid (Blk w1 w.heap.size #[.int .i64 z, .slice a n cap] 27) := b1; have HCN : Hid (CntsL n (fun j => leadC l j n) ns) := hcn; have HCB : Hid (Blk w1 (w.heap.size + 2) (ns.map (Value.int .i64)).toArray 3) := hcb; clear hcn hcb hb s1 b1 hb1))
 have T0 : Hid (ToldAt w (w1.alloc (.cells #[.slice none 0 0] 125)) (w.heap.size + 2) w1.heap.size (w1.heap.size + 1) #[.int .i64 z, .slice a n cap] ns (.slice none 0 0) (.slice none 0 0) [] []) := by
  have h9 := HCB.out.lt
  exact ⟨K0.out.alloc _, HCB.out.alloc _, Blk.made _ _ _, World.ownsRow_nil _ _ _ _, World.ownsRow_nil _ _ _ _, .inl rfl, HB1.out.alloc HB1.out.size _, by omega, h9, Nat.lt_succ_self _, by simp⟩
 have HOQ : Hid (OpenQ l [] (fun j => leadC l j n)) := by have h9 := leadC_open l; rw [HN.out] at h9; exact h9
 clear HB1 K0 HCB
 generalize hO : w.heap.size + 2 = O at *
 generalize hBB : w1.heap.size = BB at *
 clear hO hBB
 go_loopw [15] (fun i wr => ∃ (q : Nat) (v : Value) (hs : List Int), q ≤ n ∧ i = .int .i64 q ∧ Hid (FirstL n q (fun j => leadC l j n) hs ∧ HeapL hs hs.length) ∧ Hid (ToldAt w wr O BB (BB + 1) #[.int .i64 z, .slice a n cap] ns v (.slice none 0 0) hs [])) (fun i _ => n - (intOf i).toNat)
 case atStart => exact ⟨0, _, [], Nat.zero_le _, rfl, ⟨FirstL.nil _ _, HeapL.nil⟩, T0⟩
 case round =>
  obtain ⟨q, v, hs, hq, rfl, hF, hT⟩ := hrel
  by_cases hqn : q < n
  ·have hq0 : (0 : Int) ≤ (q : Int) := by omega
   have hq1 : (q : Int) < (n : Int) := by omega
   have y0 := num_cell hT.out.cnt (j := q) (by rw [HCN.out.1]; exact hqn)
   rw [HCN.out.2 q hqn] at y0
   have hlen := low_len hF.out.1.nodup hF.out.1.low
   by_cases h0 : leadC l q n = 0
   ·simp only [h0] at y0
    have HP : Hid (Calls Try.prog 70 #[.iface 126 (.pointer (some ⟨BB, 0, none⟩)), .iface 3 (.int .i64 (q : Int))] wr fun e w' => e = .returned (.tuple #[]) ∧ ∃ v' hs', HeapL hs' hs'.length ∧ hs'.Perm (hs ++ [(q : Int)]) ∧ Blk w' BB #[v'] 125 ∧ w'.ownsRow (BB + 1) 3 1 v' hs'.length (hs'.flatMap encI1) ∧ Near wr v.ownBlock v' ∧ Turn2 wr w' BB v.ownBlock) := hPush_any BB (BB + 1) v hs (q : Int) wr hT.out.var hT.out.heap hT.out.s3 (by omega) hF.out.2
    go_wp2_with (first
     | (go_at_call 70; (with_reducible refine HP.out.mono ?_); rintro e w2 ⟨rfl, v2, hs2, hh2, hp2, hb2, ho2, hn2, ht2⟩; have HT2 : Hid (ToldAt w w2 O BB (BB + 1) #[.int .i64 z, .slice a n cap] ns v2 (.slice none 0 0) hs2 []) := hT.out.turn ht2 hb2 ho2 hn2; have HF2 : Hid (FirstL n (q + 1) (fun j => leadC l j n) hs2 ∧ HeapL hs2 hs2.length) := ⟨hF.out.1.put h0 hp2, hh2⟩; clear hh2 hp2 hb2 ho2 hn2 ht2))
    go_roundw
    case rel => exact ⟨q + 1, v2, hs2, by omega, by go_num, HF2, HT2⟩
    case measure => simp [intOf]; omega
   ·have HF2 : Hid (FirstL n (q + 1) (fun j => leadC l j n) hs ∧ HeapL hs hs.length) := ⟨hF.out.1.skip h0, hF.out.2⟩
    simp only at y0
    generalize leadC l q n = k at *
    have hk : ¬ (k : Int) = 0 := by omega
    go_wp2
    go_roundw
    case rel => exact ⟨q + 1, v, hs, by omega, by go_num, HF2, hT⟩
    case measure => simp [intOf]; omega
  ·have hnl : ¬ (q : Int) < (n : Int) := by omega
   have HW0 : Hid (WaitL n [] (fun j => leadC l j n) hs ∧ HeapL hs hs.length) := by have h9 := hF.out; rw [show q = n by omega] at h9; exact ⟨h9.1.wait, h9.2⟩
   clear hF
   go_wp2
   go_loopw [7] (fun s7 wr => ∃ (out hs ns : List Int) (op : Nat → Nat) (v vo : Value), vo = s7 ∧ Hid (StepsL l out ∧ WaitL n out op hs ∧ HeapL hs hs.length ∧ OpenQ l out op ∧ CntsL n op ns) ∧ Hid (ToldAt w wr O BB (BB + 1) #[.int .i64 z, .slice a n cap] ns v vo hs out)) (fun s7 _ => n + 1 - lenV s7)
   case atStart => exact ⟨[], hs, ns, fun j => leadC l j n, v, _, rfl, ⟨StepsL.nil l, HW0.out.1, HW0.out.2, HOQ.out, HCN.out⟩, hT⟩
   case round =>
    clear hT HW0 T0 HCN HOQ
    obtain ⟨out, hs, ns, op, v, vo, rfl, hI, hT⟩ := hrel
    obtain ⟨av, cv, hv⟩ := own_sl hT.out.heap
    subst hv
    obtain ⟨ao, co, hvo⟩ := own_sl hT.out.ord
    subst hvo
    have cB := hT.out.var.cell 0 (v := .slice av hs.length cv) rfl
    have hlen := hI.out.2.1.len
    have holen := hI.out.1.len
    rw [HN.out] at holen
    by_cases hz : hs.length = 0
    ·have hz' : ((hs.length : Nat) : Int) = 0 := by omega
     have HTL : Hid (ToldL l out) := by
      have h9 := hI.out.2.1
      rw [List.eq_nil_of_length_eq_zero hz, ← HN.out] at h9
      exact ⟨hI.out.1, OpenQ.none h9 hI.out.2.2.2.1⟩
     have HNU : Hid (Nums wr (.slice ao out.length co) out) := Row.ofOwn encI1_len hT.out.ord rfl
     go_wp2_with (first
      | (go_at_call 74; (with_reducible refine (rLen_any _ _ _ _).mono ?_); rintro e w2 ⟨rfl, rfl⟩))
     go_ret
     exact ⟨_, rfl, ⟨out, HNU.out, HTL.out⟩, hT.out.below⟩
    ·have hz' : (0 : Int) < ((hs.length : Nat) : Int) := by omega
     have HP : Hid (Calls Try.prog 72 #[.iface 126 (.pointer (some ⟨BB, 0, none⟩))] wr fun e w' => ∃ x, e = .returned (.iface 3 (.int .i64 x)) ∧ ∃ v' hs', HeapL hs' hs'.length ∧ (x :: hs').Perm hs ∧ (∀ y ∈ hs', x ≤ y) ∧ Blk w' BB #[v'] 125 ∧ w'.ownsRow (BB + 1) 3 1 v' hs'.length (hs'.flatMap encI1) ∧ v'.ownBlock = Value.ownBlock (.slice av hs.length cv) ∧ Turn2 wr w' BB (Value.ownBlock (.slice av hs.length cv))) := hPop_any BB (BB + 1) _ hs wr hT.out.var hT.out.heap (by omega) (by omega) hI.out.2.2.1
     go_wp2_with (first
      | (go_at_call 74; (with_reducible refine (rLen_any _ _ _ _).mono ?_); rintro e w2 ⟨rfl, rfl⟩)
      | (go_at_call 72; (with_reducible refine HP.out.mono ?_); rintro e w3 ⟨x, rfl, v3, hs3, hh3, hp3, hle3, hb3, ho3, hr3, ht3⟩; have HT3 : Hid (ToldAt w w3 O BB (BB + 1) #[.int .i64 z, .slice a n cap] ns v3 (.slice ao out.length co) hs3 out) := hT.out.turn ht3 hb3 ho3 (.inl hr3); have HQ3 := told_step HN.out hI.out.1 hI.out.2.1 hI.out.2.2.2.1 hp3 hle3; obtain ⟨q, hxq, hqn, hq9⟩ := HQ3; subst hxq; have HQ : Hid (StepsL l (out ++ [(q : Int)]) ∧ WaitL n (out ++ [(q : Int)]) op hs3 ∧ OpenA l out q 0 op ∧ (q : Int) ∉ out) := hq9; have HH3 : Hid (HeapL hs3 hs3.length) := hh3; clear hq9 hp3 hle3 hb3 ho3 hr3 ht3 hh3)
      | (at_builtin; refine wpList_append_spot encI1_len (by decide) encI1_one rfl _ _ 34 rfl (BB + 1) 3 i1 _ 8 Try.underlying34 hi1 hy0 hy1 hy2 rfl _ out.length (out.flatMap encI1) rfl (HT3.out.ord.alloc _) _ [(q : Int)] rfl (oneRow (enc := encI1) w3 (q : Int) rfl 3) (by simp; unfold maxLen; omega) (by simp; omega) (by have := HT3.out.s3; simp; omega) ?_; intro v4 w4 ho4 hg4 hn4; have HT4 : Hid (ToldAt w w4 O BB (BB + 1) #[.int .i64 z, .slice a n cap] ns v3 v4 hs3 (out ++ [(q : Int)])) := (HT3.out.alloc _).more hg4 (by rw [List.length_append, List.flatMap_append]; exact ho4) hn4; have hlv4 : lenV v4 = out.length + 1 := (by obtain ⟨a9, c9, h9⟩ := own_sl ho4; rw [h9]; rfl); clear ho4 hg4 hn4; obtain ⟨b, off, va, ha, hbl, g0, g1, gA⟩ := HC.out q hqn; subst ha; obtain ⟨a2, cap2, hva, hga⟩ := gA.get; subst hva; have HGA : Hid (∀ j, j < (el l q).2.length → ∃ b off, a2 = some ⟨b, off, none⟩ ∧ b < w.heap.size ∧ w.cell? ⟨b, off + j * 4, none⟩ = some (.int .i64 (el (el l q).2 j).1) ∧ w.cell? ⟨b, off + j * 4 + 1, none⟩ = some (.int .i64 (el (el l q).2 j).2.1) ∧ w.cell? ⟨b, off + j * 4 + 2, none⟩ = some (.int .i64 (el (el l q).2 j).2.2.1) ∧ w.cell? ⟨b, off + j * 4 + 3, none⟩ = some (.int .i64 (el (el l q).2 j).2.2.2)) := hga; clear hga gA g0; have g1 := (HT4.out.below.cell (p := ⟨b, off + q * 2 + 1, none⟩) hbl).trans g1; have c1 := HT4.out.box.cell 1 (v := .slice (some ⟨b, off, none⟩) n cap) rfl; have hq0 : (0 : Int) ≤ (q : Int) := (by omega); have hq1 : (q : Int) < (n : Int) := (by omega)))
     have HAL : Hid (∀ a ∈ (el l q).2, ∃ t : Nat, a.2.2.2 = (t : Int) ∧ t < n) := fun a ha => by
      have h9 := List.all_eq_true.1 (HA4.out q hqn) a ha
      simp only [arcB, inB, Bool.and_eq_true, decide_eq_true_eq] at h9
      exact ⟨a.2.2.2.toNat, by omega, by omega⟩
     have HST : Hid (∀ (c t : Nat) (op : Nat → Nat), c < (el l q).2.length → (el (el l q).2 c).2.2.2 = (t : Int) → OpenA l out q c op → op t ≠ 0 ∧ op t ≤ 400 ∧ OpenA l out q (c + 1) (fun j => if j = t then op t - 1 else op j)) := fun c t op hc ht ho => by
      have h9 := ho.step hc ht
      exact ⟨h9.1, Nat.le_trans (ho.le HQ.out.2.2.2 (by rw [HN.out]; exact hqn) t) HSZ.out, h9.2⟩
     have HDN : Hid (∀ (c : Nat) (op : Nat → Nat), (el l q).2.length ≤ c → OpenA l out q c op → OpenQ l (out ++ [(q : Int)]) op) := fun c op hc ho => ho.done hc
     have HS2 : Hid (StepsL l (out ++ [(q : Int)])) := HQ.out.1
     have HOA : Hid (WaitL n (out ++ [(q : Int)]) op hs3 ∧ HeapL hs3 hs3.length ∧ OpenA l out q 0 op ∧ CntsL n op ns) := ⟨HQ.out.2.1, HH3.out, HQ.out.2.2.1, hI.out.2.2.2.2⟩
     obtain ⟨L, hL⟩ : ∃ L, (el l q).2.length = L := ⟨_, rfl⟩
     have hL4 : L ≤ 400 := by have h8 := arcs_len (l := l) (j := q) (by rw [HN.out]; exact hqn); have h9 := HSZ.out; omega
     rw [hL] at g1 HGA HST HDN
     rw [hL]
     have HLL : Hid ((el l q).2.length = L) := hL
     clear hL HQ HH3 HP hT HT3 cB hI c1 HM HR
     generalize (el l q).2 = ar at *
     go_loopw [44] (fun i wr => ∃ (c : Nat) (hs ns : List Int) (op : Nat → Nat) (v : Value), c ≤ L ∧ i = .int .i64 (c : Int) ∧ Hid (WaitL n (out ++ [(q : Int)]) op hs ∧ HeapL hs hs.length ∧ OpenA l out q c op ∧ CntsL n op ns) ∧ Hid (ToldAt w wr O BB (BB + 1) #[.int .i64 z, .slice (some ⟨b, off, none⟩) n cap] ns v v4 hs (out ++ [(q : Int)]))) (fun i _ => L - (intOf i).toNat)
     case atStart => exact ⟨0, hs3, ns, op, v3, Nat.zero_le _, rfl, HOA, HT4⟩
     case round =>
      clear HT4 HOA
      obtain ⟨c, hs, ns, op, v, hc, rfl, hI, hT⟩ := hrel
      by_cases hcL : c < L
      ·obtain ⟨b3, off3, rfl, hb3l, e0, e1, e2, e3⟩ := HGA.out c hcL
       have e0 := (hT.out.below.cell (p := ⟨b3, off3 + c * 4, none⟩) hb3l).trans e0
       have e1 := (hT.out.below.cell (p := ⟨b3, off3 + c * 4 + 1, none⟩) hb3l).trans e1
       have e2 := (hT.out.below.cell (p := ⟨b3, off3 + c * 4 + 2, none⟩) hb3l).trans e2
       have e3 := (hT.out.below.cell (p := ⟨b3, off3 + c * 4 + 3, none⟩) hb3l).trans e3
       obtain ⟨t, ht, htn⟩ := HAL.out (el ar c) (el_mem (by rw [HLL.out]; exact hcL))
       obtain ⟨hne, hk4, hA2⟩ := HST.out c t op hcL ht hI.out.2.2.1
       have HA2 : Hid (OpenA l out q (c + 1) (fun j => if j = t then op t - 1 else op j)) := hA2
       clear hA2
       rw [ht] at e3
       generalize (el ar c).1 = x0 at *
       generalize (el ar c).2.1 = x1 at *
       generalize (el ar c).2.2.1 = x2 at *
       clear ht
       obtain ⟨k, hk⟩ : ∃ k, op t = k + 1 := ⟨op t - 1, by omega⟩
       have hnt := hI.out.2.2.2.2 t htn
       rw [hk] at hnt
       have y0 := num_cell (hT.out.cnt) (j := t) (by rw [hI.out.2.2.2.1]; exact htn)
       rw [hnt] at y0
       have y1 := hT.out.cnt.fz t
       have hxl : O < wr.heap.size := hT.out.cnt.lt
       have HC2 : Hid (CntsL n (fun j => if j = t then op t - 1 else op j) (ns.set t (k : Int))) := (hI.out.2.2.2.set htn (op t - 1) (x := (k : Int)) (by omega))
       have HT2 : Hid (ToldAt w ((wr.setCell ⟨O, t, none⟩ (.int .i64 (k : Int))).alloc (.cells #[.int .i64 x0, .int .i64 x1, .int .i64 x2, .int .i64 (t : Int)] 58)) O BB (BB + 1) #[.int .i64 z, .slice (some ⟨b, off, none⟩) n cap] (ns.set t (k : Int)) v v4 hs (out ++ [(q : Int)])) := (hT.out.put t (k : Int)).alloc _
       have hlen := hI.out.1.len
       have hj0 : (0 : Int) ≤ (c : Int) := by omega
       have hj1 : (c : Int) < (L : Int) := by omega
       have ht0 : (0 : Int) ≤ (t : Int) := by omega
       have ht1 : (t : Int) < (n : Int) := by omega
       have kw : IntKind.i64.wrap (k : Int) = (k : Int) := wrapI (by omega) (by omega)
       by_cases h0 : k = 0
       ·subst h0
        have HP : Hid (Calls Try.prog 70 #[.iface 126 (.pointer (some ⟨BB, 0, none⟩)), .iface 3 (.int .i64 (t : Int))] ((wr.setCell ⟨O, t, none⟩ (.int .i64 0)).alloc (.cells #[.int .i64 x0, .int .i64 x1, .int .i64 x2, .int .i64 (t : Int)] 58)) fun e w' => e = .returned (.tuple #[]) ∧ ∃ v' hs', HeapL hs' hs'.length ∧ hs'.Perm (hs ++ [(t : Int)]) ∧ Blk w' BB #[v'] 125 ∧ w'.ownsRow (BB + 1) 3 1 v' hs'.length (hs'.flatMap encI1) ∧ Near ((wr.setCell ⟨O, t, none⟩ (.int .i64 0)).alloc (.cells #[.int .i64 x0, .int .i64 x1, .int .i64 x2, .int .i64 (t : Int)] 58)) v.ownBlock v' ∧ Turn2 ((wr.setCell ⟨O, t, none⟩ (.int .i64 0)).alloc (.cells #[.int .i64 x0, .int .i64 x1, .int .i64 x2, .int .i64 (t : Int)] 58)) w' BB v.ownBlock) := hPush_any BB (BB + 1) v hs (t : Int) _ HT2.out.var HT2.out.heap HT2.out.s3 (by omega) hI.out.2.1
        clear hT
        go_wp2_with (first
         | (go_at_call 70; (with_reducible refine HP.out.mono ?_); rintro e w5 ⟨rfl, v5, hs5, hh5, hp5, hb5, ho5, hn5, ht5⟩; have HT5 : Hid (ToldAt w w5 O BB (BB + 1) #[.int .i64 z, .slice (some ⟨b, off, none⟩) n cap] (ns.set t ((0 : Nat) : Int)) v5 v4 hs5 (out ++ [(q : Int)])) := HT2.out.turn ht5 hb5 ho5 hn5; have HI5 : Hid (WaitL n (out ++ [(q : Int)]) (fun j => if j = t then op t - 1 else op j) hs5 ∧ HeapL hs5 hs5.length ∧ OpenA l out q (c + 1) (fun j => if j = t then op t - 1 else op j) ∧ CntsL n (fun j => if j = t then op t - 1 else op j) (ns.set t ((0 : Nat) : Int))) := ⟨hI.out.1.put htn (by simp [hk]) hne (fun j hj => by simp [hj]) hp5, hh5, HA2.out, HC2.out⟩; clear hh5 hp5 hb5 ho5 hn5 ht5))
        go_roundw
        case rel => exact ⟨c + 1, hs5, _, _, v5, by omega, by go_num, HI5, HT5⟩
        case measure => simp [intOf]; omega
       ·have hk0 : ¬ (k : Int) = 0 := by omega
        have HI5 : Hid (WaitL n (out ++ [(q : Int)]) (fun j => if j = t then op t - 1 else op j) hs ∧ HeapL hs hs.length ∧ OpenA l out q (c + 1) (fun j => if j = t then op t - 1 else op j) ∧ CntsL n (fun j => if j = t then op t - 1 else op j) (ns.set t (k : Int))) := ⟨hI.out.1.less htn (by simp [hk]; omega) hne (fun j hj => by simp [hj]), hI.out.2.1, HA2.out, HC2.out⟩
        clear hT
        go_wp2
        go_roundw
        case rel => exact ⟨c + 1, hs, _, _, v, by omega, by go_num, HI5, HT2⟩
        case measure => simp [intOf]; omega
      ·have hnl : ¬ (c : Int) < (L : Int) := by omega
       have HI5 : Hid (StepsL l (out ++ [(q : Int)]) ∧ WaitL n (out ++ [(q : Int)]) op hs ∧ HeapL hs hs.length ∧ OpenQ l (out ++ [(q : Int)]) op ∧ CntsL n op ns) := ⟨HS2.out, hI.out.1, hI.out.2.1, HDN.out c op (by omega) hI.out.2.2.1, hI.out.2.2.2⟩
       go_wp2
       go_roundw
       case rel => exact ⟨out ++ [(q : Int)], hs, ns, op, v, _, rfl, HI5, hT⟩
       case measure => rw [hlv4]; simp only [lenV]; omega
theorem nums_nil (w : World) : Nums w (.slice none 0 0) [] := .inl ⟨rfl, rfl⟩
set_option maxRecDepth 100000 in
set_option maxHeartbeats 1600000 in
theorem order_any (v : Value) (m : Mc) (w : World) (h : Mach w v m) (hok : okM m) (r : Int) (hr : faultM m = r) :
  Calls Try.prog 26 #[v] w fun e w' => ∃ (v' : Value) (ec : Int), e = .returned (.tuple #[v', .int .i64 ec]) ∧ (∃ out, Nums w' v' out ∧ OrdAns m r ec out) ∧ Below w.heap.size w w' := by
 obtain ⟨z, l⟩ := m
 have HM : Hid (Mach w v (z, l)) := h
 have HK : Hid (okM (z, l)) := hok
 have HR : Hid (faultM (z, l) = r) := hr
 obtain ⟨vs, rfl, hS⟩ := h
 obtain ⟨a, cap, rfl⟩ := hS.sl
 clear hS hok hr
 by_cases h0 : r = 0
 ·subst h0
  obtain ⟨n, hn⟩ : ∃ n, l.length = n := ⟨_, rfl⟩
  have HN : Hid (l.length = n) := hn
  simp only
  rw [hn]
  rw [hn] at HM
  clear hn
  go_enter Try.func26, Try.ntmps26
  go_wp2_with (first
   | (go_at_call 30; (with_reducible refine (coreCheck_any _ (z, l) _ (HM.out.later (B := w.heap.size) (by go_grown) (Nat.le_refl _)) HK.out _ HR.out).mono ?_); rintro e w1 ⟨rfl, hb⟩; obtain ⟨s1, b1, hb1⟩ := boxed hb (by simp); have HB1 : Hid (Below w.heap.size w w1) := hb1; have K1 : Hid (Blk w1 w.heap.size #[.int .i64 z, .slice a n cap] 27) := b1; have c0 := b1.cell 0 (v := .int .i64 z) rfl; have c1 := b1.cell 1 (v := .slice a n cap) rfl; clear b1 hb1 hb)
   | (go_at_call 49; (with_reducible refine (told_any z _ l _ (HM.out.later (B := w.heap.size) HB1.out (Nat.le_refl _)) HR.out).mono ?_); rintro e w2 ⟨v2, rfl, ⟨out, hnu, htl⟩, hb⟩; have HB2 : Hid (Below w.heap.size w w2) := HB1.out.trans (hb.mono HB1.out.size); have c2 := (K1.out.below hb K1.out.lt).cell 1 (v := .slice a n cap) rfl; obtain ⟨ao, co, hv2⟩ := Row.sl hnu; subst hv2; have HNU : Hid (Nums w2 (.slice ao out.length co) out) := hnu; have HTL : Hid (ToldL l out) := htl; clear hnu htl hb))
  ·rename_i hlt
   have hlt : out.length < l.length := by rw [HN.out]; omega
   exact bodyPost_ret (v := .tuple #[.slice none 0 0, .int .i64 6]) (by simp [results, Try.results26, go_sem]) rfl ⟨_, 6, rfl, ⟨[], nums_nil _, by rw [OrdAns, if_pos rfl]; exact .inr ⟨rfl, HTL.out.cycle hlt, rfl⟩⟩, HB2.out⟩
  ·rename_i hlt
   have hlt : ¬ out.length < l.length := by rw [HN.out]; omega
   exact bodyPost_ret (v := .tuple #[.slice ao out.length co, .int .i64 0]) (by simp [results, Try.results26, go_sem]) rfl ⟨_, 0, rfl, ⟨out, HNU.out, by rw [OrdAns, if_pos rfl]; exact .inl ⟨rfl, HTL.out.order hlt⟩⟩, HB2.out⟩
 ·have h0' : (r != 0) = true := by simp [h0]
  go_enter Try.func26, Try.ntmps26
  go_wp2_with (first
   | (go_at_call 30; (with_reducible refine (coreCheck_any _ (z, l) _ (HM.out.later (B := w.heap.size) (by go_grown) (Nat.le_refl _)) HK.out _ HR.out).mono ?_); rintro e w1 ⟨rfl, hb⟩; obtain ⟨s1, b1, hb1⟩ := boxed hb (by simp); have HB1 : Hid (Below w.heap.size w w1) := hb1; clear b1 hb1 hb))
  exact bodyPost_ret (v := .tuple #[.slice none 0 0, .int .i64 r]) (by simp [results, Try.results26, go_sem]) rfl ⟨_, r, rfl, ⟨[], nums_nil _, by rw [OrdAns, if_neg h0]; exact ⟨rfl, rfl⟩⟩, HB1.out⟩
end Go.Proofs.Ytfpibdaedfilaaa.Wt
