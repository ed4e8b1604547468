/- From where and to where: the tables of ways, and what can be had by them (no program in sight). -/
import Derived.Test.YtfhjncpakgailaaGreatDoorPaG
import Derived.Test.YtfhjncpakgailaaGreatDoorPaA
import Derived.Test.YtfhjncpakgailaaGreatDoorPad
import Derived.Test.YtfhjncpakgailaaGreatDoorPai
namespace Go.Proofs.YtfhjncpakgailaaGreatDoor.Pl
set_option linter.unusedVariables false
set_option linter.unusedSimpArgs false
def putW (t : Nat) (x : Ar) (f : Nat → List Ar) : Nat → List Ar := fun p => if p = t then f p ++ [x] else f p
def filA (k : Nat → Ar → Nat × Ar) (q : Nat) (ar : List Ar) (f : Nat → List Ar) : Nat → List Ar := ar.foldl (fun f a => putW (k q a).1 (k q a).2 f) f
def filS (k : Nat → Ar → Nat × Ar) (l : List St) (n : Nat) : Nat → List Ar := (List.range n).foldl (fun f q => filA k q (el l q).2 f) (fun _ => [])
def bkK (q : Nat) (a : Ar) : Nat × Ar := (a.2.2.2.toNat, wyD q a.2.2.1.toNat)
variable {k : Nat → Ar → Nat × Ar}
theorem filS_succ (l : List St) (n : Nat) : filS k l (n + 1) = filA k n (el l n).2 (filS k l n) := by
 unfold filS
 rw [List.range_succ, List.foldl_append]
 rfl
theorem filA_take (q : Nat) {ar : List Ar} {i : Nat} (h : i < ar.length) (f : Nat → List Ar) : filA k q (ar.take (i + 1)) f = putW (k q (el ar i)).1 (k q (el ar i)).2 (filA k q (ar.take i) f) := by
 unfold filA
 rw [take_el h, List.foldl_append]
 rfl
theorem filA_mem {q : Nat} {ar : List Ar} {f : Nat → List Ar} {p : Nat} {x : Ar} : x ∈ filA k q ar f p ↔ x ∈ f p ∨ ∃ a ∈ ar, k q a = (p, x) := by
  induction ar generalizing f with
  | nil => simp [filA]
  | cons a ar ih =>
    have : filA k q (a :: ar) f = filA k q ar (putW (k q a).1 (k q a).2 f) := rfl
    rw [this, ih]
    unfold putW
    by_cases e : p = (k q a).1
    · rw [if_pos e]
      simp only [List.mem_append, List.mem_cons, List.not_mem_nil, or_false]
      constructor
      · rintro ((h | h) | ⟨b, hb, h2⟩)
        · exact .inl h
        · exact .inr ⟨a, .inl rfl, by rw [e, h]⟩
        · exact .inr ⟨b, .inr hb, h2⟩
      · rintro (h | ⟨b, hb | hb, h2⟩)
        · exact .inl (.inl h)
        · exact .inl (.inr (by rw [← hb, h2]))
        · exact .inr ⟨b, hb, h2⟩
    · rw [if_neg e]
      simp only [List.mem_cons]
      constructor
      · rintro (h | ⟨b, hb, h2⟩)
        · exact .inl h
        · exact .inr ⟨b, .inr hb, h2⟩
      · rintro (h | ⟨b, hb | hb, h2⟩)
        · exact .inl h
        · subst hb; exact absurd (by rw [h2]) e
        · exact .inr ⟨b, hb, h2⟩
theorem filS_mem {l : List St} {n p : Nat} {x : Ar} : x ∈ filS k l n p ↔ ∃ q : Nat, q < n ∧ ∃ a ∈ (el l q).2, k q a = (p, x) := by
  induction n with
  | zero => simp [filS]
  | succ n ih =>
    rw [filS_succ, filA_mem, ih]
    constructor
    · rintro (⟨q, h2, h3⟩ | h2)
      · exact ⟨q, by omega, h3⟩
      · exact ⟨n, by omega, h2⟩
    · rintro ⟨q, h2, h3⟩
      by_cases e : q = n
      · subst e; exact .inr h3
      · exact .inl ⟨q, by omega, h3⟩
theorem filA_len (q : Nat) (ar : List Ar) (f : Nat → List Ar) (p : Nat) : (filA k q ar f p).length ≤ (f p).length + ar.length := by
  induction ar generalizing f with
  | nil => simp [filA]
  | cons a ar ih =>
    have : filA k q (a :: ar) f = filA k q ar (putW (k q a).1 (k q a).2 f) := rfl
    rw [this]
    have := ih (f := putW (k q a).1 (k q a).2 f)
    unfold putW at this ⊢
    simp only [List.length_cons]
    split at this <;> simp at this ⊢ <;> omega
theorem filS_len (l : List St) (n p : Nat) (hn : n ≤ l.length) : (filS k l n p).length ≤ arcN (l.take n) := by
  induction n with
  | zero => simp [filS]
  | succ n ih =>
    rw [filS_succ, arcN_take (by omega)]
    have := filA_len (k := k) n (el l n).2 (filS k l n) p
    have := ih (by omega)
    omega
def endW (l : List St) (n : Nat) : List Ar := ((List.range n).filter fun q => decide ((el l q).1 ≠ 1000000001)).map fun q => wyD q (el l q).1.toNat
theorem endW_succ (l : List St) (n : Nat) : endW l (n + 1) = endW l n ++ (if (el l n).1 ≠ 1000000001 then [wyD n (el l n).1.toNat] else []) := by
 unfold endW
 rw [List.range_succ, List.filter_append, List.map_append]
 by_cases h : (el l n).1 = 1000000001 <;> simp [h]
theorem endW_le (l : List St) (n : Nat) : (endW l n).length ≤ n := by
 unfold endW
 rw [List.length_map]
 exact Nat.le_trans (List.length_filter_le _ _) (by simp)
theorem endW_mem {l : List St} {n : Nat} {x : Ar} : x ∈ endW l n ↔ ∃ q : Nat, x = wyD q (el l q).1.toNat ∧ q < n ∧ (el l q).1 ≠ 1000000001 := by
 unfold endW
 simp only [List.mem_map, List.mem_filter, List.mem_range, decide_eq_true_eq]
 constructor
 ·rintro ⟨q, ⟨h1, h2⟩, rfl⟩; exact ⟨q, rfl, h1, h2⟩
 ·rintro ⟨q, rfl, h1, h2⟩; exact ⟨q, ⟨h1, h2⟩, rfl⟩
def stpW (F : List Ar) (f : Nat → List Ar) (N : Nat) : Nat → List Ar := fun q => if q = N then F else f q
theorem stpW_src (F : List Ar) (f : Nat → List Ar) (N : Nat) : stpW F f N N = F := if_pos rfl
theorem stpW_at {F : List Ar} {f : Nat → List Ar} {N q : Nat} (h : q < N) : stpW F f N q = f q := if_neg (by omega)
theorem arc_right {m : Mc} (h : faultM m = 0) {q : Nat} {a : Ar} (ha : a ∈ (el m.2 q).2) : ∃ p w : Nat, a.2.2.2 = (p : Int) ∧ a.2.2.1 = (w : Int) ∧ p < m.2.length ∧ w ≤ 1000000000 := by
 have h1 := (right_parts h).2 _ (el_mem (el_in ha))
 simp only [stB, Bool.and_eq_true, List.all_eq_true] at h1
 have h2 := h1.2 _ ha
 simp only [arcB, inB, Bool.and_eq_true, decide_eq_true_eq] at h2
 exact ⟨a.2.2.2.toNat, a.2.2.1.toNat, by omega, by omega, by omega, by omega⟩
theorem fil_len {m : Mc} (h : faultM m = 0) (p : Nat) : (filS k m.2 m.2.length p).length ≤ 400 := by
 have h1 := filS_len (k := k) m.2 m.2.length p (Nat.le_refl _)
 rw [List.take_length] at h1
 have h2 := (right_size (z := m.1) (l := m.2) h).2
 omega
theorem stpE_right {m : Mc} (h : faultM m = 0) : StpR (stpW (endW m.2 m.2.length) (filS bkK m.2 m.2.length) m.2.length) m.2.length := by
 have h60 := (right_size (z := m.1) (l := m.2) h).1
 intro q hq
 by_cases e : q = m.2.length
 ·subst e
  rw [stpW_src]
  refine ⟨by have := endW_le m.2 m.2.length; omega, fun a ha => ?_⟩
  obtain ⟨q, rfl, hq, hf⟩ := endW_mem.1 ha
  have := fin_small h hq hf
  exact ⟨q, (el m.2 q).1.toNat, rfl, hq, by omega⟩
 ·rw [stpW_at (by omega)]
  refine ⟨fil_len h q, fun a ha => ?_⟩
  obtain ⟨q', hq', b, hb, hk⟩ := filS_mem.1 ha
  obtain ⟨p, w, e1, e2, e3, e4⟩ := arc_right h hb
  simp only [bkK, Prod.mk.injEq] at hk
  refine ⟨q', w, ?_, hq', e4⟩
  rw [← hk.2, e2]
  rfl
theorem end_rch {m : Mc} (h : faultM m = 0) (q c : Nat) (hq : q < m.2.length) : EndC m.2 q c ↔ RchD (stpW (endW m.2 m.2.length) (filS bkK m.2 m.2.length) m.2.length) m.2.length q c := by
  constructor
  · rintro ⟨n, p, d, hr, hp, hf, rfl⟩
    have key : ∀ n q d, q < m.2.length → Run (ArcE m.2) q n p d → RchD (stpW (endW m.2 m.2.length) (filS bkK m.2 m.2.length) m.2.length) m.2.length q (d + (el m.2 p).1.toNat) := by
      intro n
      induction n with
      | zero =>
        intro q d hq hr
        cases hr
        exact RchD.step .nil (by rw [stpW_src]; exact endW_mem.2 ⟨p, rfl, hp, hf⟩)
      | succ n ih =>
        intro q d hq hr
        obtain ⟨j, w, c', e, hr', rfl⟩ := hr.head
        have hj := (arcE_small h e).1
        obtain ⟨a, ha, e1, e2⟩ := e
        have h1 := RchD.step (w := w) (p := q) (ih j c' hj hr') (by
          rw [stpW_at hj]
          refine filS_mem.2 ⟨q, hq, a, ha, ?_⟩
          simp only [bkK, e1, e2, Int.toNat_natCast])
        rw [show w + c' + (el m.2 p).1.toNat = c' + (el m.2 p).1.toNat + w by omega]
        exact h1
    exact key n q d hq hr
  · intro hr
    have key : ∀ q c, RchD (stpW (endW m.2 m.2.length) (filS bkK m.2 m.2.length) m.2.length) m.2.length q c → (q = m.2.length ∧ c = 0) ∨ (q < m.2.length ∧ EndC m.2 q c) := by
      intro q c hr
      induction hr with
      | nil => exact .inl ⟨rfl, rfl⟩
      | step hr e ih =>
        rename_i q p c w
        rcases ih with ⟨rfl, rfl⟩ | ⟨hq, n, p0, d, hn, hp0, hf, rfl⟩
        · rw [stpW_src] at e
          obtain ⟨q, e, hq, hf⟩ := endW_mem.1 e
          obtain ⟨rfl, rfl⟩ := wyD_one e
          exact .inr ⟨hq, 0, p, 0, .nil, hq, hf, rfl⟩
        · rw [stpW_at hq] at e
          obtain ⟨q', hq', a, ha, hk⟩ := filS_mem.1 e
          obtain ⟨p', w', e1, e2, e3, e4⟩ := arc_right h ha
          simp only [bkK, e1, e2, Int.toNat_natCast, Prod.mk.injEq] at hk
          obtain ⟨rfl, hk⟩ := hk
          obtain ⟨rfl, rfl⟩ := wyD_one hk
          exact .inr ⟨hq', n + 1, p0, w' + d, Run.first ⟨a, ha, e1, by rw [e2, Int.toNat_natCast]⟩ hn, hp0, hf, by omega⟩
    rcases key q c hr with ⟨rfl, _⟩ | ⟨_, h1⟩
    · omega
    · exact h1
end Go.Proofs.YtfhjncpakgailaaGreatDoor.Pl
namespace Go.Proofs.YtfhjncpakgailaaGreatDoor.Dw
open Go.ChangeShapes Go.WideShapes Go.ChangeAt Go.RowKit
open Go.Proofs.YtfhjncpakgailaaGreatDoor.Pl Go.Proofs.YtfhjncpakgailaaGreatDoor.Wt
set_option linter.unusedVariables false
set_option linter.unusedSimpArgs false
theorem below_undrewD {B : Nat} {w w' : World} (h : Below B w.drew w') : Below B w w' := ⟨h.os, h.tape, h.output, h.size, h.block⟩
theorem arcs_of {l : List St} {j : Nat} (h : j < l.length) : (el l j).2.length ≤ arcN l := by
 have h1 := arcN_take h
 have h2 : arcN (l.take (j + 1)) ≤ arcN l := by
  conv => rhs; rw [← List.take_append_drop (j + 1) l, arcN_append]
  omega
 omega
set_option maxRecDepth 100000 in
set_option maxHeartbeats 1600000 in
theorem ends_any (z : Int) (vs : Value) (l : List St) (w : World) (h : Mach w (.agg #[.int .i64 z, vs]) (z, l)) (hr : faultM (z, l) = 0) :
  Calls Tryz.prog 75 #[.agg #[.int .i64 z, vs]] w fun e w' => ∃ v', e = .returned v' ∧ Row 2 encD w' v' (endW l l.length) ∧ Below w.heap.size w w' := by
 obtain ⟨i1, hi1, hy0, hy1, hy2⟩ := info_parts infoWay
 have h60 := (right_size hr).1
 have HFN : Hid (∀ q, q < l.length → (el l q).1 ≠ 1000000001 → ∃ f : Nat, (el l q).1 = (f : Int)) := fun q hq hf => by
  have h9 : 0 ≤ (el l q).1 ∧ (el l q).1 ≤ 1000000000 := fin_small (m := (z, l)) hr hq hf
  exact ⟨(el l q).1.toNat, by omega⟩
 obtain ⟨vs', hvs, hS⟩ := h
 simp only [Value.agg.injEq, Array.mk.injEq, List.cons.injEq, and_true, true_and] at hvs
 subst hvs
 obtain ⟨a, cap, rfl, hc⟩ := hS.get
 have HC : Hid (∀ j, j < l.length → ∃ b off va, a = some ⟨b, off, none⟩ ∧ b < w.heap.size ∧ w.cell? ⟨b, off + j * 2, none⟩ = some (.int .i64 (el l j).1) ∧ w.cell? ⟨b, off + j * 2 + 1, none⟩ = some va ∧ Arcs w va (el l j).2) := hc
 clear hS hc hr
 generalize hn : l.length = n at *
 have HN : Hid (l.length = n) := hn
 clear hn
 go_enter Tryz.func75, Tryz.ntmps75
 go_wp2
 go_loopw [3, 9] (fun s3 i wr => ∃ (q : Nat) (vo : Value), q ≤ n ∧ vo = s3 ∧ i = .int .i64 q ∧ Hid (wr.ownsRow w.heap.size 158 2 vo (endW l q).length ((endW l q).flatMap encD)) ∧ Hid (Below w.heap.size w wr)) (fun _ i _ => n - (intOf i).toNat)
 case atStart => exact ⟨0, _, Nat.zero_le _, rfl, rfl, World.ownsRow_nil _ _ _ _, (Below.refl _ _).alloc (Nat.le_refl _) _⟩
 case round =>
  obtain ⟨q, vo, hq, rfl, rfl, hown, hb⟩ := hrel
  by_cases hqn : q < n
  ·obtain ⟨b, off, va, rfl, hbl, g0, g1, gA⟩ := HC.out q hqn
   obtain ⟨a2, cap2, hva⟩ := gA.sl
   subst hva
   have g0 := (hb.out.cell (p := ⟨b, off + q * 2, none⟩) hbl).trans g0
   have g1 := (hb.out.cell (p := ⟨b, off + q * 2 + 1, none⟩) hbl).trans g1
   have HT := endW_succ l q
   have hkl := endW_le l q
   have HF := HFN.out q hqn
   clear gA
   generalize endW l q = ks at *
   generalize (el l q).2.length = L at *
   generalize (el l q).1 = f at *
   have hq0 : (0 : Int) ≤ (q : Int) := by omega
   have hq1 : (q : Int) < (n : Int) := by omega
   have HD : Hid ((wr.alloc (.cells #[.int .i64 f, .slice a2 L cap2] 56)).ownsRow w.heap.size 158 2 vo ks.length (ks.flatMap encD)) := hown.out.alloc _
   have HDB : Hid (Below w.heap.size w (wr.alloc (.cells #[.int .i64 f, .slice a2 L cap2] 56))) := hb.out.alloc hb.out.size _
   by_cases hf : f = 1000000001
   ·have HE : Hid (endW l (q + 1) = ks) := by show _ = _; rw [HT, if_neg (fun h => h hf), List.append_nil]
    subst hf
    clear HT HF
    go_wp2
    go_roundw
    case rel => exact ⟨q + 1, _, by omega, rfl, by go_num, by rw [HE.out]; exact HD, HDB⟩
    case measure => simp [intOf]; omega
   ·have HE : Hid (endW l (q + 1) = ks ++ [((q : Int), 0, 0, f)]) := by
     obtain ⟨g, hg⟩ := HF hf
     show _ = _
     rw [HT, if_pos hf, hg]
     rfl
    have hfb : (f != 1000000001) = true := by simpa using hf
    clear HT HF
    go_wp2_with (first
     | (at_builtin; refine wpList_append_rows encD_len (by decide) encD_one rfl _ _ 112 rfl w.heap.size 158 i1 _ 16 Tryz.underlying112 hi1 hy0 hy1 hy2 rfl _ ks.length (ks.flatMap encD) rfl (HD.out.alloc _) _ [((q : Int), 0, 0, f)] rfl (by have h9 := oneRow (enc := encD) (wr.alloc (.cells #[.int .i64 f, .slice a2 L cap2] 56)) ((q : Int), 0, 0, f) rfl 158; simp only [World.size_alloc] at h9; exact h9) (by simp; unfold maxLen; omega) (by simp; omega) (by have := HDB.out.size; simp at this ⊢; omega) ?_; intro v4 w4 ho4 hg4; obtain ⟨HO4, HB4, HZ4⟩ := snocFacts HD.out HDB.out.size ho4 hg4; clear ho4 hg4))
    go_roundw
    case rel => exact ⟨q + 1, _, by omega, rfl, by go_num, by rw [HE.out]; exact HO4, HDB.out.trans HB4.out⟩
    case measure => simp [intOf]; omega
  ·have hnl : ¬ (q : Int) < (n : Int) := by omega
   have HO : Hid (Row 2 encD wr vo (endW l n)) := by
    have h9 := hown.out
    rw [show q = n by omega] at h9
    exact Row.ofOwn encD_len h9 rfl
   go_wp2
   go_ret
   exact ⟨_, rfl, HO.out, hb.out⟩
structure WayTab (w : World) (base g n : Nat) (vs : List Value) (f : Nat → List Ar) : Prop where
 len : vs.length = n
 blk : Blk w g vs.toArray 112
 row : ∀ j, j < n → w.ownsRow base 158 2 (el vs j) (f j).length ((f j).flatMap encD)
 apart : ∀ i j, i < n → j < n → i ≠ j → (el vs i).ownBlock = none ∨ (el vs i).ownBlock ≠ (el vs j).ownBlock
theorem WayTab.later {w w' : World} {base g n : Nat} {vs : List Value} {f : Nat → List Ar} (h : WayTab w base g n vs f) (hb : Below w.heap.size w w') : WayTab w' base g n vs f :=
 ⟨h.len, h.blk.below hb h.blk.lt, fun j hj => ownBelow (h.row j hj) hb, h.apart⟩
theorem WayTab.cell {w : World} {base g n : Nat} {vs : List Value} {f : Nat → List Ar} (h : WayTab w base g n vs f) {j : Nat} (hj : j < n) : w.cell? ⟨g, j, none⟩ = some (el vs j) := by
 refine h.blk.cell _ ?_
 have := h.len
 rw [List.getElem?_toArray, el_get (by omega), List.getElem?_eq_getElem (by omega)]
theorem el_setV {l : List Value} {q j : Nat} (hq : q < l.length) (v : Value) : el (l.set q v) j = if j = q then v else el l j := by
 by_cases h : j = q
 ·subst h; rw [if_pos rfl, el_get (by simpa using hq)]; simp
 ·rw [if_neg h]; simp [el, List.getElem?_set_ne (Ne.symm h)]
theorem WayTab.put {w w' : World} {base g n t : Nat} {x : Ar} {vs : List Value} {f : Nat → List Ar} {v' : Value} (h : WayTab w base g n vs f) (ht : t < n) (ho : w'.ownsRow base 158 2 v' ((f t).length + 1) ((f t).flatMap encD ++ [x].flatMap encD)) (hg : w.grownBy w' (el vs t).ownBlock) (hn : Near w (el vs t).ownBlock v') :
  WayTab (w'.setCell ⟨g, t, none⟩ v') base g n (vs.set t v') (putW t x f) := by
 have hl := h.len
 have hb' : Blk w' g vs.toArray 112 := h.blk.grown hg (own_ne (h.row t ht) h.blk (by decide))
 have hother : ∀ j, j < n → j ≠ t → w'.ownsRow base 158 2 (el vs j) (f j).length ((f j).flatMap encD) := fun j hj hjt => (h.row j hj).kept hg (h.apart j t hj ht hjt)
 refine ⟨by simpa using hl, ?_, fun j hj => ?_, fun i j hi hj hij => ?_⟩
 ·have h9 := hb'.set t v'
  have e : vs.toArray.setIfInBounds t v' = (vs.set t v').toArray := by simp
  rw [e] at h9
  exact h9
 ·rw [el_setV (by omega)]
  unfold putW
  by_cases e : j = t
  ·subst e
   rw [if_pos rfl, if_pos rfl, List.flatMap_append, List.length_append]
   exact ho.kept (gSet w' g j v') (.inr (Ne.symm (own_ne ho hb' (by decide))))
  ·rw [if_neg e, if_neg e]
   exact (hother j hj e).kept (gSet w' g t v') (.inr (Ne.symm (own_ne (hother j hj e) hb' (by decide))))
 ·rw [el_setV (by omega), el_setV (by omega)]
  by_cases e1 : i = t
  ·have e2 : ¬ j = t := fun e2 => hij (e1.trans e2.symm)
   rw [if_pos e1, if_neg e2]
   rcases hn with hn | ⟨b, hn, hbn⟩
   ·rw [hn]; exact h.apart t j ht hj (by omega)
   ·right
    rw [hn]
    intro e9
    have := ((h.row j hj).lt b e9.symm).2
    omega
  ·rw [if_neg e1]
   by_cases e2 : j = t
   ·rw [if_pos e2]
    rcases hn with hn | ⟨b, hn, hbn⟩
    ·rw [hn]; exact h.apart i t hi ht e1
    ·right
     rw [hn]
     intro e9
     have := ((h.row i hi).lt b e9).2
     omega
   ·rw [if_neg e2]; exact h.apart i j hi hj hij
theorem infoRowW : (Tryz.prog.info? 112).map (fun i => (i.zero, i.size, i.bytes)) = some (some (.slice none 0 0), 1, 24) := by kernel_rfl
theorem made_rowsW (n : Nat) : madeCells (Value.cells (.slice none 0 0)) (n * 1) = (List.replicate n (Value.slice none 0 0)).toArray := by
 have hz : Value.cells (.slice none 0 0) = #[.slice none 0 0] := rfl
 apply Array.ext_getElem?
 intro t
 simp only [madeCells, hz]
 by_cases ht : t < n
 ·simp [ht, Nat.mod_one]
 ·simp [ht]
theorem run_rowsW (n : Nat) (hn : n ≤ 1000) (W : World) : (Instr.makeSlice 114 (.int .i64 (n : Int)) (.int .i64 (n : Int))).run Tryz.prog W = .ok (.slice (some ⟨W.heap.size, 0, none⟩) n n) (W.alloc (.cells (List.replicate n (Value.slice none 0 0)).toArray 112)) := by
 obtain ⟨i1, hi1, hy0, hy1, hy2⟩ := info_parts infoRowW
 have h := run_make (P := Tryz.prog) W 114 112 i1 _ Tryz.underlying114 hi1 hy0 .i64 .i64 n n (by omega) (by omega) (by rw [hy2]; omega) (by omega)
 rw [hy1, Int.toNat_natCast, made_rowsW] at h
 exact h
theorem WayTab.start {w : World} {base g n : Nat} (h : Blk w g (List.replicate n (Value.slice none 0 0)).toArray 112) : WayTab w base g n (List.replicate n (.slice none 0 0)) (fun _ => []) := by
 have he : ∀ j, j < n → el (List.replicate n (Value.slice none 0 0)) j = .slice none 0 0 := fun j hj => by simp [el, hj]
 refine ⟨by simp, h, fun j hj => ?_, fun i j hi hj _ => ?_⟩
 ·rw [he j hj]; exact World.ownsRow_nil _ _ _ _
 ·rw [he i hi]; exact .inl rfl
def HeldTw (B1 X t : Nat) (x2 x3 : Int) (v : Value) (w : World) : Prop := w.cell? ⟨X, 2, none⟩ = some (.int .i64 x2) ∧ w.cell? ⟨X, 3, none⟩ = some (.int .i64 x3) ∧ w.cell? ⟨B1, t, none⟩ = some v
set_option maxRecDepth 100000 in
set_option maxHeartbeats 3200000 in
theorem backward_any (z : Int) (vs : Value) (l : List St) (w : World) (h : Mach w (.agg #[.int .i64 z, vs]) (z, l)) (hr : faultM (z, l) = 0) :
  Calls Tryz.prog 76 #[.agg #[.int .i64 z, vs]] w fun e w' => e = .returned (.slice (some ⟨w.heap.size + 1, 0, none⟩) l.length l.length) ∧ (∃ rows, WayTab w' (w.heap.size + 2) (w.heap.size + 1) l.length rows (filS bkK l l.length)) ∧ Below w.heap.size w w' := by
 obtain ⟨i1, hi1, hy0, hy1, hy2⟩ := info_parts infoWay
 obtain ⟨vs', hvs, hS⟩ := h
 simp only [Value.agg.injEq, Array.mk.injEq, List.cons.injEq, and_true, true_and] at hvs
 subst hvs
 obtain ⟨a, cap, rfl, hc⟩ := hS.get
 have HC : Hid (∀ j, j < l.length → ∃ b off va, a = some ⟨b, off, none⟩ ∧ b < w.heap.size ∧ w.cell? ⟨b, off + j * 2, none⟩ = some (.int .i64 (el l j).1) ∧ w.cell? ⟨b, off + j * 2 + 1, none⟩ = some va ∧ Arcs w va (el l j).2) := hc
 have h60 := (right_size hr).1
 have HA4 : Hid (∀ j, ∀ a ∈ (el l j).2, ∃ t c : Nat, a.2.2.2 = (t : Int) ∧ a.2.2.1 = (c : Int) ∧ t < l.length) := fun j a ha => by
  obtain ⟨p, c, e1, e2, e3, _⟩ := arc_right (m := (z, l)) hr ha
  exact ⟨p, c, e1, e2, e3⟩
 have HSZ : Hid (∀ j, j < l.length → (el l j).2.length ≤ 400 ∧ ∀ p, (filS bkK l j p).length ≤ 400) := fun j hj => by
  have h1 := arcs_of hj
  have h2 := (right_size hr).2
  refine ⟨by omega, fun p => ?_⟩
  have h3 := filS_len (k := bkK) l j p (by omega)
  have h4 : arcN (l.take j) ≤ arcN l := by
   conv => rhs; rw [← List.take_append_drop j l, arcN_append]
   omega
  omega
 clear hS hc hr
 generalize hn : l.length = n at *
 have HN : Hid (l.length = n) := hn
 clear hn
 have hmk := run_rowsW n (by omega)
 go_enter Tryz.func76, Tryz.ntmps76
 go_wp2
 go_loopw [15] (fun i wr => ∃ (q : Nat) (rows : List Value), q ≤ n ∧ i = .int .i64 q ∧ Hid (WayTab wr (w.heap.size + 2) (w.heap.size + 1) n rows (filS bkK l q)) ∧ Hid (Below w.heap.size w wr) ∧ w.heap.size + 2 ≤ wr.heap.size) (fun i _ => n - (intOf i).toNat)
 case atStart =>
  refine ⟨0, _, Nat.zero_le _, rfl, WayTab.start ?_, ?_, by simp⟩
  ·have h9 := Blk.made (w.alloc (.cells #[.int .i64 z, .slice a n cap] 29)) (List.replicate n (Value.slice none 0 0)).toArray 112
   simp only [World.size_alloc, List.toArray_replicate] at h9 ⊢
   exact h9
  ·exact ((Below.refl _ _).alloc (Nat.le_refl _) _).alloc (by simp) _
 case round =>
  obtain ⟨q, rows, hq, rfl, htab, hb, hsz⟩ := hrel
  by_cases hqn : q < n
  ·obtain ⟨b, off, va, rfl, hbl, g0, g1, gA⟩ := HC.out q hqn
   obtain ⟨a2, cap2, hva, hga⟩ := gA.get
   subst hva
   have g0 := (hb.out.cell (p := ⟨b, off + q * 2, none⟩) hbl).trans g0
   have g1 := (hb.out.cell (p := ⟨b, off + q * 2 + 1, none⟩) hbl).trans g1
   have HGA : Hid (∀ j, j < (el l q).2.length → ∃ b off, a2 = some ⟨b, off, none⟩ ∧ b < w.heap.size ∧ w.cell? ⟨b, off + j * 4, none⟩ = some (.int .i64 (el (el l q).2 j).1) ∧ w.cell? ⟨b, off + j * 4 + 1, none⟩ = some (.int .i64 (el (el l q).2 j).2.1) ∧ w.cell? ⟨b, off + j * 4 + 2, none⟩ = some (.int .i64 (el (el l q).2 j).2.2.1) ∧ w.cell? ⟨b, off + j * 4 + 3, none⟩ = some (.int .i64 (el (el l q).2 j).2.2.2)) := hga
   have HAL : Hid (∀ a ∈ (el l q).2, ∃ t c : Nat, a.2.2.2 = (t : Int) ∧ a.2.2.1 = (c : Int) ∧ t < n) := HA4.out q
   obtain ⟨hL4, hF4⟩ := HSZ.out q hqn
   have HF4 : Hid (∀ p, (filS bkK l q p).length ≤ 400) := hF4
   have HSU := filS_succ (k := bkK) l q
   clear gA hga hF4
   generalize filS bkK l q = F at *
   generalize (el l q).1 = fin at *
   generalize (el l q).2 = ar at *
   generalize hL : ar.length = L at *
   have HL : Hid (ar.length = L) := hL
   have HSU : Hid (filS bkK l (q + 1) = filA bkK q ar F) := HSU
   clear hL
   have hq0 : (0 : Int) ≤ (q : Int) := by omega
   have hq1 : (q : Int) < (n : Int) := by omega
   go_wp2
   go_loopw [23] (fun i wr => ∃ (j : Nat) (rows : List Value), j ≤ L ∧ i = .int .i64 j ∧ Hid (WayTab wr (w.heap.size + 2) (w.heap.size + 1) n rows (filA bkK q (ar.take j) F)) ∧ Hid (Below w.heap.size w wr) ∧ w.heap.size + 2 ≤ wr.heap.size) (fun i _ => L - (intOf i).toNat)
   case atStart => exact ⟨0, rows, Nat.zero_le _, rfl, htab.out.later ((Below.refl _ _).alloc (Nat.le_refl _) _), hb.out.alloc hb.out.size _, by simp; omega⟩
   case round =>
    obtain ⟨j, rows, hj, rfl, htab, hb, hsz⟩ := hrel
    by_cases hjL : j < L
    ·obtain ⟨b3, off3, rfl, hb3l, e0, e1, e2, e3⟩ := HGA.out j hjL
     have e0 := (hb.out.cell (p := ⟨b3, off3 + j * 4, none⟩) hb3l).trans e0
     have e1 := (hb.out.cell (p := ⟨b3, off3 + j * 4 + 1, none⟩) hb3l).trans e1
     have e2 := (hb.out.cell (p := ⟨b3, off3 + j * 4 + 2, none⟩) hb3l).trans e2
     have e3 := (hb.out.cell (p := ⟨b3, off3 + j * 4 + 3, none⟩) hb3l).trans e3
     have HT := filA_take (k := bkK) q (ar := ar) (i := j) (by rw [HL.out]; exact hjL) F
     obtain ⟨t3, c3, ht, hc3, htn3⟩ := HAL.out (el ar j) (el_mem (by rw [HL.out]; exact hjL))
     have HFL : Hid (∀ t, (filA bkK q (ar.take j) F t).length ≤ 800) := fun t => by
      have h1 := filA_len (k := bkK) q (ar.take j) F t
      have h2 := HF4.out t
      rw [List.length_take] at h1
      omega
     generalize el ar j = c at *
     have hk : bkK q c = (t3, ((q : Int), 0, 0, (c3 : Int))) := by unfold bkK wyD; rw [ht, hc3, Int.toNat_natCast, Int.toNat_natCast]
     rw [ht] at e3
     rw [hc3] at e2
     have HT : Hid (filA bkK q (ar.take (j + 1)) F = putW t3 ((q : Int), 0, 0, (c3 : Int)) (filA bkK q (ar.take j) F)) := by rw [hk] at HT; exact HT
     generalize filA bkK q (ar.take j) F = G at *
     have hj0 : (0 : Int) ≤ (j : Int) := by omega
     have hj1 : (j : Int) < (L : Int) := by omega
     have ht0 : (0 : Int) ≤ (t3 : Int) := by omega
     have ht1 : (t3 : Int) < (n : Int) := by omega
     have htn : t3 < n := htn3
     generalize hx0 : c.1 = x0 at *
     generalize hx1 : c.2.1 = x1 at *
     clear hx0 hx1 ht hc3 hk
     have T1 : Hid (WayTab (wr.alloc (.cells #[.int .i64 x0, .int .i64 x1, .int .i64 (c3 : Int), .int .i64 (t3 : Int)] 58)) (w.heap.size + 2) (w.heap.size + 1) n rows G) := htab.out.later ((Below.refl _ _).alloc (Nat.le_refl _) _)
     have A1 : Hid (Blk (wr.alloc (.cells #[.int .i64 x0, .int .i64 x1, .int .i64 (c3 : Int), .int .i64 (t3 : Int)] 58)) wr.heap.size #[.int .i64 x0, .int .i64 x1, .int .i64 (c3 : Int), .int .i64 (t3 : Int)] 58) := Blk.made _ _ _
     have Z1 : Hid (w.heap.size + 2 ≤ (wr.alloc (.cells #[.int .i64 x0, .int .i64 x1, .int .i64 (c3 : Int), .int .i64 (t3 : Int)] 58)).heap.size) := by show _ ≤ _; rw [World.size_alloc]; omega
     have Y1 : Hid (Below w.heap.size w (wr.alloc (.cells #[.int .i64 x0, .int .i64 x1, .int .i64 (c3 : Int), .int .i64 (t3 : Int)] 58))) := hb.out.alloc hb.out.size _
     clear htab hb
     go_wp2
     generalize hW : wr.alloc (.cells #[.int .i64 x0, .int .i64 x1, .int .i64 (c3 : Int), .int .i64 (t3 : Int)] 58) = W1 at *
     clear hW
     obtain ⟨xa, xc, hxv⟩ := own_slW (T1.out.row t3 htn)
     have HXV : Hid (el rows t3 = .slice xa (G t3).length xc) := hxv
     have HS : HeldTw (w.heap.size + 1) wr.heap.size t3 (c3 : Int) (t3 : Int) (.slice xa (G t3).length xc) W1.drew := ⟨A1.out.cell 2 rfl, A1.out.cell 3 rfl, by rw [← hxv]; exact T1.out.cell htn⟩
     have HSA : HeldTw (w.heap.size + 1) wr.heap.size t3 (c3 : Int) (t3 : Int) (.slice xa (G t3).length xc) (W1.drew.alloc (.cells #[.int .i64 (q : Int), .int .i64 (c3 : Int)] 158)) := ⟨(A1.out.drew.alloc _).cell 2 rfl, (A1.out.drew.alloc _).cell 3 rfl, by rw [← hxv]; exact (T1.out.later (w' := W1.drew.alloc (.cells #[.int .i64 (q : Int), .int .i64 (c3 : Int)] 158)) ((Below.refl W1.heap.size W1).drew.alloc (Nat.le_refl _) _)).cell htn⟩
     have T2 : Hid (WayTab (W1.drew.alloc (.cells #[.int .i64 (q : Int), .int .i64 (c3 : Int)] 158)) (w.heap.size + 2) (w.heap.size + 1) n rows G) := T1.out.later (w' := W1.drew.alloc (.cells #[.int .i64 (q : Int), .int .i64 (c3 : Int)] 158)) ((Below.refl W1.heap.size W1).drew.alloc (Nat.le_refl _) _)
     have A2 : Hid (Blk (W1.drew.alloc (.cells #[.int .i64 (q : Int), .int .i64 (c3 : Int)] 158)) wr.heap.size #[.int .i64 x0, .int .i64 x1, .int .i64 (c3 : Int), .int .i64 (t3 : Int)] 58) := A1.out.drew.alloc _
     have Y2 : Hid (Below w.heap.size w (W1.drew.alloc (.cells #[.int .i64 (q : Int), .int .i64 (c3 : Int)] 158))) := Y1.out.drew.alloc (by show _ ≤ W1.heap.size; have := Z1.out; omega) _
     have Z2 : Hid (w.heap.size + 2 ≤ (W1.drew.alloc (.cells #[.int .i64 (q : Int), .int .i64 (c3 : Int)] 158)).heap.size) := by show _ ≤ _; rw [World.size_alloc]; exact Nat.le_succ_of_le Z1.out
     obtain ⟨v4, w4, r4, ho4, hg4, hn4⟩ := run_append_spot (P := Tryz.prog) (w := W1.drew.alloc (.cells #[.int .i64 (q : Int), .int .i64 (c3 : Int)] 158)) encD_len (by decide) encD_one 112 112 (w.heap.size + 2) 158 i1 _ 16 Tryz.underlying112 hi1 hy0 hy1 hy2 rfl _ (G t3).length ((G t3).flatMap encD) (T2.out.row t3 htn) _ [((q : Int), 0, 0, (c3 : Int))] (oneRow (enc := encD) W1.drew ((q : Int), 0, 0, (c3 : Int)) rfl 158) (by have := HFL.out t3; simp; unfold maxLen; omega) (by have := HFL.out t3; simp; omega) Z2.out
     have T4 : Hid (Blk w4 (w.heap.size + 1) rows.toArray 112) := T2.out.blk.grown hg4 (own_ne (T2.out.row t3 htn) T2.out.blk (by decide))
     have A4 : Hid (Blk w4 wr.heap.size #[.int .i64 x0, .int .i64 x1, .int .i64 (c3 : Int), .int .i64 (t3 : Int)] 58) := A2.out.grown hg4 (own_ne (T2.out.row t3 htn) A2.out (by decide))
     have c4 : w4.cell? ⟨w.heap.size + 1, t3, none⟩ = some (.slice xa (G t3).length xc) := by
      rw [← hxv]
      refine T4.out.cell _ ?_
      have h9 := T2.out.len
      rw [List.getElem?_toArray, el_get (by omega), List.getElem?_eq_getElem (by omega)]
     have f4 := T4.out.fz t3
     have HS4 : HeldTw (w.heap.size + 1) wr.heap.size t3 (c3 : Int) (t3 : Int) (.slice xa (G t3).length xc) w4 := ⟨A4.out.cell 2 rfl, A4.out.cell 3 rfl, c4⟩
     have Y4 : Hid (Below w.heap.size w w4) := Y2.out.trans (gBelow hg4 (fun k hk => by have h9 := ((T2.out.row t3 htn).lt k hk).1; omega) Y2.out.size)
     have Z4 : Hid (w.heap.size + 2 ≤ w4.heap.size) := Nat.le_trans Z2.out hg4.size
     have T5 : Hid (WayTab (w4.setCell ⟨w.heap.size + 1, t3, none⟩ v4) (w.heap.size + 2) (w.heap.size + 1) n (rows.set t3 v4) (putW t3 ((q : Int), 0, 0, (c3 : Int)) G)) := T2.out.put htn ho4 hg4 hn4
     have Y5 : Hid (Below w.heap.size w (w4.setCell ⟨w.heap.size + 1, t3, none⟩ v4)) := Y4.out.setCell (by show w.heap.size ≤ w.heap.size + 1; omega) _
     have Z5 : Hid (w.heap.size + 2 ≤ (w4.setCell ⟨w.heap.size + 1, t3, none⟩ v4).heap.size) := by simp [World.setCell]; exact Z4.out
     rw [hxv] at r4
     have HR4 : Hid _ := r4
     obtain ⟨va4, vc4, hv4⟩ := own_slW ho4
     subst hv4
     clear ho4 hg4 hn4 hxv r4
     refine region_anyL (HeldTw (w.heap.size + 1) wr.heap.size t3 (c3 : Int) (t3 : Int) (.slice xa (G t3).length xc)) 15 (by kernel_rfl) ?_
     refine anyL_tk (i := 0) (v := ?v0_1) aZ0 (by kernel_rfl) ?y0_1 HS ?r0_1
     case y0_1 => intro wx hx; obtain ⟨h1, h2, h3⟩ := hx; go_simp; try (with_reducible rfl)
     simp only [Act.put, List.setIfInBounds_toArray, List.set_cons_zero, List.set_cons_succ]
     refine anyL_tk (i := 1) (v := ?v1_2) aZ1 (by kernel_rfl) ?y1_2 HS ?r1_2
     case y1_2 => intro wx hx; obtain ⟨h1, h2, h3⟩ := hx; go_simp; try (with_reducible rfl)
     simp only [Act.put, List.setIfInBounds_toArray, List.set_cons_zero, List.set_cons_succ]
     refine anyL_tk (i := 2) (v := ?v2_3) aZ2 (by kernel_rfl) ?y2_3 HS ?r2_3
     case y2_3 => intro wx hx; obtain ⟨h1, h2, h3⟩ := hx; go_simp; try (with_reducible rfl)
     simp only [Act.put, List.setIfInBounds_toArray, List.set_cons_zero, List.set_cons_succ]
     refine anyL_tk (i := 3) (v := ?v3_4) aZ3 (by kernel_rfl) ?y3_4 HS ?r3_4
     case y3_4 => intro wx hx; obtain ⟨h1, h2, h3⟩ := hx; go_simp; try (with_reducible rfl)
     simp only [Act.put, List.setIfInBounds_toArray, List.set_cons_zero, List.set_cons_succ]
     refine anyL_tk (i := 4) (v := ?v4_5) aZ4 (by kernel_rfl) ?y4_5 HS ?r4_5
     case y4_5 => intro wx hx; obtain ⟨h1, h2, h3⟩ := hx; go_simp; try (with_reducible rfl)
     simp only [Act.put, List.setIfInBounds_toArray, List.set_cons_zero, List.set_cons_succ]
     refine anyL_tk (i := 5) (v := ?v5_6) aZ5 (by kernel_rfl) ?y5_6 HS ?r5_6
     case y5_6 => intro wx hx; obtain ⟨h1, h2, h3⟩ := hx; go_simp; try (with_reducible rfl)
     simp only [Act.put, List.setIfInBounds_toArray, List.set_cons_zero, List.set_cons_succ]
     refine anyL_tk (i := 6) (v := ?v6_7) aZ6 (by kernel_rfl) ?y6_7 HS ?r6_7
     case y6_7 => intro wx hx; obtain ⟨h1, h2, h3⟩ := hx; go_simp; try (with_reducible rfl)
     simp only [Act.put, List.setIfInBounds_toArray, List.set_cons_zero, List.set_cons_succ]
     refine anyL_tk (i := 7) (v := ?v7_8) aZ7 (by kernel_rfl) ?y7_8 HS ?r7_8
     case y7_8 => intro wx hx; obtain ⟨h1, h2, h3⟩ := hx; go_simp; try (with_reducible rfl)
     simp only [Act.put, List.setIfInBounds_toArray, List.set_cons_zero, List.set_cons_succ]
     refine anyL_tk (i := 8) (v := ?v8_9) aZ8 (by kernel_rfl) ?y8_9 HS ?r8_9
     case y8_9 => intro wx hx; obtain ⟨h1, h2, h3⟩ := hx; go_simp; try (with_reducible rfl)
     simp only [Act.put, List.setIfInBounds_toArray, List.set_cons_zero, List.set_cons_succ]
     refine anyL_tk (i := 9) (v := ?v9_10) aZ9 (by kernel_rfl) ?y9_10 HS ?r9_10
     case y9_10 => intro wx hx; obtain ⟨h1, h2, h3⟩ := hx; go_simp; try (with_reducible rfl)
     simp only [Act.put, List.setIfInBounds_toArray, List.set_cons_zero, List.set_cons_succ]
     refine anyL_tk (i := 10) (v := ?v10_11) aZ10 (by kernel_rfl) ?y10_11 HS ?r10_11
     case y10_11 => intro wx hx; obtain ⟨h1, h2, h3⟩ := hx; go_simp; try (with_reducible rfl)
     simp only [Act.put, List.setIfInBounds_toArray, List.set_cons_zero, List.set_cons_succ]
     refine anyL_tk (i := 11) (v := ?v11_12) aZ11 (by kernel_rfl) ?y11_12 HS ?r11_12
     case y11_12 => intro wx hx; obtain ⟨h1, h2, h3⟩ := hx; go_simp; try (with_reducible rfl)
     simp only [Act.put, List.setIfInBounds_toArray, List.set_cons_zero, List.set_cons_succ]
     refine anyL_one (i := 12) aZ12 (by kernel_rfl) rfl (fun K hK => ?_)
     go_simp
     refine hK _ _ (.inr HSA) ?_
     try simp only [Act.put, List.setIfInBounds_toArray, List.set_cons_zero, List.set_cons_succ]
     refine anyL_one (i := 13) aZ13 (by kernel_rfl) rfl (fun K hK => ?_)
     refine wp_append_run (.tmp 34) (.tmp 39) 112 rfl rfl rfl HR4.out ?_
     refine hK _ _ (.inr HS4) ?_
     try simp only [Act.put, List.setIfInBounds_toArray, List.set_cons_zero, List.set_cons_succ]
     refine anyL_tk (i := 14) (v := ?v14_13) aZ14 (by kernel_rfl) ?y14_13 HS4 ?r14_13
     case y14_13 => intro wx hx; obtain ⟨h1, h2, h3⟩ := hx; go_simp; try (with_reducible rfl)
     simp only [Act.put, List.setIfInBounds_toArray, List.set_cons_zero, List.set_cons_succ]
     refine anyL_one (i := 15) aZ15 (by kernel_rfl) rfl (fun K hK => ?_)
     go_simp
     refine hK _ _ (.inl rfl) (anyL_done (by kernel_rfl) (NoPanic.normal ?_))
     try simp only [Act.put, List.setIfInBounds_toArray, List.set_cons_zero, List.set_cons_succ]
     clear HS HSA HS4 c4 f4
     go_wp2
     go_roundw
     case rel => exact ⟨j + 1, _, by omega, by go_num, by rw [HT.out]; exact T5, Y5, Z5.out⟩
     case measure => simp [intOf]; omega
    ·have hnl : ¬ (j : Int) < (L : Int) := by omega
     have HT5 : Hid (WayTab wr (w.heap.size + 2) (w.heap.size + 1) n rows (filS bkK l (q + 1))) := by
      have h9 := htab.out
      rw [show j = ar.length by rw [HL.out]; omega, List.take_length] at h9
      rw [HSU.out]
      exact h9
     go_wp2
     go_roundw
     case rel => exact ⟨q + 1, rows, by omega, by go_num, HT5, hb, hsz⟩
     case measure => simp [intOf]; omega
  ·have hnl : ¬ (q : Int) < (n : Int) := by omega
   have HT5 : Hid (WayTab wr (w.heap.size + 2) (w.heap.size + 1) n rows (filS bkK l n)) := by
    have h9 := htab.out
    rw [show q = n by omega] at h9
    exact h9
   go_wp2
   go_ret
   exact ⟨rfl, ⟨rows, HT5.out⟩, hb.out⟩
end Go.Proofs.YtfhjncpakgailaaGreatDoor.Dw
namespace Go.Proofs.YtfhjncpakgailaaGreatDoor.Wt
open Go.ChangeShapes Go.WideShapes Go.ChangeAt Go.RowKit
open Go.Proofs.YtfhjncpakgailaaGreatDoor.Pl
def LstRes (Q : List Int → Int → Prop) (w : World) (e : Ending) (w' : World) : Prop := ∃ vr vs, ∃ ec : Int, e = .returned (.tuple #[vr, .int .i64 ec]) ∧ Q vs ec ∧ Nums w' vr vs ∧ Below w.heap.size w w'
end Go.Proofs.YtfhjncpakgailaaGreatDoor.Wt
